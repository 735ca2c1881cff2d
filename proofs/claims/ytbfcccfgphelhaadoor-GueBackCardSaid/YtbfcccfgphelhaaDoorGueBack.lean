/-
  GueBack returns true at every input.
-/
import Derived.Test.YtbfcccfgphelhaaDoorGueSums
namespace Go.Proofs.YtbfcccfgphelhaaDoor
open Go.RowKit
set_option linter.unusedVariables false

set_option maxRecDepth 100000 in
set_option maxHeartbeats 4000000 in
theorem gueBack_any (port : Int) (sum : Bool) (src dst inner : ByteArray) (bit : Int) (w : World) (hg : Vers w ∧ Places w) :
    Calls Tryd.prog 4 #[.int .i64 port, .bool sum, .string src, .string dst, .string inner, .int .i64 bit] w (AwakeEnd w) := by
  have HA := Lib.hid (awake13_any w hg.1 hg.2)
  have S0 := Lib.hid (Gl13.new hg.1 hg.2)
  clear hg
  go_enter Tryd.func4, Tryd.ntmps4
  go_wp2_with fail
  refine HA.out.mono ?_
  rintro e w1 ⟨rfl, hb⟩
  have S1 := Lib.hid (S0.out.below hb)
  clear hb S0 HA
  go_wp2_with fail
  refine (few13_any src dst inner ⟨#[]⟩ w1).mono ?_
  rintro e w1' ⟨rfl, rfl⟩
  cases hf : few13 src dst inner ⟨#[]⟩ with
  | false =>
    go_wp2_with fail
    go_ret
    exact ⟨rfl, S1.out.bel⟩
  | true =>
  obtain ⟨f1, f2, f3, _⟩ := (few13_iff _ _ _ _).1 hf
  by_cases hs4 : src.size = 4
  case neg =>
    have ts : ((src.size : Int) != 4) = true := by simp; omega
    clear f1 f2 f3 hs4
    go_wp2_with fail
    go_ret
    exact ⟨rfl, S1.out.bel⟩
  have ts : ((src.size : Int) != 4) = false := by simp; omega
  by_cases hd4 : dst.size = 4
  case neg =>
    have td : ((dst.size : Int) != 4) = true := by simp; omega
    clear f1 f2 f3 hs4 hd4
    go_wp2_with fail
    go_ret
    exact ⟨rfl, S1.out.bel⟩
  have td : ((dst.size : Int) != 4) = false := by simp; omega
  have PT := Lib.hid (put13_cases ⟨port, sum⟩ src dst inner (by omega) (by omega))
  have P1 := Lib.hid (fun W hv hp => put13_any ⟨port, sum⟩ src dst inner W hv hp (by omega) (by omega) (by omega))
  unfold Tells at P1
  have HS4 := Lib.hid hs4
  have HD4 := Lib.hid hd4
  have HI := Lib.hid f3
  clear f1 f2 f3 hf hs4 hd4
  generalize put13S ⟨port, sum⟩ src dst inner = P at *
  generalize put13E (H13.mk port sum).port inner = E at *
  unfold H13.cells at P1
  simp only at P1
  go_wp2_with fail
  refine (P1.out _ S1.out.vs S1.out.ps).mono ?_
  rintro e w3 ⟨rfl, hb⟩
  have S3 := Lib.hid (S1.out.below hb)
  clear hb S1 P1 ts td
  rcases PT.out with ⟨rfl, hsent⟩ | ⟨hE, rfl⟩
  case inr =>
    have tE : ((E : Int) != 0) = true := by simp; omega
    clear PT hE
    go_wp2_with fail
    go_ret
    exact ⟨rfl, S3.out.bel⟩
  have hPs := hsent.sent.size
  have SENT := Lib.hid hsent
  have G1 := Lib.hid (fun W hW => get13_any src dst P W hW (by have := HS4.out; omega) (by have := HD4.out; omega) (by have := HI.out; omega))
  have ⟨g1, g2, g3⟩ := hsent.got
  rw [g1, g2, g3] at G1
  unfold Tells at G1
  unfold H13.cells at G1
  simp only at G1
  have HPB := Lib.hid (show P.size ≤ 70012 by have := HI.out; omega)
  have eL : IntKind.i64.wrap (12 + (inner.size : Int)) = (P.size : Int) := by have := HI.out; rw [IntWalk.i64_in _ (by omega)]; omega
  clear PT hsent hPs g1 g2 g3
  go_wp2_with fail
  refine (G1.out _ S3.out.vs).mono ?_
  rintro e w4 ⟨rfl, hb⟩
  have S4 := Lib.hid ((S3.out.below hb).alloc (.cells #[.int .i64 port, .bool sum] 28))
  have N4 := Lib.hid (Blk.new w4 #[.int .i64 port, .bool sum] 28)
  clear hb S3 G1
  have c0 := N4.out.cell 0
  have c1 := N4.out.cell 1
  simp only [List.getElem?_toArray, List.getElem?_cons_zero, List.getElem?_cons_succ] at c0 c1
  by_cases b0 : bit < 0
  · have t0 : decide (bit < 0) = true := decide_eq_true b0
    clear b0
    go_wp2_with fail
    go_ret
    exact ⟨rfl, S4.out.bel⟩
  obtain ⟨n, rfl⟩ := Int.eq_ofNat_of_zero_le (show 0 ≤ bit by omega)
  have t0 : decide ((n : Int) < 0) = false := decide_eq_false (by omega)
  by_cases b1 : 32 ≤ n
  · have t1 : decide ((32 : Int) ≤ (n : Int)) = true := by simp; omega
    clear b0 b1
    go_wp2_with fail
    go_ret
    exact ⟨rfl, S4.out.bel⟩
  have t1 : decide ((32 : Int) ≤ (n : Int)) = false := by simp; omega
  have hkP : n / 8 < dst.size := by have := HD4.out; omega
  have LW := Lib.hid (show w4.heap.size + 1 = (w4.alloc (.cells #[.int .i64 port, .bool sum] 28)).heap.size by simp)
  have hcvx := bytes_conv (w4.alloc (.cells #[.int .i64 port, .bool sum] 28)) dst
  rw [← LW.out] at hcvx
  obtain ⟨cap, w5, hcv, hby, hkb, hz5⟩ := hcvx
  have HBY := Lib.hid hby
  have HKB := Lib.hid hkb
  clear hby hkb b0
  go_wp2_with fail
  clear hcv t1 t0 eL c0 c1
  have HBW0 := Lib.hid (S4.out.below ((HKB.out.mono (T := fun k => (w4.alloc (.cells #[.int .i64 port, .bool sum] 28)).heap.size ≤ k) (fun _ _ h => h.elim)).below (Nat.le_refl _)))
  have hsz := S4.out.bel.size
  rw [← LW.out] at hsz
  have HSZ := Lib.hid hsz
  have VL := S4.out.vs.lt
  have PL := S4.out.ps.lt
  rw [← LW.out] at VL PL
  have HVL := Lib.hid VL
  have HPL := Lib.hid PL
  clear hsz LW N4 S4 HKB VL PL
  generalize w4.heap.size + 1 = M at *
  have c0 := HBY.out.cell (n / 8) (by simpa using hkP)
  have f0 := HBY.out.frozen (n / 8) (by simpa using hkP)
  have e1 : IntKind.i64.wrap ((n : Int) / 8) = ((n / 8 : Nat) : Int) := (IntWalk.i64_in _ (by omega)).trans (by omega)
  have e2 : IntKind.i64.wrap ((n : Int) % 8) = ((n % 8 : Nat) : Int) := (IntWalk.i64_in _ (by omega)).trans (by omega)
  have e3 : ((n : Int) % 8) = ((n % 8 : Nat) : Int) := by omega
  have hr8 : n % 8 < 8 := by omega
  have hk8 : n / 8 < dst.data.toList.length := by simpa using hkP
  have e7 : ((n : Int).tmod 8) = ((n % 8 : Nat) : Int) := by rw [Int.tmod_eq_emod_of_nonneg (by omega)]; exact e3
  have e8 : IntKind.i64.wrap ((n : Int).tdiv 8) = ((n / 8 : Nat) : Int) := by rw [Int.tdiv_eq_ediv_of_nonneg (by omega)]; exact e1
  generalize n / 8 = q at *
  generalize n % 8 = r at *
  have hsh := wrap_bit13 r hr8
  obtain ⟨bv, hbv⟩ : ∃ bv : UInt8, bv = UInt8.ofNat (2 ^ r) := ⟨_, rfl⟩
  rw [← hbv] at hsh
  have HBV := Lib.hid hbv
  clear hbv
  have hxo := xor_u8 dst.data.toList[q] bv
  obtain ⟨cx, hcx⟩ : ∃ cx : UInt8, cx = dst.data.toList[q] ^^^ bv := ⟨_, rfl⟩
  rw [← hcx] at hxo
  have HCX := Lib.hid hcx
  clear hcx
  generalize hcy : dst.data.toList[q] = cy at *
  have HCY := Lib.hid hcy
  clear hcy
  have e4 : (0 : Int) ≤ q := by omega
  have e5 : (q : Int) < dst.size := by omega
  have e6 : (0 : Int) ≤ r := by omega
  go_region
  have HN := Lib.hid (((HBY.out.set q cx _ rfl).drew))
  have HL2 := Lib.hid (show (dst.data.toList.set q cx).length = dst.size by simp)
  have hcv2 := HN.out.text (cap := cap) HL2.out.symm
  obtain ⟨Y, hY⟩ : ∃ Y : ByteArray, Y = ⟨(dst.data.toList.set q cx).toArray⟩ := ⟨_, rfl⟩
  rw [← hY] at hcv2
  have hYl : Y.data.toList = dst.data.toList.set q cx := by rw [hY]
  have hYz : Y.size ≤ 300 := by rw [hY, list_size, HL2.out]; have := HD4.out; omega
  have HFL : Hid (get13E src Y P = if sum then 5 else 0) := by
    refine Made13.other SENT.out HS4.out HD4.out q r hkP hr8 ?_
    rw [hYl, HCX.out, HBV.out, ← HCY.out]
  have G2 := Lib.hid (fun W hW => get13_any src Y P W hW (by have := HS4.out; omega) (by omega) (by have := HPB.out; omega))
  unfold Tells at G2
  rw [HFL.out] at G2
  generalize get13H src Y P = H2 at *
  generalize get13S src Y P = T2 at *
  unfold H13.cells at G2
  have HBW : Hid (Gl13 w ((w5.setCell ⟨M, q, none⟩ (.int .u8 (cx.toNat : Int))).drew)) := by
    have h2 : Below M w5 ((w5.setCell ⟨M, q, none⟩ (.int .u8 (cx.toNat : Int))).drew) := ((Below.refl M w5).setCell (p := ⟨M, q, none⟩) (Nat.le_refl _) _).drew
    exact ⟨HBW0.out.bel.trans (h2.mono HSZ.out), HBW0.out.vs.below h2 HVL.out, HBW0.out.ps.below h2 HPL.out⟩
  clear hY hYl e1 e2 e3 e4 e5 e6 e7 e8 hsh hxo HN c0 f0 HBY HCX HBV HCY hk8 hkP hr8 HBW0 HSZ
  generalize (w5.setCell ⟨M, q, none⟩ (.int .u8 (cx.toNat : Int))).drew = w6 at *
  cases sum
  all_goals
    simp only [if_true, if_false, Bool.false_eq_true, show ((5 : Nat) : Int) = 5 from rfl, show ((0 : Nat) : Int) = 0 from rfl] at G2
    go_wp2_with fail
    refine (G2.out _ HBW.out.vs).mono ?_
    rintro e w7 ⟨rfl, hb⟩
    have L7 := Lib.hid ((HBW.out.below hb).alloc (.cells #[.int .i64 H2.port, .bool H2.sum] 28))
    clear hb
    go_wp2_with fail
    go_ret
    exact ⟨rfl, L7.out.bel⟩

end Go.Proofs.YtbfcccfgphelhaaDoor
