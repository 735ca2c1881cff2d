/-
  GreSums returns true at every input.
-/
import Derived.Test.YtnlpbnipfglhhaaDoorGreAwake
import Derived.Test.YtnlpbnipfglhhaaDoorGround
import Derived.RegionTactic
import Derived.BigRegion
namespace Go.Proofs.YtnlpbnipfglhhaaDoor
open Go.RowKit
set_option linter.unusedVariables false

theorem wrap_bit12 (r : Nat) (h : r < 8) : IntKind.u8.wrap ((2 : Int) ^ r) = ((UInt8.ofNat (2 ^ r)).toNat : Int) := by
  have : r = 0 ∨ r = 1 ∨ r = 2 ∨ r = 3 ∨ r = 4 ∨ r = 5 ∨ r = 6 ∨ r = 7 := by omega
  rcases this with rfl | rfl | rfl | rfl | rfl | rfl | rfl | rfl <;> decide

set_option maxRecDepth 100000 in
set_option maxHeartbeats 2000000 in
theorem greSums_any (k : Bool) (v : Nat) (inner : ByteArray) (bit : Int) (w : World) (hg : Vers w) (hv : v < 4294967296) :
    Calls Tryd.prog 5 #[.bool k, .int .u32 (v : Nat), .string inner, .int .i64 bit] w (AwakeEnd w) := by
  have HA := Lib.hid (awake12_any w hg)
  have S0 := Lib.hid (Gl12.new hg)
  have HV := Lib.hid hv
  have PT := Lib.hid (put12_cases ⟨true, k, v⟩ inner hv)
  clear hg hv
  go_enter Tryd.func5, Tryd.ntmps5
  go_wp2_with fail
  refine HA.out.mono ?_
  rintro e w1 ⟨rfl, hb⟩
  have S1 := Lib.hid (S0.out.below hb)
  clear hb S0 HA
  by_cases h1 : inner.size ≤ 3000
  case neg =>
    have t1 : decide ((3000 : Int) < (inner.size : Int)) = true := by simp; omega
    go_wp2_with fail
    go_ret
    exact ⟨rfl, S1.out.bel⟩
  have t1 : decide ((3000 : Int) < (inner.size : Int)) = false := by simp; omega
  have P1 := Lib.hid (fun W hW => put12_any ⟨true, k, v⟩ inner W hW HV.out (by omega))
  unfold Tells at P1
  have HIZ := Lib.hid h1
  clear h1
  generalize put12S ⟨true, k, v⟩ inner = P at *
  generalize (v11 inner).en = E at *
  unfold H12.cells at P1
  simp only at P1
  go_wp2_with fail
  refine (P1.out _ S1.out.vs).mono ?_
  rintro e w3 ⟨rfl, hb⟩
  have S3 := Lib.hid (S1.out.below hb)
  clear hb S1 P1 t1
  rcases PT.out with ⟨rfl, hsent⟩ | ⟨hE, rfl⟩
  case inr =>
    have tE : ((E : Int) != 0) = true := by simp; omega
    clear PT hE
    go_wp2_with fail
    go_ret
    exact ⟨rfl, S3.out.bel⟩
  have hPs := hsent.size
  have hz := size12_le true k
  have hPb : P.size ≤ 3012 := by have := HIZ.out; simp only at hPs; omega
  have hP4 : 4 ≤ P.size := by simp only at hPs; omega
  have SENT := Lib.hid hsent
  clear PT hsent hPs hz
  have tL : decide (0 < P.size) = true := by simp; omega
  by_cases b0 : bit < 8
  · have t0 : decide (bit < 8) = true := by simp; omega
    clear b0 hP4
    go_wp2_with fail
    go_ret
    exact ⟨rfl, S3.out.bel⟩
  obtain ⟨n, rfl⟩ := Int.eq_ofNat_of_zero_le (show 0 ≤ bit by omega)
  have t0 : decide ((n : Int) < 8) = false := by simp; omega
  by_cases b1 : 8 * P.size ≤ n
  · have t1 : decide ((8 : Int) * (P.size : Int) ≤ (n : Int)) = true := by simp; omega
    clear b0 hP4
    go_wp2_with fail
    go_ret
    exact ⟨rfl, S3.out.bel⟩
  have t1 : decide ((8 : Int) * (P.size : Int) ≤ (n : Int)) = false := by simp; omega
  have hkP : n / 8 < P.size := by omega
  have KH := Lib.hid (show 1 ≤ n / 8 by omega)
  obtain ⟨cap, w5, hcv, hby, hkb, hz5⟩ := bytes_conv w3 P
  have HBY := Lib.hid hby
  have HKB := Lib.hid hkb
  have hz3 := S3.out.bel.size
  clear hby hkb b0
  go_wp2_with fail
  clear hcv t1 tL t0
  have c0 := HBY.out.cell (n / 8) (by simpa using hkP)
  have f0 := HBY.out.frozen (n / 8) (by simpa using hkP)
  have e1 : IntKind.i64.wrap ((n : Int) / 8) = ((n / 8 : Nat) : Int) := (IntWalk.i64_in _ (by omega)).trans (by omega)
  have e2 : IntKind.i64.wrap ((n : Int) % 8) = ((n % 8 : Nat) : Int) := (IntWalk.i64_in _ (by omega)).trans (by omega)
  have e3 : ((n : Int) % 8) = ((n % 8 : Nat) : Int) := by omega
  have hr8 : n % 8 < 8 := by omega
  have hk8 : n / 8 < P.data.toList.length := by simpa using hkP
  have e7 : ((n : Int).tmod 8) = ((n % 8 : Nat) : Int) := by rw [Int.tmod_eq_emod_of_nonneg (by omega)]; exact e3
  have e8 : IntKind.i64.wrap ((n : Int).tdiv 8) = ((n / 8 : Nat) : Int) := by rw [Int.tdiv_eq_ediv_of_nonneg (by omega)]; exact e1
  generalize n / 8 = q at *
  generalize n % 8 = r at *
  have hsh := wrap_bit12 r hr8
  obtain ⟨bv, hbv⟩ : ∃ bv : UInt8, bv = UInt8.ofNat (2 ^ r) := ⟨_, rfl⟩
  rw [← hbv] at hsh
  have HBV := Lib.hid hbv
  clear hbv
  have hxo := xor_u8 P.data.toList[q] bv
  obtain ⟨cx, hcx⟩ : ∃ cx : UInt8, cx = P.data.toList[q] ^^^ bv := ⟨_, rfl⟩
  rw [← hcx] at hxo
  have HCX := Lib.hid hcx
  clear hcx
  generalize hcy : P.data.toList[q] = cy at *
  have HCY := Lib.hid hcy
  clear hcy
  have e4 : (0 : Int) ≤ q := by omega
  have e5 : (q : Int) < P.size := by omega
  have e6 : (0 : Int) ≤ r := by omega
  go_region
  have HN := Lib.hid (((HBY.out.set q cx _ rfl).drew))
  have HL2 := Lib.hid (show (P.data.toList.set q cx).length = P.size by simp)
  have hcv2 := HN.out.text (cap := cap) HL2.out.symm
  obtain ⟨Y, hY⟩ : ∃ Y : ByteArray, Y = ⟨(P.data.toList.set q cx).toArray⟩ := ⟨_, rfl⟩
  rw [← hY] at hcv2
  have hYl : Y.data.toList = P.data.toList.set q cx := by rw [hY]
  have hYs : Y.size ≤ 6000 := by rw [hY, list_size, HL2.out]; omega
  have hE : get12E Y ≠ 0 := by
    refine Put12.flip (q := Y) SENT.out rfl q r KH.out hkP hr8 ?_
    rw [hYl, HCX.out, HBV.out, ← HCY.out]
  have G1 := Lib.hid (fun W hW => get12_any Y W hW (by omega))
  unfold Tells at G1
  rw [(get12_err hE).1, (get12_err hE).2] at G1
  have tg : ((get12E Y : Int) != 0) = true := by simp; omega
  generalize get12E Y = E2 at *
  clear hE hY hYl e1 e2 e3 e7 e8 hsh
  unfold H12.zero H12.cells at G1
  simp only [show ((0 : Nat) : Int) = 0 from rfl] at G1
  have HBW : Hid (Gl12 w ((w5.setCell ⟨w3.heap.size, q, none⟩ (.int .u8 (cx.toNat : Int))).drew)) := by
    have h1 := S3.out.below ((HKB.out.mono (T := fun k => w3.heap.size ≤ k) (fun _ _ h => h.elim)).below (Nat.le_refl _))
    have h2 : Below w3.heap.size w5 ((w5.setCell ⟨w3.heap.size, q, none⟩ (.int .u8 (cx.toNat : Int))).drew) := ((Below.refl w3.heap.size w5).setCell (p := ⟨w3.heap.size, q, none⟩) (Nat.le_refl _) _).drew
    have hl := S3.out.vs.lt
    exact ⟨h1.bel.trans (h2.mono hz3), h1.vs.below h2 hl⟩
  clear HN c0 f0 HBY
  generalize (w5.setCell ⟨w3.heap.size, q, none⟩ (.int .u8 (cx.toNat : Int))).drew = w6 at *
  go_wp2_with fail
  refine (G1.out _ HBW.out.vs).mono ?_
  rintro e w7 ⟨rfl, hb⟩
  have L7 := Lib.hid ((HBW.out.below hb).alloc (.cells #[.bool false, .bool false, .int .u32 0] 28))
  clear hb G1
  go_wp2_with fail
  go_ret
  exact ⟨rfl, L7.out.bel⟩

end Go.Proofs.YtnlpbnipfglhhaaDoor
