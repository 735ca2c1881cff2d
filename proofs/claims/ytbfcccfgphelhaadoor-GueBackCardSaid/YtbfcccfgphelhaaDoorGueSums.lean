/-
  GueSums returns true at every input.
-/
import Derived.Test.YtbfcccfgphelhaaDoorGueAwake
import Derived.Test.YtbfcccfgphelhaaDoorGuePlain
import Derived.Test.YtbfcccfgphelhaaDoorGround
import Derived.RegionTactic
import Derived.BigRegion
namespace Go.Proofs.YtbfcccfgphelhaaDoor
open Go.RowKit
set_option linter.unusedVariables false

theorem wrap_bit13 (r : Nat) (h : r < 8) : IntKind.u8.wrap ((2 : Int) ^ r) = ((UInt8.ofNat (2 ^ r)).toNat : Int) := by
  have : r = 0 ∨ r = 1 ∨ r = 2 ∨ r = 3 ∨ r = 4 ∨ r = 5 ∨ r = 6 ∨ r = 7 := by omega
  rcases this with rfl | rfl | rfl | rfl | rfl | rfl | rfl | rfl <;> decide

set_option maxRecDepth 100000 in
set_option maxHeartbeats 2000000 in
theorem gueSums_any (port : Int) (inner : ByteArray) (bit : Int) (w : World) (hg : Vers w ∧ Places w) :
    Calls Tryd.prog 5 #[.int .i64 port, .string inner, .int .i64 bit] w (AwakeEnd w) := by
  have HA := Lib.hid (awake13_any w hg.1 hg.2)
  have S0 := Lib.hid (Gl13.new hg.1 hg.2)
  have PT := Lib.hid (put13_cases ⟨port, true⟩ ⟨#[97, 98, 99, 100]⟩ ⟨#[101, 102, 103, 104]⟩ inner (by decide) (by decide))
  clear hg
  go_enter Tryd.func5, Tryd.ntmps5
  go_wp2_with fail
  refine HA.out.mono ?_
  rintro e w1 ⟨rfl, hb⟩
  have S1 := Lib.hid (S0.out.below hb)
  clear hb S0 HA
  by_cases h1 : inner.size ≤ 3000
  case neg =>
    have t1 : decide ((3000 : Int) < (inner.size : Int)) = true := by simp; omega
    go_wp2_with fail
    go_ret
    exact ⟨rfl, S1.out.bel⟩
  have t1 : decide ((3000 : Int) < (inner.size : Int)) = false := by simp; omega
  have P1 := Lib.hid (fun W hv hp => put13_any ⟨port, true⟩ ⟨#[97, 98, 99, 100]⟩ ⟨#[101, 102, 103, 104]⟩ inner W hv hp (by decide) (by decide) (by omega))
  unfold Tells at P1
  have HIZ := Lib.hid h1
  clear h1
  generalize put13S ⟨port, true⟩ ⟨#[97, 98, 99, 100]⟩ ⟨#[101, 102, 103, 104]⟩ inner = P at *
  generalize put13E (H13.mk port true).port inner = E at *
  unfold H13.cells at P1
  simp only at P1
  go_wp2_with fail
  refine (P1.out _ S1.out.vs S1.out.ps).mono ?_
  rintro e w3 ⟨rfl, hb⟩
  have S3 := Lib.hid (S1.out.below hb)
  clear hb S1 P1 t1
  rcases PT.out with ⟨rfl, hsent⟩ | ⟨hE, rfl⟩
  case inr =>
    have tE : ((E : Int) != 0) = true := by simp; omega
    clear PT hE
    go_wp2_with fail
    go_ret
    exact ⟨rfl, S3.out.bel⟩
  have hPs := hsent.sent.size
  have hPb : P.size ≤ 3012 := by have := HIZ.out; omega
  have hP8 : 12 ≤ P.size := by omega
  have SENT := Lib.hid hsent
  clear PT hsent hPs
  have tL : decide (0 < P.size) = true := by simp; omega
  by_cases b0 : bit < 0
  · have t0 : decide (bit < 0) = true := decide_eq_true b0
    clear b0 hP8
    go_wp2_with fail
    go_ret
    exact ⟨rfl, S3.out.bel⟩
  obtain ⟨n, rfl⟩ := Int.eq_ofNat_of_zero_le (show 0 ≤ bit by omega)
  have t0 : decide ((n : Int) < 0) = false := decide_eq_false (by omega)
  by_cases b1 : 8 * P.size ≤ n
  · have t1 : decide ((8 : Int) * (P.size : Int) ≤ (n : Int)) = true := by simp; omega
    clear b0 hP8
    go_wp2_with fail
    go_ret
    exact ⟨rfl, S3.out.bel⟩
  have t1 : decide ((8 : Int) * (P.size : Int) ≤ (n : Int)) = false := by simp; omega
  have hkP : n / 8 < P.size := by omega
  obtain ⟨cap, w5, hcv, hby, hkb, hz5⟩ := bytes_conv w3 P
  have HBY := Lib.hid hby
  have HKB := Lib.hid hkb
  have hz3 := S3.out.bel.size
  clear hby hkb b0
  go_wp2_with fail
  clear hcv t1 tL t0
  have c0 := HBY.out.cell (n / 8) (by simpa using hkP)
  have f0 := HBY.out.frozen (n / 8) (by simpa using hkP)
  have e1 : IntKind.i64.wrap ((n : Int) / 8) = ((n / 8 : Nat) : Int) := (IntWalk.i64_in _ (by omega)).trans (by omega)
  have e2 : IntKind.i64.wrap ((n : Int) % 8) = ((n % 8 : Nat) : Int) := (IntWalk.i64_in _ (by omega)).trans (by omega)
  have e3 : ((n : Int) % 8) = ((n % 8 : Nat) : Int) := by omega
  have hr8 : n % 8 < 8 := by omega
  have hk8 : n / 8 < P.data.toList.length := by simpa using hkP
  have e7 : ((n : Int).tmod 8) = ((n % 8 : Nat) : Int) := by rw [Int.tmod_eq_emod_of_nonneg (by omega)]; exact e3
  have e8 : IntKind.i64.wrap ((n : Int).tdiv 8) = ((n / 8 : Nat) : Int) := by rw [Int.tdiv_eq_ediv_of_nonneg (by omega)]; exact e1
  generalize n / 8 = q at *
  generalize n % 8 = r at *
  have hsh := wrap_bit13 r hr8
  obtain ⟨bv, hbv⟩ : ∃ bv : UInt8, bv = UInt8.ofNat (2 ^ r) := ⟨_, rfl⟩
  rw [← hbv] at hsh
  have HBV := Lib.hid hbv
  clear hbv
  have hxo := xor_u8 P.data.toList[q] bv
  obtain ⟨cx, hcx⟩ : ∃ cx : UInt8, cx = P.data.toList[q] ^^^ bv := ⟨_, rfl⟩
  rw [← hcx] at hxo
  have HCX := Lib.hid hcx
  clear hcx
  generalize hcy : P.data.toList[q] = cy at *
  have HCY := Lib.hid hcy
  clear hcy
  have e4 : (0 : Int) ≤ q := by omega
  have e5 : (q : Int) < P.size := by omega
  have e6 : (0 : Int) ≤ r := by omega
  go_region
  have HN := Lib.hid (((HBY.out.set q cx _ rfl).drew))
  have HL2 := Lib.hid (show (P.data.toList.set q cx).length = P.size by simp)
  have hcv2 := HN.out.text (cap := cap) HL2.out.symm
  obtain ⟨Y, hY⟩ : ∃ Y : ByteArray, Y = ⟨(P.data.toList.set q cx).toArray⟩ := ⟨_, rfl⟩
  rw [← hY] at hcv2
  have hYl : Y.data.toList = P.data.toList.set q cx := by rw [hY]
  have hYz : Y.size = P.size := by rw [hY, list_size, HL2.out]
  have HFL : Hid (numOf Y 6 2 ≠ 0 → get13E ⟨#[97, 98, 99, 100]⟩ ⟨#[101, 102, 103, 104]⟩ Y ≠ 0) := by
    intro h6
    refine Made13.flip SENT.out rfl q r hkP hr8 ?_ h6
    rw [hYl, HCX.out, HBV.out, ← HCY.out]
  have G1 := Lib.hid (fun W hW => get13_any ⟨#[97, 98, 99, 100]⟩ ⟨#[101, 102, 103, 104]⟩ Y W hW (by decide) (by decide) (by omega))
  have HER := Lib.hid (get13_err (src := ⟨#[97, 98, 99, 100]⟩) (dst := ⟨#[101, 102, 103, 104]⟩) (b := Y))
  unfold Tells at G1
  generalize get13E ⟨#[97, 98, 99, 100]⟩ ⟨#[101, 102, 103, 104]⟩ Y = E2 at *
  generalize get13H ⟨#[97, 98, 99, 100]⟩ ⟨#[101, 102, 103, 104]⟩ Y = H2 at *
  generalize get13S ⟨#[97, 98, 99, 100]⟩ ⟨#[101, 102, 103, 104]⟩ Y = T2 at *
  have HBW : Hid (Gl13 w ((w5.setCell ⟨w3.heap.size, q, none⟩ (.int .u8 (cx.toNat : Int))).drew)) := by
    have h1 := S3.out.below ((HKB.out.mono (T := fun k => w3.heap.size ≤ k) (fun _ _ h => h.elim)).below (Nat.le_refl _))
    have h2 : Below w3.heap.size w5 ((w5.setCell ⟨w3.heap.size, q, none⟩ (.int .u8 (cx.toNat : Int))).drew) := ((Below.refl w3.heap.size w5).setCell (p := ⟨w3.heap.size, q, none⟩) (Nat.le_refl _) _).drew
    exact ⟨h1.bel.trans (h2.mono hz3), h1.vs.below h2 S3.out.vs.lt, h1.ps.below h2 S3.out.ps.lt⟩
  have hY6 : 6 < Y.data.toList.length := by rw [size_list]; omega
  have hY7 : 7 < Y.data.toList.length := by rw [size_list]; omega
  have HN2 : Hid (ByteBlk ((w5.setCell ⟨w3.heap.size, q, none⟩ (.int .u8 (cx.toNat : Int))).drew) w3.heap.size Y.data.toList) := by rw [hYl]; exact HN
  have k6 := HN2.out.cell 6 hY6
  have k7 := HN2.out.cell 7 hY7
  have N6 : Hid (numOf Y 6 2 = Y.data.toList[6].toNat * 256 + Y.data.toList[7].toNat) := num_2 Y 6 (by omega)
  clear hY hYl e1 e2 e3 e4 e5 e6 e7 e8 hsh hxo HN c0 f0 HBY HCX HBV HCY hk8 hkP hr8
  generalize (w5.setCell ⟨w3.heap.size, q, none⟩ (.int .u8 (cx.toNat : Int))).drew = w6 at *
  generalize Y.data.toList[6].toNat = n6 at *
  generalize Y.data.toList[7].toNat = n7 at *
  have z6 : (6 : Int) < (P.size : Int) := by omega
  have z7 : (7 : Int) < (P.size : Int) := by omega
  by_cases h6 : n6 = 0 ∧ n7 = 0
  · have t6 : ((n6 : Int) == 0) = true := by simp; omega
    have t7 : ((n7 : Int) == 0) = true := by simp; omega
    clear h6
    go_wp2_with fail
    go_ret
    exact ⟨rfl, HBW.out.bel⟩
  have HE2 := Lib.hid (HFL.out (by rw [N6.out]; omega))
  have tt : ((n6 : Int) == 0) = false ∨ ((n6 : Int) == 0) = true ∧ ((n7 : Int) == 0) = false := by
    by_cases h : n6 = 0
    · exact Or.inr ⟨by simp; omega, by simp; omega⟩
    · exact Or.inl (by simp; omega)
  have ⟨g1, g2⟩ := HER.out HE2.out
  subst g1 g2
  have tg : ((E2 : Int) != 0) = true := by have := HE2.out; simp; omega
  unfold H13.zero H13.cells at G1
  simp only at G1
  clear h6 HER HFL N6
  rcases tt with t6 | ⟨t6, t7⟩
  all_goals
    go_wp2_with fail
    refine (G1.out _ HBW.out.vs).mono ?_
    rintro e w7 ⟨rfl, hb⟩
    have L7 := Lib.hid ((HBW.out.below hb).alloc (.cells #[.int .i64 0, .bool false] 28))
    clear hb
    go_wp2_with fail
    go_ret
    exact ⟨rfl, L7.out.bel⟩

end Go.Proofs.YtbfcccfgphelhaaDoor
