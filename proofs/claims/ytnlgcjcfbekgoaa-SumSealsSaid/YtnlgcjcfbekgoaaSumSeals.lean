/-
  SumSeals, walked.
-/
import Derived.Test.YtnlgcjcfbekgoaaSumUse
import Derived.Test.YtnlgcjcfbekgoaaTexts
import Derived.RegionTactic
import Derived.BigRegion
namespace Go.Proofs.Ytnlgcjcfbekgoaa
open Go.RowKit
set_option linter.unusedVariables false

theorem wrap_bit (r : Nat) (h : r < 8) : IntKind.u8.wrap ((2 : Int) ^ r) = ((UInt8.ofNat (2 ^ r)).toNat : Int) := by
  have : r = 0 ∨ r = 1 ∨ r = 2 ∨ r = 3 ∨ r = 4 ∨ r = 5 ∨ r = 6 ∨ r = 7 := by omega
  rcases this with rfl | rfl | rfl | rfl | rfl | rfl | rfl | rfl <;> decide

set_option maxRecDepth 100000 in
set_option maxHeartbeats 1000000 in
theorem seals_any (s : ByteArray) (bit : Int) (w : World) (hs : s.size ≤ 140737488355328) :
    Calls Try.prog 5 #[.string s, .int .i64 bit] w (AwakeEnd w) := by
  go_enter Try.func5, Try.ntmps5
  go_wp2_with fail
  refine (awake_any _).mono ?_
  rintro e w1 ⟨rfl, hb1⟩
  have HB1 := Lib.hid hb1
  clear hb1
  by_cases a1 : s.size % 2 = 1
  · have t1 : ((s.size : Int) % 2 == 1) = true := by simp; omega
    clear a1
    go_wp2_with fail
    go_ret
    exact ⟨rfl, HB1.out⟩
  have t1 : ((s.size : Int) % 2 == 1) = false := by simp; omega
  by_cases c1 : 5000 < s.size
  · clear a1
    go_wp2_with fail
    go_ret
    exact ⟨rfl, HB1.out⟩
  have ea := Lib.hid (show s.data.toList.length % 2 = 0 by rw [size_list]; omega)
  clear a1 hs
  have hs : s.size ≤ 5000 := by omega
  go_wp2_with fail
  refine (sum_1 s _ (by omega)).mono ?_
  rintro e w2 ⟨rfl, hb2⟩
  have HB2 := Lib.hid (HB1.out.trans (hb2.mono HB1.out.size))
  clear hb2 t1
  have hz := HB2.out.size
  have hsl := sumD_le s.data.toList
  have hcv := conv_two_small w2 (sumD s.data.toList) hsl
  obtain ⟨T, hT⟩ : ∃ T : ByteArray, T = ⟨(two (sumD s.data.toList)).toArray⟩ := ⟨_, rfl⟩
  rw [show (⟨#[UInt8.ofNat (sumD s.data.toList / 256 % 256), UInt8.ofNat (sumD s.data.toList % 256)]⟩ : ByteArray) = T from hT.symm] at hcv
  have hTs : T.size = 2 := by rw [hT, list_size]; rfl
  have hTl : T.data.toList = two (sumD s.data.toList) := by rw [hT]
  have hTz : T.size ≤ 2 := by omega
  have HTL := Lib.hid hTl
  have HTS := Lib.hid hTs
  clear hT hTl hTs
  have hxz : (s ++ T).size = s.size + 2 := by rw [cat_size, HTS.out]
  have r1 := Lib.hid (show sumD (s ++ T).data.toList = 0 by rw [cat_list, HTL.out]; show 65535 - fold _ = 0; rw [sealed_right _ ea.out])
  have r2 := Lib.hid (show sumD (T.data.toList ++ s.data.toList) = 0 by rw [HTL.out]; show 65535 - fold _ = 0; rw [sealed_turned _ ea.out])
  have hxe := tail_text s T
  go_wp2_with fail
  clear hcv
  generalize hX : s ++ T = X at *
  have hXL : X.size ≤ s.size + 2 := by omega
  have hXG : s.size + 2 ≤ X.size := by omega
  have HX := Lib.hid hX
  have HXZ := Lib.hid hxz
  clear hX hxz
  refine (right_1n X _ _ (by simp) true (by omega) (by simp [r1.out])).mono ?_
  rintro e w3 ⟨rfl, hb3⟩
  have HB3 := Lib.hid (HB2.out.trans (Below.trans ((Below.refl _ _).alloc hz _) (hb3.mono (by simp; omega))))
  have hz3 := HB3.out.size
  clear hb3
  go_wp2_with fail
  refine (right_2n T s _ _ (by simp) true (by omega) (by omega) (by simp [r2.out])).mono ?_
  rintro e w4 ⟨rfl, hb4⟩
  have HB4 := Lib.hid (HB3.out.trans (hb4.mono hz3))
  have hz4 := HB4.out.size
  clear hb4 hxe
  have HXF := Lib.hid (show fold (ws true X.data.toList) = 65535 by have := r1.out; unfold sumD at this; have := fold_le (ws true X.data.toList); omega)
  clear r1 r2 HTL HTS
  generalize sumD s.data.toList = n at *
  by_cases b0 : bit < 0
  · go_wp2_with fail
    go_ret
    exact ⟨rfl, HB4.out⟩
  obtain ⟨k, rfl⟩ := Int.eq_ofNat_of_zero_le (show 0 ≤ bit by omega)
  by_cases b1 : 8 * X.size ≤ k
  · go_wp2_with fail
    go_ret
    exact ⟨rfl, HB4.out⟩
  obtain ⟨cap, w5, hcv, hby, hkb, hz5⟩ := bytes_conv w4 X
  have hk8 : k / 8 < X.data.toList.length := by rw [size_list]; omega
  have c0 := hby.cell (k / 8) hk8
  have f0 := hby.frozen (k / 8) hk8
  have HBY := Lib.hid hby
  have HKB := Lib.hid hkb
  have HZ5 := Lib.hid hz5
  clear hby hkb hz5
  go_wp2_with fail
  have e1 : IntKind.i64.wrap ((k : Int) / 8) = ((k / 8 : Nat) : Int) := (IntWalk.i64_in _ (by omega)).trans (by omega)
  have e2 : IntKind.i64.wrap ((k : Int) % 8) = ((k % 8 : Nat) : Int) := (IntWalk.i64_in _ (by omega)).trans (by omega)
  have e3 : ((k : Int) % 8) = ((k % 8 : Nat) : Int) := by omega
  have hr8 : k % 8 < 8 := by omega
  have hqX : k / 8 < X.size := by omega
  have e7 : ((k : Int).tmod 8) = ((k % 8 : Nat) : Int) := by rw [Int.tmod_eq_emod_of_nonneg (by omega)]; exact e3
  generalize k / 8 = q at *
  generalize k % 8 = r at *
  have hsh := wrap_bit r hr8
  obtain ⟨bv, hbv⟩ : ∃ bv : UInt8, bv = UInt8.ofNat (2 ^ r) := ⟨_, rfl⟩
  rw [← hbv] at hsh
  have HBV := Lib.hid hbv
  clear hbv
  have hxo := xor_u8 X.data.toList[q] bv
  obtain ⟨cx, hcx⟩ : ∃ cx : UInt8, cx = X.data.toList[q] ^^^ bv := ⟨_, rfl⟩
  rw [← hcx] at hxo
  have HCX := Lib.hid hcx
  clear hcx
  generalize hcy : X.data.toList[q] = cy at *
  have HCY := Lib.hid hcy
  clear hcy
  have e4 : (0 : Int) ≤ q := by omega
  have e5 : (q : Int) < X.size := by omega
  have e6 : (0 : Int) ≤ r := by omega
  go_region
  have HN := Lib.hid (((HBY.out.set q cx _ rfl).drew))
  have HL2 := Lib.hid (show (X.data.toList.set q cx).length = X.size by simp)
  have hcv2 := HN.out.text (cap := cap) HL2.out.symm
  have hne : sumD (X.data.toList.set q cx) ≠ 0 := by
    have h1 := changed_wrong X.data.toList q r hk8 hr8 HXF.out
    rw [HCX.out, HBV.out, ← HCY.out]
    have h2 := fold_le (ws true (X.data.toList.set q (X.data.toList[q] ^^^ UInt8.ofNat (2 ^ r))))
    unfold sumD
    omega
  have HNE := Lib.hid hne
  clear hne e1 e2 e3 e7 hsh
  obtain ⟨Y, hY⟩ : ∃ Y : ByteArray, Y = ⟨(X.data.toList.set q cx).toArray⟩ := ⟨_, rfl⟩
  rw [← hY] at hcv2
  have hYl : Y.data.toList = X.data.toList.set q cx := by rw [hY]
  have hYs : Y.size ≤ 6000 := by rw [hY, list_size, HL2.out]; omega
  have HYL := Lib.hid hYl
  clear hY hYl
  have HBW : Hid (Below w.heap.size w ((w5.setCell ⟨w4.heap.size, q, none⟩ (.int .u8 (cx.toNat : Int))).drew)) := by
    have h1 := HB4.out.trans ((HKB.out.mono (T := fun k => w.heap.size ≤ k) (fun _ _ h => h.elim)).below hz4)
    exact (h1.setCell (by simpa using hz4) _).drew
  clear HN c0 f0 HBY
  generalize (w5.setCell ⟨w4.heap.size, q, none⟩ (.int .u8 (cx.toNat : Int))).drew = w6 at *
  have hz6 := HBW.out.size
  go_wp2_with fail
  refine (right_1n Y _ _ (by simp) false (by omega) (by rw [HYL.out]; simp [HNE.out])).mono ?_
  rintro e w7 ⟨rfl, hb7⟩
  have HB7 := Lib.hid (HBW.out.trans (hb7.mono hz6))
  clear hb7
  go_wp2_with fail
  go_ret
  exact ⟨rfl, HB7.out⟩

end Go.Proofs.Ytnlgcjcfbekgoaa
