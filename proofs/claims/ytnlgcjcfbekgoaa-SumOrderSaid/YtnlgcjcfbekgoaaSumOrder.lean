/-
  SumOrder, walked.
-/
import Derived.Test.YtnlgcjcfbekgoaaSumUse
import Derived.Test.YtnlgcjcfbekgoaaTexts
namespace Go.Proofs.Ytnlgcjcfbekgoaa
open Go.RowKit
set_option linter.unusedVariables false

/-- What the law's calls answer. -/
structure SumLens (a b c T : ByteArray) : Prop where
  abc : ∃ n : Nat, (∀ w N, N = w.heap.size → Calls Try.prog 9 #[.slice (some ⟨N, 0, none⟩) 3 3] (w.alloc (.cells #[.string a, .string b, .string c] 9)) (SumEnd n w)) ∧
    (∀ w N, N = w.heap.size → Calls Try.prog 9 #[.slice (some ⟨N, 0, none⟩) 3 3] (w.alloc (.cells #[.string b, .string a, .string c] 9)) (SumEnd n w)) ∧
    (∀ w N, N = w.heap.size → Calls Try.prog 9 #[.slice (some ⟨N, 0, none⟩) 1 1] (w.alloc (.cells #[.string (a ++ b ++ c)] 9)) (SumEnd n w))
  twice : ∀ w N, N = w.heap.size → Calls Try.prog 11 #[.slice (some ⟨N, 0, none⟩) 2 2] (w.alloc (.cells #[.string (a ++ T), .string (a ++ T)] 9)) (RightEnd true w)
  more : ∃ m : Nat, (∀ w N, N = w.heap.size → Calls Try.prog 9 #[.slice (some ⟨N, 0, none⟩) 1 1] (w.alloc (.cells #[.string c] 9)) (SumEnd m w)) ∧
    (∀ w N, N = w.heap.size → Calls Try.prog 11 #[.slice (some ⟨N, 0, none⟩) 1 1] (w.alloc (.cells #[.string (a ++ T ++ c)] 9)) (RightEnd (decide (m = 0 ∨ m = 65535)) w))
theorem sum_lens (a b c T : ByteArray) (ea : a.size % 2 = 0) (eb : b.size % 2 = 0) (hT : T.data.toList = two (sumD a.data.toList)) (ha : a.size ≤ 6000) (hb : b.size ≤ 6000) (hc : c.size ≤ 6000) (hTs : T.size = 2) : SumLens a b c T := by
  have ea' : a.data.toList.length % 2 = 0 := by rw [size_list]; exact ea
  have eb' : b.data.toList.length % 2 = 0 := by rw [size_list]; exact eb
  refine ⟨⟨sumD (b.data.toList ++ a.data.toList ++ c.data.toList), fun w N hN => ?_, fun w N hN => ?_, fun w N hN => ?_⟩, fun w N hN => ?_, ⟨sumD c.data.toList, fun w N hN => ?_, fun w N hN => ?_⟩⟩ <;> subst hN
  · rw [← order_sum _ _ _ ea' eb']
    exact sum_3 a b c w (by omega) (by omega) (by omega)
  · exact sum_3 b a c w (by omega) (by omega) (by omega)
  · have := sum_1 (a ++ b ++ c) w (by simp only [cat_size]; omega)
    rw [cat_list, cat_list, order_sum _ _ _ ea' eb'] at this
    exact this
  · refine right_2 _ _ w true (by rw [cat_size]; omega) (by rw [cat_size]; omega) ?_
    rw [cat_list, hT, decide_eq_true_eq]
    exact sealed_twice _ ea'
  · exact sum_1 c w (by omega)
  · refine right_1 _ w _ (by simp only [cat_size]; omega) ?_
    rw [cat_list, cat_list, hT]
    exact decide_eq_decide.2 (sealed_more _ _ ea')

set_option maxRecDepth 100000 in
set_option maxHeartbeats 1000000 in
theorem order_any (a b c : ByteArray) (w : World) (ha : a.size ≤ 140737488355328) (hb : b.size ≤ 140737488355328) (hc : c.size ≤ 140737488355328) :
    Calls Try.prog 6 #[.string a, .string b, .string c] w (AwakeEnd w) := by
  go_enter Try.func6, Try.ntmps6
  go_wp2_with fail
  refine (awake_any _).mono ?_
  rintro e w1 ⟨rfl, hb1⟩
  have HB1 := Lib.hid hb1
  clear hb1
  by_cases a1 : a.size % 2 = 1
  · have t1 : ((a.size : Int) % 2 == 1) = true := by simp; omega
    clear a1
    go_wp2_with fail
    go_ret
    exact ⟨rfl, HB1.out⟩
  by_cases b1 : b.size % 2 = 1
  · have t1 : ((a.size : Int) % 2 == 1) = false := by simp; omega
    have t2 : ((b.size : Int) % 2 == 1) = true := by simp; omega
    clear a1 b1
    go_wp2_with fail
    go_ret
    exact ⟨rfl, HB1.out⟩
  have t1 : ((a.size : Int) % 2 == 1) = false := by simp; omega
  have t2 : ((b.size : Int) % 2 == 1) = false := by simp; omega
  by_cases c1 : 6000 < a.size + b.size + c.size
  · clear a1 b1
    go_wp2_with fail
    go_ret
    exact ⟨rfl, HB1.out⟩
  have ea := Lib.hid (show a.size % 2 = 0 by omega)
  have eb := Lib.hid (show b.size % 2 = 0 by omega)
  clear a1 b1 ha hb hc
  have ha : a.size ≤ 6000 := by omega
  have hb : b.size ≤ 6000 := by omega
  have hc : c.size ≤ 6000 := by omega
  go_wp2_with fail
  refine (sum_1 a _ (by omega)).mono ?_
  rintro e w2 ⟨rfl, hb2⟩
  have HB2 := Lib.hid (HB1.out.trans (hb2.mono HB1.out.size))
  clear hb2 t1 t2
  have hz := HB2.out.size
  have hsl := sumD_le a.data.toList
  have hcv := conv_two_small w2 (sumD a.data.toList) hsl
  obtain ⟨T, hT⟩ : ∃ T : ByteArray, T = ⟨(two (sumD a.data.toList)).toArray⟩ := ⟨_, rfl⟩
  rw [show (⟨#[UInt8.ofNat (sumD a.data.toList / 256 % 256), UInt8.ofNat (sumD a.data.toList % 256)]⟩ : ByteArray) = T from hT.symm] at hcv
  have hTs : T.size = 2 := by rw [hT, list_size]; rfl
  have hTl : T.data.toList = two (sumD a.data.toList) := by rw [hT]
  have hTz : T.size ≤ 2 := by omega
  have HTL := Lib.hid hTl
  have HTS := Lib.hid hTs
  clear hT hTl hTs
  have HSUM := Lib.hid (show SumLens a b c T from sum_lens a b c T ea.out eb.out HTL.out ha hb hc HTS.out)
  clear HTL HTS
  generalize sumD a.data.toList = n at *
  obtain ⟨n1, g1, g2, g3⟩ := HSUM.out.abc
  obtain ⟨m, g5, g6⟩ := HSUM.out.more
  have G1 := Lib.hid g1
  have G2 := Lib.hid g2
  have G3 := Lib.hid g3
  have G4 := Lib.hid HSUM.out.twice
  have G5 := Lib.hid g5
  have G6 := Lib.hid g6
  clear g1 g2 g3 g5 g6 HSUM
  go_wp2_with fail
  clear hcv
  refine (G1.out _ _ (by simp)).mono ?_
  rintro e w3 ⟨rfl, hb3⟩
  have HB3 := Lib.hid (HB2.out.trans (Below.trans ((Below.refl _ _).alloc hz _) (hb3.mono (by simp; omega))))
  have hz3 := HB3.out.size
  clear hb3
  go_wp2_with fail
  refine (G2.out _ _ (by simp)).mono ?_
  rintro e w4 ⟨rfl, hb4⟩
  have HB4 := Lib.hid (HB3.out.trans (hb4.mono hz3))
  have hz4 := HB4.out.size
  clear hb4
  go_wp2_with fail
  refine (G2.out _ _ (by simp)).mono ?_
  rintro e w5 ⟨rfl, hb5⟩
  have HB5 := Lib.hid (HB4.out.trans (hb5.mono hz4))
  have hz5 := HB5.out.size
  clear hb5
  go_wp2_with fail
  refine (G3.out _ _ (by simp)).mono ?_
  rintro e w6 ⟨rfl, hb6⟩
  have HB6 := Lib.hid (HB5.out.trans (hb6.mono hz5))
  have hz6 := HB6.out.size
  clear hb6
  go_wp2_with fail
  refine (G4.out _ _ (by simp)).mono ?_
  rintro e w7 ⟨rfl, hb7⟩
  have HB7 := Lib.hid (HB6.out.trans (hb7.mono hz6))
  have hz7 := HB7.out.size
  clear hb7
  go_wp2_with fail
  refine (G6.out _ _ (by simp)).mono ?_
  rintro e w8 ⟨rfl, hb8⟩
  have HB8 := Lib.hid (HB7.out.trans (hb8.mono hz7))
  have hz8 := HB8.out.size
  clear hb8
  go_wp2_with fail
  refine (G5.out _ _ (by simp)).mono ?_
  rintro e w9 ⟨rfl, hb9⟩
  have HB9 := Lib.hid (HB8.out.trans (hb9.mono hz8))
  have hz9 := HB9.out.size
  clear hb9
  by_cases m0 : m = 0
  · have q1 : decide (m = 0 ∨ m = 65535) = true := by simp [m0]
    have q2 : ((m : Int) == 0) = true := by simp [m0]
    clear m0
    go_wp2_with fail
    go_ret
    exact ⟨by rw [show (decide (m = 0) || decide (m = 65535)) = true from by simpa using q1]; rfl, HB9.out⟩
  by_cases m1 : m = 65535
  · have q1 : decide (m = 0 ∨ m = 65535) = true := by simp [m1]
    have q2 : ((m : Int) == 0) = false := by simp [m0]
    have q3 : ((m : Int) == 65535) = true := by simp [m1]
    clear m0 m1
    go_wp2_with fail
    refine (G5.out _ _ (by simp)).mono ?_
    rintro e w10 ⟨rfl, hb10⟩
    have HB10 := Lib.hid (HB9.out.trans (hb10.mono hz9))
    clear hb10
    go_wp2_with fail
    go_ret
    exact ⟨by rw [show (decide (m = 0) || decide (m = 65535)) = true from by simpa using q1]; rfl, HB10.out⟩
  · have q1 : decide (m = 0 ∨ m = 65535) = false := by simp [m0, m1]
    have q2 : ((m : Int) == 0) = false := by simp [m0]
    have q3 : ((m : Int) == 65535) = false := by simp; omega
    clear m0 m1
    go_wp2_with fail
    refine (G5.out _ _ (by simp)).mono ?_
    rintro e w10 ⟨rfl, hb10⟩
    have HB10 := Lib.hid (HB9.out.trans (hb10.mono hz9))
    clear hb10
    go_wp2_with fail
    go_ret
    exact ⟨by rw [show (!decide (m = 0) && !decide (m = 65535)) = true from by simpa using q1]; rfl, HB10.out⟩

end Go.Proofs.Ytnlgcjcfbekgoaa
