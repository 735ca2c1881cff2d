/-
  A sum that stands within its text, put and asked. Plain: no Go function is walked here.
-/
import Derived.Test.YtoijomdgcgbpbaaSums
import Derived.Test.YtoijomdgcgbpbaaGround
namespace Go.Proofs.Ytoijomdgcgbpbaa
set_option linter.unusedVariables false

theorem be_two (n : Nat) (h : n ≤ 65535) : be n 2 = two n := by
  simp [be, two, List.range_succ]
theorem seal_mid (a c : List UInt8) (ha : a.length % 2 = 0) : sumD (a ++ (two (sumD (a ++ c)) ++ c)) = 0 := by
  have h1 : sumD (a ++ c) ≤ 65535 := sumD_le _
  rw [← List.append_assoc]
  unfold sumD at h1 ⊢
  rw [ws_mid a _ c ha (two_length _), ws_two _ (by omega), ws_append, side_even _ _ ha]
  generalize ws true a = x
  generalize ws true c = y
  unfold fold
  split <;> split <;> omega
theorem sum_mid (a c : List UInt8) (v : Nat) (ha : a.length % 2 = 0) (hv : v < 65535) (h0 : ws true a ≠ 0) (hs : sumD (a ++ (two v ++ c)) = 0) : v = sumD (a ++ c) := by
  rw [← List.append_assoc] at hs
  unfold sumD at hs ⊢
  rw [ws_mid a _ c ha (two_length _), ws_two _ (by omega)] at hs
  rw [ws_append, side_even _ _ ha]
  generalize ws true a = x at *
  generalize ws true c = y at *
  unfold fold at *
  rw [if_neg (by omega)] at hs ⊢
  omega
theorem sum_zero_full (l : List UInt8) (h : sumD l = 0) : fold (ws true l) = 65535 := by
  have := fold_le (ws true l)
  unfold sumD at h
  omega
theorem sum_full_zero (l : List UInt8) (h : fold (ws true l) = 65535) : sumD l = 0 := by unfold sumD; omega
theorem be_two' (n : Nat) : be n 2 = two n := by
  rw [be_succ, be_succ]
  rw [show n / 256 ^ 1 % 256 = n / 256 % 256 by omega, show n / 256 ^ 0 % 256 = n % 256 by omega]
  rfl
/-- A text with its sum in a gap of two bytes at an even place is right. -/
theorem gap_right (a c : List UInt8) (n : Nat) (ha : a.length % 2 = 0) (hn : n = sumD (a ++ [0, 0] ++ c) ∨ (sumD (a ++ [0, 0] ++ c) = 0 ∧ n = 65535)) : sumD (a ++ be n 2 ++ c) = 0 := by
  have hn2 : n ≤ 65535 := by
    have := sumD_le (a ++ [0, 0] ++ c)
    rcases hn with h | h <;> omega
  rw [be_two']
  have e1 : ws true (a ++ two n ++ c) = ws true a + n + ws true c := by rw [ws_mid a (two n) c ha rfl, ws_two n hn2]
  have e2 : ws true (a ++ [0, 0] ++ c) = ws true a + ws true c := by
    rw [ws_mid a [0, 0] c ha rfl]
    simp [ws]
  unfold sumD at hn ⊢
  rw [e1]
  rw [e2] at hn
  have f1 := fold_full (ws true a + n + ws true c)
  have l1 := fold_le (ws true a + ws true c)
  have l2 := fold_le (ws true a + n + ws true c)
  have z1 := fold_zero (ws true a + ws true c)
  have hmod : fold (ws true a + ws true c) % 65535 = (ws true a + ws true c) % 65535 := by
    unfold fold; split <;> omega
  generalize fold (ws true a + ws true c) = f at *
  have : fold (ws true a + n + ws true c) = 65535 := f1.2 (by omega)
  omega
theorem sum_nought (l : List UInt8) : sumD l = 0 ↔ fold (ws true l) = 65535 := by
  have := fold_le (ws true l)
  unfold sumD
  omega

end Go.Proofs.Ytoijomdgcgbpbaa
