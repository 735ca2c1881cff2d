/-
  A sum that stands within its text, put and asked. Plain: no Go function is walked here.
-/
import Derived.Test.YtnlpbnipfglhhaaDoorSums
import Derived.Test.YtnlpbnipfglhhaaDoorGround
namespace Go.Proofs.YtnlpbnipfglhhaaDoor
set_option linter.unusedVariables false

theorem be_two (n : Nat) (h : n ≤ 65535) : be n 2 = two n := by
  simp [be, two, List.range_succ]
theorem seal_mid (a c : List UInt8) (ha : a.length % 2 = 0) : sumD (a ++ (two (sumD (a ++ c)) ++ c)) = 0 := by
  have h1 : sumD (a ++ c) ≤ 65535 := sumD_le _
  rw [← List.append_assoc]
  unfold sumD at h1 ⊢
  rw [ws_mid a _ c ha (two_length _), ws_two _ (by omega), ws_append, side_even _ _ ha]
  generalize ws true a = x
  generalize ws true c = y
  unfold fold
  split <;> split <;> omega
theorem sum_mid (a c : List UInt8) (v : Nat) (ha : a.length % 2 = 0) (hv : v < 65535) (h0 : ws true a ≠ 0) (hs : sumD (a ++ (two v ++ c)) = 0) : v = sumD (a ++ c) := by
  rw [← List.append_assoc] at hs
  unfold sumD at hs ⊢
  rw [ws_mid a _ c ha (two_length _), ws_two _ (by omega)] at hs
  rw [ws_append, side_even _ _ ha]
  generalize ws true a = x at *
  generalize ws true c = y at *
  unfold fold at *
  rw [if_neg (by omega)] at hs ⊢
  omega
theorem sum_zero_full (l : List UInt8) (h : sumD l = 0) : fold (ws true l) = 65535 := by
  have := fold_le (ws true l)
  unfold sumD at h
  omega
theorem sum_full_zero (l : List UInt8) (h : fold (ws true l) = 65535) : sumD l = 0 := by unfold sumD; omega

end Go.Proofs.YtnlpbnipfglhhaaDoor
