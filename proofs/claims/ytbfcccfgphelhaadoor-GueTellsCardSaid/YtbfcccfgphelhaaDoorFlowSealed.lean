/-
  What is sealed, plain.
-/
import Derived.Test.YtbfcccfgphelhaaDoorFlowSeal
namespace Go.Proofs.YtbfcccfgphelhaaDoor
open Go.RowKit
set_option linter.unusedVariables false

theorem with9_front (s : ByteArray) (k n : Nat) (h : k + 2 ≤ s.size) : (with9 s k n).data.toList.take k = s.data.toList.take k := by
  show (s.data.toList.take k ++ be n 2 ++ s.data.toList.drop (k + 2)).take k = _
  rw [List.append_assoc]
  exact List.take_left' (by rw [List.length_take, size_list]; omega)
theorem with9_back (s : ByteArray) (k n : Nat) (h : k + 2 ≤ s.size) : (with9 s k n).data.toList.drop (k + 2) = s.data.toList.drop (k + 2) := by
  show (s.data.toList.take k ++ be n 2 ++ s.data.toList.drop (k + 2)).drop (k + 2) = _
  exact List.drop_left' (by rw [List.length_append, List.length_take, be_length, size_list]; omega)
theorem with9_size (s : ByteArray) (k n : Nat) (h : k + 2 ≤ s.size) : (with9 s k n).size = s.size := by
  rw [← size_list]
  show (s.data.toList.take k ++ be n 2 ++ s.data.toList.drop (k + 2)).length = _
  rw [List.length_append, List.length_append, List.length_take, List.length_drop, be_length, size_list]
  omega
theorem with9_with (s : ByteArray) (k n m : Nat) (h : k + 2 ≤ s.size) : with9 (with9 s k n) k m = with9 s k m := by
  have f := with9_front s k n h
  have b := with9_back s k n h
  generalize with9 s k n = S at *
  unfold with9
  rw [f, b]
theorem gap9_with (proto : Int) (src dst s : ByteArray) (k n : Nat) (h : k + 2 ≤ s.size) : gap9 proto src dst (with9 s k n) k = gap9 proto src dst s k := by
  unfold gap9
  rw [with9_front s k n h, with9_back s k n h, with9_size s k n h]
theorem num9_with (proto : Int) (src dst s : ByteArray) (k n : Nat) (h : k + 2 ≤ s.size) : num9 proto src dst (with9 s k n) k = num9 proto src dst s k := by
  unfold num9
  rw [gap9_with proto src dst s k n h]
theorem gap9_turned (proto : Int) (src dst s : ByteArray) (k : Nat) (hl : dst.size = src.size) (he : src.size % 2 = 0) : sumD (gap9 proto dst src s k) = sumD (gap9 proto src dst s k) := by
  unfold gap9 pseudoD
  rw [size_list, size_list, hl]
  split
  · simp only [List.append_assoc]
    rw [← List.append_assoc, ← List.append_assoc src.data.toList]
    exact order_sum _ _ _ (by rw [size_list, hl]; exact he) (by rw [size_list]; exact he)
  · simp only [List.append_assoc]
    rw [← List.append_assoc, ← List.append_assoc src.data.toList]
    exact order_sum _ _ _ (by rw [size_list, hl]; exact he) (by rw [size_list]; exact he)
theorem num9_turned (proto : Int) (src dst s : ByteArray) (k : Nat) (hl : dst.size = src.size) (he : src.size % 2 = 0) : num9 proto dst src s k = num9 proto src dst s k := by
  unfold num9
  rw [gap9_turned proto src dst s k hl he]

/-- Of a payload that was sealed. -/
structure Sealed (proto : Int) (k : Nat) (src dst s S : ByteArray) : Prop where
  size : S.size = s.size
  front : S.extract 0 k = s.extract 0 k
  back : S.extract (k + 2) S.size = s.extract (k + 2) s.size
  again : seal9 proto src dst S = S
  turned : seal9 proto dst src S = S
  num : numOf S k 2 = num9 proto src dst s k
theorem pl9_long {proto : Int} {n : Nat} (h : pl9 proto n ≠ 0) : pl9 proto n + 2 ≤ n := by
  unfold pl9 at *
  split at h
  · split <;> omega
  · split at h
    · split <;> omega
    · exact absurd rfl h
theorem sealed9 (proto : Int) (k : Nat) (src dst s : ByteArray) (hp : pl9 proto s.size = k) (hk : k ≠ 0) (hl : dst.size = src.size) (he : src.size % 2 = 0) : Sealed proto k src dst s (seal9 proto src dst s) := by
  have h2 : k + 2 ≤ s.size := by rw [← hp]; exact pl9_long (by omega)
  have e : seal9 proto src dst s = with9 s k (num9 proto src dst s k) := by unfold seal9; rw [hp, if_neg hk]
  have nl := num9_le proto src dst s k
  rw [e]
  have hs := with9_size s k (num9 proto src dst s k) h2
  refine ⟨hs, ?_, ?_, ?_, ?_, ?_⟩
  · apply text_ext
    rw [sl_ext, sl_ext]
    unfold sl
    rw [with9_front s k _ h2]
  · apply text_ext
    rw [sl_ext, sl_ext, sl_all, sl_all, with9_back s k _ h2]
  · unfold seal9
    rw [hs, hp, if_neg hk, num9_with _ _ _ _ _ _ h2, with9_with _ _ _ _ h2]
  · unfold seal9
    rw [hs, hp, if_neg hk, num9_with _ _ _ _ _ _ h2, with9_with _ _ _ _ h2, num9_turned _ _ _ _ _ hl he]
  · refine num_seg (a := s.data.toList.take k) (b := be (num9 proto src dst s k) 2) (c := s.data.toList.drop (k + 2)) ?_ (by rw [List.length_take, size_list]; omega) rfl (by show _ < 65536; omega)
    show s.data.toList.take k ++ be _ 2 ++ s.data.toList.drop (k + 2) = _
    rw [List.append_assoc]
theorem num9_not (src dst s : ByteArray) (k : Nat) : num9 17 src dst s k ≠ 0 := by
  unfold num9
  split
  · decide
  · rename_i h
    intro h0
    exact h ⟨h0, rfl⟩
theorem seal9_none {proto : Int} {s : ByteArray} (src dst : ByteArray) (h : pl9 proto s.size = 0) : seal9 proto src dst s = s := by
  unfold seal9; rw [if_pos h]

end Go.Proofs.YtbfcccfgphelhaaDoor
