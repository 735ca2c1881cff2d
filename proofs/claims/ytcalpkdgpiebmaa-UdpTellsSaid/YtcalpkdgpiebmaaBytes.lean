/-
  The document's bytes of a number: palanquinref01.Bytes.
-/
import Derived.Test.YtcalpkdgpiebmaaTexts
import Derived.Test.YtcalpkdgpiebmaaBe
namespace Go.Proofs.Ytcalpkdgpiebmaa
open Go.RowKit
set_option linter.unusedVariables false

theorem bytes_cons (c : UInt8) (l : List UInt8) : (⟨#[c]⟩ : ByteArray) ++ ⟨l.toArray⟩ = ⟨(c :: l).toArray⟩ := by
  apply ByteArray.ext
  rw [ByteArray.data_append]
  simp
theorem bytes_cat (l m : List UInt8) : (⟨l.toArray⟩ : ByteArray) ++ ⟨m.toArray⟩ = ⟨(l ++ m).toArray⟩ := by
  apply ByteArray.ext
  rw [ByteArray.data_append]
  simp
theorem conv_one (w : World) (m : Nat) : (convert 40 9 (.slice (some ⟨w.heap.size, 0, none⟩) 1 1)).run Try.prog (w.alloc (.cells #[.int .u8 ((m : Int) % 256)] 5)) = .ok (.string ⟨#[UInt8.ofNat (m % 256)]⟩) (w.alloc (.cells #[.int .u8 ((m : Int) % 256)] 5)) := by
  refine conv_new w [UInt8.ofNat (m % 256)] _ ?_ 1 rfl
  simp only [List.map_cons, List.map_nil, UInt8.toNat_ofNat']
  have e : ((m : Int) % 256) = ((m % 256 % 2 ^ 8 : Nat) : Int) := by omega
  rw [e]

set_option maxHeartbeats 1000000 in
theorem bytes_any (n k : Nat) (w : World) (hn : n < 18446744073709551616) (hk : k ≤ 8) :
    Calls Try.prog 26 #[.int .u64 n, .int .i64 k] w fun e w' => e = .returned (.string ⟨(be n k).toArray⟩) ∧ Below w.heap.size w w' := by
  go_enter Try.func26, Try.ntmps26
  go_wp2_with fail
  go_loopw [0, 5, 6] (fun m s i wr => ∃ j : Nat, j ≤ k ∧ i = .int .i64 j ∧ m = .int .u64 ((n / 256 ^ j : Nat) : Int) ∧ s = .string ⟨(be n j).toArray⟩ ∧ Below w.heap.size w wr) (fun _ _ i _ => k - (intOf i).toNat)
  case atStart => exact ⟨0, Nat.zero_le _, rfl, by simp, rfl, Below.refl _ _⟩
  case round =>
    obtain ⟨j, hj, rfl, rfl, rfl, hb⟩ := hrel
    by_cases hlt : j < k
    · have hs := Lib.hid (be_succ n j)
      have hp := Lib.hid (show n / 256 ^ (j + 1) = n / 256 ^ j / 256 by rw [Nat.pow_succ, Nat.div_div_eq_div_mul])
      have hle : n / 256 ^ j < 18446744073709551616 := Nat.lt_of_le_of_lt (Nat.div_le_self _ _) hn
      have hbl : (be n j).length = j := be_length n j
      generalize n / 256 ^ j = m at *
      have hcv := conv_one wr m
      generalize hcc : UInt8.ofNat (m % 256) = c at *
      have HCC := Lib.hid hcc
      clear hcc
      have HB := Lib.hid hb
      clear hb
      go_wp2_with fail
      exact ⟨⟨j + 1, by omega, by go_num, by rw [hp.out]; go_num, by rw [hs.out]; exact congrArg Value.string (bytes_cons c (be n j)), HB.out.alloc HB.out.size _⟩, by simp [intOf]; omega⟩
    · have hkl := Lib.hid (show j = k by omega)
      have HB := Lib.hid hb
      clear hb
      go_wp2_with fail
      go_ret
      exact ⟨by have := hkl.out; subst this; rfl, HB.out⟩

end Go.Proofs.Ytcalpkdgpiebmaa
