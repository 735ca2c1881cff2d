/-
  The document's number of bytes: palanquinref01.Value.
-/
import Derived.Test.YtcalpkdgpiebmaaRdNum
namespace Go.Proofs.Ytcalpkdgpiebmaa
open Go.RowKit
set_option linter.unusedVariables false

theorem val_step (t : ByteArray) (q : Nat) (hq : q < t.size) (h8 : t.size ≤ 8) :
    IntKind.u64.wrap (IntKind.u64.wrap (((val (t.data.toList.take q) : Nat) : Int) * 256) + IntKind.u64.wrap ((t[q]'hq).toNat : Int)) = ((val (t.data.toList.take (q + 1)) : Nat) : Int) := by
  have h1 := val_lt q (t.data.toList.take q) (by simp; omega)
  have h2 := pow256 q (by omega)
  have h3 := (t[q]'hq).toNat_lt
  have e : val (t.data.toList.take (q + 1)) = val (t.data.toList.take q) * 256 + (t[q]'hq).toNat := by
    rw [List.take_succ_eq_append_getElem (by simpa using hq), val_snoc]; rfl
  rw [e, wrap_u64 ((t[q]'hq).toNat : Int) (by omega) (by omega), wrap_u64 (((val (t.data.toList.take q) : Nat) : Int) * 256) (by omega) (by omega), wrap_u64 _ (by omega) (by omega)]
  omega
set_option maxHeartbeats 400000 in
theorem value_any (t : ByteArray) (w : World) (ht : t.size ≤ 8) :
    Calls Try.prog 24 #[.string t] w fun e w' => e = .returned (.int .u64 (val t.data.toList)) ∧ w = w' := by
  go_enter Try.func24, Try.ntmps24
  go_wp2_with fail
  go_loop [3, 4] (fun n i => ∃ q : Nat, q ≤ t.size ∧ i = .int .i64 q ∧ n = .int .u64 (val (t.data.toList.take q))) (fun _ i => t.size - (intOf i).toNat)
  case atStart => exact ⟨0, Nat.zero_le _, rfl, rfl⟩
  case round =>
    obtain ⟨q, hq, rfl, rfl⟩ := hrel
    by_cases hlt : q < t.size
    · have HV := Lib.hid (val_step t q hlt ht)
      go_wp2
      exact ⟨⟨q + 1, by omega, by go_num, by rw [HV.out]⟩, by simp [intOf]; omega⟩
    · have hkl := Lib.hid (show t.data.toList.take q = t.data.toList from List.take_of_length_le (by simp; exact Nat.le_of_not_lt hlt))
      go_wp2
      go_ret
      exact ⟨by rw [hkl.out]; rfl, rfl⟩
theorem value_num (s : ByteArray) (i z : Nat) (w : World) (hi : i + z ≤ s.size) (hz : z ≤ 8) :
    Calls Try.prog 24 #[.string (s.extract i (i + z))] w fun e w' => e = .returned (.int .u64 (numOf s i z)) ∧ w = w' :=
  value_any (s.extract i (i + z)) w (by rw [ByteArray.size_extract]; omega)

end Go.Proofs.Ytcalpkdgpiebmaa
