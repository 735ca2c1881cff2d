/-
  The document's Proto, Kind, Get.
-/
import Derived.Test.YtnlpbnipfglhhaaDoorIpip
namespace Go.Proofs.YtnlpbnipfglhhaaDoor
open Go.RowKit
set_option linter.unusedVariables false

set_option maxRecDepth 100000 in
set_option maxHeartbeats 1000000 in
theorem refproto11_any (s : ByteArray) (w : World) :
    Calls Tryd.prog 30 #[.string s] w (Tells (.tuple #[.int .i64 (v11 s).proto, .int .i64 (v11 s).err]) w) := by
  unfold Tells
  rcases v11_ways s with ⟨h0, hv⟩ | ⟨h0, hv⟩
  · rw [hv]
    have te : s.toList.isEmpty = true := by
      have : s.data.toList.length = 0 := by simpa using h0
      rw [ByteArray.toList_eq, List.length_eq_zero_iff.1 this]
      rfl
    clear hv
    go_enter Tryd.func30, Tryd.ntmps30
    go_wp2_with fail
    exact ⟨rfl, _, results_tmp2 rfl _ _ _, rfl, Below.refl _ _⟩
  have te : s.toList.isEmpty = false := by
    rw [ByteArray.toList_eq]
    cases hl : s.data.toList with
    | nil => exact absurd (by simpa using congrArg List.length hl) h0
    | cons a l => rfl
  have hz : 0 < s.size := by omega
  have b0 : (0 : Int) < (s.size : Int) := by omega
  have hb := first11_at s hz
  have hl := first11_lt s
  rcases hv with ⟨hv, hk⟩ | ⟨hv, hk⟩ | ⟨hv, h4, h6⟩
  · rw [hv]
    generalize first11 s = n at *
    have e1 : (n : Int) / 16 = 4 := by omega
    clear hv hk h0
    go_enter Tryd.func30, Tryd.ntmps30
    go_wp2_with fail
    exact ⟨rfl, _, results_tmp2 rfl _ _ _, rfl, Below.refl _ _⟩
  · rw [hv]
    generalize first11 s = n at *
    have e1 : (n : Int) / 16 = 6 := by omega
    clear hv hk h0
    go_enter Tryd.func30, Tryd.ntmps30
    go_wp2_with fail
    exact ⟨rfl, _, results_tmp2 rfl _ _ _, rfl, Below.refl _ _⟩
  · rw [hv]
    generalize first11 s = n at *
    obtain ⟨m, e1, hm⟩ : ∃ m : Nat, (n : Int) / 16 = (m : Int) ∧ m < 16 ∧ ¬ m = 4 ∧ ¬ m = 6 := ⟨n / 16, by omega, by omega, h4, h6⟩
    have t1 : ((m : Int) == 4) = false := by simp; omega
    have t2 : ((m : Int) == 6) = false := by simp; omega
    have hw1 : IntKind.u8.wrap (m : Int) = (m : Int) := by rw [IntKind.wrap_u8]; omega
    clear hv h4 h6 h0 hm
    go_enter Tryd.func30, Tryd.ntmps30
    go_wp2_with fail
    exact ⟨rfl, _, results_tmp2 rfl _ _ _, rfl, Below.refl _ _⟩

set_option maxRecDepth 100000 in
set_option maxHeartbeats 1000000 in
theorem refkind11_any (s : ByteArray) (w : World) :
    Calls Tryd.prog 16 #[.string s] w (Tells (.tuple #[.int .i64 (v11 s).kind, .int .i64 (v11 s).err]) w) := by
  have HF := Lib.hid (refproto11_any s w)
  unfold Tells at HF ⊢
  generalize v11 s = v at *
  cases v
  all_goals
    simp only [V11.proto, V11.err, V11.kind] at HF ⊢
    go_enter Tryd.func16, Tryd.ntmps16
    go_wp2_with fail
    refine HF.out.mono ?_
    rintro e w1 ⟨rfl, hb⟩
    go_wp2_with fail
    exact ⟨rfl, _, results_tmp2 rfl _ _ _, rfl, hb⟩

end Go.Proofs.YtnlpbnipfglhhaaDoor
