/-
  The document's Proto, Kind, Get.
-/
import Derived.Test.YtbfcccfgphelhaaDoorIpip
namespace Go.Proofs.YtbfcccfgphelhaaDoor
open Go.RowKit
set_option linter.unusedVariables false

set_option maxRecDepth 100000 in
set_option maxHeartbeats 1000000 in
theorem refproto11_any (s : ByteArray) (w : World) :
    Calls Tryd.prog 17 #[.string s] w (Tells (.tuple #[.int .i64 (v11 s).proto, .int .i64 (v11 s).err]) w) := by
  unfold Tells
  rcases v11_ways s with ⟨h0, hv⟩ | ⟨h0, hv⟩
  · rw [hv]
    have te : s.toList.isEmpty = true := by
      have : s.data.toList.length = 0 := by simpa using h0
      rw [ByteArray.toList_eq, List.length_eq_zero_iff.1 this]
      rfl
    clear hv
    go_enter Tryd.func17, Tryd.ntmps17
    go_wp2_with fail
    exact ⟨rfl, _, results_tmp2 rfl _ _ _, rfl, Below.refl _ _⟩
  have te : s.toList.isEmpty = false := by
    rw [ByteArray.toList_eq]
    cases hl : s.data.toList with
    | nil => exact absurd (by simpa using congrArg List.length hl) h0
    | cons a l => rfl
  have hz : 0 < s.size := by omega
  have b0 : (0 : Int) < (s.size : Int) := by omega
  have hb := first11_at s hz
  have hl := first11_lt s
  rcases hv with ⟨hv, hk⟩ | ⟨hv, hk⟩ | ⟨hv, h4, h6⟩
  · rw [hv]
    generalize first11 s = n at *
    have e1 : (n : Int) / 16 = 4 := by omega
    clear hv hk h0
    go_enter Tryd.func17, Tryd.ntmps17
    go_wp2_with fail
    exact ⟨rfl, _, results_tmp2 rfl _ _ _, rfl, Below.refl _ _⟩
  · rw [hv]
    generalize first11 s = n at *
    have e1 : (n : Int) / 16 = 6 := by omega
    clear hv hk h0
    go_enter Tryd.func17, Tryd.ntmps17
    go_wp2_with fail
    exact ⟨rfl, _, results_tmp2 rfl _ _ _, rfl, Below.refl _ _⟩
  · rw [hv]
    generalize first11 s = n at *
    obtain ⟨m, e1, hm⟩ : ∃ m : Nat, (n : Int) / 16 = (m : Int) ∧ m < 16 ∧ ¬ m = 4 ∧ ¬ m = 6 := ⟨n / 16, by omega, by omega, h4, h6⟩
    have t1 : ((m : Int) == 4) = false := by simp; omega
    have t2 : ((m : Int) == 6) = false := by simp; omega
    have hw1 : IntKind.u8.wrap (m : Int) = (m : Int) := by rw [IntKind.wrap_u8]; omega
    clear hv h4 h6 h0 hm
    go_enter Tryd.func17, Tryd.ntmps17
    go_wp2_with fail
    exact ⟨rfl, _, results_tmp2 rfl _ _ _, rfl, Below.refl _ _⟩

set_option maxRecDepth 100000 in
set_option maxHeartbeats 1000000 in
theorem refget11_any (proto : Int) (s : ByteArray) (w : World) :
    Calls Tryd.prog 30 #[.int .i64 proto, .string s] w (Tells (.tuple #[.string (get11S proto s), .int .i64 (get11E proto s)]) w) := by
  have HF := Lib.hid (refproto11_any s w)
  have HS : Hid (get11S proto s = if get11E proto s = 0 then s else ⟨#[]⟩) := rfl
  have HE : Hid (get11E proto s = if proto ≠ 4 ∧ proto ≠ 41 then 6 else if (v11 s).err ≠ 0 then (v11 s).err else if (v11 s).proto ≠ proto then 3 else 0) := rfl
  unfold Tells at HF ⊢
  generalize v11 s = v at *
  generalize get11S proto s = S at *
  generalize get11E proto s = E at *
  have he := HE.out
  have hs := HS.out
  clear HE HS
  by_cases h1 : proto ≠ 4 ∧ proto ≠ 41
  · rw [if_pos h1] at he
    subst he
    rw [if_neg (by decide)] at hs
    subst hs
    have t1 : (proto != 4) = true := by simp [h1]
    have t2 : (proto != 41) = true := by simp [h1]
    clear h1 HF
    go_enter Tryd.func30, Tryd.ntmps30
    go_wp2_with fail
    exact ⟨rfl, _, results_tmp2 rfl _ _ _, rfl, Below.refl _ _⟩
  rw [if_neg h1] at he
  have ht : proto = 4 ∨ proto = 41 := by omega
  clear h1
  rcases ht with rfl | rfl <;> cases v
  all_goals
    simp [V11.proto, V11.err] at he
    subst he
    simp at hs
    subst hs
    simp only [V11.proto, V11.err] at HF
    go_enter Tryd.func30, Tryd.ntmps30
    go_wp2_with fail
    refine HF.out.mono ?_
    rintro e w1 ⟨rfl, hb⟩
    go_wp2_with fail
    exact ⟨rfl, _, results_tmp2 rfl _ _ _, rfl, hb⟩

end Go.Proofs.YtbfcccfgphelhaaDoor
