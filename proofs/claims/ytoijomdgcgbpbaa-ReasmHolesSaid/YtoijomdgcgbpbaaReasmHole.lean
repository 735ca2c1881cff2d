/-
  A packet of which one piece never comes. Plain.
-/
import Derived.Test.YtoijomdgcgbpbaaReasmL
namespace Go.Proofs.Ytoijomdgcgbpbaa
open Go.RowKit
set_option linter.unusedVariables false

theorem One16.hole {E B L : Nat} {l : List E16} (t : Tab16 E B L l) (hB : 65515 ≤ B) {h : H4} {S : ByteArray} {n : Nat} {pos : Nat → Nat} (c : Cut16 S n pos) {js : List Nat} (o : One16 h S n pos js l) {k : Nat} (hk : k < n) (hkn : k ∉ js) {i : Nat} (hi : i < n) (hne : i ≠ k) {x : ByteArray} (hx : Is16 h S n pos i x) :
    ∃ js' l', add16 E B l x = ((⟨#[]⟩, 10), l') ∧ One16 h S n pos js' l' ∧ k ∉ js' ∧ js' ≠ [] := by
  by_cases hin : i ∈ js
  · exact ⟨js, l, add_twice16 t c o.old hin hx, o, hkn, fun e => by rw [e] at hin; cases hin⟩
  · have hkn' : k ∉ insN i js := fun e => by
      rcases insN_mem.1 e with e | e
      · exact hne e.symm
      · exact hkn e
    obtain ⟨l', e, q⟩ := (o.add t hB c hi hin hx).1 ⟨k, hk, hkn'⟩
    exact ⟨_, l', e, q, hkn', insN_ne i js⟩
theorem One16.ticks {h : H4} {S : ByteArray} {n : Nat} {pos : Nat → Nat} {js : List Nat} {l : List E16} (o : One16 h S n pos js l) (hne : js ≠ []) : open16 l = 1 ∧ l.length = 1 ∧ (tick16 2 l).length = 1 ∧ tick16 2 (tick16 2 l) = [] := by
  rcases o.is with ⟨e, _⟩ | ⟨_, e, rfl, hk, ha, hd⟩
  · exact absurd e hne
  · refine ⟨by simp [open16, hd], rfl, by simp [tick16, ha], by simp [tick16, ha]⟩
theorem mod_next {a L : Nat} (hL : 2 ≤ L) : (a + 1) % L ≠ a % L := fun e => by
  have h1 := Nat.sub_mod_eq_zero_of_mod_eq e
  rw [Nat.add_sub_cancel_left, Nat.mod_eq_of_lt (by omega)] at h1
  omega

end Go.Proofs.Ytoijomdgcgbpbaa
