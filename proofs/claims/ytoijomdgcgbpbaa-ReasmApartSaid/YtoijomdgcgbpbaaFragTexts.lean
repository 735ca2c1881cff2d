/-
  The document's Texts, of two slices that hold the same texts; and the example.
-/
import Derived.Test.YtoijomdgcgbpbaaFragCut
namespace Go.Proofs.Ytoijomdgcgbpbaa
open Go.RowKit Go.Shelf
set_option linter.unusedVariables false

/-- Where they lie, and that there is room for them. -/
theorem TextsAt.full {W : World} {v : Value} {l : List ByteArray} (h : TextsAt W v l) (hl : l ≠ []) : ∃ b c, v = .slice (some ⟨b, 0, none⟩) l.length c ∧ b < W.heap.size ∧ (∀ (i : Nat) (h : i < l.length), W.cell? ⟨b, i, none⟩ = some (.string (l[i]'h))) ∧ l.length ≤ c := by
  rcases h with ⟨e, _⟩ | h
  · exact absurd e hl
  · exact h
theorem TextsAt.some {W : World} {v : Value} {l : List ByteArray} (h : TextsAt W v l) (hl : l ≠ []) : ∃ b c, v = .slice (some ⟨b, 0, none⟩) l.length c ∧ b < W.heap.size ∧ ∀ (i : Nat) (h : i < l.length), W.cell? ⟨b, i, none⟩ = some (.string (l[i]'h)) := by
  rcases h with ⟨e, _⟩ | ⟨b, c, e, hb, hc, _⟩
  · exact absurd e hl
  · exact ⟨b, c, e, hb, hc⟩
theorem TextsAt.none {W : World} {v : Value} {l : List ByteArray} (h : TextsAt W v l) (hl : l = []) : ∃ a c, v = .slice a 0 c := by
  subst hl
  rcases h with ⟨_, rfl⟩ | ⟨b, c, rfl, _⟩
  · exact ⟨_, _, rfl⟩
  · exact ⟨_, _, rfl⟩
/-- A slice of texts, whatever it holds: its length. -/
theorem TextsAt.len {W : World} {v : Value} {l : List ByteArray} (h : TextsAt W v l) : ∃ a c, v = .slice a l.length c := by
  rcases h with ⟨rfl, rfl⟩ | ⟨b, c, rfl, _⟩
  · exact ⟨_, _, rfl⟩
  · exact ⟨_, _, rfl⟩

theorem cutL_length (p : ByteArray) (m : Int) (hp : p.size ≤ 1000000) : (cutL p m).length ≤ 1000001 := by
  unfold cutL
  split
  · simp
  · split
    · simp
    · unfold texts15 all15
      rw [List.length_map, items15_length]
      have h1 : fore15 (getS p) (n15 p m) ≤ (getS p).size - 1 := Nat.div_le_self _ _
      have h2 : (getS p).size ≤ p.size := by
        unfold getS
        split
        · rw [ByteArray.size_extract]; omega
        · show 0 ≤ _; omega
      omega

end Go.Proofs.Ytoijomdgcgbpbaa
