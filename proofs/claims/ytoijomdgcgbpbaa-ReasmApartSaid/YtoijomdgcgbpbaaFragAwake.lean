/-
  The document's example: the laws' 'awake'.
-/
import Derived.Test.YtoijomdgcgbpbaaFragTexts
import Derived.Test.YtoijomdgcgbpbaaIp4B
import Derived.Test.YtoijomdgcgbpbaaGround
namespace Go.Proofs.Ytoijomdgcgbpbaa
open Go.RowKit Go.Shelf
set_option linter.unusedVariables false

/-- The example's packet. -/
def zeros15 : ByteArray := ⟨(List.replicate 100 (0 : UInt8)).toArray⟩
def packet15 : ByteArray := putS exampleH zeros15
set_option maxRecDepth 100000 in
theorem packet15_e : putE exampleH zeros15 = 0 := by decide +kernel
set_option maxRecDepth 100000 in
theorem packet15_size : packet15.size = 120 := by decide +kernel
set_option maxRecDepth 100000 in
theorem packet15_cut : cutE packet15 60 = 0 ∧ (cutL packet15 60).map ByteArray.size = [60, 60, 40] := by decide +kernel

/-- The example's three pieces, as a slice tells them. -/
structure Three15 (W : World) (v : Value) : Prop where
  is : ∃ (b c : Nat) (x y z : ByteArray), v = .slice (some ⟨b, 0, none⟩) 3 c ∧ x.size = 60 ∧ y.size = 60 ∧ z.size = 40 ∧ W.cell? ⟨b, 0, none⟩ = some (.string x) ∧ W.cell? ⟨b, 1, none⟩ = some (.string y) ∧ W.cell? ⟨b, 2, none⟩ = some (.string z)
theorem three15 {W : World} {v : Value} {l : List ByteArray} (h : TextsAt W v l) (hl : l.map ByteArray.size = [60, 60, 40]) : Three15 W v := by
  obtain ⟨x, l1, rfl, hx, h1⟩ := List.map_eq_cons_iff.1 hl
  obtain ⟨y, l2, rfl, hy, h2⟩ := List.map_eq_cons_iff.1 h1
  obtain ⟨z, l3, rfl, hz, h3⟩ := List.map_eq_cons_iff.1 h2
  obtain rfl := List.map_eq_nil_iff.1 h3
  obtain ⟨b, c, rfl, _, hc⟩ := h.some (by simp)
  exact ⟨⟨b, c, x, y, z, rfl, hx, hy, hz, hc 0 (by simp), hc 1 (by simp), hc 2 (by simp)⟩⟩

end Go.Proofs.Ytoijomdgcgbpbaa
