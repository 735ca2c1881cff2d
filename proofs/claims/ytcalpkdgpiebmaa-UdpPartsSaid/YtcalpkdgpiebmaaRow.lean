/-
  A whole row of cells put into a block; what that leaves alone. Plain: no Go function is walked here.
-/
import Derived.Test.YtcalpkdgpiebmaaMem
import Derived.Deep.WholeRow
namespace Go.Proofs.Ytcalpkdgpiebmaa
open Go.RowKit
set_option linter.unusedVariables false

theorem Blk.row {w : World} {b : Nat} {xs : Array Value} {T : TypeId} (h : Blk w b xs T) (ys : Array Value) : Blk (w.setRow b ys) b ys T := by
  unfold Blk at *
  simp [World.setRow, Array.getElem?_modify, h]
theorem Blk.row_other {w : World} {b g : Nat} {xs : Array Value} {T : TypeId} (h : Blk w b xs T) (hg : b ≠ g) (ys : Array Value) : Blk (w.setRow g ys) b xs T := by
  unfold Blk at *
  simp [World.setRow, Array.getElem?_modify, h, Ne.symm hg]
theorem below_row {B g : Nat} {a w : World} (h : Below B a w) (hg : B ≤ g) (ys : Array Value) : Below B a (w.setRow g ys) :=
  ⟨h.os, h.tape, h.output, by simpa [World.setRow] using h.size, fun k hk => by
    have hne : g ≠ k := by omega
    rw [← h.block k hk]
    simp [World.setRow, Array.getElem?_modify, hne]⟩

theorem Kb.row {S : Nat → Prop} {a w : World} (h : Kb S a w) {g : Nat} (hg : g < a.heap.size → S g) (ys : Array Value) : Kb S a (w.setRow g ys) :=
  ⟨h.os, h.tape, h.output, by simpa [World.setRow] using h.size, fun k hk hs => by
    have hne : g ≠ k := by intro e; subst e; exact hs (hg hk)
    rw [← h.block k hk hs]
    simp [World.setRow, Array.getElem?_modify, hne]⟩

end Go.Proofs.Ytcalpkdgpiebmaa
