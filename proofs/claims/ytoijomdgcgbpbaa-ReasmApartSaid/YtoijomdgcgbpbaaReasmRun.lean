/-
  While a law adds pieces: the table, the pieces' texts, what was there.
-/
import Derived.Test.YtoijomdgcgbpbaaReasmL
import Derived.Test.YtoijomdgcgbpbaaReasmAwake
namespace Go.Proofs.Ytoijomdgcgbpbaa
open Go.RowKit Go.Shelf
set_option linter.unusedVariables false

/-- A header without its offset and its flags. -/
def H4.bare16 (h : H4) : H4 := { h with off := 0, mf := false, df := false }
theorem Held.bare16 {w W : World} {h : H4} (r : Held w W h) : Held w (((W.setCell ⟨w.heap.size, 2, none⟩ (.int .i64 0)).setCell ⟨w.heap.size, 6, none⟩ (.bool false)).setCell ⟨w.heap.size, 5, none⟩ (.bool false)) h.bare16 :=
  ⟨((r.b.set 2 (.int .i64 0)).set 6 (.bool false)).set 5 (.bool false), ((r.bel.setCell (p := ⟨w.heap.size, 2, none⟩) (Nat.le_refl _) _).setCell (p := ⟨w.heap.size, 6, none⟩) (Nat.le_refl _) _).setCell (p := ⟨w.heap.size, 5, none⟩) (Nat.le_refl _) _, by have := r.lt; simpa using this⟩

/-- A table made when the world was w4, with these entries; the texts T in the block vb. -/
structure Run16 (w w4 : World) (E B L tb vb : Nat) (T : List ByteArray) (W : World) (l : List E16) : Prop where
  tb : TbL16 (fun i => w4.heap.size ≤ i) W tb E B L l
  bel : Below w.heap.size w W
  size : w4.heap.size ≤ W.heap.size
  cell : ∀ (i : Nat) (h : i < T.length), W.cell? ⟨vb, i, none⟩ = some (.string (T[i]'h))
  base : w.heap.size ≤ w4.heap.size
  vlt : vb < w4.heap.size
theorem Run16.below {w w4 : World} {E B L tb vb : Nat} {T : List ByteArray} {W W' : World} {l : List E16} (h : Run16 w w4 E B L tb vb T W l) (b : Below W.heap.size W W') : Run16 w w4 E B L tb vb T W' l :=
  ⟨h.tb.below b, h.bel.trans (b.mono h.bel.size), Nat.le_trans h.size b.size, fun i hi => (b.cell (p := ⟨vb, i, none⟩) (Nat.lt_of_lt_of_le h.vlt h.size)).trans (h.cell i hi), h.base, h.vlt⟩
theorem Run16.add {w w4 : World} {E B L tb vb : Nat} {T : List ByteArray} {W W' : World} {l l' : List E16} (h : Run16 w w4 E B L tb vb T W l) (t : TbL16 (fun i => w4.heap.size ≤ i) W' tb E B L l') (k : Kb (fun i => w4.heap.size ≤ i) W W') : Run16 w w4 E B L tb vb T W' l' :=
  ⟨t, h.bel.trans ((k.below h.size).mono h.base), Nat.le_trans h.size k.size, fun i hi => (k.cellK (p := ⟨vb, i, none⟩) (Nat.lt_of_lt_of_le h.vlt h.size) (Nat.not_le.2 h.vlt)).trans (h.cell i hi), h.base, h.vlt⟩

end Go.Proofs.Ytoijomdgcgbpbaa
