/-
  A slice of texts in memory.
-/
import Derived.Test.YtdljioacbpabbaaMem
namespace Go.Proofs.Ytdljioacbpabbaa
open Go.RowKit
set_option linter.unusedVariables false

/-- A slice whose cells are these texts; its block lies below B. -/
def StrsAt (w : World) (B : Nat) (a : Option Addr) (len : Nat) (P : Nat → ByteArray) : Prop :=
  len = 0 ∨ ∃ b off, a = some ⟨b, off, none⟩ ∧ b < B ∧ ∀ i, i < len → w.cell? ⟨b, off + i, none⟩ = some (.string (P i))

theorem StrsAt.below {w w' : World} {B : Nat} {a : Option Addr} {len : Nat} {P : Nat → ByteArray} (h : StrsAt w B a len P) (hb : Below B w w') : StrsAt w' B a len P := by
  rcases h with h | ⟨b, off, rfl, hlt, hc⟩
  · exact Or.inl h
  · exact Or.inr ⟨b, off, rfl, hlt, fun i hi => (hb.cell (p := ⟨b, off + i, none⟩) hlt).trans (hc i hi)⟩
theorem StrsAt.mono {w : World} {B B' : Nat} {a : Option Addr} {len : Nat} {P : Nat → ByteArray} (h : StrsAt w B a len P) (hB : B ≤ B') : StrsAt w B' a len P := by
  rcases h with h | ⟨b, off, rfl, hlt, hc⟩
  · exact Or.inl h
  · exact Or.inr ⟨b, off, rfl, by omega, hc⟩
/-- A literal of texts. -/
def strsOf (l : List ByteArray) (i : Nat) : ByteArray := l.getD i ByteArray.empty
theorem strs_new (w : World) (l : List ByteArray) (T : TypeId) : StrsAt (w.alloc (.cells (l.map Value.string).toArray T)) (w.heap.size + 1) (some ⟨w.heap.size, 0, none⟩) l.length (strsOf l) := by
  refine Or.inr ⟨_, 0, rfl, by omega, fun i hi => ?_⟩
  rw [Nat.zero_add, (Blk.new w _ T).cell i]
  simp [strsOf, hi]
theorem strs_nil (w : World) (B : Nat) (a : Option Addr) (P : Nat → ByteArray) : StrsAt w B a 0 P := Or.inl rfl
end Go.Proofs.Ytdljioacbpabbaa
