/-
  What a call does to memory, said of blocks: a world that is kept but for one block. Plain: no Go function is walked here.
-/
import Derived.Test.YtcalpkdgpiebmaaRows
import Derived.WalkKit
import Derived.WalkSpells
import Derived.WalkLawsBesides
import Derived.Deep.QuietTactic
import Derived.BigQuiet
import Derived.Lib.Hide
namespace Go.Proofs.Ytcalpkdgpiebmaa
open Go.RowKit
set_option linter.unusedVariables false

/-- All blocks that were there are as they were, but for those of S. -/
structure Kb (S : Nat → Prop) (w w' : World) : Prop where
  os : w'.os = w.os
  tape : w'.tape = w.tape
  output : w'.output = w.output
  size : w.heap.size ≤ w'.heap.size
  block : ∀ k, k < w.heap.size → ¬ S k → w'.heap[k]? = w.heap[k]?

theorem Kb.refl (S : Nat → Prop) (w : World) : Kb S w w := ⟨rfl, rfl, rfl, Nat.le_refl _, fun _ _ _ => rfl⟩
theorem Kb.trans {S : Nat → Prop} {a b c : World} (h : Kb S a b) (k : Kb S b c) : Kb S a c :=
  ⟨k.os.trans h.os, k.tape.trans h.tape, k.output.trans h.output, Nat.le_trans h.size k.size, fun i hi hs => (k.block i (Nat.lt_of_lt_of_le hi h.size) hs).trans (h.block i hi hs)⟩
theorem Kb.mono {S T : Nat → Prop} {w w' : World} (h : Kb S w w') (hs : ∀ k, k < w.heap.size → S k → T k) : Kb T w w' :=
  ⟨h.os, h.tape, h.output, h.size, fun k hk ht => h.block k hk fun s => ht (hs k hk s)⟩
theorem Kb.drewN {S : Nat → Prop} {a w : World} (h : Kb S a w) (n : Nat) : Kb S a (w.drewN n) := ⟨h.os, h.tape, h.output, h.size, h.block⟩
theorem Kb.drew {S : Nat → Prop} {a w : World} (h : Kb S a w) : Kb S a w.drew := ⟨h.os, h.tape, h.output, h.size, h.block⟩
theorem Kb.alloc {S : Nat → Prop} {a w : World} (h : Kb S a w) (o : Obj) : Kb S a (w.alloc o) :=
  h.trans ⟨rfl, rfl, rfl, by simp, fun k hk _ => Below.heap_alloc _ _ _ hk⟩
theorem Kb.setCell {S : Nat → Prop} {a w : World} (h : Kb S a w) {p : Addr} (hp : p.block < a.heap.size → S p.block) (u : Value) : Kb S a (w.setCell p u) :=
  ⟨h.os, h.tape, h.output, by simpa [World.setCell] using h.size, fun k hk hs => by
    have hne : k ≠ p.block := by
      intro e; subst e; exact hs (hp hk)
    rw [Below.heap_setCell _ _ _ _ hne]; exact h.block k hk hs⟩
theorem Kb.below {B : Nat} {w w' : World} (h : Kb (fun k => B ≤ k) w w') (hB : B ≤ w.heap.size) : Below B w w' :=
  ⟨h.os, h.tape, h.output, h.size, fun k hk => h.block k (by omega) (by omega)⟩

theorem Kb.below_new {N : Nat} {w w' : World} (h : Kb (· = N) w w') (hN : N ≤ w.heap.size) : Below N w w' :=
  ⟨h.os, h.tape, h.output, h.size, fun k hk => h.block k (by omega) (by omega)⟩

theorem below_drewN {B : Nat} {a w : World} (h : Below B a w) (n : Nat) : Below B a (w.drewN n) := ⟨h.os, h.tape, h.output, h.size, h.block⟩

/-- A block holds just these cells, of that type, none of them frozen. -/
def Blk (w : World) (b : Nat) (xs : Array Value) (T : TypeId) : Prop := w.heap[b]? = some (.cells xs T (0, 0))

theorem Blk.lt {w : World} {b : Nat} {xs : Array Value} {T : TypeId} (h : Blk w b xs T) : b < w.heap.size := by
  unfold Blk at h; exact (Array.getElem?_eq_some_iff.1 h).1
theorem Blk.kb {S : Nat → Prop} {w w' : World} {b : Nat} {xs : Array Value} {T : TypeId} (h : Blk w b xs T) (k : Kb S w w') (hs : ¬ S b) : Blk w' b xs T :=
  (k.block b h.lt hs).trans h
theorem Blk.cell {w : World} {b : Nat} {xs : Array Value} {T : TypeId} (h : Blk w b xs T) (i : Nat) : w.cell? ⟨b, i, none⟩ = xs[i]? := by
  unfold Blk at h; simp [World.cell?, h]
theorem Blk.frozen {w : World} {b : Nat} {xs : Array Value} {T : TypeId} (h : Blk w b xs T) (i : Nat) : w.frozen? ⟨b, i, none⟩ = false := by
  unfold Blk at h; simp [World.frozen?, h]
theorem Blk.drewN {w : World} {b : Nat} {xs : Array Value} {T : TypeId} (h : Blk w b xs T) (n : Nat) : Blk (w.drewN n) b xs T := h
theorem Blk.drew {w : World} {b : Nat} {xs : Array Value} {T : TypeId} (h : Blk w b xs T) : Blk w.drew b xs T := h
theorem Blk.alloc {w : World} {b : Nat} {xs : Array Value} {T : TypeId} (h : Blk w b xs T) (o : Obj) : Blk (w.alloc o) b xs T :=
  (Below.heap_alloc w o b h.lt).trans h
theorem Blk.new (w : World) (xs : Array Value) (T : TypeId) : Blk (w.alloc (.cells xs T)) w.heap.size xs T := by
  show (w.heap.push _)[w.heap.size]? = _
  simp
theorem Blk.set {w : World} {b : Nat} {xs : Array Value} {T : TypeId} (h : Blk w b xs T) (i : Nat) (v : Value) : Blk (w.setCell ⟨b, i, none⟩ v) b (xs.setIfInBounds i v) T := by
  unfold Blk at *
  simp [World.setCell, Array.getElem?_modify, h]
theorem Blk.set_other {w : World} {b : Nat} {xs : Array Value} {T : TypeId} (h : Blk w b xs T) {p : Addr} (hp : b ≠ p.block) (v : Value) : Blk (w.setCell p v) b xs T :=
  (Below.heap_setCell w p v b hp).trans h

/-- A law's end: true, and all that was there is as it was. -/
def AwakeEnd (w : World) (e : Ending) (w' : World) : Prop := e = .returned (.bool true) ∧ Below w.heap.size w w'

end Go.Proofs.Ytcalpkdgpiebmaa
