/-
  While a law mixes two packets' pieces: the table, the two rows of pieces, what was made.
-/
import Derived.Test.YtoijomdgcgbpbaaReasmM
import Derived.Test.YtoijomdgcgbpbaaReasmRun
import Derived.Deep.AppendLies
namespace Go.Proofs.Ytoijomdgcgbpbaa
open Go.RowKit Go.Shelf
set_option linter.unusedVariables false

/-- Blocks that aren't the table's are changed, and one is made that isn't. -/
theorem TbL16.apart {S T : Nat → Prop} {W W' : World} {tb E B L : Nat} {l : List E16} (h : TbL16 S W tb E B L l) (k : Kb T W W') (hs : ∀ i, S i → ¬ T i) (hl : W.heap.size < W'.heap.size) : TbL16 (fun i => S i ∧ i ≠ W.heap.size) W' tb E B L l := by
  obtain ⟨mb, ms, clock, t, rfl⟩ := h.is
  exact ⟨⟨mb, ms, clock, (t.cut.kb k (fun i hi => hs i hi.1)).mono (fun i hi => ⟨hi.1, by have := hi.2; omega⟩), rfl⟩, fun i hi => ⟨h.up i (by omega), by omega⟩⟩

structure Apa16 (w w8 : World) (tb v1 v2 : Nat) (T1 T2 : List ByteArray) (W : World) (l : List E16) (gv : Value) (ts : List ByteArray) : Prop where
  tab : ∃ S : Nat → Prop, TbL16 S W tb 64 1048576 64 l ∧ (∀ i, S i → w8.heap.size ≤ i) ∧ (∀ g, gv.ownBlock = some g → ¬ S g)
  row : W.ownsRow w8.heap.size 9 1 gv ts.length (strs15 ts)
  bel : Below w.heap.size w W
  size : w8.heap.size ≤ W.heap.size
  c1 : ∀ (i : Nat) (h : i < T1.length), W.cell? ⟨v1, i, none⟩ = some (.string (T1[i]'h))
  c2 : ∀ (i : Nat) (h : i < T2.length), W.cell? ⟨v2, i, none⟩ = some (.string (T2[i]'h))
  base : w.heap.size ≤ w8.heap.size
  l1 : v1 < w8.heap.size
  l2 : v2 < w8.heap.size
theorem Apa16.tab16 {w w8 : World} {tb v1 v2 : Nat} {T1 T2 : List ByteArray} {W : World} {l : List E16} {gv : Value} {ts : List ByteArray} (h : Apa16 w w8 tb v1 v2 T1 T2 W l gv ts) : Tab16 64 1048576 64 l := by
  obtain ⟨S, t, _⟩ := h.tab
  exact t.tab
theorem Apa16.below {w w8 : World} {tb v1 v2 : Nat} {T1 T2 : List ByteArray} {W W' : World} {l : List E16} {gv : Value} {ts : List ByteArray} (h : Apa16 w w8 tb v1 v2 T1 T2 W l gv ts) (b : Below W.heap.size W W') : Apa16 w w8 tb v1 v2 T1 T2 W' l gv ts := by
  obtain ⟨S, t, hS, hg⟩ := h.tab
  have k : Kb (fun i => W.heap.size ≤ i) W W' := ⟨b.os, b.tape, b.output, b.size, fun i hi _ => b.block i hi⟩
  exact ⟨⟨S, t.below b, hS, hg⟩, row15_kb h.row (fun g e => by have := (h.row.lt g e).2; omega) k, h.bel.trans (b.mono h.bel.size), Nat.le_trans h.size b.size,
    fun i hi => (b.cell (p := ⟨v1, i, none⟩) (Nat.lt_of_lt_of_le h.l1 h.size)).trans (h.c1 i hi), fun i hi => (b.cell (p := ⟨v2, i, none⟩) (Nat.lt_of_lt_of_le h.l2 h.size)).trans (h.c2 i hi), h.base, h.l1, h.l2⟩
theorem Apa16.added {w w8 : World} {tb v1 v2 : Nat} {T1 T2 : List ByteArray} {W : World} {l : List E16} {gv : Value} {ts : List ByteArray} (h : Apa16 w w8 tb v1 v2 T1 T2 W l gv ts) (x : ByteArray) (hx : x.size ≤ 65535) :
    Calls Try.prog 15 #[.pointer (some ⟨tb, 0, none⟩), .string x] W fun r W' => r = .returned (.tuple #[.string (add16 64 1048576 l x).1.1, .int .i64 ((add16 64 1048576 l x).1.2 : Nat)]) ∧ Apa16 w w8 tb v1 v2 T1 T2 W' (add16 64 1048576 l x).2 gv ts := by
  obtain ⟨S, t, hS, hg⟩ := h.tab
  refine (addL16 x (by omega) W t).mono ?_
  rintro r W' ⟨rfl, t', k⟩
  have k' := k.mono (T := fun i => w8.heap.size ≤ i) (fun i _ e => hS i e)
  exact ⟨rfl, ⟨S, t', hS, hg⟩, row15_kb h.row hg k, h.bel.trans ((k'.below h.size).mono h.base), Nat.le_trans h.size k.size,
    fun i hi => (k'.cellK (p := ⟨v1, i, none⟩) (Nat.lt_of_lt_of_le h.l1 h.size) (Nat.not_le.2 h.l1)).trans (h.c1 i hi), fun i hi => (k'.cellK (p := ⟨v2, i, none⟩) (Nat.lt_of_lt_of_le h.l2 h.size) (Nat.not_le.2 h.l2)).trans (h.c2 i hi), h.base, h.l1, h.l2⟩
/-- One more text in the slice of what was made. -/
theorem Apa16.app {w w8 : World} {tb v1 v2 : Nat} {T1 T2 : List ByteArray} {W : World} {l : List E16} {gv : Value} {ts : List ByteArray} (h : Apa16 w w8 tb v1 v2 T1 T2 W l gv ts) {s : ByteArray} {W' : World} {g n cap : Nat}
    (ho : W'.ownsRow w8.heap.size 9 1 (.slice (some ⟨g, 0, none⟩) n cap) (ts.length + 1) (strs15 ts ++ [.string s])) (hgr : (W.alloc (.cells #[.string s] 9)).grownBy W' gv.ownBlock) (hat : gv.ownBlock = some g ∨ g = (W.alloc (.cells #[.string s] 9)).heap.size) (hlt : g < W'.heap.size) :
    Apa16 w w8 tb v1 v2 T1 T2 W' l (.slice (some ⟨g, 0, none⟩) n cap) (ts ++ [s]) := by
  obtain ⟨S, t, hS, hg⟩ := h.tab
  have b1 : Below W.heap.size W (W.alloc (.cells #[.string s] 9)) := (Below.refl _ _).alloc (Nat.le_refl _) _
  have k1 : Kb (fun i => gv.ownBlock = some i) (W.alloc (.cells #[.string s] 9)) W' := ⟨hgr.os, hgr.tape, hgr.output, hgr.size, fun k hk hs => hgr.block k hk (fun e => hs e.symm)⟩
  have k2 : Kb (fun i => gv.ownBlock = some i) W W' := (Kb.mono (S := fun _ => False) (T := fun i => gv.ownBlock = some i) ((Kb.refl _ W).alloc _) (fun _ _ e => e.elim)).trans k1
  have far : ∀ i, i < w8.heap.size → ¬ gv.ownBlock = some i := fun i hi e => by have := (h.row.lt i e).1; omega
  refine ⟨?_, ?_, ?_, Nat.le_trans h.size k2.size, fun i hi => (k2.cellK (p := ⟨v1, i, none⟩) (Nat.lt_of_lt_of_le h.l1 h.size) (far _ h.l1)).trans (h.c1 i hi), fun i hi => (k2.cellK (p := ⟨v2, i, none⟩) (Nat.lt_of_lt_of_le h.l2 h.size) (far _ h.l2)).trans (h.c2 i hi), h.base, h.l1, h.l2⟩
  · have own : ∀ g', (Value.slice (some ⟨g, 0, none⟩) n cap).ownBlock = some g' → g' = g := fun g' e => by
      have : g = g' := by simpa [Value.ownBlock] using e
      exact this.symm
    rcases hat with e | e
    · exact ⟨S, (t.below b1).kb k1 (fun i hi e => hg i e hi), hS, fun g' e' => by rw [own g' e']; exact hg g e⟩
    · refine ⟨_, (t.below b1).apart k1 (fun i hi e => hg i e hi) (e ▸ hlt), fun i hi => hS i hi.1, fun g' e' hi => hi.2 ?_⟩
      rw [own g' e', e]
  · rw [strs15_snoc, List.length_append]
    exact ho
  · exact h.bel.trans ⟨k2.os, k2.tape, k2.output, k2.size, fun i hi => k2.block i (Nat.lt_of_lt_of_le hi h.bel.size) (far i (Nat.lt_of_lt_of_le hi h.base))⟩

/-- What was made so far. -/
def Done16 (P Q : ByteArray) (n1 n2 i j : Nat) (ts : List ByteArray) : Prop :=
  (i < n1 ∧ j < n2 ∧ ts = []) ∨ (i = n1 ∧ j < n2 ∧ ts = [P]) ∨ (i < n1 ∧ j = n2 ∧ ts = [Q]) ∨ (i = n1 ∧ j = n2 ∧ (ts = [P, Q] ∨ ts = [Q, P]))
theorem Done16.l {P Q : ByteArray} {n1 n2 i j : Nat} {ts : List ByteArray} (h : Done16 P Q n1 n2 i j ts) (hi : i + 1 < n1) : Done16 P Q n1 n2 (i + 1) j ts := by
  rcases h with ⟨a, b, c⟩ | ⟨a, b, c⟩ | ⟨a, b, c⟩ | ⟨a, b, c⟩
  · exact Or.inl ⟨hi, b, c⟩
  · omega
  · exact Or.inr (Or.inr (Or.inl ⟨hi, b, c⟩))
  · omega
theorem Done16.l1 {P Q : ByteArray} {n1 n2 i j : Nat} {ts : List ByteArray} (h : Done16 P Q n1 n2 i j ts) (hi : i + 1 = n1) : Done16 P Q n1 n2 (i + 1) j (ts ++ [P]) := by
  rcases h with ⟨a, b, c⟩ | ⟨a, b, c⟩ | ⟨a, b, c⟩ | ⟨a, b, c⟩
  · exact Or.inr (Or.inl ⟨hi, b, by rw [c]; rfl⟩)
  · omega
  · exact Or.inr (Or.inr (Or.inr ⟨hi, b, Or.inr (by rw [c]; rfl)⟩))
  · omega
theorem Done16.r {P Q : ByteArray} {n1 n2 i j : Nat} {ts : List ByteArray} (h : Done16 P Q n1 n2 i j ts) (hj : j + 1 < n2) : Done16 P Q n1 n2 i (j + 1) ts := by
  rcases h with ⟨a, b, c⟩ | ⟨a, b, c⟩ | ⟨a, b, c⟩ | ⟨a, b, c⟩
  · exact Or.inl ⟨a, hj, c⟩
  · exact Or.inr (Or.inl ⟨a, hj, c⟩)
  · omega
  · omega
theorem Done16.r1 {P Q : ByteArray} {n1 n2 i j : Nat} {ts : List ByteArray} (h : Done16 P Q n1 n2 i j ts) (hj : j + 1 = n2) : Done16 P Q n1 n2 i (j + 1) (ts ++ [Q]) := by
  rcases h with ⟨a, b, c⟩ | ⟨a, b, c⟩ | ⟨a, b, c⟩ | ⟨a, b, c⟩
  · exact Or.inr (Or.inr (Or.inl ⟨a, hj, by rw [c]; rfl⟩))
  · exact Or.inr (Or.inr (Or.inr ⟨a, hj, Or.inl (by rw [c]; rfl)⟩))
  · omega
  · omega

/-- What is left of a row. -/
def Left16 (v n i : Nat) (x : Value) : Prop := ∃ a c, x = .slice a (n - i) c ∧ (i < n → a = some ⟨v, i, none⟩ ∧ n - i ≤ c)
theorem Left16.one {v n i c : Nat} (hi : i < n) (hc : n - i ≤ c) (h : c = 1) (a : Option Addr) (c' : Nat) : Left16 v n (i + 1) (.slice a (n - i - 1) c') :=
  ⟨_, _, by rw [show n - i - 1 = n - (i + 1) by omega], fun h => by omega⟩
theorem Left16.more {v n i c : Nat} (hi : i < n) (hc : n - i ≤ c) : Left16 v n (i + 1) (.slice (some ⟨v, i + 1, none⟩) (n - i - 1) (c - 1)) :=
  ⟨_, _, by rw [show n - i - 1 = n - (i + 1) by omega], fun h => ⟨rfl, by omega⟩⟩
theorem Left16.same {v n i c q : Nat} {a : Option Addr} (hq : q = n - i) (h : i < n → a = some ⟨v, i, none⟩ ∧ n - i ≤ c) : Left16 v n i (.slice a q c) :=
  ⟨_, _, by rw [hq], h⟩
def lenOf : Value → Nat
  | .slice _ n _ => n
  | _ => 0

end Go.Proofs.Ytoijomdgcgbpbaa
