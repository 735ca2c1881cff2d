/-
  A table as the laws see it: a plain list of entries.
-/
import Derived.Test.YtoijomdgcgbpbaaReasmAdd
import Derived.Test.YtoijomdgcgbpbaaReasmNew
import Derived.Test.YtoijomdgcgbpbaaReasmTicks
namespace Go.Proofs.Ytoijomdgcgbpbaa
open Go.RowKit Go.Shelf
set_option linter.unusedVariables false

/-- A table that holds these entries; all its blocks, and all that are made later, are of S. -/
structure TbL16 (S : Nat → Prop) (w : World) (tb E B L : Nat) (l : List E16) : Prop where
  is : ∃ mb ms clock, Tb16 S w tb mb E B L ms clock ∧ ms.map (·.e) = l
  up : ∀ i, w.heap.size ≤ i → S i
theorem TbL16.tab {S : Nat → Prop} {w : World} {tb E B L : Nat} {l : List E16} (h : TbL16 S w tb E B L l) : Tab16 E B L l := by
  obtain ⟨mb, ms, clock, t, rfl⟩ := h.is
  exact t.tab
theorem TbL16.below {S : Nat → Prop} {w w' : World} {tb E B L : Nat} {l : List E16} (h : TbL16 S w tb E B L l) (hb : Below w.heap.size w w') : TbL16 S w' tb E B L l := by
  obtain ⟨mb, ms, clock, t, rfl⟩ := h.is
  exact ⟨⟨mb, ms, clock, t.below hb, rfl⟩, fun i hi => h.up i (Nat.le_trans hb.size hi)⟩
theorem TbL16.drewN {S : Nat → Prop} {w : World} {tb E B L : Nat} {l : List E16} (h : TbL16 S w tb E B L l) (n : Nat) : TbL16 S (w.drewN n) tb E B L l := h.below (below_drewN (Below.refl _ _) n)
theorem TbL16.drew {S : Nat → Prop} {w : World} {tb E B L : Nat} {l : List E16} (h : TbL16 S w tb E B L l) : TbL16 S w.drew tb E B L l := h.below (Below.refl _ _).drew
/-- A block of another's is changed. -/
theorem TbL16.kb {S T : Nat → Prop} {w w' : World} {tb E B L : Nat} {l : List E16} (h : TbL16 S w tb E B L l) (k : Kb T w w') (hs : ∀ i, S i → ¬ T i) : TbL16 S w' tb E B L l := by
  obtain ⟨mb, ms, clock, t, rfl⟩ := h.is
  exact ⟨⟨mb, ms, clock, t.kb k hs, rfl⟩, fun i hi => h.up i (Nat.le_trans k.size hi)⟩
/-- A new block is another's. -/
theorem TbL16.but {S : Nat → Prop} {w w' : World} {tb E B L : Nat} {l : List E16} (h : TbL16 S w tb E B L l) (hb : Below w.heap.size w w') (hl : w.heap.size < w'.heap.size) : TbL16 (fun i => S i ∧ i ≠ w.heap.size) w' tb E B L l := by
  obtain ⟨mb, ms, clock, t, rfl⟩ := h.is
  exact ⟨⟨mb, ms, clock, (t.cut.below hb).mono (fun i hi => ⟨hi.1, by have := hi.2; omega⟩), rfl⟩, fun i hi => ⟨h.up i (by omega), by omega⟩⟩

theorem addL16 {S : Nat → Prop} {tb E B L : Nat} {l : List E16} (p : ByteArray) (hp : p.size ≤ 1000000) (w : World) (h : TbL16 S w tb E B L l) :
    Calls Try.prog 15 #[.pointer (some ⟨tb, 0, none⟩), .string p] w fun r w' => r = .returned (.tuple #[.string (add16 E B l p).1.1, .int .i64 ((add16 E B l p).1.2 : Nat)]) ∧ TbL16 S w' tb E B L (add16 E B l p).2 ∧ Kb S w w' := by
  obtain ⟨mb, ms, clock, t, rfl⟩ := h.is
  refine (add16_any p hp w t).mono ?_
  rintro r w' ⟨ms', clock', rfl, t', e, k⟩
  exact ⟨rfl, ⟨⟨mb, ms', clock', t'.mono (fun i hi => hi.elim id (h.up i)), e⟩, fun i hi => h.up i (Nat.le_trans k.size hi)⟩, k⟩
theorem tick16_length (L : Nat) (l : List E16) : (tick16 L l).length ≤ l.length := by
  unfold tick16
  exact Nat.le_trans (List.length_filter_le _ _) (by simp)
theorem tickL16 {S : Nat → Prop} {tb E B L : Nat} {l : List E16} (w : World) (h : TbL16 S w tb E B L l) :
    Calls Try.prog 13 #[.pointer (some ⟨tb, 0, none⟩)] w fun r w' => r = .returned (.int .i64 ((l.length - (tick16 L l).length : Nat) : Int)) ∧ TbL16 S w' tb E B L (tick16 L l) ∧ Kb S w w' := by
  obtain ⟨mb, ms, clock, t, rfl⟩ := h.is
  refine (tick16_any w t).mono ?_
  rintro r w' ⟨ms', rfl, e, t', k⟩
  have e1 : (tick16 L (ms.map (·.e))).length = ms'.length := by rw [← e, List.length_map]
  refine ⟨?_, ⟨⟨mb, ms', clock, t', e⟩, fun i hi => h.up i (Nat.le_trans k.size hi)⟩, k⟩
  rw [e1, List.length_map]
theorem lenL16 {S : Nat → Prop} {tb E B L : Nat} {l : List E16} (w : World) (h : TbL16 S w tb E B L l) :
    Calls Try.prog 17 #[.pointer (some ⟨tb, 0, none⟩)] w (Tells (.int .i64 (l.length : Nat)) w) := by
  obtain ⟨mb, ms, clock, t, rfl⟩ := h.is
  have e : (ms.map (·.e)).length = ms.length := List.length_map ..
  rw [e]
  exact len16_any w t
theorem bytesL16 {S : Nat → Prop} {tb E B L : Nat} {l : List E16} (w : World) (h : TbL16 S w tb E B L l) :
    Calls Try.prog 18 #[.pointer (some ⟨tb, 0, none⟩)] w (Tells (.int .i64 (bytes16 l : Nat)) w) := by
  obtain ⟨mb, ms, clock, t, rfl⟩ := h.is
  exact bytes16_any w t
theorem openL16 {S : Nat → Prop} {tb E B L : Nat} {l : List E16} (w : World) (h : TbL16 S w tb E B L l) :
    Calls Try.prog 20 #[.pointer (some ⟨tb, 0, none⟩)] w (Tells (.int .i64 (open16 l : Nat)) w) := by
  obtain ⟨mb, ms, clock, t, rfl⟩ := h.is
  exact open16_any w t
/-- New's answer, so. -/
def NewL16 (s : S16) (w : World) (r : Ending) (w' : World) : Prop :=
  (s.Right ∧ ∃ tb, r = .returned (.tuple #[.pointer (some ⟨tb, 0, none⟩), .int .i64 0]) ∧ TbL16 (fun i => w.heap.size ≤ i) w' tb s.e.toNat s.b.toNat s.l.toNat [] ∧ Below w.heap.size w w') ∨
  (¬ s.Right ∧ r = .returned (.tuple #[.pointer none, .int .i64 1]) ∧ Below w.heap.size w w')
theorem newL16 (s : S16) (w : World) : Calls Try.prog 11 #[.agg s.cells] w (NewL16 s w) := by
  refine (new16_any s w).mono ?_
  rintro r w' (⟨hr, tb, mb, clock, rfl, t, b⟩ | ⟨hr, rfl, b⟩)
  · exact Or.inl ⟨hr, tb, rfl, ⟨⟨mb, [], clock, t, rfl⟩, fun i hi => Nat.le_trans b.size hi⟩, b⟩
  · exact Or.inr ⟨hr, rfl, b⟩
/-- Cells that aren't the table's stay. -/
theorem Kb.cellK {S : Nat → Prop} {w w' : World} (k : Kb S w w') {p : Addr} (hl : p.block < w.heap.size) (hs : ¬ S p.block) : w'.cell? p = w.cell? p := by
  unfold World.cell?
  rw [k.block _ hl hs]

end Go.Proofs.Ytoijomdgcgbpbaa
