/-
  The program's table and the document's, side by side: what each call leaves of both.
-/
import Derived.Test.YtoijomdgcgbpbaaReasmRAdd
import Derived.Test.YtoijomdgcgbpbaaReasmRRight
namespace Go.Proofs.Ytoijomdgcgbpbaa
open Go.RowKit Go.Shelf
set_option linter.unusedVariables false

/-- Both tables, their blocks apart, all made since w. -/
structure PairR16 (w W : World) (s : S16) (tb mb : Nat) (l : List E16) (S R : Nat → Prop) (v : Value) (ms : List (R16 × Value)) : Prop where
  tb : TbS16 S W tb s.e.toNat s.b.toNat s.l.toNat l
  rt : RT16 R W mb s v ms
  rel : Rels l (ms.map (·.1))
  sep : ∀ i, S i → ¬ R i
  rlt : ∀ i, R i → i < W.heap.size
  slo : ∀ i, S i → w.heap.size ≤ i
  rlo : ∀ i, R i → w.heap.size ≤ i
  bel : Below w.heap.size w W
def Both16 (w W : World) (s : S16) (tb mb : Nat) (l : List E16) (v : Value) (ms : List (R16 × Value)) : Prop := ∃ S R, PairR16 w W s tb mb l S R v ms

theorem RT16.cut {R : Nat → Prop} {W : World} {mb : Nat} {s : S16} {v : Value} {ms : List (R16 × Value)} (h : RT16 R W mb s v ms) : RT16 (fun i => R i ∧ i < W.heap.size) W mb s v ms :=
  ⟨h.tb, h.row, h.ps, ⟨h.rt, h.tb.lt⟩, fun g e => ⟨h.rv g e, (h.row.lt g e).2⟩, fun m hm g e => ⟨h.rp m hm g e, ((h.ps m hm).lt g e).2⟩⟩
theorem PairR16.below {w W W' : World} {s : S16} {tb mb : Nat} {l : List E16} {S R : Nat → Prop} {v : Value} {ms : List (R16 × Value)} (h : PairR16 w W s tb mb l S R v ms) (b : Below W.heap.size W W') : PairR16 w W' s tb mb l S R v ms :=
  ⟨h.tb.other (T := fun i => W.heap.size ≤ i) ⟨b.os, b.tape, b.output, b.size, fun i hi _ => b.block i hi⟩ (fun i hi e => by have := h.tb.lt i hi; omega), h.rt.below b, h.rel, h.sep, fun i hi => Nat.lt_of_lt_of_le (h.rlt i hi) b.size, h.slo, h.rlo, h.bel.trans (b.mono h.bel.size)⟩
theorem Both16.below {w W W' : World} {s : S16} {tb mb : Nat} {l : List E16} {v : Value} {ms : List (R16 × Value)} (h : Both16 w W s tb mb l v ms) (b : Below W.heap.size W W') : Both16 w W' s tb mb l v ms := by
  obtain ⟨S, R, p⟩ := h
  exact ⟨S, R, p.below b⟩
/-- The program's call is done, the document's not yet. -/
structure Half16 (w W : World) (s : S16) (tb mb : Nat) (l' l : List E16) (S R : Nat → Prop) (v : Value) (ms : List (R16 × Value)) : Prop where
  tb : TbS16 S W tb s.e.toNat s.b.toNat s.l.toNat l'
  rt : RT16 R W mb s v ms
  rel : Rels l (ms.map (·.1))
  sep : ∀ i, S i → ¬ R i
  rlt : ∀ i, R i → i < W.heap.size
  slo : ∀ i, S i → w.heap.size ≤ i
  rlo : ∀ i, R i → w.heap.size ≤ i
  bel : Below w.heap.size w W
theorem Half16.below {w W W' : World} {s : S16} {tb mb : Nat} {l l' : List E16} {S R : Nat → Prop} {v : Value} {ms : List (R16 × Value)} (h : Half16 w W s tb mb l' l S R v ms) (b : Below W.heap.size W W') : Half16 w W' s tb mb l' l S R v ms :=
  ⟨h.tb.other (T := fun i => W.heap.size ≤ i) ⟨b.os, b.tape, b.output, b.size, fun i hi _ => b.block i hi⟩ (fun i hi e => by have := h.tb.lt i hi; omega), h.rt.below b, h.rel, h.sep, fun i hi => Nat.lt_of_lt_of_le (h.rlt i hi) b.size, h.slo, h.rlo, h.bel.trans (b.mono h.bel.size)⟩
theorem PairR16.first {w W W' : World} {s : S16} {tb mb : Nat} {l l' : List E16} {S R : Nat → Prop} {v : Value} {ms : List (R16 × Value)} (h : PairR16 w W s tb mb l S R v ms) (t : TbL16 (fun i => S i ∨ W.heap.size ≤ i) W' tb s.e.toNat s.b.toNat s.l.toNat l') (k : Kb (fun i => S i ∨ W.heap.size ≤ i) W W') :
    Half16 w W' s tb mb l' l (fun i => S i ∨ (W.heap.size ≤ i ∧ i < W'.heap.size)) R v ms := by
  have hz := h.bel.size
  refine ⟨h.tb.own t k.size, h.rt.kb k (fun i hi hlt e => ?_), h.rel, fun i hi hr => ?_, fun i hi => Nat.lt_of_lt_of_le (h.rlt i hi) k.size, fun i hi => ?_, h.rlo, h.bel.trans ⟨k.os, k.tape, k.output, k.size, fun i hi => k.block i (Nat.lt_of_lt_of_le hi hz) (fun e => ?_)⟩⟩
  · rcases e with e | e
    · exact h.sep i e hi
    · omega
  · rcases hi with e | e
    · exact h.sep i e hr
    · have := h.rlt i hr; omega
  · rcases hi with e | e
    · exact h.slo i e
    · omega
  · rcases e with e | e
    · have := h.slo i e; omega
    · omega
theorem Half16.second {w W W' : World} {s : S16} {tb mb : Nat} {l l' : List E16} {S R : Nat → Prop} {v v' : Value} {ms ms' : List (R16 × Value)} (h : Half16 w W s tb mb l' l S R v ms) (t : RT16 (fun i => R i ∨ W.heap.size ≤ i) W' mb s v' ms') (k : Kb R W W') (rel : Rels l' (ms'.map (·.1))) : Both16 w W' s tb mb l' v' ms' := by
  have hz := h.bel.size
  refine ⟨S, fun i => (R i ∨ W.heap.size ≤ i) ∧ i < W'.heap.size, h.tb.other k h.sep, t.cut, rel, fun i hi hr => ?_, fun i hi => hi.2, h.slo, fun i hi => ?_, h.bel.trans ⟨k.os, k.tape, k.output, k.size, fun i hi => k.block i (Nat.lt_of_lt_of_le hi hz) (fun e => by have := h.rlo i e; omega)⟩⟩
  · rcases hr.1 with e | e
    · exact h.sep i hi e
    · have := h.tb.lt i hi; omega
  · rcases hi.1 with e | e
    · exact h.rlo i e
    · omega

def HalfB (w W : World) (s : S16) (tb mb : Nat) (l' l : List E16) (v : Value) (ms : List (R16 × Value)) : Prop := ∃ S R, Half16 w W s tb mb l' l S R v ms
theorem padd16 {w W : World} {s : S16} {tb mb : Nat} {l : List E16} {v : Value} {ms : List (R16 × Value)} (p : ByteArray) (hp : p.size ≤ 1000000) (h : Both16 w W s tb mb l v ms) :
    Calls Try.prog 15 #[.pointer (some ⟨tb, 0, none⟩), .string p] W fun r W' => r = .returned (.tuple #[.string (add16 s.e.toNat s.b.toNat l p).1.1, .int .i64 ((add16 s.e.toNat s.b.toNat l p).1.2 : Nat)]) ∧ HalfB w W' s tb mb (add16 s.e.toNat s.b.toNat l p).2 l v ms := by
  obtain ⟨S, R, q⟩ := h
  refine (addL16 p hp W q.tb.tab).mono ?_
  rintro r W' ⟨rfl, t, k⟩
  exact ⟨rfl, _, _, q.first t k⟩
theorem pradd16 {w W : World} {s : S16} {tb mb : Nat} {l : List E16} {v : Value} {ms : List (R16 × Value)} (p : ByteArray) (hp : p.size ≤ 1000000) (hs : s.Right) (t : Tab16 s.e.toNat s.b.toNat s.l.toNat l) (h : HalfB w W s tb mb (add16 s.e.toNat s.b.toNat l p).2 l v ms) :
    Calls Try.prog 16 #[.pointer (some ⟨mb, 0, none⟩), .string p] W fun r W' => r = .returned (.tuple #[.string (add16 s.e.toNat s.b.toNat l p).1.1, .int .i64 ((add16 s.e.toNat s.b.toNat l p).1.2 : Nat)]) ∧ ∃ v' ms', Both16 w W' s tb mb (add16 s.e.toNat s.b.toNat l p).2 v' ms' := by
  obtain ⟨S, R, q⟩ := h
  refine (radd16_any p hp W q.rt hs t q.rel).mono ?_
  rintro r W' ⟨rfl, ⟨v', ms', t', rel'⟩, k⟩
  exact ⟨rfl, v', ms', q.second t' k rel'⟩
theorem Both16.tab {w W : World} {s : S16} {tb mb : Nat} {l : List E16} {v : Value} {ms : List (R16 × Value)} (h : Both16 w W s tb mb l v ms) : Tab16 s.e.toNat s.b.toNat s.l.toNat l := by
  obtain ⟨S, R, q⟩ := h
  exact q.tb.tab.tab
theorem Both16.rel {w W : World} {s : S16} {tb mb : Nat} {l : List E16} {v : Value} {ms : List (R16 × Value)} (h : Both16 w W s tb mb l v ms) : Rels l (ms.map (·.1)) := by
  obtain ⟨S, R, q⟩ := h
  exact q.rel
theorem Both16.bel {w W : World} {s : S16} {tb mb : Nat} {l : List E16} {v : Value} {ms : List (R16 × Value)} (h : Both16 w W s tb mb l v ms) : Below w.heap.size w W := by
  obtain ⟨S, R, q⟩ := h
  exact q.bel
theorem ptick16 {w W : World} {s : S16} {tb mb : Nat} {l : List E16} {v : Value} {ms : List (R16 × Value)} (h : Both16 w W s tb mb l v ms) :
    Calls Try.prog 13 #[.pointer (some ⟨tb, 0, none⟩)] W fun r W' => r = .returned (.int .i64 ((l.length - (tick16 s.l.toNat l).length : Nat) : Int)) ∧ HalfB w W' s tb mb (tick16 s.l.toNat l) l v ms := by
  obtain ⟨S, R, q⟩ := h
  refine (tickL16 W q.tb.tab).mono ?_
  rintro r W' ⟨rfl, t, k⟩
  exact ⟨rfl, _, _, q.first t k⟩
theorem Rels.ages {E B L : Nat} {l : List E16} (t : Tab16 E B L l) {rl : List R16} (r : Rels l rl) : ∀ u ∈ rl, u.age ≤ 64 := by
  intro u hu
  obtain ⟨i, hi, rfl⟩ := List.getElem_of_mem hu
  have hl : i < l.length := by have := r.length; omega
  have h1 := (r.get hl hi).age
  have h2 := (t.each _ (List.getElem_mem hl)).age
  have h3 := t.store
  omega
theorem ptick16r {w W : World} {s : S16} {tb mb : Nat} {l : List E16} {v : Value} {ms : List (R16 × Value)} (hs : s.Right) (t : Tab16 s.e.toNat s.b.toNat s.l.toNat l) (h : HalfB w W s tb mb (tick16 s.l.toNat l) l v ms) :
    Calls Try.prog 14 #[.pointer (some ⟨mb, 0, none⟩)] W fun r W' => r = .returned (.int .i64 ((l.length - (tick16 s.l.toNat l).length : Nat) : Int)) ∧ ∃ v' ms', Both16 w W' s tb mb (tick16 s.l.toNat l) v' ms' := by
  obtain ⟨S, R, q⟩ := h
  have hlen := q.rel.length
  rw [List.length_map] at hlen
  have h3 := t.store
  have h4 := t.len
  refine (rtick16_any W q.rt (by omega) ⟨hs.2.2.1, hs.2.2.2⟩ (fun m hm => Rels.ages t q.rel _ (List.mem_map_of_mem hm))).mono ?_
  rintro r W' ⟨rfl, ⟨v', t'⟩, k⟩
  have hr : Rels (tick16 s.l.toNat l) ((mtick s.l.toNat ms ms.length).map (·.1)) := by
    rw [mtick_all]
    exact q.rel.tick _
  have hl2 := hr.length
  rw [List.length_map] at hl2
  refine ⟨by rw [hlen, hl2], v', _, q.second t' k hr⟩
/-- What both tell of themselves. -/
theorem plen16 {w W : World} {s : S16} {tb mb : Nat} {l : List E16} {v : Value} {ms : List (R16 × Value)} (h : Both16 w W s tb mb l v ms) : Calls Try.prog 17 #[.pointer (some ⟨tb, 0, none⟩)] W (Tells (.int .i64 (l.length : Nat)) W) := by
  obtain ⟨S, R, q⟩ := h
  exact lenL16 W q.tb.tab
theorem pbytes16 {w W : World} {s : S16} {tb mb : Nat} {l : List E16} {v : Value} {ms : List (R16 × Value)} (h : Both16 w W s tb mb l v ms) : Calls Try.prog 18 #[.pointer (some ⟨tb, 0, none⟩)] W (Tells (.int .i64 (bytes16 l : Nat)) W) := by
  obtain ⟨S, R, q⟩ := h
  exact bytesL16 W q.tb.tab
theorem popen16 {w W : World} {s : S16} {tb mb : Nat} {l : List E16} {v : Value} {ms : List (R16 × Value)} (h : Both16 w W s tb mb l v ms) : Calls Try.prog 20 #[.pointer (some ⟨tb, 0, none⟩)] W (Tells (.int .i64 (open16 l : Nat)) W) := by
  obtain ⟨S, R, q⟩ := h
  exact openL16 W q.tb.tab
theorem pbytes16r {w W : World} {s : S16} {tb mb : Nat} {l : List E16} {v : Value} {ms : List (R16 × Value)} (h : Both16 w W s tb mb l v ms) : Calls Try.prog 19 #[.pointer (some ⟨mb, 0, none⟩)] W (Tells (.int .i64 (bytes16 l : Nat)) W) := by
  have t := h.tab
  obtain ⟨S, R, q⟩ := h
  have hlen := q.rel.length
  rw [List.length_map] at hlen
  have h3 := t.store
  have h4 := t.len
  have h5 := t.bytes
  rw [q.rel.bytes] at h5 ⊢
  exact rbytes16_any W q.rt (by omega) (by omega) (fun m hm => Rels.few t q.rel _ (List.mem_map_of_mem hm))
theorem popen16r {w W : World} {s : S16} {tb mb : Nat} {l : List E16} {v : Value} {ms : List (R16 × Value)} (h : Both16 w W s tb mb l v ms) : Calls Try.prog 21 #[.pointer (some ⟨mb, 0, none⟩)] W (Tells (.int .i64 (open16 l : Nat)) W) := by
  have t := h.tab
  obtain ⟨S, R, q⟩ := h
  have hlen := q.rel.length
  rw [List.length_map] at hlen
  have h3 := t.store
  have h4 := t.len
  rw [q.rel.opens]
  exact ropen16_any W q.rt (by omega)
theorem Both16.row {w W : World} {s : S16} {tb mb : Nat} {l : List E16} {v : Value} {ms : List (R16 × Value)} (h : Both16 w W s tb mb l v ms) : ∃ a c, v = .slice a l.length c ∧ W.cell? ⟨mb, 3, none⟩ = some v := by
  obtain ⟨S, R, q⟩ := h
  obtain ⟨a, c, e⟩ := owns_len q.rt.row
  have hlen := q.rel.length
  rw [List.length_map] at hlen
  exact ⟨a, c, by rw [hlen]; exact e, q.rt.tb.cell 3⟩
/-- At the start. -/
theorem both16_start {w W : World} {s : S16} {tb B : Nat} (hw : w.heap.size ≤ B) (t : TbL16 (fun i => B ≤ i) W tb s.e.toNat s.b.toNat s.l.toNat []) (b : Below w.heap.size w W) :
    Both16 w (W.alloc (.cells #[.int .i64 s.e, .int .i64 s.b, .int .i64 s.l, .slice none 0 0] 35)) s tb W.heap.size [] (.slice none 0 0) [] := by
  have hz := b.size
  obtain ⟨mb, ms, clock, t1, e⟩ := t.is
  have t2 := t1.cut
  have b2 := (Below.refl W.heap.size W).alloc (Nat.le_refl _) (.cells #[.int .i64 s.e, .int .i64 s.b, .int .i64 s.l, .slice none 0 0] 35)
  refine ⟨fun i => B ≤ i ∧ i < W.heap.size, fun i => i = W.heap.size, ⟨⟨⟨mb, ms, clock, (t2.below b2).mono (fun i hi => Or.inl hi), e⟩, fun i hi => Or.inr hi⟩, fun i hi => ?_⟩, ⟨Blk.new W _ _, ⟨rfl, Or.inl ⟨rfl, rfl⟩⟩, fun m hm => (List.not_mem_nil hm).elim, rfl, (fun g e => by cases e), fun m hm => (List.not_mem_nil hm).elim⟩, trivial, (fun i hi e => by have := hi.2; omega), fun i hi => ?_, fun i hi => Nat.le_trans hw hi.1, (fun i hi => by omega), b.trans (b2.mono hz)⟩
  · have := hi.2
    simp
    omega
  · simp
    omega

end Go.Proofs.Ytoijomdgcgbpbaa
