/-
  A table in memory: its block, its map, its entries' blocks and their rows of pieces.
-/
import Derived.Test.YtoijomdgcgbpbaaReasmRange
import Derived.Test.YtoijomdgcgbpbaaReasmPiece
import Derived.Laws.AppendOwn
namespace Go.Proofs.Ytoijomdgcgbpbaa
open Go.RowKit
set_option linter.unusedVariables false

def P16.cells (x : P16) : List Value := [.int .i64 (x.lo : Nat), .string x.s, .bool x.last]
/-- Pieces as cells. -/
def pcs16 (qs : List P16) : List Value := qs.flatMap P16.cells
theorem pcs16_length (qs : List P16) : (pcs16 qs).length = qs.length * 3 := by
  induction qs with
  | nil => rfl
  | cons x r ih =>
    have e : pcs16 (x :: r) = P16.cells x ++ pcs16 r := by simp [pcs16]
    rw [e, List.length_append, ih, List.length_cons]
    simp [P16.cells]
    omega
theorem pcs16_append (a b : List P16) : pcs16 (a ++ b) = pcs16 a ++ pcs16 b := by simp [pcs16]
theorem pcs16_cons (x : P16) (b : List P16) : pcs16 (x :: b) = P16.cells x ++ pcs16 b := by simp [pcs16]
theorem pcs16_one (qs : List P16) : ∀ u ∈ pcs16 qs, u.oneCell' = true := by
  intro u hu
  unfold pcs16 at hu
  rw [List.mem_flatMap] at hu
  obtain ⟨x, _, hx⟩ := hu
  simp only [P16.cells, List.mem_cons, List.not_mem_nil, or_false] at hx
  rcases hx with rfl | rfl | rfl <;> rfl
theorem pcs16_take (qs : List P16) (i : Nat) : (pcs16 qs).take (i * 3) = pcs16 (qs.take i) := by
  by_cases h : i ≤ qs.length
  · have e : pcs16 qs = pcs16 (qs.take i) ++ pcs16 (qs.drop i) := by rw [← pcs16_append, List.take_append_drop]
    rw [e, List.take_left' (by rw [pcs16_length, List.length_take]; omega)]
  · rw [List.take_of_length_le (by rw [pcs16_length]; omega), List.take_of_length_le (by omega)]
theorem pcs16_drop (qs : List P16) (i : Nat) : (pcs16 qs).drop (i * 3) = pcs16 (qs.drop i) := by
  by_cases h : i ≤ qs.length
  · have e : pcs16 qs = pcs16 (qs.take i) ++ pcs16 (qs.drop i) := by rw [← pcs16_append, List.take_append_drop]
    rw [e, List.drop_left' (by rw [pcs16_length, List.length_take]; omega)]
  · rw [List.drop_of_length_le (by rw [pcs16_length]; omega), List.drop_of_length_le (by omega)]
    rfl
theorem pcs16_at (qs : List P16) (i : Nat) (hi : i < qs.length) : (pcs16 qs)[i * 3]? = some (.int .i64 ((qs[i]'hi).lo : Nat)) ∧ (pcs16 qs)[i * 3 + 1]? = some (.string (qs[i]'hi).s) ∧ (pcs16 qs)[i * 3 + 2]? = some (.bool (qs[i]'hi).last) := by
  have h := pcs16_drop qs i
  rw [List.drop_eq_getElem_cons hi, pcs16_cons] at h
  have key : ∀ j, (pcs16 qs)[i * 3 + j]? = (P16.cells (qs[i]'hi) ++ pcs16 (qs.drop (i + 1)))[j]? := fun j => by rw [← h, List.getElem?_drop]
  refine ⟨?_, ?_, ?_⟩
  · have := key 0; simpa [P16.cells] using this
  · have := key 1; simpa [P16.cells] using this
  · have := key 2; simpa [P16.cells] using this

/-- A slice of pieces. -/
def Row16 (w : World) (v : Value) (qs : List P16) : Prop := w.ownsRow 0 79 3 v qs.length (pcs16 qs)
theorem Row16.kb {S : Nat → Prop} {w w' : World} {v : Value} {qs : List P16} (h : Row16 w v qs) (k : Kb S w w') (hf : ∀ g, v.ownBlock = some g → ¬ S g) : Row16 w' v qs := by
  refine ⟨h.1, ?_⟩
  rcases h.2 with h2 | ⟨g, cap, cur, rfl, hb, hg, r⟩
  · exact Or.inl h2
  · exact Or.inr ⟨g, cap, cur, rfl, hb, (k.block g (Array.getElem?_eq_some_iff.1 hg).1 (hf g rfl)).trans hg, r⟩
theorem Row16.lt {w : World} {v : Value} {qs : List P16} (h : Row16 w v qs) : ∀ g, v.ownBlock = some g → g < w.heap.size := by
  intro g e
  rcases h.2 with ⟨rfl, _⟩ | ⟨g', cap, cur, rfl, hb, hg, r⟩
  · simp [Value.ownBlock] at e
  · have : g' = g := by simpa [Value.ownBlock] using e
    subst this
    exact (Array.getElem?_eq_some_iff.1 hg).1
theorem Row16.blk {w : World} {v : Value} {qs : List P16} (h : Row16 w v qs) : ∀ g, v.ownBlock = some g → ∃ cur, w.heap[g]? = some (.cells cur 79 (0, 0)) := by
  intro g e
  rcases h.2 with ⟨rfl, _⟩ | ⟨g', cap, cur, rfl, hb, hg, r⟩
  · simp [Value.ownBlock] at e
  · have : g' = g := by simpa [Value.ownBlock] using e
    subst this
    exact ⟨cur, hg⟩
theorem Row16.nil (w : World) : Row16 w (.slice none 0 0) [] := ⟨rfl, Or.inl ⟨rfl, rfl⟩⟩
theorem Row16.some {w : World} {v : Value} {qs : List P16} (h : Row16 w v qs) (hq : qs ≠ []) : ∃ g cap, v = .slice (some ⟨g, 0, none⟩) qs.length cap ∧ g < w.heap.size ∧ qs.length ≤ cap ∧ cap ≤ maxLen ∧
    ∀ i (hi : i < qs.length), w.cell? ⟨g, i * 3, none⟩ = some (.int .i64 ((qs[i]'hi).lo : Nat)) ∧ w.cell? ⟨g, i * 3 + 1, none⟩ = some (.string (qs[i]'hi).s) ∧ w.cell? ⟨g, i * 3 + 2, none⟩ = some (.bool (qs[i]'hi).last) := by
  rcases h.2 with ⟨_, h0⟩ | ⟨g, cap, cur, rfl, hb, hg, hn, hm, hs, ht⟩
  · exact absurd (List.length_eq_zero_iff.1 h0) hq
  · refine ⟨g, cap, rfl, (Array.getElem?_eq_some_iff.1 hg).1, hn, hm, fun i hi => ?_⟩
    have key : ∀ j, j < qs.length * 3 → w.cell? ⟨g, j, none⟩ = (pcs16 qs)[j]? := by
      intro j hj
      rw [← ht, List.getElem?_take_of_lt hj]
      simp [World.cell?, hg]
    have ⟨a, b, c⟩ := pcs16_at qs i hi
    exact ⟨(key _ (by omega)).trans a, (key _ (by omega)).trans b, (key _ (by omega)).trans c⟩
theorem Row16.none {w : World} {v : Value} {qs : List P16} (h : Row16 w v qs) : ∃ a cap, v = .slice a qs.length cap ∧ qs.length ≤ cap ∧ cap ≤ maxLen := by
  rcases h.2 with ⟨rfl, h0⟩ | ⟨g, cap, cur, rfl, hb, hg, hn, hm, _⟩
  · exact ⟨_, _, by rw [h0], by omega, by unfold maxLen; omega⟩
  · exact ⟨_, _, rfl, hn, hm⟩

def E16.cells (e : E16) (v : Value) : Array Value := #[.int .i64 e.hd.tos, .int .i64 e.hd.id, .int .i64 e.hd.off, .int .i64 e.hd.ttl, .int .i64 e.hd.proto, .bool e.hd.df, .bool e.hd.mf, .string e.hd.src, .string e.hd.dst, .string e.hd.opt,
  v, .int .i64 (sum16 e.qs : Nat), .int .i64 (e.age : Nat), .bool e.done]
/-- An entry: its block, its row. -/
structure En16 (w : World) (e : E16) (eb : Nat) (v : Value) : Prop where
  b : Blk w eb (e.cells v) 72
  r : Row16 w v e.qs
theorem En16.kb {S : Nat → Prop} {w w' : World} {e : E16} {eb : Nat} {v : Value} (h : En16 w e eb v) (k : Kb S w w') (h1 : ¬ S eb) (h2 : ∀ g, v.ownBlock = some g → ¬ S g) : En16 w' e eb v := ⟨h.b.kb k h1, h.r.kb k h2⟩
theorem En16.ne {w : World} {e : E16} {eb : Nat} {v : Value} (h : En16 w e eb v) : v.ownBlock ≠ some eb := fun x => by
  obtain ⟨cur, hc⟩ := h.r.blk eb x
  have hb := h.b
  unfold Blk at hb
  rw [hc] at hb
  simp at hb

/-- An entry, and where it lies. -/
structure M16 where
  e : E16
  eb : Nat
  v : Value
  born : Nat
def M16.me (m : M16) : Me16 := ⟨m.e.k, m.eb, m.born⟩
def M16.own (m : M16) (k : Nat) : Prop := k = m.eb ∨ m.v.ownBlock = some k

/-- A table: all its blocks are among O. -/
structure Tb16 (O : Nat → Prop) (w : World) (tb mb E B L : Nat) (ms : List M16) (clock : Nat) : Prop where
  tbl : Blk w tb #[.int .i64 (E : Nat), .int .i64 (B : Nat), .int .i64 (L : Nat), .map (some mb)] 65
  map : Map16 w mb (ms.map M16.me) clock
  ents : ∀ m ∈ ms, En16 w m.e m.eb m.v
  apart : ms.Pairwise fun a b => ∀ k, a.own k → ¬ b.own k
  born : ∀ m ∈ ms, m.born < clock
  nodup : (ms.map (·.born)).Nodup
  ot : O tb
  om : O mb
  oe : ∀ m ∈ ms, ∀ k, m.own k → O k
  tab : Tab16 E B L (ms.map (·.e))

theorem Tb16.kb {O S : Nat → Prop} {w w' : World} {tb mb E B L clock : Nat} {ms : List M16} (h : Tb16 O w tb mb E B L ms clock) (k : Kb S w w') (hs : ∀ i, O i → ¬ S i) : Tb16 O w' tb mb E B L ms clock :=
  ⟨h.tbl.kb k (hs _ h.ot), h.map.kb k (hs _ h.om), fun m hm => (h.ents m hm).kb k (hs _ (h.oe m hm _ (Or.inl rfl))) (fun g e => hs _ (h.oe m hm _ (Or.inr e))), h.apart, h.born, h.nodup, h.ot, h.om, h.oe, h.tab⟩
theorem Tb16.lt {O : Nat → Prop} {w : World} {tb mb E B L clock : Nat} {ms : List M16} (h : Tb16 O w tb mb E B L ms clock) : tb < w.heap.size ∧ mb < w.heap.size ∧ ∀ m ∈ ms, ∀ k, m.own k → k < w.heap.size :=
  ⟨h.tbl.lt, h.map.lt, fun m hm k hk => by
    rcases hk with rfl | hk
    · exact (h.ents m hm).b.lt
    · exact (h.ents m hm).r.lt k hk⟩
/-- Blocks that are made leave it as it is. -/
theorem Tb16.below {O : Nat → Prop} {w w' : World} {tb mb E B L clock : Nat} {ms : List M16} (h : Tb16 O w tb mb E B L ms clock) (hb : Below w.heap.size w w') : Tb16 O w' tb mb E B L ms clock := by
  have k : Kb (fun i => w.heap.size ≤ i) w w' := ⟨hb.os, hb.tape, hb.output, hb.size, fun i hi _ => hb.block i hi⟩
  have ⟨l1, l2, l3⟩ := h.lt
  exact ⟨h.tbl.kb k (by omega), h.map.kb k (by omega), fun m hm => (h.ents m hm).kb k (by have := l3 m hm _ (Or.inl rfl); omega) (fun g e => by have := l3 m hm _ (Or.inr e); omega), h.apart, h.born, h.nodup, h.ot, h.om, h.oe, h.tab⟩
theorem Tb16.mono {O O' : Nat → Prop} {w : World} {tb mb E B L clock : Nat} {ms : List M16} (h : Tb16 O w tb mb E B L ms clock) (ho : ∀ k, O k → O' k) : Tb16 O' w tb mb E B L ms clock :=
  ⟨h.tbl, h.map, h.ents, h.apart, h.born, h.nodup, ho _ h.ot, ho _ h.om, fun m hm k hk => ho _ (h.oe m hm k hk), h.tab⟩
/-- The table's own blocks are unlike its entries'. -/
theorem Tb16.ne {O : Nat → Prop} {w : World} {tb mb E B L clock : Nat} {ms : List M16} (h : Tb16 O w tb mb E B L ms clock) : tb ≠ mb ∧ ∀ m ∈ ms, ¬ m.own tb ∧ ¬ m.own mb := by
  have ht : w.heap[tb]? = some _ := h.tbl
  have hm : w.heap[mb]? = some _ := h.map
  refine ⟨fun e => by subst e; rw [ht] at hm; simp at hm, fun m hmm => ⟨?_, ?_⟩⟩
  · rintro (e | e)
    · have hb : w.heap[m.eb]? = some _ := (h.ents m hmm).b
      rw [← e, ht] at hb
      simp at hb
    · obtain ⟨cur, hc⟩ := (h.ents m hmm).r.blk _ e
      rw [ht] at hc
      simp at hc
  · rintro (e | e)
    · have hb : w.heap[m.eb]? = some _ := (h.ents m hmm).b
      rw [← e, hm] at hb
      simp at hb
    · obtain ⟨cur, hc⟩ := (h.ents m hmm).r.blk _ e
      rw [hm] at hc
      simp at hc

theorem seek_find (ms : List M16) (k : K16) : seek16 (ms.map M16.me) k = find16 (ms.map (·.e)) k := by
  unfold seek16 find16
  rw [List.findIdx_map, List.findIdx_map]
  rfl

/-- One entry is another one now. -/
theorem Tb16.set {O O' S : Nat → Prop} {w w' : World} {tb mb E B L clock : Nat} {a b : List M16} {m m' : M16} (h : Tb16 O w tb mb E B L (a ++ m :: b) clock) (k : Kb S w w') (hS : ∀ i, S i → m.own i) (hk : m'.e.k = m.e.k) (hb : m'.eb = m.eb) (hn : m'.born = m.born)
    (he : En16 w' m'.e m'.eb m'.v) (ho : ∀ i, m'.own i → m.own i ∨ w.heap.size ≤ i) (ht : Tab16 E B L ((a ++ m' :: b).map (·.e)))
    (hO : ∀ i, O i → O' i) (hO' : ∀ i, w.heap.size ≤ i → m'.own i → O' i) : Tb16 O' w' tb mb E B L (a ++ m' :: b) clock := by
  have ne := h.ne
  have lt := h.lt
  have hmm : m ∈ a ++ m :: b := by simp
  have hme : (a ++ m' :: b).map M16.me = (a ++ m :: b).map M16.me := by simp [M16.me, hk, hb, hn]
  have hap := h.apart
  rw [List.pairwise_append, List.pairwise_cons] at hap
  have others : ∀ x ∈ a ++ m :: b, (∀ i, m.own i → ¬ x.own i) → ∀ i, m'.own i → ¬ x.own i := by
    intro x hx hx2 i hi hxi
    rcases ho i hi with h1 | h1
    · exact hx2 i h1 hxi
    · have := lt.2.2 x hx i hxi
      omega
  refine ⟨h.tbl.kb k (fun e => (ne.2 m hmm).1 (hS _ e)), ?_, ?_, ?_, ?_, ?_, hO _ h.ot, hO _ h.om, ?_, ht⟩
  · rw [hme]
    exact h.map.kb k (fun e => (ne.2 m hmm).2 (hS _ e))
  · intro x hx
    rw [List.mem_append, List.mem_cons] at hx
    have keep : ∀ y ∈ a ++ m :: b, (∀ i, m.own i → ¬ y.own i) → En16 w' y.e y.eb y.v := fun y hy hy2 =>
      (h.ents y hy).kb k (fun e => hy2 _ (hS _ e) (Or.inl rfl)) (fun g eg e => hy2 _ (hS _ e) (Or.inr eg))
    rcases hx with hx | rfl | hx
    · exact keep x (by simp [hx]) (fun i hi hxi => hap.2.2 x hx m (List.mem_cons_self ..) i hxi hi)
    · exact he
    · exact keep x (by simp [hx]) (fun i hi => hap.2.1.1 x hx i hi)
  · rw [List.pairwise_append, List.pairwise_cons]
    refine ⟨hap.1, ⟨fun x hx => others x (by simp [hx]) (hap.2.1.1 x hx), hap.2.1.2⟩, fun x hx y hy => ?_⟩
    rcases List.mem_cons.1 hy with rfl | hy
    · intro i hxi hyi
      exact others x (by simp [hx]) (fun j hj hxj => hap.2.2 x hx m (List.mem_cons_self ..) j hxj hj) i hyi hxi
    · exact hap.2.2 x hx y (List.mem_cons_of_mem _ hy)
  · intro x hx
    rw [List.mem_append, List.mem_cons] at hx
    rcases hx with hx | rfl | hx
    · exact h.born x (by simp [hx])
    · rw [hn]; exact h.born m hmm
    · exact h.born x (by simp [hx])
  · have e : (a ++ m' :: b).map (·.born) = (a ++ m :: b).map (·.born) := by simp [hn]
    rw [e]
    exact h.nodup
  · intro x hx i hi
    rw [List.mem_append, List.mem_cons] at hx
    rcases hx with hx | rfl | hx
    · exact hO _ (h.oe x (by simp [hx]) i hi)
    · rcases ho i hi with h1 | h1
      · exact hO _ (h.oe m hmm i h1)
      · exact hO' i h1 hi
    · exact hO _ (h.oe x (by simp [hx]) i hi)

/-- An entry is gone. -/
theorem Tb16.drop {O S : Nat → Prop} {w w' : World} {tb mb E B L clock : Nat} {a b : List M16} {m : M16} (h : Tb16 O w tb mb E B L (a ++ m :: b) clock) (k : Kb S w w') (hS : ∀ i, S i → m.own i ∨ i = mb)
    (hm : Map16 w' mb ((a ++ b).map M16.me) clock) (ht : Tab16 E B L ((a ++ b).map (·.e))) : Tb16 O w' tb mb E B L (a ++ b) clock := by
  have ne := h.ne
  have hmm : m ∈ a ++ m :: b := by simp
  have sub : ∀ x ∈ a ++ b, x ∈ a ++ m :: b := by
    intro x hx
    rw [List.mem_append] at hx
    rcases hx with hx | hx <;> simp [hx]
  have hap := h.apart
  rw [List.pairwise_append, List.pairwise_cons] at hap
  refine ⟨h.tbl.kb k (fun e => ?_), hm, fun x hx => ?_, ?_, fun x hx => h.born x (sub x hx), ?_, h.ot, h.om, fun x hx => h.oe x (sub x hx), ht⟩
  · rcases hS _ e with e | e
    · exact (ne.2 m hmm).1 e
    · exact ne.1 e
  · have hx2 : ∀ i, m.own i → ¬ x.own i := by
      rw [List.mem_append] at hx
      rcases hx with hx | hx
      · exact fun i hi hxi => hap.2.2 x hx m (List.mem_cons_self ..) i hxi hi
      · exact hap.2.1.1 x hx
    refine (h.ents x (sub x hx)).kb k (fun e => ?_) (fun g eg e => ?_)
    · rcases hS _ e with e | e
      · exact hx2 _ e (Or.inl rfl)
      · exact (ne.2 x (sub x hx)).2 (e ▸ Or.inl rfl)
    · rcases hS _ e with e | e
      · exact hx2 _ e (Or.inr eg)
      · exact (ne.2 x (sub x hx)).2 (e ▸ Or.inr eg)
  · rw [List.pairwise_append]
    exact ⟨hap.1, hap.2.1.2, fun x hx y hy => hap.2.2 x hx y (List.mem_cons_of_mem _ hy)⟩
  · have := h.nodup
    rw [List.map_append, List.map_cons] at this
    rw [List.map_append]
    exact this.sublist (List.Sublist.append (List.Sublist.refl _) (List.sublist_cons_self _ _))
theorem Tb16.drew {O : Nat → Prop} {w : World} {tb mb E B L clock : Nat} {ms : List M16} (h : Tb16 O w tb mb E B L ms clock) : Tb16 O w.drew tb mb E B L ms clock :=
  h.kb (S := fun _ => False) (Kb.refl _ w).drew (fun _ _ e => e)
theorem Tb16.drewN {O : Nat → Prop} {w : World} {tb mb E B L clock : Nat} {ms : List M16} (h : Tb16 O w tb mb E B L ms clock) (n : Nat) : Tb16 O (w.drewN n) tb mb E B L ms clock :=
  h.kb (S := fun _ => False) ((Kb.refl _ w).drewN n) (fun _ _ e => e)
theorem Iter16.drewN {w : World} {r mb since : Nat} {seen : Array Nat} (h : Iter16 w r mb since seen) (n : Nat) : Iter16 (w.drewN n) r mb since seen := h
theorem Iter16.drew {w : World} {r mb since : Nat} {seen : Array Nat} (h : Iter16 w r mb since seen) : Iter16 w.drew r mb since seen := h
theorem Tb16.cut {O : Nat → Prop} {w : World} {tb mb E B L clock : Nat} {ms : List M16} (h : Tb16 O w tb mb E B L ms clock) : Tb16 (fun i => O i ∧ i < w.heap.size) w tb mb E B L ms clock := by
  have l := h.lt
  exact ⟨h.tbl, h.map, h.ents, h.apart, h.born, h.nodup, ⟨h.ot, l.1⟩, ⟨h.om, l.2.1⟩, fun m hm k hk => ⟨h.oe m hm k hk, l.2.2 m hm k hk⟩, h.tab⟩

end Go.Proofs.Ytoijomdgcgbpbaa
