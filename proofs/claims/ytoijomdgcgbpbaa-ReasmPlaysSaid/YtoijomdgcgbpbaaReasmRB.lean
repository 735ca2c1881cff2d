/-
  The document's table in memory: its block, its row of entries, their rows of pieces.
-/
import Derived.Test.YtoijomdgcgbpbaaReasmRA
import Derived.Test.YtoijomdgcgbpbaaReasmNew
import Derived.Laws.AppendOwn
import Derived.Deep.AppendLies
import Derived.OwnWalk
import Derived.Deep.QuietTactic
import Derived.BigQuiet
import Derived.Laws.OwnMore
namespace Go.Proofs.Ytoijomdgcgbpbaa
open Go.RowKit
set_option linter.unusedVariables false

theorem flat_length {α : Type} (f : α → List Value) (n : Nat) (hn : ∀ x, (f x).length = n) (l : List α) : (l.flatMap f).length = l.length * n := by
  induction l with
  | nil => simp
  | cons a r ih => rw [List.flatMap_cons, List.length_append, ih, hn, List.length_cons, Nat.add_mul]; omega
theorem flat_at {α : Type} (f : α → List Value) (n : Nat) (hn : ∀ x, (f x).length = n) : ∀ (l : List α) (i : Nat) (hi : i < l.length) (j : Nat), j < n → (l.flatMap f)[i * n + j]? = (f (l[i]'hi))[j]?
  | a :: r, 0, hi, j, hj => by
    rw [List.flatMap_cons, Nat.zero_mul, Nat.zero_add, List.getElem?_append_left (by rw [hn]; exact hj)]
    rfl
  | a :: r, i + 1, hi, j, hj => by
    rw [List.flatMap_cons, List.getElem?_append_right (by rw [hn, Nat.add_mul]; omega), hn, show (i + 1) * n + j - n = i * n + j by rw [Nat.add_mul]; omega, flat_at f n hn r i (by simpa using hi) j hj]
    rfl
theorem pccells_length (x : H4 × ByteArray) : (pccells x).length = 11 := rfl
/-- An entry's cells. -/
def recells (m : R16 × Value) : List Value := [.int .i64 m.1.hd.tos, .int .i64 m.1.hd.id, .int .i64 m.1.hd.off, .int .i64 m.1.hd.ttl, .int .i64 m.1.hd.proto, .bool m.1.hd.df, .bool m.1.hd.mf, .string m.1.hd.src, .string m.1.hd.dst, .string m.1.hd.opt, m.2, .bool m.1.done, .int .i64 (m.1.age : Nat)]
theorem recells_length (m : R16 × Value) : (recells m).length = 13 := rfl
def RRow (W : World) (v : Value) (ps : List (H4 × ByteArray)) : Prop := W.ownsRow 0 85 11 v ps.length (ps.flatMap pccells)
def LRow (W : World) (v : Value) (ms : List (R16 × Value)) : Prop := W.ownsRow 0 75 13 v ms.length (ms.flatMap recells)
theorem owns_kb {S : Nat → Prop} {w w' : World} {b : Nat} {T : TypeId} {z n : Nat} {v : Value} {xs : List Value} (h : w.ownsRow b T z v n xs) (k : Kb S w w') (hf : ∀ g, v.ownBlock = some g → ¬ S g) : w'.ownsRow b T z v n xs := by
  refine ⟨h.1, ?_⟩
  rcases h.2 with h2 | ⟨g, cap, cur, rfl, hb, hg, r⟩
  · exact Or.inl h2
  · exact Or.inr ⟨g, cap, cur, rfl, hb, (k.block g (Array.getElem?_eq_some_iff.1 hg).1 (hf g rfl)).trans hg, r⟩
/-- A row's slice, and its cells. -/
theorem owns_some {w : World} {T : TypeId} {z n : Nat} {v : Value} {xs : List Value} (h : w.ownsRow 0 T z v n xs) (hn : 0 < n) : ∃ g cap, v = .slice (some ⟨g, 0, none⟩) n cap ∧ g < w.heap.size ∧ n ≤ cap ∧ (∀ j, j < n * z → w.cell? ⟨g, j, none⟩ = xs[j]?) ∧ (∀ j, w.frozen? ⟨g, j, none⟩ = false) := by
  have hlt := h.lt
  rcases h.2 with ⟨_, h0⟩ | ⟨g, cap, cur, e, _, _, hc, _⟩
  · omega
  · subst e
    exact ⟨g, cap, rfl, (hlt g rfl).2, hc, fun j hj => h.cellAt j hj, fun j => h.frozenAt j⟩
theorem owns_len {w : World} {T : TypeId} {z n : Nat} {v : Value} {xs : List Value} (h : w.ownsRow 0 T z v n xs) : ∃ a cap, v = .slice a n cap := by
  rcases h.2 with ⟨e, h0⟩ | ⟨g, cap, cur, e, _⟩
  · subst h0
    exact ⟨_, _, e⟩
  · exact ⟨_, _, e⟩

structure RT16 (R : Nat → Prop) (W : World) (mb : Nat) (s : S16) (v : Value) (ms : List (R16 × Value)) : Prop where
  tb : Blk W mb #[.int .i64 s.e, .int .i64 s.b, .int .i64 s.l, v] 35
  row : LRow W v ms
  ps : ∀ m ∈ ms, RRow W m.2 m.1.ps
  rt : R mb
  rv : ∀ g, v.ownBlock = some g → R g
  rp : ∀ m ∈ ms, ∀ g, m.2.ownBlock = some g → R g
theorem RT16.kb {R S : Nat → Prop} {W W' : World} {mb : Nat} {s : S16} {v : Value} {ms : List (R16 × Value)} (h : RT16 R W mb s v ms) (k : Kb S W W') (hs : ∀ i, R i → i < W.heap.size → ¬ S i) : RT16 R W' mb s v ms :=
  ⟨h.tb.kb k (hs _ h.rt h.tb.lt), owns_kb h.row k (fun g e => hs g (h.rv g e) (h.row.lt g e).2), fun m hm => owns_kb (h.ps m hm) k (fun g e => hs g (h.rp m hm g e) ((h.ps m hm).lt g e).2), h.rt, h.rv, h.rp⟩
theorem RT16.below {R : Nat → Prop} {W W' : World} {mb : Nat} {s : S16} {v : Value} {ms : List (R16 × Value)} (h : RT16 R W mb s v ms) (b : Below W.heap.size W W') : RT16 R W' mb s v ms :=
  h.kb (S := fun i => W.heap.size ≤ i) ⟨b.os, b.tape, b.output, b.size, fun i hi _ => b.block i hi⟩ (fun i _ hi e => by omega)
/-- An entry's cells, where they lie. -/
theorem RT16.entry {R : Nat → Prop} {W : World} {mb : Nat} {s : S16} {v : Value} {ms : List (R16 × Value)} (h : RT16 R W mb s v ms) {i : Nat} (hi : i < ms.length) : ∃ g cap, v = .slice (some ⟨g, 0, none⟩) ms.length cap ∧ g < W.heap.size ∧ (∀ j, j < 13 → W.cell? ⟨g, i * 13 + j, none⟩ = (recells (ms[i]'hi))[j]?) ∧ ∀ j, W.frozen? ⟨g, j, none⟩ = false := by
  obtain ⟨g, cap, e, hg, hc, hcell, hfr⟩ := owns_some h.row (by omega)
  refine ⟨g, cap, e, hg, fun j hj => ?_, hfr⟩
  rw [hcell _ (by omega), flat_at recells 13 recells_length ms i hi j hj]
theorem RRow.piece {W : World} {v : Value} {ps : List (H4 × ByteArray)} (h : RRow W v ps) {i : Nat} (hi : i < ps.length) : ∃ g cap, v = .slice (some ⟨g, 0, none⟩) ps.length cap ∧ g < W.heap.size ∧ (∀ j, j < 11 → W.cell? ⟨g, i * 11 + j, none⟩ = (pccells (ps[i]'hi))[j]?) := by
  obtain ⟨g, cap, e, hg, hc, hcell, _⟩ := owns_some h (by omega)
  refine ⟨g, cap, e, hg, fun j hj => ?_⟩
  rw [hcell _ (by omega), flat_at pccells 11 pccells_length ps i hi j hj]

/-- How many entries are open. -/
def mopen (ms : List (R16 × Value)) (k : Nat) : Nat := ropen ((ms.take k).map (·.1))
theorem mopen_succ {ms : List (R16 × Value)} {k : Nat} (h : k < ms.length) : mopen ms (k + 1) = mopen ms k + if (ms[k]'h).1.done = true then 0 else 1 := by
  unfold mopen ropen
  rw [List.take_succ_eq_append_getElem h, List.map_append, List.countP_append]
  cases hd : (ms[k]'h).1.done <;> simp [hd]
set_option maxHeartbeats 1000000 in
theorem ropen16_any {R : Nat → Prop} {mb : Nat} {s : S16} {v : Value} {ms : List (R16 × Value)} (w : World) (h : RT16 R w mb s v ms) (hl : ms.length ≤ 64) :
    Calls Try.prog 21 #[.pointer (some ⟨mb, 0, none⟩)] w (Tells (.int .i64 (ropen (ms.map (·.1)) : Nat)) w) := by
  have H := Lib.hid h
  unfold Tells
  rw [show ropen (ms.map (·.1)) = mopen ms ms.length by unfold mopen; rw [List.take_length]]
  have h0 : mopen ms 0 = 0 := rfl
  clear h
  go_enter Try.func21, Try.ntmps21
  go_wp2_with fail
  go_loopw [3, 4] (fun x y wr => ∃ k : Nat, x = .int .i64 (mopen ms k : Nat) ∧ y = .int .i64 (k : Nat) ∧ k ≤ ms.length ∧ mopen ms k ≤ k ∧ wr = w) (fun _ y _ => ms.length - (intOf y).toNat)
  case atStart => exact ⟨0, by rw [h0]; rfl, rfl, Nat.zero_le _, by omega, rfl⟩
  case round =>
    obtain ⟨k, rfl, rfl, hk, hle, rfl⟩ := hrel
    have HB : Blk wr mb _ _ := H.out.tb
    have c3 := HB.cell 3
    simp only [List.getElem?_toArray, List.getElem?_cons_zero, List.getElem?_cons_succ] at c3
    clear HB
    obtain ⟨a, cap, hv⟩ := owns_len H.out.row
    by_cases hlt : k < ms.length
    · obtain ⟨g, cap, hv, hg, hc, _⟩ := H.out.entry hlt
      subst hv
      have c11 := hc 11 (by omega)
      have hms := mopen_succ hlt
      clear hc
      have t1 : decide ((k : Int) < (ms.length : Int)) = true := decide_eq_true (by omega)
      have u0 : (0 : Int) ≤ (k : Int) := by omega
      have u1 : (k : Int) < (ms.length : Int) := by omega
      simp only [recells, List.getElem?_cons_zero, List.getElem?_cons_succ] at c11
      have HMS := Lib.hid hms
      clear hms
      generalize (ms[k]'hlt).1.done = d at *
      have ew : IntKind.i64.wrap ((k : Int) + 1) = ((k + 1 : Nat) : Int) := by rw [IntWalk.i64_in _ (by omega)]; omega
      have ew2 : IntKind.i64.wrap ((mopen ms k : Int) + 1) = ((mopen ms k + 1 : Nat) : Int) := by rw [IntWalk.i64_in _ (by omega)]; omega
      cases d with
      | true =>
        have E := Lib.hid (show mopen ms (k + 1) = mopen ms k by have e := HMS.out; simpa using e)
        clear HMS
        go_wp2_with fail
        refine ⟨⟨k + 1, by rw [E.out], rfl, hlt, by rw [E.out]; omega, trivial⟩, ?_⟩
        simp [intOf]
        omega
      | false =>
        have E := Lib.hid (show mopen ms (k + 1) = mopen ms k + 1 by have e := HMS.out; simpa using e)
        clear HMS
        go_wp2_with fail
        refine ⟨⟨k + 1, by rw [E.out]; rfl, rfl, hlt, by rw [E.out]; omega, trivial⟩, ?_⟩
        simp [intOf]
        omega
    · have t1 : decide ((k : Int) < (ms.length : Int)) = false := decide_eq_false (by omega)
      obtain rfl : k = ms.length := by omega
      subst hv
      go_wp2_with fail
      go_ret
      exact ⟨rfl, Below.refl _ _⟩

end Go.Proofs.Ytoijomdgcgbpbaa

/-
  The document's table: a tick.
-/
namespace Go.Proofs.Ytoijomdgcgbpbaa
open Go.RowKit
set_option linter.unusedVariables false

/-- What is kept of the first entries. -/
def older (m : R16 × Value) : R16 × Value := ({ m.1 with age := m.1.age + 1 }, m.2)
def mtick (L : Nat) (ms : List (R16 × Value)) (k : Nat) : List (R16 × Value) := ((ms.take k).map older).filter fun m => decide (m.1.age < L)
theorem mtick_succ (L : Nat) {ms : List (R16 × Value)} {k : Nat} (h : k < ms.length) : mtick L ms (k + 1) = mtick L ms k ++ if (ms[k]'h).1.age + 1 < L then [older (ms[k]'h)] else [] := by
  unfold mtick
  rw [List.take_succ_eq_append_getElem h, List.map_append, List.filter_append]
  congr 1
  by_cases e : (ms[k]'h).1.age + 1 < L
  · rw [if_pos e]
    simp [older, e]
  · rw [if_neg e]
    simp [older, e]
theorem mtick_length (L : Nat) (ms : List (R16 × Value)) (k : Nat) : (mtick L ms k).length ≤ k := by
  unfold mtick
  have h1 := List.length_filter_le (fun m : R16 × Value => decide (m.1.age < L)) ((ms.take k).map older)
  rw [List.length_map, List.length_take] at h1
  omega
theorem mtick_mem {L : Nat} {ms : List (R16 × Value)} {k : Nat} {m : R16 × Value} (h : m ∈ mtick L ms k) : ∃ m0 ∈ ms, m = older m0 := by
  unfold mtick at h
  obtain ⟨m0, h0, rfl⟩ := List.mem_map.1 (List.mem_filter.1 h).1
  exact ⟨m0, List.mem_of_mem_take h0, rfl⟩
theorem mtick_all (L : Nat) (ms : List (R16 × Value)) : (mtick L ms ms.length).map (·.1) = rtick L (ms.map (·.1)) := by
  unfold mtick rtick
  rw [List.take_length]
  induction ms with
  | nil => rfl
  | cons a r ih =>
    rw [List.map_cons, List.filter_cons, List.map_cons, List.map_cons, List.filter_cons]
    have e : (decide ((older a).1.age < L)) = decide (a.1.age + 1 < L) := rfl
    dsimp only
    rw [e]
    split
    · rw [List.map_cons, ih]
      rfl
    · exact ih
theorem recells_one (m : R16 × Value) (hm : m.2.oneCell' = true) : ∀ u ∈ recells m, u.oneCell' = true := by
  intro u hu
  simp only [recells, List.mem_cons, List.not_mem_nil, or_false] at hu
  rcases hu with rfl | rfl | rfl | rfl | rfl | rfl | rfl | rfl | rfl | rfl | rfl | rfl | rfl <;> first | rfl | exact hm
theorem owns_cell {w : World} {T : TypeId} {z n : Nat} {v : Value} {xs : List Value} (h : w.ownsRow 0 T z v n xs) : v.oneCell' = true := by
  obtain ⟨a, c, rfl⟩ := owns_len h
  rfl
theorem Try.infoE : (Try.prog.info? 75).map (fun i => (i.zero, i.size, i.bytes)) = some (some (.agg #[.int .i64 0, .int .i64 0, .int .i64 0, .int .i64 0, .int .i64 0, .bool false, .bool false, .string ⟨#[]⟩, .string ⟨#[]⟩, .string ⟨#[]⟩, .slice none 0 0, .bool false, .int .i64 0]), 13, 136) := by kernel_rfl

/-- While a tick is told: nothing old is changed, the kept ones lie in a row of their own. -/
structure Tk16 (w W : World) (kv : Value) (ks : List (R16 × Value)) : Prop where
  row : LRow W kv ks
  far : ∀ g, kv.ownBlock = some g → w.heap.size ≤ g
  bel : Below w.heap.size w W
theorem Tk16.below {w W W' : World} {kv : Value} {ks : List (R16 × Value)} (h : Tk16 w W kv ks) (b : Below W.heap.size W W') : Tk16 w W' kv ks :=
  ⟨owns_kb (S := fun i => W.heap.size ≤ i) h.row ⟨b.os, b.tape, b.output, b.size, fun i hi _ => b.block i hi⟩ (fun g e => by have := (h.row.lt g e).2; omega), h.far, h.bel.trans (b.mono h.bel.size)⟩

theorem news_cells (W : World) (cs : Array Value) (T : TypeId) : ∀ (j : Nat) (u : Value), cs.toList[j]? = some u → (W.alloc (.cells cs T)).cell? ((⟨W.heap.size, 0, none⟩ : Addr).add j) = some u :=
  World.news_of_block (cs := cs) (t := T) (fr := (0, 0)) (heap_alloc_new W _)
/-- A row isn't a block of another type. -/
theorem owns_ne {w : World} {T T' : TypeId} {z n b : Nat} {v : Value} {xs : List Value} {ys : Array Value} (h : w.ownsRow 0 T z v n xs) (hb : Blk w b ys T') (hne : T ≠ T') : ∀ g, v.ownBlock = some g → g ≠ b := by
  intro g e heq
  subst heq
  rcases h.2 with ⟨rfl, _⟩ | ⟨g', cap, cur, rfl, _, hg, _⟩
  · cases e
  · have e' : g' = g := by simpa [Value.ownBlock] using e
    subst e'
    unfold Blk at hb
    rw [hg] at hb
    simp only [Option.some.injEq, Obj.cells.injEq] at hb
    exact hne hb.2.1
/-- One more entry in the row. -/
theorem Tk16.app {w W : World} {kv : Value} {ks : List (R16 × Value)} (h : Tk16 w W kv ks) {m : R16 × Value} {cs : Array Value} (hcs : cs.toList = recells m) {W' : World} {g cap n : Nat}
    (ho : W'.ownsRow 0 75 13 (.slice (some ⟨g, 0, none⟩) n cap) (ks.length + 1) (ks.flatMap recells ++ cs.toList)) (hgr : (W.alloc (.cells cs 75)).grownBy W' kv.ownBlock) (hat : kv.ownBlock = some g ∨ g = (W.alloc (.cells cs 75)).heap.size) :
    Tk16 w W' (.slice (some ⟨g, 0, none⟩) n cap) (ks ++ [m]) := by
  have own : ∀ g', (Value.slice (some ⟨g, 0, none⟩) n cap).ownBlock = some g' → g' = g := fun g' e => by
    have : g = g' := by simpa [Value.ownBlock] using e
    exact this.symm
  have k1 : Kb (fun i => kv.ownBlock = some i) (W.alloc (.cells cs 75)) W' := ⟨hgr.os, hgr.tape, hgr.output, hgr.size, fun k hk hs => hgr.block k hk (fun e => hs e.symm)⟩
  have k2 : Kb (fun i => kv.ownBlock = some i) W W' := (Kb.mono (S := fun _ => False) (T := fun i => kv.ownBlock = some i) ((Kb.refl _ W).alloc _) (fun _ _ e => e.elim)).trans k1
  refine ⟨?_, fun g' e => ?_, ?_⟩
  · unfold LRow
    rw [List.length_append, List.flatMap_append]
    rw [hcs] at ho
    have e : [m].flatMap recells = recells m := by simp
    rw [e]
    exact ho
  · rw [own g' e]
    rcases hat with e | e
    · exact h.far g e
    · have := h.bel.size
      rw [e]
      simp
      omega
  · exact h.bel.trans ⟨k2.os, k2.tape, k2.output, k2.size, fun i hi => k2.block i (Nat.lt_of_lt_of_le hi h.bel.size) (fun e => by have := h.far i e; omega)⟩

set_option maxRecDepth 100000 in
set_option maxHeartbeats 2000000 in
theorem rtick16_any {R : Nat → Prop} {mb : Nat} {s : S16} {v : Value} {ms : List (R16 × Value)} (w : World) (h : RT16 R w mb s v ms) (hl : ms.length ≤ 64) (hs : 1 ≤ s.l ∧ s.l ≤ 64) (hage : ∀ m ∈ ms, m.1.age ≤ 64) :
    Calls Try.prog 14 #[.pointer (some ⟨mb, 0, none⟩)] w fun r W => r = .returned (.int .i64 ((ms.length - (mtick s.l.toNat ms ms.length).length : Nat) : Int)) ∧ (∃ v', RT16 (fun i => R i ∨ w.heap.size ≤ i) W mb s v' (mtick s.l.toNat ms ms.length)) ∧ Kb R w W := by
  have H := Lib.hid h
  have HA := Lib.hid hage
  have hL : ((s.l.toNat : Nat) : Int) = s.l := by omega
  have h0 : mtick s.l.toNat ms 0 = [] := rfl
  clear h hage
  go_enter Try.func14, Try.ntmps14
  go_wp2_with fail
  go_loopw [3, 4] (fun x y wr => ∃ k : Nat, y = .int .i64 (k : Nat) ∧ k ≤ ms.length ∧ Tk16 w wr x (mtick s.l.toNat ms k)) (fun _ y _ => ms.length - (intOf y).toNat)
  case atStart => exact ⟨0, rfl, Nat.zero_le _, ⟨⟨rfl, Or.inl ⟨rfl, rfl⟩⟩, (fun g e => by cases e), Below.refl _ _⟩⟩
  case round =>
    obtain ⟨k, rfl, hk, ht⟩ := hrel
    have TK := Lib.hid ht
    clear ht
    have HR := Lib.hid (H.out.below TK.out.bel)
    have HB : Blk wr mb _ _ := HR.out.tb
    have c3 := HB.cell 3
    simp only [List.getElem?_toArray, List.getElem?_cons_zero, List.getElem?_cons_succ] at c3
    clear HB
    obtain ⟨a, cap, hv⟩ := owns_len HR.out.row
    by_cases hlt : k < ms.length
    · obtain ⟨g, cap, hv, hg, hc, _⟩ := HR.out.entry hlt
      subst hv
      have d0 := hc 0 (by omega)
      have d1 := hc 1 (by omega)
      have d2 := hc 2 (by omega)
      have d3 := hc 3 (by omega)
      have d4 := hc 4 (by omega)
      have d5 := hc 5 (by omega)
      have d6 := hc 6 (by omega)
      have d7 := hc 7 (by omega)
      have d8 := hc 8 (by omega)
      have d9 := hc 9 (by omega)
      have d10 := hc 10 (by omega)
      have d11 := hc 11 (by omega)
      have d12 := hc 12 (by omega)
      simp only [recells, List.getElem?_cons_zero, List.getElem?_cons_succ, Nat.add_zero] at d0 d1 d2 d3 d4 d5 d6 d7 d8 d9 d10 d11 d12
      clear hc
      have t1 : decide ((k : Int) < (ms.length : Int)) = true := decide_eq_true (by omega)
      have u0 : (0 : Int) ≤ (k : Int) := by omega
      have u1 : (k : Int) < (ms.length : Int) := by omega
      have ew : IntKind.i64.wrap ((k : Int) + 1) = ((k + 1 : Nat) : Int) := by rw [IntWalk.i64_in _ (by omega)]; omega
      have MS := Lib.hid (mtick_succ s.l.toNat hlt)
      have hag := HA.out _ (List.getElem_mem hlt)
      obtain ⟨m, hm⟩ : ∃ m, m = ms[k]'hlt := ⟨_, rfl⟩
      have hpr := HR.out.ps _ (List.getElem_mem hlt)
      rw [← hm] at d0 d1 d2 d3 d4 d5 d6 d7 d8 d9 d10 d11 d12 hag MS hpr
      clear hm
      obtain ⟨⟨hd, ps, dn, ag⟩, pv⟩ := m
      obtain ⟨pa, pcap, hpv⟩ := owns_len hpr
      clear hpr
      dsimp only at hpv
      subst hpv
      dsimp only at d0 d1 d2 d3 d4 d5 d6 d7 d8 d9 d10 d11 d12 hag MS
      generalize hpn : ps.length = pn at *
      have ew2 : IntKind.i64.wrap ((ag : Int) + 1) = ((ag + 1 : Nat) : Int) := by rw [IntWalk.i64_in _ (by omega)]; omega
      go_upto_region 6 with (fail)
      have NB := Lib.hid (Blk.new wr #[.int .i64 hd.tos, .int .i64 hd.id, .int .i64 hd.off, .int .i64 hd.ttl, .int .i64 hd.proto, .bool hd.df, .bool hd.mf, .string hd.src, .string hd.dst, .string hd.opt, .slice pa pn pcap, .bool dn, .int .i64 (ag : Nat)] 75)
      have TB := Lib.hid (TK.out.below ((Below.refl wr.heap.size wr).alloc (Nat.le_refl _) (.cells #[.int .i64 hd.tos, .int .i64 hd.id, .int .i64 hd.off, .int .i64 hd.ttl, .int .i64 hd.proto, .bool hd.df, .bool hd.mf, .string hd.src, .string hd.dst, .string hd.opt, .slice pa pn pcap, .bool dn, .int .i64 (ag : Nat)] 75)))
      clear d0 d1 d2 d3 d4 d5 d6 d7 d8 d9 d10 d11 d12 c3 HR
      have hbx : w.heap.size ≤ wr.heap.size := TK.out.bel.size
      have hkv : ∀ g, u3.ownBlock = some g → g ≠ wr.heap.size := fun g e => by have := (TK.out.row.lt g e).2; omega
      have KV := Lib.hid hkv
      clear TK hkv
      generalize wr.alloc (.cells #[.int .i64 hd.tos, .int .i64 hd.id, .int .i64 hd.off, .int .i64 hd.ttl, .int .i64 hd.proto, .bool hd.df, .bool hd.mf, .string hd.src, .string hd.dst, .string hd.opt, .slice pa pn pcap, .bool dn, .int .i64 (ag : Nat)] 75) = w5 at *
      generalize wr.heap.size = bx at *
      have e12 := NB.out.cell 12
      have f12 := NB.out.frozen 12
      simp only [List.getElem?_toArray, List.getElem?_cons_zero, List.getElem?_cons_succ] at e12
      go_upto_region 7 with (fail)
      have NB6 := Lib.hid (NB.out.set 12 (.int .i64 ((ag : Int) + 1)))
      have TB6 : Hid (Tk16 w (w5.setCell ⟨bx, 12, none⟩ (.int .i64 ((ag : Int) + 1))) u3 (mtick s.l.toNat ms k)) :=
        ⟨owns_kb (S := fun i => i = bx) TB.out.row (Kb.setCell (S := fun i => i = bx) (Kb.refl _ _) (p := ⟨bx, 12, none⟩) (fun _ => rfl) _) (fun g e => KV.out g e), TB.out.far, TB.out.bel.setCell (p := ⟨bx, 12, none⟩) hbx _⟩
      clear e12 f12 NB TB
      have HR6 := H.out.below TB6.out.bel
      have HB6 : Blk _ mb _ _ := HR6.tb
      have l2 := HB6.cell 2
      have e12 := NB6.out.cell 12
      simp only [List.setIfInBounds_toArray, List.set_cons_zero, List.set_cons_succ, List.getElem?_toArray, List.getElem?_cons_zero, List.getElem?_cons_succ] at l2 e12
      clear HR6 HB6
      generalize w5.setCell ⟨bx, 12, none⟩ (.int .i64 ((ag : Int) + 1)) = w6 at *
      by_cases hb : (ag : Int) + 1 < s.l
      · have t2 : decide ((ag : Int) + 1 < s.l) = true := decide_eq_true hb
        go_quiet (fail)
        have NB7 : Hid (Blk (w6.drewN nq) bx #[.int .i64 hd.tos, .int .i64 hd.id, .int .i64 hd.off, .int .i64 hd.ttl, .int .i64 hd.proto, .bool hd.df, .bool hd.mf, .string hd.src, .string hd.dst, .string hd.opt, .slice pa pn pcap, .bool dn, .int .i64 ((ag : Int) + 1)] 75) := NB6.out.drewN nq
        have TB7 := Lib.hid (TB6.out.below (below_drewN (Below.refl _ _) nq))
        clear NB6 TB6 l2 e12
        generalize w6.drewN nq = w7 at *
        have MSE := Lib.hid (show mtick s.l.toNat ms (k + 1) = mtick s.l.toNat ms k ++ [older (⟨hd, ps, dn, ag⟩, .slice pa pn pcap)] by have := MS.out; rwa [if_pos (by omega)] at this)
        clear MS hb
        have b0 := NB7.out.cell 0
        have b1 := NB7.out.cell 1
        have b2 := NB7.out.cell 2
        have b3 := NB7.out.cell 3
        have b4 := NB7.out.cell 4
        have b5 := NB7.out.cell 5
        have b6 := NB7.out.cell 6
        have b7 := NB7.out.cell 7
        have b8 := NB7.out.cell 8
        have b9 := NB7.out.cell 9
        have b10 := NB7.out.cell 10
        have b11 := NB7.out.cell 11
        have b12 := NB7.out.cell 12
        simp only [List.getElem?_toArray, List.getElem?_cons_zero, List.getElem?_cons_succ] at b0 b1 b2 b3 b4 b5 b6 b7 b8 b9 b10 b11 b12
        have hkl := mtick_length s.l.toNat ms k
        obtain ⟨i0, hi0, hz0, hz1, hz2⟩ := info_parts Try.infoE
        go_wp2_with (at_builtin; refine wpList_append_lies _ rfl _ _ 33 rfl 0 75 i0 _ 13 136 (by kernel_rfl) hi0 hz0 hz1 hz2 rfl (by decide) _ _ _ rfl (TB7.out.row.alloc _) ⟨w7.heap.size, 0, none⟩ 1 1 (#[.int .i64 hd.tos, .int .i64 hd.id, .int .i64 hd.off, .int .i64 hd.ttl, .int .i64 hd.proto, .bool hd.df, .bool hd.mf, .string hd.src, .string hd.dst, .string hd.opt, .slice pa pn pcap, .bool dn, .int .i64 ((ag : Int) + 1)]).toList rfl rfl (news_cells w7 _ _) (by simp [Value.oneCell']) (by decide) (by unfold maxLen; omega) (by omega) (Nat.zero_le _) _ rfl ?_; intro g3 cap3 w12 hown hgrow hat3 hlt3; have TB8 := Lib.hid (TB7.out.app (m := older (⟨hd, ps, dn, ag⟩, .slice pa pn pcap)) (cs := #[.int .i64 hd.tos, .int .i64 hd.id, .int .i64 hd.off, .int .i64 hd.ttl, .int .i64 hd.proto, .bool hd.df, .bool hd.mf, .string hd.src, .string hd.dst, .string hd.opt, .slice pa pn pcap, .bool dn, .int .i64 ((ag : Int) + 1)]) rfl hown hgrow hat3); clear hown hgrow hat3 hlt3)
        refine ⟨⟨k + 1, rfl, hlt, by rw [MSE.out]; exact TB8.out⟩, ?_⟩
        simp [intOf]
        omega
      · have t2 : decide ((ag : Int) + 1 < s.l) = false := decide_eq_false hb
        go_quiet (fail)
        have NB7 : Hid (Blk (w6.drewN nq) bx #[.int .i64 hd.tos, .int .i64 hd.id, .int .i64 hd.off, .int .i64 hd.ttl, .int .i64 hd.proto, .bool hd.df, .bool hd.mf, .string hd.src, .string hd.dst, .string hd.opt, .slice pa pn pcap, .bool dn, .int .i64 ((ag : Int) + 1)] 75) := NB6.out.drewN nq
        have TB7 := Lib.hid (TB6.out.below (below_drewN (Below.refl _ _) nq))
        clear NB6 TB6 l2 e12
        generalize w6.drewN nq = w7 at *
        have MSE := Lib.hid (show mtick s.l.toNat ms (k + 1) = mtick s.l.toNat ms k by have := MS.out; rwa [if_neg (by omega), List.append_nil] at this)
        clear MS hb
        go_wp2_with fail
        refine ⟨⟨k + 1, rfl, hlt, by rw [MSE.out]; exact TB7.out⟩, ?_⟩
        simp [intOf]
        omega
    · have t1 : decide ((k : Int) < (ms.length : Int)) = false := decide_eq_false (by omega)
      obtain rfl : k = ms.length := by omega
      subst hv
      obtain ⟨ka, kcap, hkv⟩ := owns_len TK.out.row
      subst hkv
      have hkl := mtick_length s.l.toNat ms ms.length
      have f3 := HR.out.tb.frozen 3
      have hres : (((ms.length - (mtick s.l.toNat ms ms.length).length : Nat)) : Int) = (ms.length : Int) - ((mtick s.l.toNat ms ms.length).length : Int) := by omega
      have HRES := Lib.hid hres
      have HKL := Lib.hid hkl
      have ew3 : IntKind.i64.wrap ((ms.length : Int) - ((mtick s.l.toNat ms ms.length).length : Int)) = (ms.length : Int) - ((mtick s.l.toNat ms ms.length).length : Int) := IntWalk.i64_in _ (by omega)
      clear hres hkl
      go_wp2_with fail
      go_ret
      have kS : Kb (fun i => i = mb) wr (wr.setCell ⟨mb, 3, none⟩ (.slice ka (mtick s.l.toNat ms ms.length).length kcap)) := Kb.setCell (S := fun i => i = mb) (Kb.refl _ _) (p := ⟨mb, 3, none⟩) (fun _ => rfl) _
      have hmb := H.out.tb.lt
      refine ⟨by rw [HRES.out]; rfl, ⟨.slice ka (mtick s.l.toNat ms ms.length).length kcap, ⟨Blk.set HR.out.tb 3 _, owns_kb TK.out.row kS (fun g e => by have := TK.out.far g e; omega), fun m hm => ?_, Or.inl H.out.rt, fun g e => Or.inr (TK.out.far g e), fun m hm g e => ?_⟩⟩, ?_⟩
      · obtain ⟨m0, h0, rfl⟩ := mtick_mem hm
        exact owns_kb (HR.out.ps m0 h0) kS (owns_ne (HR.out.ps m0 h0) HR.out.tb (by decide))
      · obtain ⟨m0, h0, rfl⟩ := mtick_mem hm
        exact Or.inl (H.out.rp m0 h0 g e)
      · have k0 : Kb R w wr := ⟨TK.out.bel.os, TK.out.bel.tape, TK.out.bel.output, TK.out.bel.size, fun i hi _ => TK.out.bel.block i hi⟩
        exact k0.setCell (p := ⟨mb, 3, none⟩) (fun _ => H.out.rt) _

end Go.Proofs.Ytoijomdgcgbpbaa

/-
  Rows that a call makes: appended onto, an entry's cells changed.
-/
namespace Go.Proofs.Ytoijomdgcgbpbaa
open Go.RowKit
set_option linter.unusedVariables false

/-- A row behind a row, whether there is any of it or not. -/
theorem run_append_row {P : Program} (w : World) (t ty e : TypeId) (i : TypeInfo) (z : Value) (size bytes : Nat) (ht : P.underlying t = some (.slice e)) (hi : P.info? e = some i) (hz : i.zero = some z)
    (hsize : i.size = size) (hby : i.bytes = bytes) (hzs : z.cells.size = size) (hsz : 0 < size)
    {v : Value} {n : Nat} {xs : List Value} (hown : w.ownsRow 0 e size v n xs) {u : Value} {m : Nat} {ys : List Value} (hu : w.ownsRow 0 e size u m ys) (h1 : ∀ c ∈ ys, c.oneCell' = true)
    (h63 : n + m ≤ maxLen) (hbytes : (n + m) * bytes ≤ 140737488355328) :
    ∃ v' w', (Builtin.append_ #[t, t] ty #[v, u]).run P w = .ok v' w' ∧ w'.ownsRow 0 e size v' (n + m) (xs ++ ys) ∧ w.grownBy w' v.ownBlock ∧ (v'.ownBlock = v.ownBlock ∨ v'.ownBlock = some w.heap.size) := by
  rcases hu.2 with ⟨rfl, rfl⟩ | ⟨g, cap, cur, rfl, _⟩
  · have hy : ys = [] := List.eq_nil_of_length_eq_zero (by rw [hu.1, Nat.zero_mul])
    subst hy
    rw [List.append_nil, Nat.add_zero]
    exact ⟨v, w, run_append_owned_none w 0 t ty e i size ht hi v n xs hown, hown, ⟨rfl, rfl, rfl, Nat.le_refl _, fun _ _ _ => rfl⟩, Or.inl rfl⟩
  · obtain ⟨v', w', hr, h2, h3, _, h5⟩ := run_append_own_at (P := P) w 0 t ty e i z size bytes ht hi hz hsize hby hzs hsz v n xs hown ⟨g, 0, none⟩ m cap ys hu.1 (hu.cells rfl) h1 h63 hbytes (Nat.zero_le _)
    exact ⟨v', w', hr, h2, h3, h5⟩

/-- At the operation, in a region that draws. -/
theorem wp_append_row {P : Program} {o : Oper} {a : Act} {w : World} {K : Act → World → Prop} {Q : Exit → Act → World → Prop} (s x : Operand) (t : TypeId)
    (ho : o.op = .call { callee := .builtin .append, args := #[s, x], argTypes := #[t, t] })
    (e : TypeId) (i : TypeInfo) (z : Value) (size bytes : Nat) (ht : P.underlying t = some (.slice e)) (hi : P.info? e = some i) (hz : i.zero = some z)
    (hsize : i.size = size) (hby : i.bytes = bytes) (hzs : z.cells.size = size) (hsz : 0 < size)
    {v : Value} {n : Nat} {xs : List Value} (hs : a.eval s = v) (hown : w.ownsRow 0 e size v n xs) {u : Value} {m : Nat} {ys : List Value} (hx : a.eval x = u) (hu : w.ownsRow 0 e size u m ys) (h1 : ∀ c ∈ ys, c.oneCell' = true)
    (h63 : n + m ≤ maxLen) (hbytes : (n + m) * bytes ≤ 140737488355328)
    (h : ∀ v' w', w'.ownsRow 0 e size v' (n + m) (xs ++ ys) → w.grownBy w' v.ownBlock → (v'.ownBlock = v.ownBlock ∨ v'.ownBlock = some w.heap.size) → K (a.put o.dst v') w') : o.wp P a w K Q := by
  obtain ⟨v', w', hr, h2, h3, h4⟩ := run_append_row (P := P) w t o.type e i z size bytes ht hi hz hsize hby hzs hsz hown hu h1 h63 hbytes
  unfold Oper.wp execOp
  simp only [ho, resolve, invoke, builtin, Sem.run_bind, Sem.run_pure, Result.andThen_ok, List.map_toArray, List.map_cons, List.map_nil, hs, hx, hr]
  exact h v' w' h2 h3 h4

/-- A row that was made since w. -/
structure Made (w W : World) (T : TypeId) (z : Nat) (v : Value) (n : Nat) (xs : List Value) : Prop where
  own : W.ownsRow 0 T z v n xs
  far : ∀ g, v.ownBlock = some g → w.heap.size ≤ g
  bel : Below w.heap.size w W
theorem Made.lit {w W : World} (h : Below w.heap.size w W) (T : TypeId) (z N : Nat) (hN : W.heap.size = N) : Made w (W.alloc (.cells #[] T)) T z (.slice (some ⟨N, 0, none⟩) 0 0) 0 [] := by
  subst hN
  exact ⟨World.ownsRow_made (base := 0) (e := T) W #[] 0 (Nat.zero_le _) (by decide) (by simp), fun g e => by
    have : W.heap.size = g := by simpa [Value.ownBlock] using e
    have := h.size
    omega, h.alloc h.size _⟩
theorem own_other {W W' : World} {T : TypeId} {z n : Nat} {u : Value} {ys : List Value} (h : W.ownsRow 0 T z u n ys) {row : Option Nat} (hg : W.grownBy W' row) (hne : ∀ g, u.ownBlock = some g → row ≠ some g) : W'.ownsRow 0 T z u n ys :=
  owns_kb (S := fun k => row = some k) h ⟨hg.os, hg.tape, hg.output, hg.size, fun k hk hs => hg.block k hk (fun e => hs e.symm)⟩ (fun g e => hne g e)
theorem Made.app {w W W' : World} {T : TypeId} {z n n' : Nat} {v v' : Value} {xs xs' : List Value} (h : Made w W T z v n xs) (ho : W'.ownsRow 0 T z v' n' xs') (hg : W.grownBy W' v.ownBlock) (hat : v'.ownBlock = v.ownBlock ∨ v'.ownBlock = some W.heap.size) : Made w W' T z v' n' xs' := by
  refine ⟨ho, fun g e => ?_, h.bel.trans ⟨hg.os, hg.tape, hg.output, hg.size, fun i hi => hg.block i (Nat.lt_of_lt_of_le hi h.bel.size) (fun e => by have := h.far i e.symm; omega)⟩⟩
  have hs := h.bel.size
  rcases hat with e2 | e2
  · exact h.far g (by rw [← e2]; exact e)
  · rw [e2, Option.some.injEq] at e
    omega
theorem Made.kb {w W W' : World} {T : TypeId} {z n : Nat} {v : Value} {xs : List Value} (h : Made w W T z v n xs) (b : Below W.heap.size W W') : Made w W' T z v n xs :=
  ⟨owns_kb (S := fun i => W.heap.size ≤ i) h.own ⟨b.os, b.tape, b.output, b.size, fun i hi _ => b.block i hi⟩ (fun g e => by have := (h.own.lt g e).2; omega), h.far, h.bel.trans (b.mono h.bel.size)⟩

theorem flat_set {α : Type} (f : α → List Value) (n : Nat) (hn : ∀ x, (f x).length = n) {j : Nat} (hj : j < n) {u : Value} {y : α} : ∀ (l : List α) (i : Nat) (hi : i < l.length), f y = (f (l[i]'hi)).set j u → (l.set i y).flatMap f = (l.flatMap f).set (i * n + j) u
  | a :: r, 0, hi, h => by
    rw [List.set_cons_zero, List.flatMap_cons, List.flatMap_cons, Nat.zero_mul, Nat.zero_add, List.set_append_left _ _ (by rw [hn]; exact hj), h]
    rfl
  | a :: r, i + 1, hi, h => by
    rw [List.set_cons_succ, List.flatMap_cons, List.flatMap_cons, List.set_append_right _ _ (by rw [hn, Nat.add_mul]; omega), hn, show (i + 1) * n + j - n = i * n + j by rw [Nat.add_mul]; omega, flat_set f n hn hj r i (by simpa using hi) h]

/-- A cell of an entry changed. -/
theorem RT16.setEntry {R R' : Nat → Prop} {W : World} {mb : Nat} {s : S16} {v : Value} {ms : List (R16 × Value)} (h : RT16 R W mb s v ms) {i : Nat} (hi : i < ms.length) {j : Nat} (hj : j < 13) {u : Value} {m' : R16 × Value}
    (hm : recells m' = (recells (ms[i]'hi)).set j u) (hp : RRow W m'.2 m'.1.ps) (hR : ∀ k, R k → R' k) (ho : ∀ g, m'.2.ownBlock = some g → R' g) {g cap : Nat} (hv : v = .slice (some ⟨g, 0, none⟩) ms.length cap) :
    RT16 R' (W.setCell ⟨g, i * 13 + j, none⟩ u) mb s v (ms.set i m') := by
  subst hv
  have hrow := h.row
  have kS : Kb (fun k => k = g) W (W.setCell ⟨g, i * 13 + j, none⟩ u) := Kb.setCell (S := fun k => k = g) (Kb.refl _ _) (p := ⟨g, i * 13 + j, none⟩) (fun _ => rfl) _
  have hgT : ∀ {b : Nat} {T : TypeId} {ys : Array Value}, Blk W b ys T → T ≠ 75 → b ≠ g := fun hb hne e => owns_ne hrow hb (Ne.symm hne) g rfl e.symm
  have hgR : ∀ {v2 : Value} {ps : List (H4 × ByteArray)}, RRow W v2 ps → ∀ k, v2.ownBlock = some k → k ≠ g := fun {v2 ps} hr k e hk => by
    subst hk
    rcases hr.2 with ⟨rfl, _⟩ | ⟨g', c, cur, rfl, _, hb, _⟩
    · cases e
    · have e' : g' = k := by simpa [Value.ownBlock] using e
      subst e'
      exact owns_ne hrow (T' := 85) (ys := cur) hb (by decide) g' rfl rfl
  refine ⟨h.tb.kb kS (hgT h.tb (by decide)), ?_, fun m hm2 => ?_, hR _ h.rt, fun k e => hR _ (h.rv k e), fun m hm2 k e => ?_⟩
  · have hs := (World.ownsRow.stored hrow (i * 13 + j) u).1
    unfold LRow
    rw [List.length_set, flat_set recells 13 recells_length hj ms i hi hm]
    exact hs
  · rcases List.mem_or_eq_of_mem_set hm2 with h2 | rfl
    · exact owns_kb (h.ps m h2) kS (hgR (h.ps m h2))
    · exact owns_kb hp kS (hgR hp)
  · rcases List.mem_or_eq_of_mem_set hm2 with h2 | rfl
    · exact hR _ (h.rp m h2 k e)
    · exact ho k e

theorem ne_new {W : World} {T : TypeId} {z n : Nat} {v : Value} {xs : List Value} (h : W.ownsRow 0 T z v n xs) (a b N : Nat) (hN : W.heap.size = N) : ∀ g, (Value.slice (some ⟨N, 0, none⟩) a b).ownBlock = some g → v.ownBlock ≠ some g := fun g e e2 => by
  have h1 := (h.lt g e2).2
  have : N = g := by simpa [Value.ownBlock] using e
  omega
theorem ne_old {W : World} {T : TypeId} {z n : Nat} {v : Value} {xs : List Value} (h : W.ownsRow 0 T z v n xs) (a b N : Nat) (hN : W.heap.size = N) : ∀ g, v.ownBlock = some g → (Value.slice (some ⟨N, 0, none⟩) a b).ownBlock ≠ some g := fun g e e2 => ne_new h a b N hN g e2 e
theorem row_below {w W : World} {T : TypeId} {z n : Nat} {v : Value} {xs : List Value} (h : w.ownsRow 0 T z v n xs) (b : Below w.heap.size w W) : W.ownsRow 0 T z v n xs :=
  owns_kb (S := fun i => w.heap.size ≤ i) h ⟨b.os, b.tape, b.output, b.size, fun i hi _ => b.block i hi⟩ (fun g e => by have := (h.lt g e).2; omega)
theorem made_alloc {w W : World} {T : TypeId} {z n : Nat} {v : Value} {xs : List Value} (h : Made w W T z v n xs) (o : Obj) : Made w (W.alloc o) T z v n xs :=
  ⟨h.own.alloc _, h.far, h.bel.alloc h.bel.size _⟩
theorem recells_ones (ms : List (R16 × Value)) (hv : ∀ m ∈ ms, ∃ a n c, m.2 = .slice a n c) : ∀ c ∈ ms.flatMap recells, c.oneCell' = true := by
  intro c hc
  obtain ⟨m, hm, h2⟩ := List.mem_flatMap.1 hc
  obtain ⟨a, n, k, e⟩ := hv m hm
  unfold recells at h2
  rw [e] at h2
  simp only [List.mem_cons, List.not_mem_nil, or_false] at h2
  rcases h2 with rfl | rfl | rfl | rfl | rfl | rfl | rfl | rfl | rfl | rfl | rfl | rfl | rfl <;> rfl
theorem pccells_one (ps : List (H4 × ByteArray)) : ∀ c ∈ ps.flatMap pccells, c.oneCell' = true := by
  intro c hc
  obtain ⟨m, hm, h2⟩ := List.mem_flatMap.1 hc
  unfold pccells at h2
  simp only [List.mem_cons, List.not_mem_nil, or_false] at h2
  rcases h2 with rfl | rfl | rfl | rfl | rfl | rfl | rfl | rfl | rfl | rfl | rfl <;> rfl
theorem new_one {B : Nat} {w W : World} (b : Below B w W) (T : TypeId) (z N : Nat) (hN : W.heap.size = N) (cs : Array Value) (hs : cs.size = z) : (W.alloc (.cells cs T)).ownsRow 0 T z (.slice (some ⟨N, 0, none⟩) 1 1) 1 cs.toList := by
  subst hN
  exact World.ownsRow_lit (base := 0) (e := T) (size := z) W cs 1 (Nat.zero_le _) (by decide) (by rw [hs, Nat.one_mul])
theorem piece_one (x : H4 × ByteArray) : ∀ c ∈ pccells x, c.oneCell' = true := fun c hc => pccells_one [x] c (by simp only [List.flatMap_cons, List.flatMap_nil, List.append_nil]; exact hc)
theorem entry_one (m : R16 × Value) (hv : ∃ a n c, m.2 = .slice a n c) : ∀ c ∈ recells m, c.oneCell' = true := fun c hc => recells_ones [m] (fun k hk => by rw [List.mem_singleton.1 hk]; exact hv) c (by simp only [List.flatMap_cons, List.flatMap_nil, List.append_nil]; exact hc)
theorem Made.norm {w W : World} {T : TypeId} {z n : Nat} {v : Value} {xs : List Value} (h : Made w W T z v (0 + n + 1) xs) : Made w W T z v (n + 1) xs := by rw [Nat.zero_add] at h; exact h
theorem wp_of_run {P : Program} {o : Oper} {a : Act} {w : World} {K : Act → World → Prop} {Q : Exit → Act → World → Prop} {v : Value} (hx : (execOp a.eval o).run P w = .ok (.value v) w) (h : K (a.put o.dst v) w) : o.wp P a w K Q := by
  unfold Oper.wp
  rw [hx]
  exact h
theorem run_at_cell {P : Program} {o : Oper} {a : Act} {w : World} {ad : Addr} {u v : Value} (hx : ∀ w : World, w.cell? ad = some u → (execOp a.eval o).run P w = .ok (.value v) w) (hc : w.cell? ad = some u) : (execOp a.eval o).run P w = .ok (.value v) w := hx w hc
/-- One piece more. -/
theorem row_done {w W : World} {v : Value} {ps : List (H4 × ByteArray)} {x : H4 × ByteArray} (h : Made w W 85 11 v (0 + ps.length + 1) (([] ++ ps.flatMap pccells) ++ pccells x)) : RRow W v (ps ++ [x]) := by
  have e := h.own
  rw [List.nil_append, Nat.zero_add] at e
  unfold RRow
  rw [List.length_append, List.flatMap_append, List.length_singleton]
  have e2 : [x].flatMap pccells = pccells x := by simp
  rw [e2]
  exact e
/-- One entry more. -/
theorem erow_done {w W : World} {v : Value} {ms : List (R16 × Value)} {m : R16 × Value} (h : Made w W 75 13 v (ms.length + 1) (([] ++ ms.flatMap recells) ++ recells m)) : LRow W v (ms ++ [m]) := by
  have e := h.own
  rw [List.nil_append] at e
  unfold LRow
  rw [List.length_append, List.flatMap_append, List.length_singleton]
  have e2 : [m].flatMap recells = recells m := by simp
  rw [e2]
  exact e
/-- A new entry in the table. -/
theorem RT16.grown {R : Nat → Prop} {w W : World} {mb : Nat} {s : S16} {v v' : Value} {ms : List (R16 × Value)} (h : RT16 R w mb s v ms) {m : R16 × Value} (hm : Made w W 75 13 v' (ms.length + 1) (([] ++ ms.flatMap recells) ++ recells m)) (hp : RRow w m.2 m.1.ps) (ho : ∀ g, m.2.ownBlock = some g → R g) (B : Nat) (hB : B ≤ w.heap.size) :
    RT16 (fun i => R i ∨ B ≤ i) (W.setCell ⟨mb, 3, none⟩ v') mb s v' (ms ++ [m]) := by
  have h1 := h.below hm.bel
  have kS : Kb (fun i => i = mb) W (W.setCell ⟨mb, 3, none⟩ v') := Kb.setCell (S := fun i => i = mb) (Kb.refl _ _) (p := ⟨mb, 3, none⟩) (fun _ => rfl) _
  have hmb := h.tb.lt
  have e := Blk.set h1.tb 3 v'
  refine ⟨e, owns_kb (erow_done hm) kS (fun g e => by have := hm.far g e; omega), fun n hn => ?_, Or.inl h.rt, fun g e => Or.inr (Nat.le_trans hB (hm.far g e)), fun n hn g e => ?_⟩
  · rcases List.mem_append.1 hn with hn | hn
    · exact owns_kb (h1.ps n hn) kS (owns_ne (h1.ps n hn) h1.tb (by decide))
    · rw [List.mem_singleton.1 hn]
      have hp1 := row_below hp hm.bel
      exact owns_kb hp1 kS (owns_ne hp1 h1.tb (by decide))
  · rcases List.mem_append.1 hn with hn | hn
    · exact Or.inl (h.rp n hn g e)
    · rw [List.mem_singleton.1 hn] at e
      exact Or.inl (ho g e)

/-- What follows behind so many statements of a function. -/
def spine : Nat → Code → Code
  | 0, c => c
  | n + 1, .seq _ b => spine n b
  | _ + 1, c => c
theorem onto {P : Program} {c : Code} {Q : Exit → Act → World → Prop} {K : Act → World → Prop} {a : Act} {w : World} (h : ∀ a w, Code.wp P c Q a w → K a w) (g : Code.wp P c Q a w) : K a w := h a w g

theorem RT16.mono {R R' : Nat → Prop} {W : World} {mb : Nat} {s : S16} {v : Value} {ms : List (R16 × Value)} (h : RT16 R W mb s v ms) (hr : ∀ i, R i → R' i) : RT16 R' W mb s v ms :=
  ⟨h.tb, h.row, h.ps, hr _ h.rt, fun g e => hr _ (h.rv g e), fun m hm g e => hr _ (h.rp m hm g e)⟩
/-- What Add leaves. -/
def RAdd16 (R : Nat → Prop) (w : World) (mb : Nat) (s : S16) (A : (ByteArray × Nat) × List E16) (r : Ending) (W : World) : Prop :=
  r = .returned (.tuple #[.string A.1.1, .int .i64 (A.1.2 : Nat)]) ∧ (∃ v' ms', RT16 (fun i => R i ∨ w.heap.size ≤ i) W mb s v' ms' ∧ Rels A.2 (ms'.map (·.1))) ∧ Kb R w W
/-- While Add goes on: the table as it was, the packet's header and its piece. -/
structure AdR16 (R : Nat → Prop) (w W : World) (mb hb : Nat) (s : S16) (v : Value) (ms : List (R16 × Value)) (x : H4 × ByteArray) : Prop where
  tab : RT16 R W mb s v ms
  h : Blk W hb x.1.cells 43
  x : Blk W (hb + 1) (pccells x).toArray 85
  bel : Below w.heap.size w W
  le : w.heap.size ≤ hb
theorem AdR16.below {R : Nat → Prop} {w W W' : World} {mb hb : Nat} {s : S16} {v : Value} {ms : List (R16 × Value)} {x : H4 × ByteArray} (h : AdR16 R w W mb hb s v ms x) (b : Below W.heap.size W W') : AdR16 R w W' mb hb s v ms x :=
  ⟨h.tab.below b, (b.block _ h.h.lt).trans h.h, (b.block _ h.x.lt).trans h.x, h.bel.trans (b.mono h.bel.size), h.le⟩
/-- Where Add changes nothing. -/
theorem RT16.same {R : Nat → Prop} {w W : World} {mb : Nat} {s : S16} {v : Value} {ms : List (R16 × Value)} {l : List E16} (h : RT16 R W mb s v ms) (rel : Rels l (ms.map (·.1))) (b : Below w.heap.size w W) : (∃ v' ms', RT16 (fun i => R i ∨ w.heap.size ≤ i) W mb s v' ms' ∧ Rels l (ms'.map (·.1))) ∧ Kb R w W :=
  ⟨⟨v, ms, h.mono (fun i hi => Or.inl hi), rel⟩, b.os, b.tape, b.output, b.size, fun i hi _ => b.block i hi⟩

theorem Rels.few {E B L : Nat} {l : List E16} (t : Tab16 E B L l) {rl : List R16} (r : Rels l rl) : ∀ u ∈ rl, u.ps.length ≤ 65536 := by
  intro u hu
  obtain ⟨i, hi, rfl⟩ := List.getElem_of_mem hu
  have hl : i < l.length := by have := r.length; omega
  have h1 := (r.get hl hi).perm.length_eq
  have h2 := (t.each _ (List.getElem_mem hl)).good.few.2
  rw [List.length_map] at h1
  omega
/-- While the old pieces are looked through. -/
structure La16 (R : Nat → Prop) (w W : World) (mb hb : Nat) (s : S16) (v : Value) (ms : List (R16 × Value)) (x : H4 × ByteArray) (vo : Value) (ps : List (H4 × ByteArray)) : Prop where
  ad : AdR16 R w W mb hb s v ms x
  row : RRow W vo ps
theorem La16.below {R : Nat → Prop} {w W W' : World} {mb hb : Nat} {s : S16} {v : Value} {ms : List (R16 × Value)} {x : H4 × ByteArray} {vo : Value} {ps : List (H4 × ByteArray)} (h : La16 R w W mb hb s v ms x vo ps) (b : Below W.heap.size W W') : La16 R w W' mb hb s v ms x vo ps :=
  ⟨h.ad.below b, owns_kb (S := fun i => W.heap.size ≤ i) h.row ⟨b.os, b.tape, b.output, b.size, fun i hi _ => b.block i hi⟩ (fun g e => by have := (h.row.lt g e).2; omega)⟩
theorem La16.drew {R : Nat → Prop} {w W : World} {mb hb : Nat} {s : S16} {v : Value} {ms : List (R16 × Value)} {x : H4 × ByteArray} {vo : Value} {ps : List (H4 × ByteArray)} (h : La16 R w W mb hb s v ms x vo ps) : La16 R w W.drew mb hb s v ms x vo ps :=
  h.below (Below.refl _ _).drew
theorem La16.all {R : Nat → Prop} {w W : World} {mb hb g cap k : Nat} {s : S16} {v : Value} {ms : List (R16 × Value)} {x y : H4 × ByteArray} {ps : List (H4 × ByteArray)} (h : La16 R w W mb hb s v ms x (.slice (some ⟨g, 0, none⟩) ps.length cap) ps) (hk : k < ps.length) (hy : ps[k]'hk = y) : W.cell? ⟨g, k * 11, none⟩ = some (.int .i64 y.1.tos) ∧ W.cell? ⟨g, k * 11 + 1, none⟩ = some (.int .i64 y.1.id) ∧ W.cell? ⟨g, k * 11 + 2, none⟩ = some (.int .i64 y.1.off) ∧ W.cell? ⟨g, k * 11 + 3, none⟩ = some (.int .i64 y.1.ttl) ∧ W.cell? ⟨g, k * 11 + 4, none⟩ = some (.int .i64 y.1.proto) ∧ W.cell? ⟨g, k * 11 + 5, none⟩ = some (.bool y.1.df) ∧ W.cell? ⟨g, k * 11 + 6, none⟩ = some (.bool y.1.mf) ∧ W.cell? ⟨g, k * 11 + 7, none⟩ = some (.string y.1.src) ∧ W.cell? ⟨g, k * 11 + 8, none⟩ = some (.string y.1.dst) ∧ W.cell? ⟨g, k * 11 + 9, none⟩ = some (.string y.1.opt) ∧ W.cell? ⟨g, k * 11 + 10, none⟩ = some (.string y.2) ∧ W.cell? ⟨hb + 1, 0, none⟩ = some (.int .i64 x.1.tos) ∧ W.cell? ⟨hb + 1, 1, none⟩ = some (.int .i64 x.1.id) ∧ W.cell? ⟨hb + 1, 2, none⟩ = some (.int .i64 x.1.off) ∧ W.cell? ⟨hb + 1, 3, none⟩ = some (.int .i64 x.1.ttl) ∧ W.cell? ⟨hb + 1, 4, none⟩ = some (.int .i64 x.1.proto) ∧ W.cell? ⟨hb + 1, 5, none⟩ = some (.bool x.1.df) ∧ W.cell? ⟨hb + 1, 6, none⟩ = some (.bool x.1.mf) ∧ W.cell? ⟨hb + 1, 7, none⟩ = some (.string x.1.src) ∧ W.cell? ⟨hb + 1, 8, none⟩ = some (.string x.1.dst) ∧ W.cell? ⟨hb + 1, 9, none⟩ = some (.string x.1.opt) ∧ W.cell? ⟨hb + 1, 10, none⟩ = some (.string x.2) ∧ W.cell? ⟨hb, 6, none⟩ = some (.bool x.1.mf) ∧ Hid (La16 R w W mb hb s v ms x (.slice (some ⟨g, 0, none⟩) ps.length cap) ps) := by
  obtain ⟨g', cap', hv, hg, hc⟩ := RRow.piece h.row hk
  simp only [Value.slice.injEq, Option.some.injEq, Addr.mk.injEq, true_and, and_true] at hv
  obtain ⟨rfl, rfl⟩ := hv
  rw [hy] at hc
  exact ⟨hc 0 (by omega), hc 1 (by omega), hc 2 (by omega), hc 3 (by omega), hc 4 (by omega), hc 5 (by omega), hc 6 (by omega), hc 7 (by omega), hc 8 (by omega), hc 9 (by omega), hc 10 (by omega), h.ad.x.cell 0, h.ad.x.cell 1, h.ad.x.cell 2, h.ad.x.cell 3, h.ad.x.cell 4, h.ad.x.cell 5, h.ad.x.cell 6, h.ad.x.cell 7, h.ad.x.cell 8, h.ad.x.cell 9, h.ad.x.cell 10, h.ad.h.cell 6, Lib.hid h⟩

/-- Once the entry is there: the table as it is now. -/
structure Ba16 (R : Nat → Prop) (w W : World) (mb hb : Nat) (s : S16) (v : Value) (ms : List (R16 × Value)) (x : H4 × ByteArray) (vo : Value) (ps : List (H4 × ByteArray)) : Prop where
  tab : RT16 (fun i => R i ∨ w.heap.size ≤ i) W mb s v ms
  h : Blk W hb x.1.cells 43
  x : Blk W (hb + 1) (pccells x).toArray 85
  row : RRow W vo ps
  kb : Kb R w W
  le : w.heap.size ≤ hb
theorem La16.ba {R : Nat → Prop} {w W : World} {mb hb : Nat} {s : S16} {v : Value} {ms : List (R16 × Value)} {x : H4 × ByteArray} {vo : Value} {ps : List (H4 × ByteArray)} (h : La16 R w W mb hb s v ms x vo ps) : Ba16 R w W mb hb s v ms x vo ps :=
  ⟨h.ad.tab.mono (fun i hi => Or.inl hi), h.ad.h, h.ad.x, h.row, ⟨h.ad.bel.os, h.ad.bel.tape, h.ad.bel.output, h.ad.bel.size, fun i hi _ => h.ad.bel.block i hi⟩, h.ad.le⟩
theorem list_at {α : Type} (l : List α) {i : Nat} (hi : i < l.length) : l = l.take i ++ l[i]'hi :: l.drop (i + 1) := by
  rw [← List.drop_eq_getElem_cons hi, List.take_append_drop]

theorem Try.infoQ : (Try.prog.info? 85).map (fun i => (i.zero, i.size, i.bytes)) = some (some (.agg #[.int .i64 0, .int .i64 0, .int .i64 0, .int .i64 0, .int .i64 0, .bool false, .bool false, .string ⟨#[]⟩, .string ⟨#[]⟩, .string ⟨#[]⟩, .string ⟨#[]⟩]), 11, 112) := by kernel_rfl
noncomputable def rcode16 (n : Nat) : Code := spine n (Try.f16.body.getD .skip)

end Go.Proofs.Ytoijomdgcgbpbaa

/-
  What the document's Add leaves once a piece is one of its entry's, plain and in memory.
-/
namespace Go.Proofs.Ytoijomdgcgbpbaa
open Go.RowKit
set_option linter.unusedVariables false

/-- One piece more: the entry, the document's, and what is said. -/
structure More16 (l : List E16) (rl : List R16) (x : H4 × ByteArray) (i : Nat) (A : (ByteArray × Nat) × List E16) (e : E16) (r : R16) : Prop where
  rel : Rel16 e r
  fine : Fine16 e.qs
  ps : r.ps = (rold rl x.1).ps ++ [x]
  is : r = (rold rl x.1).put x
  more : whole16 e.qs = false → A = ((⟨#[]⟩, 10), upd16 l i e)
  done : whole16 e.qs = true → A = ((putS e.hd.whole (cat16 e.qs), putE e.hd.whole (cat16 e.qs)), upd16 l i e.over)
  few : r.ps.length ≤ 65536 ∧ sum16 e.qs ≤ 65536
  each : ∀ y ∈ r.ps, Pc16 y
theorem more16 {E B L : Nat} {l : List E16} (t : Tab16 E B L l) {rl : List R16} (rel : Rels l rl) {x : H4 × ByteArray} {i : Nat} (hf : rfind rl x.1.key = i) (hno : rno E B rl x = 0) {A : (ByteArray × Nat) × List E16} (hA : A = made16 l x.1 (pcOf x)) (hok : x.1.Ok) (hsz : x.2.size ≤ 65535) :
    ∃ e r, More16 l rl x i A e r := by
  have hp := Rels.put t rel hok hsz (by rw [rno_is t rel]; exact hno)
  have hfi : find16 l x.1.key = i := by rw [rel.find, hf]
  have hfine := hp.2
  have hlen : sum16 ((old16 l x.1.key).put x.1 (pcOf x)).qs ≤ 65536 ∧ ((old16 l x.1.key).put x.1 (pcOf x)).qs.length ≤ 65536 := by
    rcases hfine with g | ⟨y, hy, _, _, hs⟩
    · have := g.few
      omega
    · rw [hy]
      simp [sum16, hs]
  refine ⟨(old16 l x.1.key).put x.1 (pcOf x), (rold rl x.1).put x, hp.1, hfine, rfl, rfl, fun hw => ?_, fun hw => ?_, ⟨?_, hlen.1⟩, fun y hy => ?_⟩
  · rw [hA, ← hfi]
    unfold made16
    rw [if_neg (by rw [hw]; simp)]
  · rw [hA, ← hfi]
    unfold made16
    rw [if_pos hw]
  · have h1 := hp.1.perm.length_eq
    rw [List.length_map] at h1
    omega
  · have h := hp.1.each y hy
    exact ⟨⟨h.1, h.2.1⟩, h.2.2⟩

theorem set_mid {α β : Type} (f : α → β) (ms : List α) {rl : List β} {b : β} {i : Nat} (hi : i ≤ rl.length) (h : ms.map f = rl.take i ++ b :: rl.drop (i + 1)) (m : α) : (ms.set i m).map f = rl.take i ++ f m :: rl.drop (i + 1) := by
  rw [List.map_set, h, List.set_append_right _ _ (by simp; omega)]
  have e : i - (rl.take i).length = 0 := by simp; omega
  rw [e, List.set_cons_zero]

theorem kb_below {R : Nat → Prop} {w W W' : World} (k : Kb R w W) (b : Below W.heap.size W W') : Kb R w W' :=
  k.trans ⟨b.os, b.tape, b.output, b.size, fun i hi _ => b.block i hi⟩

/-- The table with the entry changed. -/
structure End16 (R : Nat → Prop) (w W : World) (mb : Nat) (s : S16) (v : Value) (ms : List (R16 × Value)) : Prop where
  tab : RT16 (fun i => R i ∨ w.heap.size ≤ i) W mb s v ms
  kb : Kb R w W
theorem End16.below {R : Nat → Prop} {w W W' : World} {mb : Nat} {s : S16} {v : Value} {ms : List (R16 × Value)} (h : End16 R w W mb s v ms) (b : Below W.heap.size W W') : End16 R w W' mb s v ms :=
  ⟨h.tab.below b, kb_below h.kb b⟩
theorem End16.set {R : Nat → Prop} {w W : World} {mb : Nat} {s : S16} {v : Value} {ms : List (R16 × Value)} (h : End16 R w W mb s v ms) {i : Nat} (hi : i < ms.length) {j : Nat} (hj : j < 13) {u : Value} {m' : R16 × Value}
    (hm : recells m' = (recells (ms[i]'hi)).set j u) (hp : RRow W m'.2 m'.1.ps) (ho : ∀ g, m'.2.ownBlock = some g → R g ∨ w.heap.size ≤ g) {g cap : Nat} (hv : v = .slice (some ⟨g, 0, none⟩) ms.length cap) :
    End16 R w (W.setCell ⟨g, i * 13 + j, none⟩ u) mb s v (ms.set i m') := by
  refine ⟨h.tab.setEntry hi hj hm hp (fun _ h => h) ho hv, h.kb.setCell (p := ⟨g, i * 13 + j, none⟩) (fun hlt => ?_) _⟩
  rcases h.tab.rv g (by rw [hv]; rfl) with h1 | h1
  · exact h1
  · exact absurd hlt (Nat.not_lt.2 h1)
theorem recells_ps (r : R16) (x : H4 × ByteArray) (u0 u : Value) : recells (r.put x, u) = (recells (r, u0)).set 10 u := rfl
theorem recells_nil (r : R16) (u0 : Value) : recells ({ r with ps := [] }, .slice none 0 0) = (recells (r, u0)).set 10 (.slice none 0 0) := rfl
theorem recells_over (r : R16) : recells (r.over, .slice none 0 0) = (recells ({ r with ps := [] }, .slice none 0 0)).set 11 (.bool true) := rfl
theorem RRow.none (W : World) : RRow W (.slice none 0 0) [] := ⟨rfl, Or.inl ⟨rfl, rfl⟩⟩
theorem End16.told {R : Nat → Prop} {w W : World} {mb : Nat} {s : S16} {v : Value} {ms : List (R16 × Value)} {A : (ByteArray × Nat) × List E16} (h : End16 R w W mb s v ms) {n : Int} (hn : n = (A.1.2 : Nat)) {b : ByteArray} (hb : b = A.1.1) (hr : Rels A.2 (ms.map (·.1))) : RAdd16 R w mb s A (.returned (.tuple #[.string b, .int .i64 n])) W := by
  subst hn
  subst hb
  exact ⟨rfl, ⟨v, ms, h.tab, hr⟩, h.kb⟩

/-- An entry's cells, where they lie. -/
theorem End16.at {R : Nat → Prop} {w W : World} {mb : Nat} {s : S16} {v : Value} {ms : List (R16 × Value)} (h : End16 R w W mb s v ms) {i : Nat} (hi : i < ms.length) {g n cap : Nat} (hv : v = .slice (some ⟨g, 0, none⟩) n cap) {j : Nat} (hj : j < 13) : W.cell? ⟨g, i * 13 + j, none⟩ = (recells (ms[i]'hi))[j]? ∧ W.frozen? ⟨g, i * 13 + j, none⟩ = false := by
  obtain ⟨g', cap', e, hg, hc, hf⟩ := h.tab.entry hi
  rw [hv] at e
  simp only [Value.slice.injEq, Option.some.injEq, Addr.mk.injEq, and_true] at e
  obtain ⟨rfl, _, _⟩ := e
  exact ⟨hc j hj, hf _⟩
theorem End16.again {R : Nat → Prop} {w W : World} {mb : Nat} {s : S16} {v : Value} {ms : List (R16 × Value)} {i : Nat} {m1 : R16 × Value} (h : End16 R w W mb s v (ms.set i m1)) (hi : i < ms.length) {j : Nat} (hj : j < 13) {u : Value} {m' : R16 × Value}
    (hm : recells m' = (recells m1).set j u) (hp : RRow W m'.2 m'.1.ps) (ho : ∀ g, m'.2.ownBlock = some g → R g ∨ w.heap.size ≤ g) {g cap : Nat} (hv : v = .slice (some ⟨g, 0, none⟩) ms.length cap) :
    End16 R w (W.setCell ⟨g, i * 13 + j, none⟩ u) mb s v (ms.set i m') := by
  have h2 := h.set (i := i) (by rw [List.length_set]; exact hi) hj (m' := m') (u := u) (by rw [List.getElem_set_self]; exact hm) hp ho (g := g) (cap := cap) (by rw [List.length_set]; exact hv)
  rw [List.set_set] at h2
  exact h2
theorem End16.ne {R : Nat → Prop} {w W : World} {mb : Nat} {s : S16} {v : Value} {ms : List (R16 × Value)} (h : End16 R w W mb s v ms) {g n cap : Nat} (hv : v = .slice (some ⟨g, 0, none⟩) n cap) {b : Nat} {ys : Array Value} {T : TypeId} (hb : Blk W b ys T) (hne : T ≠ 75) : b ≠ g :=
  fun e => owns_ne h.tab.row hb (Ne.symm hne) g (by rw [hv]; rfl) e.symm
/-- A header's block of the call's own changed. -/
theorem End16.odd {R : Nat → Prop} {w W : World} {mb : Nat} {s : S16} {v : Value} {ms : List (R16 × Value)} (h : End16 R w W mb s v ms) {b : Nat} {ys : Array Value} (hb : Blk W b ys 43) (hw : w.heap.size ≤ b) (j : Nat) (u : Value) : End16 R w (W.setCell ⟨b, j, none⟩ u) mb s v ms := by
  have kS : Kb (fun k => k = b) W (W.setCell ⟨b, j, none⟩ u) := Kb.setCell (S := fun k => k = b) (Kb.refl _ _) (p := ⟨b, j, none⟩) (fun _ => rfl) _
  have hmb : mb ≠ b := fun e => by
    have h1 := h.tab.tb
    unfold Blk at h1 hb
    rw [e, hb] at h1
    simp at h1
  refine ⟨⟨h.tab.tb.kb kS hmb, owns_kb h.tab.row kS (owns_ne h.tab.row hb (by decide)), fun m hm => owns_kb (h.tab.ps m hm) kS (owns_ne (h.tab.ps m hm) hb (by decide)), h.tab.rt, h.tab.rv, h.tab.rp⟩, h.kb.setCell (p := ⟨b, j, none⟩) (fun hlt => absurd hlt (Nat.not_lt.2 hw)) _⟩

theorem Made.slice {w W : World} {T : TypeId} {z n : Nat} {v : Value} {xs : List Value} (h : Made w W T z v n xs) : ∃ p m c, v = .slice p m c := by
  obtain ⟨a, k, e⟩ := owns_len h.own
  exact ⟨a, _, k, e⟩
/-- A slice laid into a cell, whatever it is. -/
theorem wp_store_slice {o : Oper} {a : Act} {w : World} {K : Act → World → Prop} {Q : Exit → Act → World → Prop} (sa sx : Operand) (ho : o.op = .store 33 sa sx) (A : Addr) (hs : a.eval sa = .pointer (some A)) {v old : Value} (hx : a.eval sx = v) (hv : ∃ p n c, v = .slice p n c) (hc : w.cell? A = some old) (hf : w.frozen? A = false) (h : K (a.put o.dst undef) (w.setCell A v)) : o.wp Try.prog a w K Q := by
  obtain ⟨p, n, c, rfl⟩ := hv
  unfold Oper.wp execOp
  simp only [ho, hs, hx, Instr.storeAt, Instr.sureAddr, Sem.run_bind, Sem.run_pure, Result.andThen_ok]
  go_simp
  exact h
/-- A new entry behind all. -/
theorem La16.grown {R : Nat → Prop} {w W W' : World} {mb hb : Nat} {s : S16} {v v' vo : Value} {ms : List (R16 × Value)} {x : H4 × ByteArray} {ps : List (H4 × ByteArray)} (h : La16 R w W mb hb s v ms x vo ps) (hm : Made W W' 75 13 v' (ms.length + 1) (([] ++ ms.flatMap recells) ++ recells (⟨x.1, [], false, 0⟩, .slice none 0 0))) :
    Ba16 R w (W'.setCell ⟨mb, 3, none⟩ v') mb hb s v' (ms ++ [(⟨x.1, [], false, 0⟩, .slice none 0 0)]) x vo ps := by
  have hl := h.below hm.bel
  have hmb := hl.ad.tab.tb
  have kS : Kb (fun k => k = mb) W' (W'.setCell ⟨mb, 3, none⟩ v') := Kb.setCell (S := fun k => k = mb) (Kb.refl _ _) (p := ⟨mb, 3, none⟩) (fun _ => rfl) _
  have hne : ∀ {b : Nat} {ys : Array Value} {T : TypeId}, Blk W' b ys T → T ≠ 35 → ¬ b = mb := fun {b ys T} h1 h2 e => by
    unfold Blk at h1 hmb
    rw [e, hmb] at h1
    simp only [Option.some.injEq, Obj.cells.injEq] at h1
    exact h2 h1.2.1.symm
  refine ⟨RT16.grown h.ad.tab hm (RRow.none _) (fun g e => by cases e) w.heap.size h.ad.bel.size, hl.ad.h.kb kS (hne hl.ad.h (by decide)), hl.ad.x.kb kS (hne hl.ad.x (by decide)), owns_kb hl.row kS (owns_ne hl.row hmb (by decide)), ?_, h.ad.le⟩
  exact (⟨hl.ad.bel.os, hl.ad.bel.tape, hl.ad.bel.output, hl.ad.bel.size, fun i hi _ => hl.ad.bel.block i hi⟩ : Kb R w W').setCell (p := ⟨mb, 3, none⟩) (fun _ => h.ad.tab.rt) _
theorem mid_new (ms : List (R16 × Value)) (m : R16 × Value) : (ms ++ [m]).map (·.1) = (ms.map (·.1)).take ms.length ++ m.1 :: (ms.map (·.1)).drop (ms.length + 1) := by
  rw [List.map_append, List.take_of_length_le (by rw [List.length_map]; exact Nat.le_refl _), List.drop_of_length_le (by rw [List.length_map]; omega)]
  rfl

end Go.Proofs.Ytoijomdgcgbpbaa
