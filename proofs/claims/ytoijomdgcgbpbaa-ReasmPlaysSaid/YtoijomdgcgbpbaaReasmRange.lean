/-
  A loop over a map that is known whole: whichever entry comes next.
-/
import Derived.Test.YtoijomdgcgbpbaaReasmMap
namespace Go.Proofs.Ytoijomdgcgbpbaa
open Go.RowKit
set_option linter.unusedVariables false

/-- What is still to come. -/
def left16 (ms : List Me16) (seen : Array Nat) : List Me16 := ms.filter fun m => !seen.contains m.born
theorem leftOf16 (ms : List Me16) (seen : Array Nat) : leftOf (ms.map Me16.entry).toArray seen = ((left16 ms seen).map Me16.entry).toArray := by
  unfold leftOf left16
  rw [List.filter_toArray, List.filter_map]
  rfl

/-- A loop's own block. -/
def Iter16 (w : World) (r mb since : Nat) (seen : Array Nat) : Prop := ∃ c, since ≤ c ∧ w.heap[r]? = some (.mapIter (some mb) since seen c)
theorem Iter16.kb {S : Nat → Prop} {w w' : World} {r mb since : Nat} {seen : Array Nat} (h : Iter16 w r mb since seen) (k : Kb S w w') (hs : ¬ S r) : Iter16 w' r mb since seen := by
  obtain ⟨c, hc, hr⟩ := h
  exact ⟨c, hc, (k.block r (Array.getElem?_eq_some_iff.1 hr).1 hs).trans hr⟩
theorem Iter16.lt {w : World} {r mb since : Nat} {seen : Array Nat} (h : Iter16 w r mb since seen) : r < w.heap.size := by
  obtain ⟨c, hc, hr⟩ := h
  exact (Array.getElem?_eq_some_iff.1 hr).1
theorem Map16.kb {S : Nat → Prop} {w w' : World} {b clock : Nat} {ms : List Me16} (h : Map16 w b ms clock) (k : Kb S w w') (hs : ¬ S b) : Map16 w' b ms clock :=
  (k.block b (Array.getElem?_eq_some_iff.1 h).1 hs).trans h
theorem Map16.lt {w : World} {b clock : Nat} {ms : List Me16} (h : Map16 w b ms clock) : b < w.heap.size := (Array.getElem?_eq_some_iff.1 h).1

theorem setBlock_kb (w : World) (r : Nat) (o : Obj) : Kb (· = r) w (ChangeMaps.setBlock w r o) := setMap_kb w r o
/-- One step: nothing is left, or an entry that is left comes. -/
theorem next16 {w : World} {r mb since clock : Nat} {seen : Array Nat} {ms : List Me16} (ty : TypeId) (hi : Iter16 w r mb since seen) (hm : Map16 w mb ms clock) (hold : ∀ m ∈ ms, m.born < since) (hcl : since ≤ clock) (hn : (ms.map (·.born)).Nodup) (hne : mb ≠ r) :
    (left16 ms seen = [] ∧ (Instr.next (.pointer (some ⟨r, 0, none⟩)) false ty).run Try.prog w = .ok (.tuple #[.bool false]) w) ∨
    ∃ m ∈ left16 ms seen, ∃ w' : World, (Instr.next (.pointer (some ⟨r, 0, none⟩)) false ty).run Try.prog w = .ok (.tuple #[.bool true, m.k.val, .pointer (some ⟨m.eb, 0, none⟩)]) w' ∧ Kb (· = r) w w' ∧ w'.heap.size = w.heap.size ∧
      Iter16 w' r mb since (seen.push m.born) ∧ (Instr.entry (.pointer (some ⟨r, 0, none⟩))).run Try.prog w' = .ok (.tuple #[m.k.val, .pointer (some ⟨m.eb, 0, none⟩)]) w' := by
  obtain ⟨c, hc, hr⟩ := hi
  rcases run_next_at (P := Try.prog) w ty r mb since c seen _ clock hr hm (by
    intro x hx
    simp only [List.mem_map] at hx
    obtain ⟨m, hm, rfl⟩ := hx
    exact hold m hm) hc with ⟨h0, hrun⟩ | ⟨e, he, w1, hal, hrun⟩
  · left
    rw [leftOf16] at h0
    refine ⟨?_, hrun⟩
    simpa using h0
  · right
    rw [leftOf16] at he
    simp only [List.mem_map] at he
    obtain ⟨m, hml, rfl⟩ := he
    have hk1 : Kb (· = r) w w1 := by
      rcases hal with rfl | rfl
      · exact Kb.refl _ _
      · exact (Kb.refl _ _).drew
    have hr1 : w1.heap[r]? = some (.mapIter (some mb) since seen c) := by rcases hal with rfl | rfl <;> exact hr
    have hk := hk1.trans (setBlock_kb w1 r (.mapIter (some mb) since (seen.push (Me16.entry m).born) clock))
    have hit : (ChangeMaps.setBlock w1 r (.mapIter (some mb) since (seen.push (Me16.entry m).born) clock)).heap[r]? = some (.mapIter (some mb) since (seen.push (Me16.entry m).born) clock) := setMap_at hr1 _
    refine ⟨m, hml, _, hrun, hk, ?_, ⟨clock, hcl, hit⟩, ?_⟩
    · have : (ChangeMaps.setBlock w1 r (.mapIter (some mb) since (seen.push (Me16.entry m).born) clock)).heap.size = w1.heap.size := setMap_size w1 r _
      rw [this]
      rcases hal with rfl | rfl <;> rfl
    · refine run_entry_at (P := Try.prog) _ r mb since seen _ clock (Me16.entry m) hit (Map16.kb hm hk hne) ?_ ?_
      · simp only [List.mem_map]
        exact ⟨m, (List.mem_filter.1 hml).1, rfl⟩
      · simp only [List.map_map]
        exact hn

/-- The loop's step at the operation. -/
theorem wpList_next16 {w : World} {ops : Array Oper} {rest : List Oper} {o : Oper} {a : Act} {Q : Exit → Act → World → Prop} (hg : o.guard = none) (it : Operand) (hop : o.op = Op.next it false)
    (r mb since clock : Nat) (seen : Array Nat) (ms : List Me16) (hit : a.eval it = .pointer (some ⟨r, 0, none⟩)) (hi : Iter16 w r mb since seen) (hm : Map16 w mb ms clock) (hold : ∀ m ∈ ms, m.born < since) (hcl : since ≤ clock) (hn : (ms.map (·.born)).Nodup) (hne : mb ≠ r)
    (hDone : left16 ms seen = [] → wpList Try.prog ops Q rest (a.put o.dst (.tuple #[.bool false])) w)
    (hMore : ∀ (m : Me16) (w' : World), m ∈ left16 ms seen → Kb (· = r) w w' → w'.heap.size = w.heap.size → Iter16 w' r mb since (seen.push m.born) →
      (Instr.entry (.pointer (some ⟨r, 0, none⟩))).run Try.prog w' = .ok (.tuple #[m.k.val, .pointer (some ⟨m.eb, 0, none⟩)]) w' → wpList Try.prog ops Q rest (a.put o.dst (.tuple #[.bool true, m.k.val, .pointer (some ⟨m.eb, 0, none⟩)])) w') :
    wpList Try.prog ops Q (o :: rest) a w := by
  refine wpList_plain hg fun K' hK' => ?_
  unfold Oper.wp
  rcases next16 o.type hi hm hold hcl hn hne with ⟨h0, hrun⟩ | ⟨m, hml, w', hrun, hk, hsz, hi', hen⟩
  · simp [execOp, hop, hit, hrun, Result.andThen]
    exact hK' _ _ (hDone h0)
  · simp [execOp, hop, hit, hrun, Result.andThen]
    exact hK' _ _ (hMore m w' hml hk hsz hi' hen)

/-- 'range m' at the operation. -/
theorem wpList_range16 {w : World} {ops : Array Oper} {rest : List Oper} {o : Oper} {a : Act} {Q : Exit → Act → World → Prop} (hg : o.guard = none) (m : Operand) (hop : o.op = Op.range 63 m)
    (mb clock : Nat) (ms : List Me16) (hm : a.eval m = .map (some mb)) (hmap : Map16 w mb ms clock)
    (hK : ∀ w', Iter16 w' w.heap.size mb clock #[] → Below w.heap.size w w' → w'.heap.size = w.heap.size + 1 → wpList Try.prog ops Q rest (a.put o.dst (.pointer (some ⟨w.heap.size, 0, none⟩))) w') :
    wpList Try.prog ops Q (o :: rest) a w := by
  refine wpList_plain hg fun K' hK' => ?_
  have hrun := run_range_map (P := Try.prog) w 63 _ _ mb _ clock Try.underlying63 hmap
  unfold Oper.wp
  simp [execOp, hop, hm, hrun, Result.andThen]
  exact hK' _ _ (hK _ ⟨clock, Nat.le_refl _, heap_alloc_new w _⟩ ((Below.refl _ w).alloc (Nat.le_refl _) _) (by simp))

/-- An entry that has come is no longer to come. -/
theorem left16_push {ms : List Me16} {seen : Array Nat} {m : Me16} (hn : (ms.map (·.born)).Nodup) (hm : m ∈ left16 ms seen) :
    ∃ a b, left16 ms seen = a ++ m :: b ∧ left16 ms (seen.push m.born) = a ++ b := by
  have hl : left16 ms (seen.push m.born) = (left16 ms seen).filter fun x => x.born != m.born := by
    unfold left16
    rw [List.filter_filter]
    congr 1
    funext x
    simp only [Array.contains_push]
    rw [Bool.eq_iff_iff]
    simp [and_comm]
  have hd : ((left16 ms seen).map (·.born)).Nodup := List.Sublist.nodup (List.Sublist.map _ (List.filter_sublist ..)) hn
  obtain ⟨a, b, e⟩ := List.append_of_mem hm
  rw [e] at hl hd ⊢
  refine ⟨a, b, rfl, ?_⟩
  rw [hl]
  rw [List.map_append, List.map_cons, List.nodup_append, List.nodup_cons] at hd
  have ha : ∀ x ∈ a, (x.born != m.born) = true := by
    intro x hx
    have := hd.2.2 x.born (List.mem_map_of_mem hx) m.born (List.mem_cons_self ..)
    simpa using this
  have hb : ∀ x ∈ b, (x.born != m.born) = true := by
    intro x hx
    have := hd.2.1.1
    simp only [bne_iff_ne, ne_eq]
    intro e
    exact this (e ▸ List.mem_map_of_mem hx)
  rw [List.filter_append, List.filter_cons, List.filter_eq_self.2 ha, List.filter_eq_self.2 hb]
  simp

end Go.Proofs.Ytoijomdgcgbpbaa
