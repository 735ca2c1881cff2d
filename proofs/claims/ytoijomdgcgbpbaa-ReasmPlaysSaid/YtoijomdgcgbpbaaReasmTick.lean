/-
  Tick: each entry is older, the old ones are gone.
-/
import Derived.Test.YtoijomdgcgbpbaaReasmLook
import Derived.RegionTactic
namespace Go.Proofs.Ytoijomdgcgbpbaa
open Go.RowKit
set_option linter.unusedVariables false

def E16.older (e : E16) : E16 := { e with age := e.age + 1 }
def M16.older (m : M16) : M16 := { m with e := m.e.older }
/-- What an entry is while the loop goes on. -/
def step16 (L : Nat) (seen : Array Nat) (m : M16) : Option M16 := if seen.contains m.born then (if m.e.age + 1 < L then some m.older else none) else some m
def cur16 (L : Nat) (seen : Array Nat) (ms : List M16) : List M16 := ms.filterMap (step16 L seen)

theorem cur16_start (L : Nat) (ms : List M16) : cur16 L #[] ms = ms := by
  unfold cur16 step16
  simp
theorem cur16_end {L : Nat} {seen : Array Nat} {ms : List M16} (h : left16 ((cur16 L seen ms).map M16.me) seen = []) : (cur16 L seen ms).map (·.e) = tick16 L (ms.map (·.e)) := by
  have hall : ∀ m ∈ ms, seen.contains m.born = true := by
    intro m hm
    cases hc : seen.contains m.born with
    | true => rfl
    | false =>
      have hin : m ∈ cur16 L seen ms := List.mem_filterMap.2 ⟨m, hm, by unfold step16; rw [hc]; rfl⟩
      have : m.me ∈ left16 ((cur16 L seen ms).map M16.me) seen := by
        unfold left16
        rw [List.mem_filter]
        exact ⟨List.mem_map_of_mem hin, by show (!seen.contains m.born) = true; rw [hc]; rfl⟩
      rw [h] at this
      cases this
  clear h
  unfold cur16 tick16
  induction ms with
  | nil => rfl
  | cons a r ih =>
    have ha := hall a (List.mem_cons_self ..)
    have ihr := ih (fun m hm => hall m (List.mem_cons_of_mem _ hm))
    simp only [List.map_cons, List.filterMap_cons, step16, ha, if_true, List.filter_cons] at ihr ⊢
    by_cases hl : a.e.age + 1 < L
    · simp [hl, M16.older, E16.older, ihr]
    · simp [hl, ihr]
theorem cur16_mem {L : Nat} {seen : Array Nat} {ms : List M16} {x : M16} (h : x ∈ cur16 L seen ms) : ∃ m ∈ ms, x.born = m.born ∧ (seen.contains m.born = false → x = m) := by
  unfold cur16 at h
  obtain ⟨m, hm, e⟩ := List.mem_filterMap.1 h
  refine ⟨m, hm, ?_, ?_⟩
  · unfold step16 at e
    split at e
    · split at e
      · have := Option.some.inj e
        rw [← this]
        rfl
      · cases e
    · rw [← Option.some.inj e]
  · intro hc
    unfold step16 at e
    rw [hc] at e
    exact (Option.some.inj e).symm
theorem filterMap_same {α β : Type} {f g : α → Option β} : ∀ {l : List α}, (∀ x ∈ l, f x = g x) → l.filterMap f = l.filterMap g
  | [], _ => rfl
  | x :: l, h => by
    rw [List.filterMap_cons, List.filterMap_cons, h x (List.mem_cons_self ..), filterMap_same (fun y hy => h y (List.mem_cons_of_mem _ hy))]
theorem cur16_other {L : Nat} {seen : Array Nat} {n : Nat} {ms : List M16} (h : ∀ m ∈ ms, m.born ≠ n) : cur16 L (seen.push n) ms = cur16 L seen ms := by
  unfold cur16
  apply filterMap_same
  intro m hm
  unfold step16
  have : (seen.push n).contains m.born = seen.contains m.born := by
    rw [Array.contains_push]
    have := h m hm
    simp [this]
  rw [this]
/-- One entry is come to. -/
theorem cur16_step {L : Nat} {seen : Array Nat} {ms : List M16} {y : M16} (hn : (ms.map (·.born)).Nodup) (hy : y ∈ cur16 L seen ms) (hs : seen.contains y.born = false) :
    ∃ a b, cur16 L seen ms = a ++ y :: b ∧ cur16 L (seen.push y.born) ms = (if y.e.age + 1 < L then a ++ y.older :: b else a ++ b) ∧ (∀ m ∈ a, m.born ≠ y.born) ∧ ∀ m ∈ b, m.born ≠ y.born := by
  obtain ⟨m, hm, hb, he⟩ := cur16_mem hy
  rw [hb] at hs
  obtain rfl := he hs
  obtain ⟨a, b, rfl⟩ := List.append_of_mem hm
  rw [List.map_append, List.map_cons, List.nodup_append, List.nodup_cons] at hn
  have ha : ∀ m ∈ a, m.born ≠ y.born := fun m hm => hn.2.2 _ (List.mem_map_of_mem hm) _ (List.mem_cons_self ..)
  have hbb : ∀ m ∈ b, m.born ≠ y.born := fun m hm e => hn.2.1.1 (e ▸ List.mem_map_of_mem hm)
  have e1 : ∀ s, cur16 L s (a ++ y :: b) = cur16 L s a ++ cur16 L s (y :: b) := fun s => List.filterMap_append ..
  have e2 : cur16 L seen (y :: b) = y :: cur16 L seen b := by
    unfold cur16
    rw [List.filterMap_cons]
    have : step16 L seen y = some y := by unfold step16; rw [hs]; rfl
    rw [this]
  have e3 : cur16 L (seen.push y.born) (y :: b) = if y.e.age + 1 < L then y.older :: cur16 L seen b else cur16 L seen b := by
    unfold cur16
    rw [List.filterMap_cons]
    have hp : (seen.push y.born).contains y.born = true := by simp
    have := cur16_other (L := L) (seen := seen) hbb
    unfold cur16 at this
    by_cases hl : y.e.age + 1 < L
    · have e : step16 L (seen.push y.born) y = some y.older := by unfold step16; rw [hp, if_pos hl]; rfl
      rw [e, this, if_pos hl]
    · have e : step16 L (seen.push y.born) y = none := by unfold step16; rw [hp, if_neg hl]; rfl
      rw [e, this, if_neg hl]
  refine ⟨cur16 L seen a, cur16 L seen b, by rw [e1, e2], ?_, ?_, ?_⟩
  · rw [e1, e3, cur16_other ha]
    by_cases hl : y.e.age + 1 < L
    · rw [if_pos hl, if_pos hl]
    · rw [if_neg hl, if_neg hl]
  · intro m hm
    obtain ⟨x, hx, e, _⟩ := cur16_mem hm
    rw [e]; exact ha x hx
  · intro m hm
    obtain ⟨x, hx, e, _⟩ := cur16_mem hm
    rw [e]; exact hbb x hx
theorem left16_other {l : List M16} {seen : Array Nat} {n : Nat} (h : ∀ m ∈ l, m.born ≠ n) : left16 (l.map M16.me) (seen.push n) = left16 (l.map M16.me) seen := by
  unfold left16
  apply List.filter_congr
  intro m hm
  obtain ⟨x, hx, rfl⟩ := List.mem_map.1 hm
  have := h x hx
  rw [Array.contains_push]
  have e : (M16.me x).born = x.born := rfl
  rw [e]
  simp [this]
theorem left16_less {seen : Array Nat} {a b c : List M16} {y : M16} (hs : seen.contains y.born = false) (ha : ∀ m ∈ a, m.born ≠ y.born) (hb : ∀ m ∈ b, m.born ≠ y.born) (hc : c = a ++ y.older :: b ∨ c = a ++ b) :
    (left16 (c.map M16.me) (seen.push y.born)).length < (left16 ((a ++ y :: b).map M16.me) seen).length := by
  have la := left16_other (seen := seen) ha
  have lb := left16_other (seen := seen) hb
  have app : ∀ (u v : List M16) s, left16 ((u ++ v).map M16.me) s = left16 (u.map M16.me) s ++ left16 (v.map M16.me) s := fun u v s => by
    unfold left16
    rw [List.map_append, List.filter_append]
  have hy : left16 ((y :: b).map M16.me) seen = y.me :: left16 (b.map M16.me) seen := by
    unfold left16
    rw [List.map_cons, List.filter_cons, show (M16.me y).born = y.born from rfl, hs]
    rfl
  have ho : left16 ((y.older :: b).map M16.me) (seen.push y.born) = left16 (b.map M16.me) (seen.push y.born) := by
    unfold left16
    rw [List.map_cons, List.filter_cons, show (M16.me y.older).born = y.born from rfl]
    simp
  rcases hc with rfl | rfl
  · rw [app, app, hy, ho, la, lb]
    simp
  · rw [app, app, hy, la, lb]
    simp

theorem bytes16_append (a b : List E16) : bytes16 (a ++ b) = bytes16 a + bytes16 b := by simp [bytes16]
theorem bytes16_cons (x : E16) (b : List E16) : bytes16 (x :: b) = sum16 x.qs + bytes16 b := by simp [bytes16]
theorem Tab16.aged {E B L : Nat} {a b : List E16} {y : E16} (h : Tab16 E B L (a ++ y :: b)) (hl : y.age + 1 < L) : Tab16 E B L (a ++ y.older :: b) := by
  obtain ⟨h1, h2, h3, h4, h5⟩ := h
  refine ⟨h1, by simpa using h2, ?_, ?_, ?_⟩
  · rw [bytes16_append, bytes16_cons] at h3 ⊢
    exact h3
  · rw [List.pairwise_append, List.pairwise_cons] at h4 ⊢
    refine ⟨h4.1, h4.2.1, fun x hx z hz => ?_⟩
    rcases List.mem_cons.1 hz with rfl | hz
    · exact h4.2.2 x hx y (List.mem_cons_self ..)
    · exact h4.2.2 x hx z (List.mem_cons_of_mem _ hz)
  · intro e he
    rw [List.mem_append, List.mem_cons] at he
    rcases he with he | rfl | he
    · exact h5 e (by simp [he])
    · have := h5 y (by simp)
      exact ⟨this.good, hl, this.over, this.hd, this.first⟩
    · exact h5 e (by simp [he])
theorem Tab16.less {E B L : Nat} {a b : List E16} {y : E16} (h : Tab16 E B L (a ++ y :: b)) : Tab16 E B L (a ++ b) := by
  obtain ⟨h1, h2, h3, h4, h5⟩ := h
  have sub : ∀ x ∈ a ++ b, x ∈ a ++ y :: b := by
    intro x hx
    rw [List.mem_append] at hx
    rcases hx with hx | hx <;> simp [hx]
  refine ⟨h1, by simp at h2 ⊢; omega, ?_, ?_, fun e he => h5 e (sub e he)⟩
  · rw [bytes16_append, bytes16_cons] at h3
    rw [bytes16_append]
    omega
  · rw [List.pairwise_append, List.pairwise_cons] at h4
    rw [List.pairwise_append]
    exact ⟨h4.1, h4.2.1.2, fun x hx z hz => h4.2.2 x hx z (List.mem_cons_of_mem _ hz)⟩

theorem E16.older_cells (e : E16) (v : Value) : e.older.cells v = (e.cells v).setIfInBounds 12 (.int .i64 ((e.age + 1 : Nat) : Int)) := by
  simp [E16.cells, E16.older]
/-- An entry's age, one more. -/
theorem En16.older {w : World} {e : E16} {eb : Nat} {v : Value} (h : En16 w e eb v) : En16 (w.setCell ⟨eb, 12, none⟩ (.int .i64 ((e.age + 1 : Nat) : Int))) e.older eb v := by
  have hne := h.ne
  refine ⟨?_, ?_⟩
  · rw [E16.older_cells]
    exact h.b.set 12 _
  · exact h.r.kb (S := fun k => k = eb) (Kb.setCell (S := fun k => k = eb) (Kb.refl _ w) (p := ⟨eb, 12, none⟩) (fun _ => rfl) _) (fun g e1 e2 => hne (e2 ▸ e1))

theorem step_delete16 {ops : Array Oper} {o : Oper} {a : Act} {w : World} {K : Act → World → Prop} {Q : Exit → Act → World → Prop} {X : Prop}
    (hg : o.guard = none) (m x : Operand) (hop : o.op = Op.call { callee := Callee.builtin Builtin.delete, args := #[m, x], argTypes := #[63, 68] })
    (b clock : Nat) (ms : List Me16) (k : K16) (hm : a.eval m = .map (some b)) (hx : a.eval x = k.val) (hb : Map16 w b ms clock) (hn : seek16 ms k < ms.length) (ms' : List Me16) (he : ms.eraseIdx (seek16 ms k) = ms')
    (hK : ∀ w', Kb (· = b) w w' → Map16 w' b ms' clock → K (a.put o.dst (.tuple #[])) w') :
    if Region.wanted o (yielded ops a.tmps) = true then Oper.wp Try.prog o a w K Q else X := by
  have hw : Region.wanted o (yielded ops a.tmps) = true := by simp [Region.wanted, hg]
  rw [if_pos hw]
  have hrun := run_drop_key hb k o.type hn
  rw [he] at hrun
  unfold Oper.wp
  simp [execOp, hop, resolve, invoke, builtin, hm, hx, hrun, Result.andThen]
  exact hK _ (setMap_kb w b _) (setMap_at hb _)

end Go.Proofs.Ytoijomdgcgbpbaa
