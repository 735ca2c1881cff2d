/-
  Slices of bytes that a call has made itself, of whatever mark: made of a text, added to, and told as a text.
-/
import Derived.Test.YtnlgcjcfbekgoaaTexts
import Derived.Lib.AppendStr
namespace Go.Proofs.Ytnlgcjcfbekgoaa
open Go.RowKit
set_option linter.unusedVariables false

/-- Bytes as cells. -/
def byteCells (l : List UInt8) : List Value := l.map fun c => Value.int .u8 (c.toNat : Int)
theorem byteCells_length (l : List UInt8) : (byteCells l).length = l.length := by simp [byteCells]
theorem byteCells_append (l m : List UInt8) : byteCells (l ++ m) = byteCells l ++ byteCells m := by simp [byteCells]
theorem byteCells_one (l : List UInt8) : ∀ u ∈ byteCells l, u.oneCell' = true := by
  intro u hu
  obtain ⟨c, _, rfl⟩ := List.mem_map.1 hu
  rfl

/-- No cell of a row of so many is frozen. -/
def Free (fz : Nat × Nat) (n : Nat) : Prop := n ≤ fz.1 ∨ fz.2 = 0

/-- Cells stored one behind the other into a row none of whose cells is frozen. -/
theorem store_all (g : Nat) (e : TypeId) (fz : Nat × Nat) (o : Nat) : ∀ (vs : List Value) (i : Nat) (cur : Array Value) (w : World), w.heap[g]? = some (.cells cur e fz) → Free fz cur.size → o + i + vs.length ≤ cur.size → (∀ v ∈ vs, v.oneCell' = true) →
    ∃ w' cur', (storeCells ⟨g, o, none⟩ vs i).run Try.prog w = .ok () w' ∧ w'.heap[g]? = some (.cells cur' e fz) ∧ cur'.size = cur.size ∧ cur'.toList.take (o + i + vs.length) = cur.toList.take (o + i) ++ vs ∧ Kb (· = g) w w' := by
  intro vs
  induction vs with
  | nil => intro i cur w hg _ _ _; exact ⟨w, cur, rfl, hg, rfl, by simp, Kb.refl _ _⟩
  | cons v rest ih =>
    intro i cur w hg hf hl h1
    rw [List.length_cons] at hl
    have hlt : o + i < cur.size := by omega
    have ha : (⟨g, o, none⟩ : Addr).add i = ⟨g, o + i, none⟩ := by unfold Addr.add; split <;> simp_all
    have hc : w.cell? ⟨g, o + i, none⟩ = some cur[o + i] := by simp [World.cell?, hg, hlt]
    have hz : w.frozen? ⟨g, o + i, none⟩ = false := by
      obtain ⟨a, b⟩ := fz
      rcases hf with hf | hf <;> simp only at hf <;> simp [World.frozen?, hg] <;> omega
    have hs : (store ((⟨g, o, none⟩ : Addr).add i) v).run Try.prog w = .ok () (w.setCell ⟨g, o + i, none⟩ v) := by
      rw [ha, run_store Try.prog w _ v _ (h1 v (List.mem_cons_self ..)), hc]
      simp [hz]
    have hg1 : (w.setCell ⟨g, o + i, none⟩ v).heap[g]? = some (.cells (cur.setIfInBounds (o + i) v) e fz) := by
      simp [World.setCell, Array.getElem?_modify, hg]
    obtain ⟨w', cur', r, r1, r2, r3, r4⟩ := ih (i + 1) (cur.setIfInBounds (o + i) v) _ hg1 (by simpa using hf) (by simp; omega) (fun x hx => h1 x (List.mem_cons_of_mem _ hx))
    refine ⟨w', cur', ?_, r1, by simpa using r2, ?_, (Kb.setCell (S := (· = g)) (Kb.refl _ _) (p := ⟨g, o + i, none⟩) (fun _ => rfl) _).trans r4⟩
    · simp only [storeCells, Sem.run_bind, hs, Result.andThen_ok, r]
    · have e1 : (cur.setIfInBounds (o + i) v).toList.take (o + (i + 1)) = cur.toList.take (o + i) ++ [v] := by
        rw [Array.toList_setIfInBounds, show o + (i + 1) = (o + i) + 1 by omega, List.take_succ_eq_append_getElem (by simpa using hlt), List.getElem_set_self, List.take_set_of_le (Nat.le_refl _)]
      rw [e1] at r3
      rw [List.length_cons, show o + i + (rest.length + 1) = o + (i + 1) + rest.length by omega, r3]
      simp

/-- A slice of bytes that the call owns: it lies from base on, and holds these. -/
def OwnB (w : World) (base : Nat) (v : Value) (l : List UInt8) : Prop :=
  ∃ g cur fz, v = .slice (some ⟨g, 0, none⟩) l.length cur.size ∧ base ≤ g ∧ w.heap[g]? = some (.cells cur 5 fz) ∧ Free fz cur.size ∧ l.length ≤ cur.size ∧ cur.size ≤ maxLen ∧ cur.toList.take l.length = byteCells l

theorem OwnB.slice {w : World} {base : Nat} {v : Value} {l : List UInt8} (h : OwnB w base v l) : ∃ g c, v = .slice (some ⟨g, 0, none⟩) l.length c ∧ base ≤ g ∧ g < w.heap.size := by
  obtain ⟨g, cur, fz, rfl, hb, hg, _⟩ := h
  exact ⟨g, _, rfl, hb, (Array.getElem?_eq_some_iff.1 hg).1⟩
theorem OwnB.cells {w : World} {base g c n : Nat} {l : List UInt8} (h : OwnB w base (.slice (some ⟨g, 0, none⟩) n c) l) (j : Nat) (hj : j < l.length) : w.cell? ⟨g, j, none⟩ = some (.int .u8 (l[j].toNat : Int)) := by
  obtain ⟨g', cur, fz, hv, hb, hg, hf, hl, hm, ht⟩ := h
  simp at hv
  obtain ⟨rfl, _, _⟩ := hv
  have h1 : (cur.toList.take l.length)[j]? = some (.int .u8 (l[j].toNat : Int)) := by rw [ht]; simp [byteCells, hj]
  rw [List.getElem?_take_of_lt hj] at h1
  simpa [World.cell?, hg] using h1
theorem OwnB.kb {S : Nat → Prop} {w w' : World} {base g n c : Nat} {l : List UInt8} (h : OwnB w base (.slice (some ⟨g, 0, none⟩) n c) l) (k : Kb S w w') (hs : ¬ S g) : OwnB w' base (.slice (some ⟨g, 0, none⟩) n c) l := by
  obtain ⟨g', cur, fz, hv, hb, hg, r⟩ := h
  have hv' := hv
  simp at hv'
  obtain ⟨rfl, _, _⟩ := hv'
  exact ⟨g, cur, fz, hv, hb, (k.block g (Array.getElem?_eq_some_iff.1 hg).1 hs).trans hg, r⟩
theorem OwnB.text {w : World} {base : Nat} {v : Value} {l : List UInt8} (h : OwnB w base v l) : (convert 33 9 v).run Try.prog w = .ok (.string ⟨l.toArray⟩) w := by
  obtain ⟨g, c, rfl, _, _⟩ := h.slice
  refine run_convert_bytes_back (P := Try.prog) _ 33 9 5 ⟨g, 0, none⟩ c l Try.underlying33 Try.underlying5 Try.underlying9 fun q hq => ?_
  rw [addr_add]
  exact h.cells q hq

/-- A text's bytes, laid anew, are owned. -/
theorem own_conv (w : World) (s : ByteArray) (hs : s.size ≤ 140737488355328) : ∃ v w', (convert 9 33 (.string s)).run Try.prog w = .ok v w' ∧ OwnB w' w.heap.size v s.data.toList ∧ Kb (fun _ => False) w w' := by
  have hge := grownCap_ge w s.size 0 5
  have hle : grownCap w s.size 0 5 ≤ maxLen := grownCap_le_maxLen w s.size 0 5 (by unfold maxLen; omega)
  have hrow : (bytesRow s (grownCap w s.size 0 5)).size = grownCap w s.size 0 5 := by
    simp [bytesRow]
    have : s.data.size = s.size := rfl
    omega
  refine ⟨_, _, run_bytes_of_string (P := Try.prog) w 9 33 5 s Try.underlying9 Try.underlying33 Try.underlying5, ?_, ((Kb.refl _ _).drew).alloc _⟩
  refine ⟨w.heap.size, bytesRow s (grownCap w s.size 0 5), ((bytesRow s (grownCap w s.size 0 5)).size, (bytesRow s (grownCap w s.size 0 5)).size + 1), by rw [hrow]; simp, Nat.le_refl _, ?_, Or.inl (Nat.le_refl _), ?_, by rw [hrow]; exact hle, ?_⟩
  · show (w.heap.push _)[w.heap.size]? = _
    simp
  · rw [hrow]; simpa using hge
  · unfold bytesRow byteCells
    rw [Array.toList_append, List.take_left' (by simp)]
    simp

theorem Try.infoB : ∃ i, Try.prog.info? 5 = some i ∧ i.zero = some (.int .u8 0) ∧ i.size = 1 ∧ i.bytes = 1 := by
  obtain ⟨i, hi, hz⟩ := Option.map_eq_some_iff.1 Try.infoByte
  simp only [Prod.mk.injEq] at hz
  exact ⟨i, hi, hz.1, hz.2.1, hz.2.2⟩

/-- A text added. -/
theorem own_add (w : World) (base : Nat) (v : Value) (l : List UInt8) (s : ByteArray) (ty : TypeId) (h : OwnB w base v l) (hb : base ≤ w.heap.size) (hs : l.length + s.size ≤ 140737488355328) :
    ∃ v' w', (Builtin.append_ #[33, 9] ty #[v, .string s]).run Try.prog w = .ok v' w' ∧ OwnB w' base v' (l ++ s.data.toList) ∧ Kb (fun k => base ≤ k) w w' := by
  obtain ⟨i, hi, hz, hi1, hi2⟩ := Try.infoB
  have hown := h
  obtain ⟨g, cur, fz, rfl, hbg, hg, hf, hlc, hcm, ht⟩ := h
  have hsl : s.data.toList.length = s.size := by simp
  by_cases room : l.length + s.size ≤ cur.size
  · have hfc := Lib.run_firstCells_string (P := Try.prog) w 1 s
    obtain ⟨w', cur', r, r1, r2, r3, r4⟩ := store_all g 5 fz l.length (Lib.strCells s) 0 cur w hg hf (by rw [Lib.strCells_length]; omega) (Lib.strCells_oneCell s)
    refine ⟨.slice (some ⟨g, 0, none⟩) (l.length + s.size) cur.size, w', ?_, ⟨g, cur', fz, ?_, hbg, r1, by rw [r2]; exact hf, ?_, by rw [r2]; exact hcm, ?_⟩, r4.mono fun k _ e => by subst e; exact hbg⟩
    · simp [Builtin.append_, run_underlying Try.underlying33, run_underlying Try.underlying9, sizeOf, typeInfo, hi, hi1, Builtin.lenOf, room, hfc, Addr.add_lit, r]
    · rw [r2, List.length_append, hsl]
    · rw [r2, List.length_append, hsl]; exact room
    · rw [Lib.strCells_length, Nat.add_zero] at r3
      rw [List.length_append, hsl, r3, ht, byteCells_append]
      rfl
  · have hold : ∀ j u, (byteCells l)[j]? = some u → w.cell? ((⟨g, 0, none⟩ : Addr).add j) = some u := by
      intro j u hu
      have hj : j < l.length := by have := (List.getElem?_eq_some_iff.1 hu).1; simpa [byteCells] using this
      rw [addr_add, hown.cells j hj]
      simp [byteCells, hj] at hu
      rw [← hu]
    have hr := Lib.run_append_grow_string (P := Try.prog) w 33 9 ty 5 i (.int .u8 0) Try.underlying33 Try.underlying9 hi hz ⟨g, 0, none⟩ l.length cur.size (byteCells l) (by rw [hi1, byteCells_length, Nat.mul_one]) hold s (by omega) (by omega) (by rw [hi2]; exact growslice_fits (by omega) (by omega))
    have hge := grownCap_ge w (l.length + s.size) cur.size 5
    have hle : grownCap w (l.length + s.size) cur.size 5 ≤ maxLen := grownCap_le_maxLen w (l.length + s.size) cur.size 5 (by unfold maxLen; omega)
    refine ⟨_, _, hr, ?_, (((Kb.refl _ _).drew).alloc _)⟩
    have hz1 : (Value.int IntKind.u8 0).cells.size = 1 := rfl
    have hsz : ((byteCells l).toArray ++ (Lib.strCells s).toArray ++ Builtin.zeroCells (Value.int IntKind.u8 0).cells (grownCap w (l.length + s.size) cur.size 5 - (l.length + s.size))).size = grownCap w (l.length + s.size) cur.size 5 := by
      simp only [Array.size_append, List.size_toArray, size_zeroCells, hz1, byteCells_length, Lib.strCells_length]
      omega
    refine ⟨w.heap.size, _, (0, 0), ?_, hb, heap_alloc_new w.drew _, Or.inr rfl, ?_, ?_, ?_⟩
    · rw [hsz, List.length_append, hsl]
    · rw [hsz, List.length_append, hsl]; exact hge
    · rw [hsz]; exact hle
    · rw [Array.toList_append, Array.toList_append, List.take_left' (by simp [byteCells_length, Lib.strCells_length]), byteCells_append]
      rfl

/-- Bytes of a slice added. -/
theorem own_adds (w : World) (base : Nat) (v : Value) (l m : List UInt8) (a n c : Nat) (ty : TypeId) (h : OwnB w base v l) (hb : base ≤ w.heap.size) (hn : n = m.length) (hm : ∀ j (hj : j < m.length), w.cell? ⟨a, j, none⟩ = some (.int .u8 (m[j].toNat : Int))) (hs : l.length + m.length ≤ 140737488355328) :
    ∃ v' w', (Builtin.append_ #[33, 33] ty #[v, .slice (some ⟨a, 0, none⟩) n c]).run Try.prog w = .ok v' w' ∧ OwnB w' base v' (l ++ m) ∧ Kb (fun k => base ≤ k) w w' := by
  subst hn
  obtain ⟨i, hi, hz, hi1, hi2⟩ := Try.infoB
  have hown := h
  obtain ⟨g, cur, fz, rfl, hbg, hg, hf, hlc, hcm, ht⟩ := h
  have hnew : ∀ j u, (byteCells m)[j]? = some u → w.cell? ((⟨a, 0, none⟩ : Addr).add j) = some u := by
    intro j u hu
    have hj : j < m.length := by have := (List.getElem?_eq_some_iff.1 hu).1; simpa [byteCells] using this
    rw [addr_add, hm j hj]
    simp [byteCells, hj] at hu
    rw [← hu]
  by_cases room : l.length + m.length ≤ cur.size
  · have hfc := run_firstCells_some (P := Try.prog) w 1 m.length ⟨a, 0, none⟩ m.length c (byteCells m) (by rw [byteCells_length, Nat.mul_one]) hnew
    obtain ⟨w', cur', r, r1, r2, r3, r4⟩ := store_all g 5 fz l.length (byteCells m) 0 cur w hg hf (by rw [byteCells_length]; omega) (byteCells_one m)
    refine ⟨.slice (some ⟨g, 0, none⟩) (l.length + m.length) cur.size, w', ?_, ⟨g, cur', fz, ?_, hbg, r1, by rw [r2]; exact hf, ?_, by rw [r2]; exact hcm, ?_⟩, r4.mono fun k _ e => by subst e; exact hbg⟩
    · simp [Builtin.append_, run_underlying Try.underlying33, sizeOf, typeInfo, hi, hi1, Builtin.lenOf, room, hfc, Addr.add_lit, r]
    · rw [r2, List.length_append]
    · rw [r2, List.length_append]; exact room
    · rw [byteCells_length, Nat.add_zero] at r3
      rw [List.length_append, r3, ht, byteCells_append]
  · have hold : ∀ j u, (byteCells l)[j]? = some u → w.cell? ((⟨g, 0, none⟩ : Addr).add j) = some u := by
      intro j u hu
      have hj : j < l.length := by have := (List.getElem?_eq_some_iff.1 hu).1; simpa [byteCells] using this
      rw [addr_add, hown.cells j hj]
      simp [byteCells, hj] at hu
      rw [← hu]
    have hr := run_append_grow (P := Try.prog) w 33 ty 5 i (.int .u8 0) Try.underlying33 hi hz ⟨g, 0, none⟩ l.length cur.size (byteCells l) (by rw [hi1, byteCells_length, Nat.mul_one]) hold ⟨a, 0, none⟩ m.length c (byteCells m) (by rw [hi1, byteCells_length, Nat.mul_one]) hnew (by omega) (by omega) (by rw [hi2]; exact growslice_fits (by omega) (by omega))
    have hge := grownCap_ge w (l.length + m.length) cur.size 5
    have hle : grownCap w (l.length + m.length) cur.size 5 ≤ maxLen := grownCap_le_maxLen w (l.length + m.length) cur.size 5 (by unfold maxLen; omega)
    refine ⟨_, _, hr, ?_, (((Kb.refl _ _).drew).alloc _)⟩
    have hz1 : (Value.int IntKind.u8 0).cells.size = 1 := rfl
    have hsz : ((byteCells l).toArray ++ (byteCells m).toArray ++ Builtin.zeroCells (Value.int IntKind.u8 0).cells (grownCap w (l.length + m.length) cur.size 5 - (l.length + m.length))).size = grownCap w (l.length + m.length) cur.size 5 := by
      simp only [Array.size_append, List.size_toArray, size_zeroCells, hz1, byteCells_length]
      omega
    refine ⟨w.heap.size, _, (0, 0), ?_, hb, heap_alloc_new w.drew _, Or.inr rfl, ?_, ?_, ?_⟩
    · rw [hsz, List.length_append]
    · rw [hsz, List.length_append]; exact hge
    · rw [hsz]; exact hle
    · rw [Array.toList_append, Array.toList_append, List.take_left' (by simp [byteCells_length]), byteCells_append]

/-- An append whose run is known, in a walk. -/
theorem wp_append (w : World) {ops : Array Oper} {rest : List Oper} {o : Oper} {a : Act} {Q : Exit → Act → World → Prop} (hgd : o.guard = none) (s x : Operand) (t u : TypeId)
    (ho : o.op = .call { callee := .builtin .append, args := #[s, x], argTypes := #[t, u] }) (v1 v2 : Value) (hs : a.eval s = v1) (hx : a.eval x = v2) {v' : Value} {w' : World}
    (hr : (Builtin.append_ #[t, u] o.type #[v1, v2]).run Try.prog w = .ok v' w') (h : wpList Try.prog ops Q rest (a.put o.dst v') w') : wpList Try.prog ops Q (o :: rest) a w := by
  refine wpList_plain hgd fun K hK => ?_
  have hrun : (execOp a.eval o).run Try.prog w = .ok (.value v') w' := by
    simp [execOp, ho, resolve, invoke, builtin, hs, hx, hr]
  simp only [Oper.wp, hrun]
  exact hK _ _ h
end Go.Proofs.Ytnlgcjcfbekgoaa
