/-
  What calls tell of a text, as a function; the memory of a reading that gathers its answers.
-/
import Derived.Test.YtgpknkfdchiidaaRead3
import Derived.Test.YtgpknkfdchiidaaWriter4
namespace Go.Proofs.Ytgpknkfdchiidaa
open Go.RowKit
set_option linter.unusedVariables false

/-- An answer. -/
structure AnsD where
  n : Nat
  s : ByteArray
  pos : Nat
  left : Nat

def ansCell (a : AnsD) : List Value := [.int .u64 a.n, .string a.s, .int .i64 a.pos, .int .i64 a.left]
def ansCells (l : List AnsD) : List Value := l.flatMap ansCell
theorem ansCells_snoc (l : List AnsD) (a : AnsD) : ansCells (l ++ [a]) = ansCells l ++ ansCell a := by simp [ansCells]
theorem ansCells_at : ∀ (l : List AnsD) (i j : Nat) (hi : i < l.length) (hj : j < 4), (ansCells l)[i * 4 + j]? = (ansCell l[i])[j]?
  | a :: l, 0, j, _, hj => by
    simp only [ansCells, List.flatMap_cons, Nat.zero_mul, Nat.zero_add, List.getElem_cons_zero]
    rw [List.getElem?_append_left (by simpa [ansCell] using hj)]
  | a :: l, i + 1, j, hi, hj => by
    simp only [ansCells, List.flatMap_cons, List.getElem_cons_succ]
    rw [List.getElem?_append_right (by simp [ansCell]; omega)]
    have e : (i + 1) * 4 + j - (ansCell a).length = i * 4 + j := by simp [ansCell]; omega
    rw [e]
    exact ansCells_at l i j (by simpa using hi) hj

/-- What a call comes to. -/
inductive Out where
  | stop (e : Int)
  | ans (a : AnsD)

def step (s : ByteArray) (c : CallD) (i : Nat) : Out :=
  if 0 ≤ c.kind ∧ c.kind ≤ 3 then
    if s.size < i + sizeOf' c.kind then .stop 2 else .ans ⟨numOf s i (sizeOf' c.kind), ⟨#[]⟩, i + sizeOf' c.kind, s.size - (i + sizeOf' c.kind)⟩
  else if c.kind = 4 then
    if c.k < 0 ∨ (s.size : Int) - i < c.k then .stop 2 else .ans ⟨0, s.extract i (i + c.k.toNat), i + c.k.toNat, s.size - (i + c.k.toNat)⟩
  else if c.kind = 5 then .ans ⟨0, s.extract i s.size, s.size, 0⟩
  else if c.n % 2 = 1 then .stop c.k else .ans ⟨0, ⟨#[]⟩, i, s.size - i⟩

/-- The answers of the first j calls, how much was read, and whether it was stopped. -/
structure St where
  ans : List AnsD
  pos : Nat
  err : Option Int

def next (s : ByteArray) (c : CallD) (t : St) : St :=
  match t.err with
  | some _ => t
  | none => match step s c t.pos with
    | .stop e => ⟨t.ans, t.pos, some e⟩
    | .ans a => ⟨t.ans ++ [a], a.pos, none⟩

def st (s : ByteArray) (C : Nat → CallD) : Nat → St
  | 0 => ⟨[], 0, none⟩
  | j + 1 => next s (C j) (st s C j)

theorem st_stop {s : ByteArray} {C : Nat → CallD} {j : Nat} {e : Int} (h : (st s C j).err = none) (hs : step s (C j) (st s C j).pos = .stop e) : st s C (j + 1) = ⟨(st s C j).ans, (st s C j).pos, some e⟩ := by
  show next s (C j) (st s C j) = _
  unfold next; rw [h, hs]
theorem st_ans {s : ByteArray} {C : Nat → CallD} {j : Nat} {a : AnsD} (h : (st s C j).err = none) (hs : step s (C j) (st s C j).pos = .ans a) : st s C (j + 1) = ⟨(st s C j).ans ++ [a], a.pos, none⟩ := by
  show next s (C j) (st s C j) = _
  unfold next; rw [h, hs]
theorem st_held {s : ByteArray} {C : Nat → CallD} {j : Nat} (h : (st s C j).err ≠ none) : ∀ m, j ≤ m → st s C m = st s C j
  | m, hm => by
    induction m with
    | zero => rw [show j = 0 by omega]
    | succ m ih =>
      by_cases e : j = m + 1
      · rw [e]
      · have := ih (by omega)
        show next s (C m) (st s C m) = _
        rw [this]
        unfold next
        cases he : (st s C j).err with
        | none => exact absurd he h
        | some x => rfl
/-- What is told at the end: stopped at the j-th call, all that follows plays no part. -/
theorem st_end {s : ByteArray} {C : Nat → CallD} {j len : Nat} {e : Int} (h : (st s C j).err = none) (hs : step s (C j) (st s C j).pos = .stop e) (hj : j < len) : st s C len = ⟨(st s C j).ans, (st s C j).pos, some e⟩ := by
  have h1 := st_stop h hs
  rw [st_held (j := j + 1) (by rw [h1]; simp) len (by omega), h1]

/-- The error's number: 0, if it wasn't stopped. -/
def errOf (t : St) : Int := t.err.getD 0

theorem st_length (s : ByteArray) (C : Nat → CallD) : ∀ j, (st s C j).ans.length ≤ j
  | 0 => by simp [st]
  | j + 1 => by
    have := st_length s C j
    show (next s (C j) (st s C j)).ans.length ≤ _
    unfold next
    split
    · omega
    · split
      · show (st s C j).ans.length ≤ _; omega
      · simp; omega

theorem step_pos {s : ByteArray} {c : CallD} {i : Nat} {a : AnsD} (hi : i ≤ s.size) (h : step s c i = .ans a) : a.pos ≤ s.size := by
  unfold step at h
  split at h
  · split at h
    · cases h
    · cases h; show i + sizeOf' c.kind ≤ s.size; omega
  · split at h
    · split at h
      · cases h
      · cases h; show i + c.k.toNat ≤ s.size; omega
    · split at h
      · cases h; exact Nat.le_refl _
      · split at h
        · cases h
        · cases h; exact hi
theorem st_pos (s : ByteArray) (C : Nat → CallD) : ∀ j, (st s C j).pos ≤ s.size
  | 0 => by simp [st]
  | j + 1 => by
    have ih := st_pos s C j
    show (next s (C j) (st s C j)).pos ≤ _
    unfold next
    split
    · exact ih
    · split
      · exact ih
      · rename_i a ha
        exact step_pos ih ha

/-- The memory in a round: the reader R, the calls' variable L, the answers' variable O, the new answer's variable A. -/
structure Mid (u w : World) (R L O A : Nat) (s : ByteArray) (pos : Nat) (lv v : Value) (ans : List AnsD) (xs : Array Value) : Prop where
  rd : Rd w R s pos
  l : Blk w L #[lv] 22
  o : Blk w O #[v] 25
  own : w.ownsRow u.heap.size 46 4 v ans.length (ansCells ans)
  a : Blk w A xs 46
  kb : Kb (fun k => k = O ∨ k = R) u w
  lR : R < u.heap.size
  lL : L < u.heap.size
  lO : O < u.heap.size
  lA : u.heap.size ≤ A
  nRL : L ≠ R
  nRO : O ≠ R
  nLO : L ≠ O
  nA : v.ownBlock ≠ some A

theorem own_keep {u w w' : World} {R : Nat} {v : Value} {n : Nat} {xs : List Value} (h : w.ownsRow u.heap.size 46 4 v n xs) (k : Kb (· = R) w w') (hR : R < u.heap.size) : w'.ownsRow u.heap.size 46 4 v n xs := by
  refine h.kept (row := some R) ⟨k.os, k.tape, k.output, k.size, fun i hi hne => k.block i hi (fun e => hne (by rw [e]))⟩ (Or.inr fun e => ?_)
  have := (h.lt R e).1
  omega

theorem Mid.move {u w w' : World} {R L O A : Nat} {s : ByteArray} {pos pos' : Nat} {lv v : Value} {ans : List AnsD} {xs : Array Value} (h : Mid u w R L O A s pos lv v ans xs) (k : Kb (· = R) w w') (hr : Rd w' R s pos') :
    Mid u w' R L O A s pos' lv v ans xs :=
  ⟨hr, h.l.kb k h.nRL, h.o.kb k h.nRO, own_keep h.own k h.lR, h.a.kb k (by have := h.lA; have := h.lR; omega), h.kb.trans (k.mono fun _ _ e => Or.inr e), h.lR, h.lL, h.lO, h.lA, h.nRL, h.nRO, h.nLO, h.nA⟩

theorem Mid.set {u w : World} {R L O A : Nat} {s : ByteArray} {pos : Nat} {lv v : Value} {ans : List AnsD} {xs : Array Value} (h : Mid u w R L O A s pos lv v ans xs) (i : Nat) (x : Value) :
    Mid u (w.setCell ⟨A, i, none⟩ x) R L O A s pos lv v ans (xs.setIfInBounds i x) := by
  have hA := h.lA
  have hR := h.lR
  have hL := h.lL
  have hO := h.lO
  refine ⟨Blk.set_other h.rd (p := ⟨A, i, none⟩) (by show R ≠ A; omega) x, h.l.set_other (p := ⟨A, i, none⟩) (by show L ≠ A; omega) x, h.o.set_other (p := ⟨A, i, none⟩) (by show O ≠ A; omega) x, ?_, h.a.set i x, ?_, h.lR, h.lL, h.lO, h.lA, h.nRL, h.nRO, h.nLO, h.nA⟩
  · refine h.own.kept (row := some A) ⟨rfl, rfl, rfl, by simp [World.setCell], fun k hk hne => Below.heap_setCell _ _ _ _ (fun e => hne (by rw [e]))⟩ (Or.inr h.nA)
  · exact Kb.setCell (S := fun k => k = O ∨ k = R) h.kb (p := ⟨A, i, none⟩) (fun hlt => by have : A < u.heap.size := hlt; omega) x

end Go.Proofs.Ytgpknkfdchiidaa
