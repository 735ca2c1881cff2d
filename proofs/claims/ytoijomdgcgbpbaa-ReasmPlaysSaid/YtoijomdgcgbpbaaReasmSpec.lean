/-
  Pieces put together, plain: what a table holds, which piece is refused, what is made; no Go function is walked here.
-/
import Derived.Test.YtoijomdgcgbpbaaFragPlain
namespace Go.Proofs.Ytoijomdgcgbpbaa
open Go.RowKit
set_option linter.unusedVariables false

/-- A piece: where it begins, its bytes, whether it is the last one. -/
structure P16 where
  lo : Nat
  s : ByteArray
  last : Bool
def P16.hi (x : P16) : Nat := x.lo + x.s.size
/-- What the pieces of a packet have in common. -/
structure K16 where
  src : ByteArray
  dst : ByteArray
  proto : Int
  id : Int
deriving DecidableEq
def H4.key (h : H4) : K16 := ⟨h.src, h.dst, h.proto, h.id⟩
def H4.whole (h : H4) : H4 := { h with mf := false }
def piece16 (h : H4) (s : ByteArray) : P16 := ⟨8 * h.off.toNat, s, !h.mf⟩

def P16.mayBe (x : P16) : Bool :=
  if 65515 < x.hi then false else if x.last = false then decide (x.s.size % 8 = 0) && decide (0 < x.s.size) else decide (x.lo = 0) || decide (0 < x.s.size)
def alike16 (x y : P16) : Bool := decide (x.lo = y.lo) && decide (x.s = y.s) && decide (x.last = y.last)
def clash16 (x y : P16) : Bool := (decide (x.lo < y.hi) && decide (y.lo < x.hi)) || (x.last && y.last) || (x.last && decide (x.hi < y.hi)) || (y.last && decide (y.hi < x.hi))

/-- Where a piece stands, or would. -/
def place16 (qs : List P16) (n : Nat) : Nat := qs.findIdx fun y => decide (n ≤ y.lo)
/-- The pieces between which it would. -/
def near16 (qs : List P16) (n : Nat) : List P16 := (qs.take (place16 qs n + 1)).drop (place16 qs n - 1)
def ins16 (x : P16) (qs : List P16) : List P16 := qs.take (place16 qs x.lo) ++ x :: qs.drop (place16 qs x.lo)
def sum16 (qs : List P16) : Nat := (qs.map (·.s.size)).sum
def cat16 (qs : List P16) : ByteArray := qs.foldl (fun s x => s ++ x.s) ⟨#[]⟩
def whole16 (qs : List P16) : Bool := match qs.getLast? with
  | some z => z.last && decide (z.hi = sum16 qs)
  | none => false

/-- What there is of a packet. -/
structure E16 where
  k : K16
  hd : H4
  qs : List P16
  age : Nat
  done : Bool
def E16.new (k : K16) : E16 := ⟨k, H4.zero, [], 0, false⟩
def E16.over (e : E16) : E16 := ⟨e.k, H4.zero, [], e.age, true⟩
def E16.put (e : E16) (h : H4) (x : P16) : E16 := { e with qs := ins16 x e.qs, hd := if x.lo = 0 then h else e.hd }

/-- The place of a key's entry; as many as there are: there is none. -/
def find16 (l : List E16) (k : K16) : Nat := l.findIdx fun e => decide (e.k = k)
def upd16 (l : List E16) (i : Nat) (e : E16) : List E16 := l.take i ++ e :: l.drop (i + 1)
def bytes16 (l : List E16) : Nat := (l.map fun e => sum16 e.qs).sum
def open16 (l : List E16) : Nat := l.countP fun e => !e.done
def old16 (l : List E16) (k : K16) : E16 := l.getD (find16 l k) (E16.new k)

/-- Why a piece can't be one more; 0: it can. -/
def no16 (E B : Nat) (l : List E16) (k : K16) (x : P16) : Nat :=
  if x.mayBe = false then 4 else if (old16 l k).done = true then 12 else if (near16 (old16 l k).qs x.lo).any (alike16 x) = true then 10 else if (near16 (old16 l k).qs x.lo).any (clash16 x) = true then 14
  else if (find16 l k = l.length ∧ l.length = E) ∨ B < bytes16 l + x.s.size then 11 else 0
/-- What Add makes of a piece that can. -/
def made16 (l : List E16) (h : H4) (x : P16) : (ByteArray × Nat) × List E16 :=
  let e := (old16 l h.key).put h x
  if whole16 e.qs = true then ((putS e.hd.whole (cat16 e.qs), putE e.hd.whole (cat16 e.qs)), upd16 l (find16 l h.key) e.over) else ((⟨#[]⟩, 10), upd16 l (find16 l h.key) e)
def add16 (E B : Nat) (l : List E16) (p : ByteArray) : (ByteArray × Nat) × List E16 :=
  if getE p ≠ 0 then ((⟨#[]⟩, getE p), l) else
  if no16 E B l (getH p).key (piece16 (getH p) (getS p)) ≠ 0 then ((⟨#[]⟩, no16 E B l (getH p).key (piece16 (getH p) (getS p))), l) else made16 l (getH p) (piece16 (getH p) (getS p))
/-- What a tick leaves. -/
def tick16 (L : Nat) (l : List E16) : List E16 := (l.map fun e => { e with age := e.age + 1 }).filter fun e => decide (e.age < L)

/-- Pieces that fit, in their order. -/
structure Good16 (qs : List P16) : Prop where
  sorted : qs.Pairwise fun a b => a.hi ≤ b.lo ∧ a.last = false
  some : ∀ x ∈ qs, 0 < x.s.size
  top : ∀ x ∈ qs, x.hi ≤ 65515
/-- What holds of an entry. -/
structure Ent16 (L : Nat) (e : E16) : Prop where
  good : Good16 e.qs
  age : e.age < L
  over : e.done = true → e.qs = []
  hd : e.hd = H4.zero ∨ e.hd.Ok
  first : ∀ x ∈ e.qs, x.lo = 0 → e.hd.Ok ∧ e.hd.off = 0 ∧ e.hd.key = e.k
/-- What holds of a table. -/
structure Tab16 (E B L : Nat) (l : List E16) : Prop where
  store : 1 ≤ E ∧ E ≤ 64 ∧ 1 ≤ B ∧ B ≤ 1048576 ∧ 1 ≤ L ∧ L ≤ 64
  len : l.length ≤ E
  bytes : bytes16 l ≤ B
  keys : l.Pairwise fun a b => a.k ≠ b.k
  each : ∀ e ∈ l, Ent16 L e

theorem place16_le (qs : List P16) (n : Nat) : place16 qs n ≤ qs.length := List.findIdx_le_length
theorem place16_before {qs : List P16} {n j : Nat} (h : j < place16 qs n) : ∀ (hj : j < qs.length), (qs[j]'hj).lo < n := by
  intro hj
  have e := List.not_of_lt_findIdx (p := fun y : P16 => decide (n ≤ y.lo)) (xs := qs) (i := j) h
  have e2 : decide (n ≤ (qs[j]'hj).lo) = false := by simpa using e
  have := of_decide_eq_false e2
  omega
theorem place16_at {qs : List P16} {n : Nat} (h : place16 qs n < qs.length) : n ≤ (qs[place16 qs n]'h).lo := by
  have := List.findIdx_getElem (p := fun y : P16 => decide (n ≤ y.lo)) (w := h)
  exact of_decide_eq_true this

theorem Good16.apart {qs : List P16} (g : Good16 qs) {i j : Nat} (hij : i < j) (hj : j < qs.length) : (qs[i]'(by omega)).hi ≤ (qs[j]'hj).lo ∧ (qs[i]'(by omega)).last = false :=
  (List.pairwise_iff_getElem.1 g.sorted) i j (by omega) hj hij
theorem Good16.size {qs : List P16} (g : Good16 qs) {i : Nat} (hi : i < qs.length) : (qs[i]'hi).lo < (qs[i]'hi).hi := by
  have := g.some _ (List.getElem_mem hi)
  unfold P16.hi
  omega
theorem Good16.up {qs : List P16} (g : Good16 qs) {i j : Nat} (hij : i ≤ j) (hj : j < qs.length) : (qs[i]'(by omega)).lo ≤ (qs[j]'hj).lo := by
  by_cases e : i = j
  · subst e; exact Nat.le_refl _
  · have h1 := (g.apart (i := i) (j := j) (by omega) hj).1
    have h2 := g.size (i := i) (by omega)
    omega

theorem near16_get {qs : List P16} {n j : Nat} (hj : j < (near16 qs n).length) : ∃ (h : place16 qs n - 1 + j < qs.length), (near16 qs n)[j]'hj = qs[place16 qs n - 1 + j]'h ∧ place16 qs n - 1 + j ≤ place16 qs n := by
  have hl : (near16 qs n).length = min (place16 qs n + 1) qs.length - (place16 qs n - 1) := by simp [near16]
  refine ⟨by omega, ?_, by omega⟩
  simp [near16]
theorem near16_mem {qs : List P16} {n i : Nat} (hi : i < qs.length) (h1 : place16 qs n - 1 ≤ i) (h2 : i ≤ place16 qs n) : qs[i]'hi ∈ near16 qs n := by
  have hl : (near16 qs n).length = min (place16 qs n + 1) qs.length - (place16 qs n - 1) := by simp [near16]
  have : qs[i]'hi = (near16 qs n)[i - (place16 qs n - 1)]'(by omega) := by
    simp only [near16, List.getElem_drop, List.getElem_take]
    congr 1
    omega
  rw [this]
  exact List.getElem_mem _
theorem near16_sub {qs : List P16} {n : Nat} {x : P16} (h : x ∈ near16 qs n) : x ∈ qs := List.mem_of_mem_take (List.mem_of_mem_drop h)

/-- A piece like another is among those between which it would stand. -/
theorem near16_has {qs : List P16} (g : Good16 qs) (x : P16) : (near16 qs x.lo).any (alike16 x) = qs.any (alike16 x) := by
  rw [Bool.eq_iff_iff, List.any_eq_true, List.any_eq_true]
  constructor
  · rintro ⟨y, hy, e⟩
    exact ⟨y, near16_sub hy, e⟩
  · rintro ⟨y, hy, e⟩
    refine ⟨y, ?_, e⟩
    obtain ⟨j, hj, rfl⟩ := List.getElem_of_mem hy
    simp only [alike16, Bool.and_eq_true, decide_eq_true_eq] at e
    have h1 : ¬ j < place16 qs x.lo := fun h => by have := place16_before h hj; omega
    refine near16_mem hj (by omega) ?_
    by_cases h2 : place16 qs x.lo < j
    · have h3 := place16_at (qs := qs) (n := x.lo) (by omega)
      have h4 := (g.apart h2 hj).1
      have h5 := g.size (i := place16 qs x.lo) (by omega)
      omega
    · omega

theorem clash16_iff (x y : P16) : clash16 x y = true ↔ (x.lo < y.hi ∧ y.lo < x.hi) ∨ (x.last = true ∧ y.last = true) ∨ (x.last = true ∧ x.hi < y.hi) ∨ (y.last = true ∧ y.hi < x.hi) := by
  simp only [clash16, Bool.or_eq_true, Bool.and_eq_true, decide_eq_true_eq, or_assoc]

/-- A piece that clashes with any clashes with one between which it would stand. -/
theorem near16_fits {qs : List P16} (g : Good16 qs) (x : P16) : (near16 qs x.lo).any (clash16 x) = qs.any (clash16 x) := by
  rw [Bool.eq_iff_iff, List.any_eq_true, List.any_eq_true]
  constructor
  · rintro ⟨y, hy, e⟩
    exact ⟨y, near16_sub hy, e⟩
  · rintro ⟨y, hy, e⟩
    obtain ⟨j, hj, rfl⟩ := List.getElem_of_mem hy
    have hxx : x.lo ≤ x.hi := Nat.le_add_right _ _
    have sj := g.size hj
    by_cases h1 : j + 1 < place16 qs x.lo
    · have hp := place16_le qs x.lo
      have hz : place16 qs x.lo - 1 < qs.length := by omega
      have b := place16_before (qs := qs) (n := x.lo) (j := place16 qs x.lo - 1) (by omega) hz
      have a := g.apart (i := j) (j := place16 qs x.lo - 1) (by omega) hz
      have hl := a.2
      have hlo := a.1
      rw [clash16_iff] at e
      rw [hl] at e
      simp only [Bool.false_eq_true, false_and, and_false, or_false, false_or] at e
      omega
    · by_cases h2 : place16 qs x.lo < j
      · have hi : place16 qs x.lo < qs.length := by omega
        have b := place16_at hi
        have a := g.apart h2 hj
        have si := g.size hi
        refine ⟨_, near16_mem hi (by omega) (Nat.le_refl _), ?_⟩
        rw [clash16_iff] at e ⊢
        by_cases hxl : x.last = true
        · by_cases hcl : (qs[place16 qs x.lo]'hi).lo < x.hi
          · left; omega
          · right; right; left; exact ⟨hxl, by omega⟩
        · have e' : (x.lo < (qs[j]'hj).hi ∧ (qs[j]'hj).lo < x.hi) ∨ ((qs[j]'hj).last = true ∧ (qs[j]'hj).hi < x.hi) := by
            rcases e with e | ⟨e, _⟩ | ⟨e, _⟩ | e
            · exact Or.inl e
            · exact absurd e hxl
            · exact absurd e hxl
            · exact Or.inr e
          left
          omega
      · exact ⟨_, near16_mem hj (by omega) (by omega), e⟩

theorem ins16_length (x : P16) (qs : List P16) : (ins16 x qs).length = qs.length + 1 := by
  have := place16_le qs x.lo
  simp [ins16]
  omega
theorem ins16_mem {x y : P16} {qs : List P16} : y ∈ ins16 x qs ↔ y = x ∨ y ∈ qs := by
  unfold ins16
  rw [List.mem_append, List.mem_cons]
  constructor
  · rintro (h | h | h)
    · exact Or.inr (List.mem_of_mem_take h)
    · exact Or.inl h
    · exact Or.inr (List.mem_of_mem_drop h)
  · rintro (h | h)
    · exact Or.inr (Or.inl h)
    · rw [← List.take_append_drop (place16 qs x.lo) qs, List.mem_append] at h
      rcases h with h | h
      · exact Or.inl h
      · exact Or.inr (Or.inr h)
theorem sum16_append (a b : List P16) : sum16 (a ++ b) = sum16 a + sum16 b := by simp [sum16]
theorem ins16_sum (x : P16) (qs : List P16) : sum16 (ins16 x qs) = sum16 qs + x.s.size := by
  have h : sum16 qs = sum16 (qs.take (place16 qs x.lo)) + sum16 (qs.drop (place16 qs x.lo)) := by rw [← sum16_append, List.take_append_drop]
  unfold ins16
  rw [sum16_append, h]
  simp [sum16]
  omega

/-- One more piece that fits. -/
theorem Good16.ins {qs : List P16} (g : Good16 qs) {x : P16} (hx : 0 < x.s.size) (ht : x.hi ≤ 65515) (hc : qs.any (clash16 x) = false) : Good16 (ins16 x qs) := by
  rw [List.any_eq_false] at hc
  have hxx : x.lo < x.hi := by unfold P16.hi; omega
  have key : ∀ j (hj : j < qs.length), ¬ ((x.lo < (qs[j]'hj).hi ∧ (qs[j]'hj).lo < x.hi) ∨ (x.last = true ∧ (qs[j]'hj).last = true) ∨ (x.last = true ∧ x.hi < (qs[j]'hj).hi) ∨ ((qs[j]'hj).last = true ∧ (qs[j]'hj).hi < x.hi)) := by
    intro j hj e
    exact hc _ (List.getElem_mem hj) ((clash16_iff _ _).2 e)
  have hp := place16_le qs x.lo
  have hsp : qs.Pairwise fun a b => a.hi ≤ b.lo ∧ a.last = false := g.sorted
  have before : ∀ y ∈ qs.take (place16 qs x.lo), y.hi ≤ x.lo ∧ y.last = false := by
    intro y hy
    obtain ⟨j, hj, rfl⟩ := List.getElem_of_mem hy
    have hj' : j < place16 qs x.lo := by simp at hj; omega
    have hjq : j < qs.length := by omega
    have b := place16_before hj' hjq
    have s := g.size hjq
    have k := key j hjq
    rw [List.getElem_take]
    have : (qs[j]'hjq).hi ≤ x.lo := by
      rcases Nat.lt_or_ge x.lo (qs[j]'hjq).hi with h | h
      · exact absurd (Or.inl ⟨h, by omega⟩) k
      · exact h
    refine ⟨this, ?_⟩
    cases hl : (qs[j]'hjq).last with
    | false => rfl
    | true => exact absurd (Or.inr (Or.inr (Or.inr ⟨hl, by omega⟩))) k
  have after : ∀ y ∈ qs.drop (place16 qs x.lo), x.hi ≤ y.lo ∧ x.last = false := by
    intro y hy
    obtain ⟨j, hj, rfl⟩ := List.getElem_of_mem hy
    have hjq : place16 qs x.lo + j < qs.length := by simp at hj; omega
    rw [List.getElem_drop]
    have b := place16_at (qs := qs) (n := x.lo) (by omega)
    have u := g.up (i := place16 qs x.lo) (j := place16 qs x.lo + j) (by omega) hjq
    have s := g.size hjq
    have k := key _ hjq
    have : x.hi ≤ (qs[place16 qs x.lo + j]'hjq).lo := by
      rcases Nat.lt_or_ge (qs[place16 qs x.lo + j]'hjq).lo x.hi with h | h
      · exact absurd (Or.inl ⟨by omega, h⟩) k
      · exact h
    refine ⟨this, ?_⟩
    cases hl : x.last with
    | false => rfl
    | true => exact absurd (Or.inr (Or.inr (Or.inl ⟨hl, by omega⟩))) k
  rw [← List.take_append_drop (place16 qs x.lo) qs, List.pairwise_append] at hsp
  refine ⟨?_, ?_, ?_⟩
  · unfold ins16
    rw [List.pairwise_append, List.pairwise_cons]
    refine ⟨hsp.1, ⟨after, hsp.2.1⟩, ?_⟩
    intro a ha b hb
    rcases List.mem_cons.1 hb with rfl | hb
    · exact before a ha
    · exact hsp.2.2 a ha b hb
  · intro y hy
    rcases ins16_mem.1 hy with rfl | hy
    · exact hx
    · exact g.some y hy
  · intro y hy
    rcases ins16_mem.1 hy with rfl | hy
    · exact ht
    · exact g.top y hy

/-- Such pieces are few. -/
theorem Good16.sum_le {qs : List P16} (g : Good16 qs) : ∀ n, (∀ x ∈ qs, n ≤ x.lo) → n + sum16 qs ≤ max n 65515 := by
  obtain ⟨hs, h0, ht⟩ := g
  induction qs with
  | nil => intro n _; simp [sum16]; omega
  | cons x r ih =>
    intro n hn
    rw [List.pairwise_cons] at hs
    have h1 := hn x (List.mem_cons_self ..)
    have h2 := ht x (List.mem_cons_self ..)
    have h3 := ih hs.2 (fun y hy => h0 y (List.mem_cons_of_mem _ hy)) (fun y hy => ht y (List.mem_cons_of_mem _ hy)) x.hi (fun y hy => (hs.1 y hy).1)
    have e : sum16 (x :: r) = x.s.size + sum16 r := by simp [sum16]
    unfold P16.hi at *
    omega
theorem Good16.length_le {qs : List P16} (g : Good16 qs) : qs.length ≤ sum16 qs := by
  obtain ⟨hs, h0, ht⟩ := g
  induction qs with
  | nil => simp [sum16]
  | cons x r ih =>
    rw [List.pairwise_cons] at hs
    have h1 := h0 x (List.mem_cons_self ..)
    have h3 := ih hs.2 (fun y hy => h0 y (List.mem_cons_of_mem _ hy)) (fun y hy => ht y (List.mem_cons_of_mem _ hy))
    have e : sum16 (x :: r) = x.s.size + sum16 r := by simp [sum16]
    rw [List.length_cons]
    omega
theorem Good16.few {qs : List P16} (g : Good16 qs) : sum16 qs ≤ 65515 ∧ qs.length ≤ 65515 := by
  have h1 := g.sum_le 0 (fun _ _ => Nat.zero_le _)
  have h2 := g.length_le
  omega
theorem cat16_foldl (qs : List P16) : ∀ s : ByteArray, (qs.foldl (fun s x => s ++ x.s) s).size = s.size + sum16 qs := by
  induction qs with
  | nil => intro s; simp [sum16]
  | cons x r ih =>
    intro s
    rw [List.foldl_cons, ih, cat_size]
    simp [sum16]
    omega
theorem cat16_size (qs : List P16) : (cat16 qs).size = sum16 qs := by
  have h := cat16_foldl qs ⟨#[]⟩
  have e : (⟨#[]⟩ : ByteArray).size = 0 := rfl
  rw [e, Nat.zero_add] at h
  exact h
theorem cat16_snoc (qs : List P16) (x : P16) : cat16 (qs ++ [x]) = cat16 qs ++ x.s := by simp [cat16]

end Go.Proofs.Ytoijomdgcgbpbaa
