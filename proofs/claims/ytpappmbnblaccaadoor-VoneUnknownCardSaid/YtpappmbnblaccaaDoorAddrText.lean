/-
  The texts of addresses, and back: plain. No Go function is walked here.
-/
import Derived.Test.YtpappmbnblaccaaDoorAddrSpec
import Derived.Lib.Join
import Derived.Lib.CutLaws
import Derived.Lib.SplitLaws
namespace Go.Proofs.YtpappmbnblaccaaDoor
set_option linter.unusedVariables false

/-! Words, joined and parted at a sign. -/

def jn (c : UInt8) : List (List UInt8) → List UInt8
  | [] => []
  | [x] => x
  | x :: y :: r => x ++ c :: jn c (y :: r)
theorem jn_eq (c : UInt8) : ∀ ws, Lib.join ws [c] = jn c ws
  | [] => rfl
  | [x] => Lib.join_one x [c]
  | x :: y :: r => by
    have h := jn_eq c (y :: r)
    rw [Lib.join_cons] at h
    rw [Lib.join_cons, jn, ← h]
    simp [Lib.joinTail]
theorem jn_snoc (c : UInt8) : ∀ (ws : List (List UInt8)) (x : List UInt8), ws ≠ [] → jn c (ws ++ [x]) = jn c ws ++ c :: x
  | [], _, h => absurd rfl h
  | [y], x, _ => rfl
  | y :: z :: r, x, _ => by
    have h := jn_snoc c (z :: r) x (by simp)
    rw [List.cons_append, List.cons_append, jn, jn, ← List.cons_append, h]
    simp
theorem jn_mem (c d : UInt8) : ∀ (ws : List (List UInt8)), d ∈ jn c ws → d = c ∨ ∃ x ∈ ws, d ∈ x
  | [], h => by simp [jn] at h
  | [y], h => Or.inr ⟨y, by simp, h⟩
  | y :: z :: r, h => by
    rw [jn] at h
    rcases List.mem_append.1 h with h | h
    · exact Or.inr ⟨y, by simp, h⟩
    · rcases List.mem_cons.1 h with h | h
      · exact Or.inl h
      · rcases jn_mem c d (z :: r) h with h | ⟨x, hx, h⟩
        · exact Or.inl h
        · exact Or.inr ⟨x, List.mem_cons_of_mem _ hx, h⟩
theorem jn_len (c : UInt8) (k : Nat) : ∀ (ws : List (List UInt8)), (∀ x ∈ ws, x.length ≤ k) → (jn c ws).length ≤ (k + 1) * ws.length
  | [], _ => by simp [jn]
  | [y], h => by have := h y (by simp); simp [jn]; omega
  | y :: z :: r, h => by
    have h1 := jn_len c k (z :: r) fun x hx => h x (List.mem_cons_of_mem _ hx)
    have h2 := h y (by simp)
    rw [jn, List.length_append, List.length_cons, List.length_cons, Nat.mul_succ]
    omega
theorem jn_min (c : UInt8) : ∀ (ws : List (List UInt8)), (∀ x ∈ ws, x ≠ []) → ws.length ≤ (jn c ws).length
  | [], _ => by simp [jn]
  | [y], h => by have := List.length_pos_iff.2 (h y (by simp)); simp [jn]; omega
  | y :: z :: r, h => by
    have h1 := jn_min c (z :: r) fun x hx => h x (List.mem_cons_of_mem _ hx)
    have h2 := List.length_pos_iff.2 (h y (by simp))
    rw [jn, List.length_append]
    simp only [List.length_cons] at *
    omega
theorem jn_ne (c : UInt8) (ws : List (List UInt8)) (h : ∀ x ∈ ws, x ≠ []) (hw : ws ≠ []) : jn c ws ≠ [] := by
  have := jn_min c ws h
  have := List.length_pos_iff.2 hw
  exact List.length_pos_iff.1 (by omega)

/-- Words between signs: all of them. -/
def sp (c : UInt8) : List UInt8 → List (List UInt8)
  | [] => [[]]
  | x :: r => if x = c then [] :: sp c r else match sp c r with
    | h :: t => (x :: h) :: t
    | [] => [[x]]
theorem sp_ne (c : UInt8) : ∀ s, sp c s ≠ []
  | [] => by simp [sp]
  | x :: r => by
    rw [sp]
    split
    · simp
    · split <;> simp
theorem sp_at (c : UInt8) : ∀ (u v : List UInt8), sp c (u ++ c :: v) = sp c u ++ sp c v
  | [], v => by show (if c = c then _ else _) = _; rw [if_pos rfl]; rfl
  | x :: u, v => by
    have h := sp_at c u v
    rw [List.cons_append, sp, sp, h]
    split
    · rfl
    · cases hu : sp c u with
      | nil => exact absurd hu (sp_ne c u)
      | cons a t => rfl
theorem sp_word (c : UInt8) : ∀ (w : List UInt8), c ∉ w → sp c w = [w]
  | [], _ => rfl
  | x :: w, h => by
    rw [List.mem_cons, not_or] at h
    rw [sp, if_neg (fun e => h.1 e.symm), sp_word c w h.2]
theorem sp_jn (c : UInt8) : ∀ (ws : List (List UInt8)), ws ≠ [] → (∀ x ∈ ws, c ∉ x) → sp c (jn c ws) = ws
  | [], h, _ => absurd rfl h
  | [y], _, h => sp_word c y (h y (by simp))
  | y :: z :: r, _, h => by
    rw [jn, sp_at, sp_word c y (h y (by simp)), sp_jn c (z :: r) (by simp) fun x hx => h x (List.mem_cons_of_mem _ hx)]
    rfl
theorem sp_no (c : UInt8) : ∀ (s : List UInt8), ∀ x ∈ sp c s, c ∉ x
  | [], x, h => by simp [sp] at h; subst h; simp
  | y :: s, x, h => by
    have ih := sp_no c s
    rw [sp] at h
    split at h
    · rcases List.mem_cons.1 h with rfl | h
      · simp
      · exact ih x h
    · rename_i hy
      cases hs : sp c s with
      | nil => exact absurd hs (sp_ne c s)
      | cons a t =>
        rw [hs] at h ih
        rcases List.mem_cons.1 h with rfl | h
        · rw [List.mem_cons, not_or]
          exact ⟨fun e => hy e.symm, ih a (by simp)⟩
        · exact ih x (List.mem_cons_of_mem _ h)
theorem jn_sp (c : UInt8) : ∀ (s : List UInt8), jn c (sp c s) = s
  | [] => rfl
  | y :: s => by
    have ih := jn_sp c s
    rw [sp]
    split
    · rename_i hy
      cases hs : sp c s with
      | nil => exact absurd hs (sp_ne c s)
      | cons a t => rw [jn, ← hs, ih, hy]; rfl
    · cases hs : sp c s with
      | nil => exact absurd hs (sp_ne c s)
      | cons a t =>
        rw [hs] at ih
        simp only
        cases t with
        | nil => rw [jn] at ih ⊢; rw [ih]
        | cons b t => rw [jn] at ih ⊢; rw [← ih]; rfl

/-! The library's searches. -/

theorem index_cons (b : UInt8) (l sub : List UInt8) (h : sub.isPrefixOf (b :: l) = false) : Lib.index (b :: l) sub = if Lib.index l sub = -1 then -1 else Lib.index l sub + 1 := by
  rw [Lib.index, h]
  simp
/-- An index, with so many bytes ahead. -/
def shift (k : Nat) (i : Int) : Int := if i = -1 then -1 else i + k
theorem shift_ge {k : Nat} {i : Int} (h : -1 ≤ i) : -1 ≤ shift k i := by unfold shift; split <;> omega
theorem shift_shift {j k : Nat} {i : Int} (h : -1 ≤ i) : shift j (shift k i) = shift (k + j) i := by
  unfold shift
  by_cases e : i = -1
  · simp [e]
  · rw [if_neg e, if_neg e, if_neg (by omega)]; omega
theorem index_word (sub : List UInt8) (c : UInt8) (t : List UInt8) (hs : sub = c :: t) : ∀ (w rest : List UInt8), c ∉ w → Lib.index (w ++ rest) sub = shift w.length (Lib.index rest sub)
  | [], rest, _ => by unfold shift; split <;> simp_all
  | x :: w, rest, h => by
    rw [List.mem_cons, not_or] at h
    have hp : sub.isPrefixOf (x :: (w ++ rest)) = false := by subst hs; simp [List.isPrefixOf, h.1]
    have hge := Lib.index_ge rest sub
    rw [List.cons_append, index_cons _ _ _ hp, index_word sub c t hs w rest h.2, List.length_cons, ← shift_shift (j := 1) hge]
    rfl
theorem index_one_at (c : UInt8) (w r : List UInt8) (h : c ∉ w) : Lib.index (w ++ c :: r) [c] = (w.length : Int) := by
  rw [index_word [c] c [] rfl w _ h]
  have : Lib.index (c :: r) [c] = 0 := by rw [Lib.index]; simp
  rw [this]
  simp [shift]
theorem index_one_no (c : UInt8) (w : List UInt8) (h : c ∉ w) : Lib.index w [c] = -1 := by
  have := index_word [c] c [] rfl w [] h
  rw [List.append_nil] at this
  rw [this]
  simp [shift, Lib.index]
theorem splitK_jn (c : UInt8) : ∀ (k : Nat) (ws : List (List UInt8)), ws ≠ [] → (∀ x ∈ ws, c ∉ x) → ws.length ≤ k + 1 → Lib.splitK [c] 0 k (jn c ws) = ws := by
  intro k
  induction k with
  | zero =>
    intro ws h1 h2 h3
    match ws, h1, h3 with
    | [y], _, _ => rfl
    | y :: z :: r, _, h3 => simp at h3
  | succ k ih =>
    intro ws h1 h2 h3
    match ws, h1, h2, h3 with
    | [y], _, h2, _ =>
      rw [Lib.splitK, jn, index_one_no c y (h2 y (by simp))]
      rfl
    | y :: z :: r, _, h2, h3 =>
      have hz := ih (z :: r) (by simp) (fun x hx => h2 x (List.mem_cons_of_mem _ hx)) (by simpa using h3)
      rw [Lib.splitK, jn, index_one_at c y _ (h2 y (by simp)), if_neg (by simp)]
      simp only [Int.toNat_natCast, Nat.add_zero, List.length_cons, List.length_nil]
      rw [List.take_left, show (y ++ c :: jn c (z :: r)).drop (y.length + (0 + 1)) = jn c (z :: r) by rw [← List.drop_drop, List.drop_left]; rfl, hz]

/-! Sixteen bytes as eight numbers, and the rows of noughts among them. -/

def nums : List UInt8 → List Nat
  | x :: y :: r => (x.toNat * 256 + y.toNat) :: nums r
  | _ => []
def unnums : List Nat → List UInt8
  | [] => []
  | n :: r => UInt8.ofNat (n / 256) :: UInt8.ofNat n :: unnums r
theorem nums_back : ∀ (k : Nat) (a : List UInt8), a.length = 2 * k → unnums (nums a) = a ∧ (nums a).length = k ∧ ∀ n ∈ nums a, n ≤ 65535
  | 0, a, h => by
    have : a = [] := List.length_eq_zero_iff.1 (by omega)
    subst this
    exact ⟨rfl, rfl, fun n h => by simp [nums] at h⟩
  | k + 1, a, h => by
    match a, h with
    | x :: y :: r, h =>
      obtain ⟨h1, h2, h3⟩ := nums_back k r (by simp at h; omega)
      have hx := x.toNat_lt
      have hy := y.toNat_lt
      refine ⟨?_, by simp [nums, h2], fun n hn => ?_⟩
      · rw [nums, unnums, h1]
        have e1 : (x.toNat * 256 + y.toNat) / 256 = x.toNat := by omega
        have e2 : UInt8.ofNat (x.toNat * 256 + y.toNat) = y := by
          apply UInt8.toNat_inj.1
          rw [UInt8.toNat_ofNat']
          omega
        rw [e1, e2, UInt8.ofNat_toNat]
      · rw [nums] at hn
        rcases List.mem_cons.1 hn with rfl | hn
        · omega
        · exact h3 n hn
    | [x], h => simp at h; omega
    | [], h => simp at h
theorem nums_at : ∀ (a : List UInt8) (i : Nat) (h : 2 * i + 1 < a.length), (nums a)[i]? = some ((a[2 * i]'(by omega)).toNat * 256 + (a[2 * i + 1]'h).toNat)
  | x :: y :: r, 0, h => rfl
  | x :: y :: r, i + 1, h => by
    have := nums_at r i (by simp at h; omega)
    rw [nums, List.getElem?_cons_succ, this]
    rfl
  | [x], i, h => by simp at h
  | [], i, h => by simp at h

/-- How many numbers 0 stand on end from a place on. -/
def run0 (l : List Nat) (i : Nat) : Nat := ((l.drop i).takeWhile (· == 0)).length
/-- Of so many places: where the first of the longest rows of 0 begins, and how long it is. -/
def long (l : List Nat) : Nat → Nat × Nat
  | 0 => (0, 0)
  | i + 1 => if run0 l i > (long l i).2 then (i, run0 l i) else long l i
/-- The row that is left out: from, and to. -/
def left0 (l : List Nat) : Nat → Nat × Nat
  | 0 => (0, 0)
  | i + 1 => if 2 ≤ run0 l i ∧ run0 l i > (left0 l i).2 - (left0 l i).1 then (i, i + run0 l i) else left0 l i
theorem left0_eq (l : List Nat) : ∀ i, left0 l i = if 2 ≤ (long l i).2 then ((long l i).1, (long l i).1 + (long l i).2) else (0, 0)
  | 0 => rfl
  | i + 1 => by
    have ih := left0_eq l i
    rw [left0, long, ih]
    generalize long l i = p
    generalize run0 l i = r
    obtain ⟨a, b⟩ := p
    simp only
    by_cases h : 2 ≤ b
    · rw [if_pos h]
      simp only
      by_cases h2 : r > b
      · rw [if_pos ⟨by omega, by omega⟩, if_pos h2, if_pos (by omega)]
      · rw [if_neg (by omega), if_neg h2, if_pos h]
    · rw [if_neg h]
      simp only
      by_cases h2 : r > b
      · rw [if_pos h2]
        by_cases h3 : 2 ≤ r
        · rw [if_pos ⟨h3, by omega⟩, if_pos h3]
        · rw [if_neg (by omega), if_neg h3]
      · rw [if_neg (by omega), if_neg h2, if_neg h]
theorem run0_le (l : List Nat) (i : Nat) : run0 l i ≤ l.length - i := by
  unfold run0
  have := (List.takeWhile_prefix (p := (· == 0)) (l := l.drop i)).length_le
  simpa using this
theorem run0_zero (l : List Nat) (i k : Nat) (hk : k < run0 l i) : l[i + k]? = some 0 := by
  have h1 : ((l.drop i).takeWhile (· == 0))[k]? = (l.drop i)[k]? := by
    have hp := List.takeWhile_prefix (p := (· == 0)) (l := l.drop i)
    obtain ⟨t, ht⟩ := hp
    conv => rhs; rw [← ht]
    rw [List.getElem?_append_left hk]
  rw [← List.getElem?_drop, ← h1, List.getElem?_eq_getElem hk]
  have := List.all_eq_true.1 (List.all_takeWhile (p := (· == 0)) (l := l.drop i)) _ (List.getElem_mem hk)
  rw [beq_iff_eq] at this
  rw [this]
theorem run0_next (l : List Nat) (i : Nat) (h : l[i]? = some 0) : run0 l i = run0 l (i + 1) + 1 := by
  unfold run0
  have hi : i < l.length := (List.getElem?_eq_some_iff.1 h).1
  have h0 : l[i] = 0 := (List.getElem?_eq_some_iff.1 h).2
  rw [List.drop_eq_getElem_cons hi, List.takeWhile_cons, h0]
  simp
theorem run0_stop (l : List Nat) (i : Nat) (h : l[i]? ≠ some 0) : run0 l i = 0 := by
  unfold run0
  by_cases hi : i < l.length
  · have h0 : l[i] ≠ 0 := fun e => h (by rw [List.getElem?_eq_getElem hi, e])
    rw [List.drop_eq_getElem_cons hi, List.takeWhile_cons]
    simp [h0]
  · rw [List.drop_eq_nil_of_le (by omega)]; rfl
theorem long_row (l : List Nat) : ∀ i, (long l i).2 = 0 ∨ ((long l i).1 < i ∧ (long l i).2 = run0 l (long l i).1)
  | 0 => Or.inl rfl
  | i + 1 => by
    rw [long]
    split
    · exact Or.inr ⟨by simp, rfl⟩
    · rcases long_row l i with h | ⟨h1, h2⟩
      · exact Or.inl h
      · exact Or.inr ⟨by omega, h2⟩

/-! The texts. -/

def hexs (l : List Nat) : List (List UInt8) := l.map (digs 16)
/-- The text of eight numbers. -/
def text8 (l : List Nat) (f t : Nat) : List UInt8 := if f = t then jn 58 (hexs l) else jn 58 (hexs (l.take f)) ++ [58, 58] ++ jn 58 (hexs (l.drop t))
def text16 (a : List UInt8) : List UInt8 := text8 (nums a) (left0 (nums a) 8).1 (left0 (nums a) 8).2
def text4 (a : List UInt8) : List UInt8 := jn 46 (a.map fun c => digs 10 c.toNat)
def IsA (a : List UInt8) : Prop := a.length = 4 ∨ a.length = 16
def text (a : List UInt8) : List UInt8 := if a.length = 4 then text4 a else text16 a

theorem digs_no {b n : Nat} (hb : 2 ≤ b) (hb2 : b ≤ 16) {c : UInt8} (hc : c.toNat < 48 ∨ 57 < c.toNat ∧ c.toNat < 97 ∨ 102 < c.toNat) : c ∉ digs b n := fun h => by
  have := digs_range hb hb2 h
  omega
theorem hexs_no (l : List Nat) {c : UInt8} (hc : c.toNat < 48 ∨ 57 < c.toNat ∧ c.toNat < 97 ∨ 102 < c.toNat) : ∀ x ∈ hexs l, c ∉ x := by
  intro x hx
  obtain ⟨n, _, rfl⟩ := List.mem_map.1 hx
  exact digs_no (by omega) (by omega) hc
theorem hexs_ne (l : List Nat) : ∀ x ∈ hexs l, x ≠ [] := by
  intro x hx
  obtain ⟨n, _, rfl⟩ := List.mem_map.1 hx
  exact digs_ne

end Go.Proofs.YtpappmbnblaccaaDoor
