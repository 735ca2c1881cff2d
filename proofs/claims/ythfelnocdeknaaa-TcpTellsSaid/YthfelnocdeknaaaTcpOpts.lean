/-
  Options of a segment, plain: how they are walked, whether they are right, and the MSS that they tell; no Go function is walked here.
-/
import Derived.Test.YthfelnocdeknaaaSegs
namespace Go.Proofs.Ythfelnocdeknaaa
set_option linter.unusedVariables false

/-- How many bytes the first option has; 0, if it isn't right. -/
def sz1 : List UInt8 → Nat
  | [] => 0
  | [c] => if c = 1 then 1 else 0
  | c :: n :: r => if c = 1 then 1 else if n.toNat < 2 ∨ r.length + 2 < n.toNat then 0 else n.toNat

theorem sz1_le (l : List UInt8) : sz1 l ≤ l.length := by
  match l with
  | [] => simp [sz1]
  | [c] => simp only [sz1]; split <;> simp
  | c :: n :: r =>
    simp only [sz1, List.length_cons]
    split
    · omega
    · split <;> omega

/-- The options from a place on: each one's place and bytes; one that isn't right has none, and is the last. -/
def opts (l : List UInt8) (i : Nat) : List (Nat × List UInt8) :=
  match l with
  | [] => []
  | c :: r =>
    if c = 0 then [] else if h : sz1 (c :: r) = 0 then [(i, [])]
    else (i, (c :: r).take (sz1 (c :: r))) :: opts ((c :: r).drop (sz1 (c :: r))) (i + sz1 (c :: r))
termination_by l.length
decreasing_by simp only [List.length_drop, List.length_cons]; omega

theorem opts_nil (i : Nat) : opts [] i = [] := by rw [opts]
theorem opts_end (r : List UInt8) (i : Nat) : opts (0 :: r) i = [] := by rw [opts]; simp
theorem opts_bad {l : List UInt8} (i : Nat) (h0 : l ≠ []) (h1 : l.head? ≠ some 0) (hz : sz1 l = 0) : opts l i = [(i, [])] := by
  match l with
  | [] => exact absurd rfl h0
  | c :: r => rw [opts, if_neg (by simpa using h1), dif_pos hz]
theorem opts_step {l : List UInt8} (i : Nat) (h1 : l.head? ≠ some 0) (hz : sz1 l ≠ 0) : opts l i = (i, l.take (sz1 l)) :: opts (l.drop (sz1 l)) (i + sz1 l) := by
  match l with
  | [] => exact absurd rfl hz
  | c :: r => rw [opts, if_neg (by simpa using h1), dif_neg hz]

/-- The four ways of a walk. -/
theorem opts_ways (l : List UInt8) : l = [] ∨ (∃ r, l = 0 :: r) ∨ (l ≠ [] ∧ l.head? ≠ some 0 ∧ sz1 l = 0) ∨ (l.head? ≠ some 0 ∧ sz1 l ≠ 0) := by
  match l with
  | [] => exact Or.inl rfl
  | c :: r =>
    by_cases hc : c = 0
    · exact Or.inr (Or.inl ⟨r, by rw [hc]⟩)
    · by_cases hz : sz1 (c :: r) = 0
      · exact Or.inr (Or.inr (Or.inl ⟨by simp, by simpa using hc, hz⟩))
      · exact Or.inr (Or.inr (Or.inr ⟨by simpa using hc, hz⟩))

/-- What a walk shows of itself: by how many bytes there are. -/
theorem opts_ind {p : List UInt8 → Prop} (h0 : p []) (h1 : ∀ r, p (0 :: r)) (h2 : ∀ l, l ≠ [] → l.head? ≠ some 0 → sz1 l = 0 → p l) (h3 : ∀ l, l.head? ≠ some 0 → sz1 l ≠ 0 → p (l.drop (sz1 l)) → p l) : ∀ l, p l := by
  have key : ∀ n (l : List UInt8), l.length ≤ n → p l := by
    intro n
    induction n with
    | zero =>
      intro l hl
      have e := List.length_eq_zero_iff.1 (show l.length = 0 by omega)
      subst e
      exact h0
    | succ n ih =>
      intro l hl
      rcases opts_ways l with rfl | ⟨r, rfl⟩ | ⟨a, b, c⟩ | ⟨b, c⟩
      · exact h0
      · exact h1 r
      · exact h2 l a b c
      · exact h3 l b c (ih _ (by simp only [List.length_drop]; omega))
  exact fun l => key l.length l (Nat.le_refl _)

/-- The first option alone, with anything behind. -/
theorem sz1_take {l : List UInt8} (hz : sz1 l ≠ 0) (z : List UInt8) : sz1 (l.take (sz1 l) ++ z) = sz1 l := by
  match l with
  | [] => exact absurd rfl hz
  | [c] =>
    by_cases hc : c = 1
    · subst hc
      cases z <;> simp [sz1]
    · simp [sz1, hc] at hz
  | c :: n :: r =>
    by_cases hc : c = 1
    · subst hc
      cases z <;> simp [sz1]
    · simp only [sz1, if_neg hc] at hz ⊢
      by_cases hb : n.toNat < 2 ∨ r.length + 2 < n.toNat
      · rw [if_pos hb] at hz; exact absurd rfl hz
      · rw [if_neg hb]
        obtain ⟨m, hm⟩ : ∃ m, n.toNat = m + 2 := ⟨n.toNat - 2, by omega⟩
        rw [hm, List.take_succ_cons, List.take_succ_cons]
        simp only [List.cons_append, if_neg hc]
        rw [if_neg (by simp only [List.length_append, List.length_take]; omega)]
        exact hm
theorem take_head {l : List UInt8} {k : Nat} (hk : k ≠ 0) (z : List UInt8) (h : l ≠ []) : (l.take k ++ z).head? = l.head? := by
  match l, k with
  | [], _ => exact absurd rfl h
  | _, 0 => exact absurd rfl hk
  | c :: r, k + 1 => simp
theorem sz1_ne {l : List UInt8} (hz : sz1 l ≠ 0) : l ≠ [] := by rintro rfl; exact hz rfl

/-- An option ahead of others is walked first. -/
theorem opts_first {l : List UInt8} (i : Nat) (h1 : l.head? ≠ some 0) (hz : sz1 l ≠ 0) (z : List UInt8) : opts (l.take (sz1 l) ++ z) i = (i, l.take (sz1 l)) :: opts z (i + sz1 l) := by
  have hl : (l.take (sz1 l)).length = sz1 l := by rw [List.length_take]; have := sz1_le l; omega
  have e := opts_step (l := l.take (sz1 l) ++ z) i (by rw [take_head hz z (sz1_ne hz)]; exact h1) (by rw [sz1_take hz]; exact hz)
  rw [e, sz1_take hz, List.take_left' hl, List.drop_left' hl]

/-- Is an option right? -/
def fineO (x : Nat × List UInt8) : Bool := !x.2.isEmpty
/-- Are options? -/
def rightL (l : List UInt8) : Bool := (opts l 0).all fineO
/-- An option's MSS: the number, and its place. -/
def mssO (x : Nat × List UInt8) : Option (Nat × Nat) :=
  match x.2 with
  | [k, _, a, b] => if k = 2 then some (a.toNat * 256 + b.toNat, x.1 + 2) else none
  | _ => none
/-- The MSS that options tell. -/
def mssL (l : List UInt8) : Option (Nat × Nat) := if rightL l then (opts l 0).findSome? mssO else none

/-- A walk that begins elsewhere. -/
def moved (k : Nat) (x : Nat × List UInt8) : Nat × List UInt8 := (x.1 + k, x.2)
theorem opts_moved (k : Nat) : ∀ (l : List UInt8) (i : Nat), opts l (i + k) = (opts l i).map (moved k) := by
  intro l
  induction l using opts_ind with
  | h0 => intro i; simp [opts_nil]
  | h1 r => intro i; simp [opts_end]
  | h2 l a b c => intro i; rw [opts_bad _ a b c, opts_bad _ a b c]; rfl
  | h3 l b c ih =>
    intro i
    rw [opts_step _ b c, opts_step _ b c, List.map_cons, show i + k + sz1 l = i + sz1 l + k by omega, ih]
    rfl
theorem opts_from (l : List UInt8) (k : Nat) : opts l k = (opts l 0).map (moved k) := by
  have := opts_moved k l 0
  rwa [Nat.zero_add] at this
theorem right_any (l : List UInt8) (k : Nat) : (opts l k).all fineO = rightL l := by
  rw [opts_from, List.all_map]
  rfl
/-- An MSS that is told from elsewhere. -/
def movedM (k : Nat) (x : Nat × Nat) : Nat × Nat := (x.1, x.2 + k)
theorem mssO_moved (k : Nat) (x : Nat × List UInt8) : mssO (moved k x) = (mssO x).map (movedM k) := by
  obtain ⟨i, s⟩ := x
  unfold mssO moved
  simp only
  split
  · split
    · simp [movedM]; omega
    · rfl
  · rfl
theorem mss_any (l : List UInt8) (k : Nat) : (opts l k).findSome? mssO = ((opts l 0).findSome? mssO).map (movedM k) := by
  rw [opts_from]
  induction opts l 0 with
  | nil => rfl
  | cons x xs ih =>
    rw [List.map_cons, List.findSome?_cons, List.findSome?_cons, mssO_moved]
    cases mssO x with
    | none => exact ih
    | some y => rfl

theorem rightL_nil : rightL [] = true := by simp [rightL, opts_nil]
theorem rightL_end (r : List UInt8) : rightL (0 :: r) = true := by simp [rightL, opts_end]
theorem rightL_bad {l : List UInt8} (h0 : l ≠ []) (h1 : l.head? ≠ some 0) (hz : sz1 l = 0) : rightL l = false := by
  unfold rightL; rw [opts_bad _ h0 h1 hz]; rfl
theorem take_ne {l : List UInt8} (hz : sz1 l ≠ 0) : (l.take (sz1 l)).isEmpty = false := by
  have hle := sz1_le l
  have hn : (l.take (sz1 l)).length ≠ 0 := by rw [List.length_take]; omega
  cases h : l.take (sz1 l) with
  | nil => rw [h] at hn; simp at hn
  | cons _ _ => rfl
theorem rightL_first {l : List UInt8} (h1 : l.head? ≠ some 0) (hz : sz1 l ≠ 0) (z : List UInt8) : rightL (l.take (sz1 l) ++ z) = rightL z := by
  unfold rightL
  rw [opts_first _ h1 hz, List.all_cons, right_any]
  simp [fineO, take_ne hz, rightL]
theorem rightL_step {l : List UInt8} (h1 : l.head? ≠ some 0) (hz : sz1 l ≠ 0) : rightL l = rightL (l.drop (sz1 l)) := by
  have := rightL_first h1 hz (l.drop (sz1 l))
  rwa [List.take_append_drop] at this

/-- What is right, and what is told, with an end and anything behind. -/
theorem opts_ended (junk : List UInt8) : ∀ (a : List UInt8), rightL a = true → ∀ i, opts (a ++ 0 :: junk) i = opts a i := by
  intro a
  induction a using opts_ind with
  | h0 => intro _ i; rw [List.nil_append, opts_end, opts_nil]
  | h1 r => intro _ i; rw [List.cons_append, opts_end, opts_end]
  | h2 l x y z => intro h; rw [rightL_bad x y z] at h; cases h
  | h3 l y z ih =>
    intro h i
    rw [rightL_step y z] at h
    have e : l ++ 0 :: junk = l.take (sz1 l) ++ (l.drop (sz1 l) ++ 0 :: junk) := by rw [← List.append_assoc, List.take_append_drop]
    rw [e, opts_first _ y z, ih h, ← opts_step _ y z]
/-- Two that are right, of which the first has no end. -/
theorem opts_joined (b : List UInt8) : ∀ (a : List UInt8), rightL a = true → (∀ c ∈ a, c ≠ 0) → ∀ i, opts (a ++ b) i = opts a i ++ opts b (i + a.length) := by
  intro a
  induction a using opts_ind with
  | h0 => intro _ _ i; rw [List.nil_append, opts_nil, List.nil_append, List.length_nil, Nat.add_zero]
  | h1 r => intro _ h; exact absurd rfl (h 0 (by simp))
  | h2 l x y z => intro h; rw [rightL_bad x y z] at h; cases h
  | h3 l y z ih =>
    intro h hc i
    rw [rightL_step y z] at h
    have e : l ++ b = l.take (sz1 l) ++ (l.drop (sz1 l) ++ b) := by rw [← List.append_assoc, List.take_append_drop]
    have hl := sz1_le l
    rw [e, opts_first _ y z, ih h (fun c hm => hc c (List.mem_of_mem_drop hm)), opts_step (l := l) _ y z, List.cons_append, List.length_drop, show i + sz1 l + (l.length - sz1 l) = i + l.length by omega]

/-- How options change. -/
theorem mssL_none {l : List UInt8} (h : rightL l = false) : mssL l = none := by simp [mssL, h]
theorem mssL_right {l : List UInt8} (h : rightL l = true) : mssL l = (opts l 0).findSome? mssO := by simp [mssL, h]
theorem one_ahead (a : List UInt8) : rightL (1 :: a) = rightL a ∧ mssL (1 :: a) = (mssL a).map (movedM 1) := by
  have hz : sz1 (1 :: a) = 1 := by cases a <;> simp [sz1]
  have h1 : (1 :: a).head? ≠ some (0 : UInt8) := by simp
  have hr : rightL (1 :: a) = rightL a := by
    rw [rightL_step h1 (by omega), hz]; rfl
  refine ⟨hr, ?_⟩
  unfold mssL
  rw [hr]
  cases rightL a with
  | false => rfl
  | true =>
    rw [if_pos rfl, if_pos rfl, opts_step _ h1 (by omega), hz, List.findSome?_cons]
    exact mss_any a 1
theorem ended_behind {a : List UInt8} (h : rightL a = true) (junk : List UInt8) : rightL (a ++ 0 :: junk) = true ∧ mssL (a ++ 0 :: junk) = mssL a := by
  have hr : rightL (a ++ 0 :: junk) = true := by unfold rightL; rw [opts_ended junk a h]; exact h
  refine ⟨hr, ?_⟩
  rw [mssL_right hr, mssL_right h, opts_ended junk a h]
theorem joined {a b : List UInt8} (ha : rightL a = true) (hb : rightL b = true) (hc : ∀ c ∈ a, c ≠ 0) : rightL (a ++ b) = true ∧ (mssL (a ++ b)).map (·.1) = ((mssL a).or (mssL b)).map (·.1) := by
  have hr : rightL (a ++ b) = true := by
    unfold rightL
    rw [opts_joined b a ha hc, List.all_append, right_any, right_any, ha, hb]
    rfl
  refine ⟨hr, ?_⟩
  rw [mssL_right hr, mssL_right ha, mssL_right hb, opts_joined b a ha hc, List.findSome?_append, mss_any b (0 + a.length)]
  cases (opts a 0).findSome? mssO with
  | some x => rfl
  | none =>
    cases (opts b 0).findSome? mssO with
    | none => rfl
    | some y => rfl

/-- Where an MSS stands, and what becomes of it with another number in its place. -/
structure Stands (l : List UInt8) (i n q : Nat) : Prop where
  at_ : ∃ pre x y post, l = pre ++ 2 :: 4 :: x :: y :: post ∧ q = i + pre.length + 2 ∧ n = x.toNat * 256 + y.toNat ∧ rightL pre = true ∧ (opts pre i).findSome? mssO = none ∧
    ∀ x' y' : UInt8, rightL (pre ++ 2 :: 4 :: x' :: y' :: post) = true ∧ (opts (pre ++ 2 :: 4 :: x' :: y' :: post) i).findSome? mssO = some (x'.toNat * 256 + y'.toNat, q)
theorem sz_four {c n : UInt8} {r : List UInt8} {x : List UInt8} (h : (c :: n :: r).take (sz1 (c :: n :: r)) = x) (hl : x.length = 4) : n = 4 := by
  have hle := sz1_le (c :: n :: r)
  have e : sz1 (c :: n :: r) = 4 := by rw [← hl, ← h, List.length_take]; omega
  simp only [sz1] at e
  split at e
  · omega
  · split at e
    · omega
    · exact UInt8.toNat_inj.1 e
theorem stands : ∀ (l : List UInt8), rightL l = true → ∀ i n q, (opts l i).findSome? mssO = some (n, q) → Stands l i n q := by
  intro l
  induction l using opts_ind with
  | h0 => intro _ i n q h; rw [opts_nil] at h; cases h
  | h1 r => intro _ i n q h; rw [opts_end] at h; cases h
  | h2 l x y z => intro h; rw [rightL_bad x y z] at h; cases h
  | h3 l y z ih =>
    intro hr i n q h
    rw [rightL_step y z] at hr
    rw [opts_step _ y z, List.findSome?_cons] at h
    cases hm : mssO (i, l.take (sz1 l)) with
    | none =>
      rw [hm] at h
      obtain ⟨pre, x, w, post, e, hq, hn, hp, hno, hall⟩ := (ih hr _ _ _ h).at_
      have hl : (l.take (sz1 l)).length = sz1 l := by rw [List.length_take]; have := sz1_le l; omega
      refine ⟨l.take (sz1 l) ++ pre, x, w, post, ?_, ?_, hn, ?_, ?_, ?_⟩
      · rw [List.append_assoc, ← e, List.take_append_drop]
      · rw [List.length_append, hl]; omega
      · rw [rightL_first y z]; exact hp
      · rw [opts_first _ y z, List.findSome?_cons, hm]; exact hno
      · intro x' y'
        rw [List.append_assoc, rightL_first y z, opts_first _ y z, List.findSome?_cons, hm]
        exact hall x' y'
    | some v =>
      rw [hm] at h
      obtain rfl : v = (n, q) := by simpa using h
      unfold mssO at hm
      simp only at hm
      split at hm
      · rename_i k m a b hx
        split at hm
        · rename_i hk
          subst hk
          have hls := sz1_le l
          have hl : (l.take (sz1 l)).length = sz1 l := by rw [List.length_take]; omega
          have hlen : sz1 l = 4 := by rw [← hl, hx]; rfl
          have hcat := (List.take_append_drop (sz1 l) l).symm
          rw [hx] at hcat
          have hm4 : m = 4 := by
            generalize l.drop (sz1 l) = d at hcat
            have hx' : (2 :: m :: (a :: b :: d)).take (sz1 (2 :: m :: (a :: b :: d))) = [2, m, a, b] := by rw [hcat] at hx; exact hx
            exact sz_four hx' rfl
          subst hm4
          rw [hlen] at hcat hr
          have hv : (a.toNat * 256 + b.toNat, i + 2) = (n, q) := by simpa using hm
          have hv1 : a.toNat * 256 + b.toNat = n := congrArg Prod.fst hv
          have hv2 : i + 2 = q := congrArg Prod.snd hv
          refine ⟨[], a, b, l.drop 4, hcat, by simp; omega, hv1.symm, rightL_nil, by rw [opts_nil]; rfl, ?_⟩
          intro x' y'
          have hsz : sz1 (2 :: 4 :: x' :: y' :: l.drop 4) = 4 := by
            simp [sz1]
          have hhd : (2 :: 4 :: x' :: y' :: l.drop 4).head? ≠ some (0 : UInt8) := by simp
          refine ⟨?_, ?_⟩
          · rw [List.nil_append, rightL_step hhd (by omega), hsz]; exact hr
          · rw [List.nil_append, opts_step _ hhd (by omega), hsz, List.findSome?_cons]
            simp [mssO]
            exact hv2
        · cases hm
      · cases hm

end Go.Proofs.Ythfelnocdeknaaa
