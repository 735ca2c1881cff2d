/-
  Options of a segment, plain: how they are walked, whether they are right, and the MSS that they tell; no Go function is walked here.
-/
import Derived.Test.YtppobficnjpdiaaReading
namespace Go.Proofs.Ytppobficnjpdiaa
set_option linter.unusedVariables false

/-- How many bytes the first option has; 0, if it isn't right. -/
def sz1 : List UInt8 → Nat
  | [] => 0
  | [c] => if c = 1 then 1 else 0
  | c :: n :: r => if c = 1 then 1 else if n.toNat < 2 ∨ r.length + 2 < n.toNat then 0 else n.toNat

theorem sz1_le (l : List UInt8) : sz1 l ≤ l.length := by
  match l with
  | [] => simp [sz1]
  | [c] => simp only [sz1]; split <;> simp
  | c :: n :: r =>
    simp only [sz1, List.length_cons]
    split
    · omega
    · split <;> omega

/-- The options from a place on: each one's place and bytes; one that isn't right has none, and is the last. -/
def opts (l : List UInt8) (i : Nat) : List (Nat × List UInt8) :=
  match l with
  | [] => []
  | c :: r =>
    if c = 0 then [] else if h : sz1 (c :: r) = 0 then [(i, [])]
    else (i, (c :: r).take (sz1 (c :: r))) :: opts ((c :: r).drop (sz1 (c :: r))) (i + sz1 (c :: r))
termination_by l.length
decreasing_by simp only [List.length_drop, List.length_cons]; omega

theorem opts_nil (i : Nat) : opts [] i = [] := by rw [opts]
theorem opts_end (r : List UInt8) (i : Nat) : opts (0 :: r) i = [] := by rw [opts]; simp
theorem opts_bad {l : List UInt8} (i : Nat) (h0 : l ≠ []) (h1 : l.head? ≠ some 0) (hz : sz1 l = 0) : opts l i = [(i, [])] := by
  match l with
  | [] => exact absurd rfl h0
  | c :: r => rw [opts, if_neg (by simpa using h1), dif_pos hz]
theorem opts_step {l : List UInt8} (i : Nat) (h1 : l.head? ≠ some 0) (hz : sz1 l ≠ 0) : opts l i = (i, l.take (sz1 l)) :: opts (l.drop (sz1 l)) (i + sz1 l) := by
  match l with
  | [] => exact absurd rfl hz
  | c :: r => rw [opts, if_neg (by simpa using h1), dif_neg hz]

/-- The four ways of a walk. -/
theorem opts_ways (l : List UInt8) : l = [] ∨ (∃ r, l = 0 :: r) ∨ (l ≠ [] ∧ l.head? ≠ some 0 ∧ sz1 l = 0) ∨ (l.head? ≠ some 0 ∧ sz1 l ≠ 0) := by
  match l with
  | [] => exact Or.inl rfl
  | c :: r =>
    by_cases hc : c = 0
    · exact Or.inr (Or.inl ⟨r, by rw [hc]⟩)
    · by_cases hz : sz1 (c :: r) = 0
      · exact Or.inr (Or.inr (Or.inl ⟨by simp, by simpa using hc, hz⟩))
      · exact Or.inr (Or.inr (Or.inr ⟨by simpa using hc, hz⟩))

/-- What a walk shows of itself: by how many bytes there are. -/
theorem opts_ind {p : List UInt8 → Prop} (h0 : p []) (h1 : ∀ r, p (0 :: r)) (h2 : ∀ l, l ≠ [] → l.head? ≠ some 0 → sz1 l = 0 → p l) (h3 : ∀ l, l.head? ≠ some 0 → sz1 l ≠ 0 → p (l.drop (sz1 l)) → p l) : ∀ l, p l := by
  have key : ∀ n (l : List UInt8), l.length ≤ n → p l := by
    intro n
    induction n with
    | zero =>
      intro l hl
      have e := List.length_eq_zero_iff.1 (show l.length = 0 by omega)
      subst e
      exact h0
    | succ n ih =>
      intro l hl
      rcases opts_ways l with rfl | ⟨r, rfl⟩ | ⟨a, b, c⟩ | ⟨b, c⟩
      · exact h0
      · exact h1 r
      · exact h2 l a b c
      · exact h3 l b c (ih _ (by simp only [List.length_drop]; omega))
  exact fun l => key l.length l (Nat.le_refl _)

/-- The first option alone, with anything behind. -/
theorem sz1_take {l : List UInt8} (hz : sz1 l ≠ 0) (z : List UInt8) : sz1 (l.take (sz1 l) ++ z) = sz1 l := by
  match l with
  | [] => exact absurd rfl hz
  | [c] =>
    by_cases hc : c = 1
    · subst hc
      cases z <;> simp [sz1]
    · simp [sz1, hc] at hz
  | c :: n :: r =>
    by_cases hc : c = 1
    · subst hc
      cases z <;> simp [sz1]
    · simp only [sz1, if_neg hc] at hz ⊢
      by_cases hb : n.toNat < 2 ∨ r.length + 2 < n.toNat
      · rw [if_pos hb] at hz; exact absurd rfl hz
      · rw [if_neg hb]
        obtain ⟨m, hm⟩ : ∃ m, n.toNat = m + 2 := ⟨n.toNat - 2, by omega⟩
        rw [hm, List.take_succ_cons, List.take_succ_cons]
        simp only [List.cons_append, if_neg hc]
        rw [if_neg (by simp only [List.length_append, List.length_take]; omega)]
        exact hm
theorem take_head {l : List UInt8} {k : Nat} (hk : k ≠ 0) (z : List UInt8) (h : l ≠ []) : (l.take k ++ z).head? = l.head? := by
  match l, k with
  | [], _ => exact absurd rfl h
  | _, 0 => exact absurd rfl hk
  | c :: r, k + 1 => simp
theorem sz1_ne {l : List UInt8} (hz : sz1 l ≠ 0) : l ≠ [] := by rintro rfl; exact hz rfl

/-- An option ahead of others is walked first. -/
theorem opts_first {l : List UInt8} (i : Nat) (h1 : l.head? ≠ some 0) (hz : sz1 l ≠ 0) (z : List UInt8) : opts (l.take (sz1 l) ++ z) i = (i, l.take (sz1 l)) :: opts z (i + sz1 l) := by
  have hl : (l.take (sz1 l)).length = sz1 l := by rw [List.length_take]; have := sz1_le l; omega
  have e := opts_step (l := l.take (sz1 l) ++ z) i (by rw [take_head hz z (sz1_ne hz)]; exact h1) (by rw [sz1_take hz]; exact hz)
  rw [e, sz1_take hz, List.take_left' hl, List.drop_left' hl]

/-- Is an option right? -/
def fineO (x : Nat × List UInt8) : Bool := !x.2.isEmpty
/-- Are options? -/
def rightL (l : List UInt8) : Bool := (opts l 0).all fineO
/-- An option's MSS: the number, and its place. -/
def mssO (x : Nat × List UInt8) : Option (Nat × Nat) :=
  match x.2 with
  | [k, _, a, b] => if k = 2 then some (a.toNat * 256 + b.toNat, x.1 + 2) else none
  | _ => none
/-- The MSS that options tell. -/
def mssL (l : List UInt8) : Option (Nat × Nat) := if rightL l then (opts l 0).findSome? mssO else none

/-- A walk that begins elsewhere. -/
def moved (k : Nat) (x : Nat × List UInt8) : Nat × List UInt8 := (x.1 + k, x.2)
theorem opts_moved (k : Nat) : ∀ (l : List UInt8) (i : Nat), opts l (i + k) = (opts l i).map (moved k) := by
  intro l
  induction l using opts_ind with
  | h0 => intro i; simp [opts_nil]
  | h1 r => intro i; simp [opts_end]
  | h2 l a b c => intro i; rw [opts_bad _ a b c, opts_bad _ a b c]; rfl
  | h3 l b c ih =>
    intro i
    rw [opts_step _ b c, opts_step _ b c, List.map_cons, show i + k + sz1 l = i + sz1 l + k by omega, ih]
    rfl
theorem opts_from (l : List UInt8) (k : Nat) : opts l k = (opts l 0).map (moved k) := by
  have := opts_moved k l 0
  rwa [Nat.zero_add] at this
theorem rightL_any (l : List UInt8) (k : Nat) : (opts l k).all fineO = rightL l := by
  rw [opts_from, List.all_map]
  rfl
/-- An MSS that is told from elsewhere. -/
def movedM (k : Nat) (x : Nat × Nat) : Nat × Nat := (x.1, x.2 + k)
theorem mssO_moved (k : Nat) (x : Nat × List UInt8) : mssO (moved k x) = (mssO x).map (movedM k) := by
  obtain ⟨i, s⟩ := x
  unfold mssO moved
  simp only
  split
  · split
    · simp [movedM]; omega
    · rfl
  · rfl
theorem mss_any (l : List UInt8) (k : Nat) : (opts l k).findSome? mssO = ((opts l 0).findSome? mssO).map (movedM k) := by
  rw [opts_from]
  induction opts l 0 with
  | nil => rfl
  | cons x xs ih =>
    rw [List.map_cons, List.findSome?_cons, List.findSome?_cons, mssO_moved]
    cases mssO x with
    | none => exact ih
    | some y => rfl

theorem rightL_nil : rightL [] = true := by simp [rightL, opts_nil]
theorem rightL_end (r : List UInt8) : rightL (0 :: r) = true := by simp [rightL, opts_end]
theorem rightL_bad {l : List UInt8} (h0 : l ≠ []) (h1 : l.head? ≠ some 0) (hz : sz1 l = 0) : rightL l = false := by
  unfold rightL; rw [opts_bad _ h0 h1 hz]; rfl
theorem take_ne {l : List UInt8} (hz : sz1 l ≠ 0) : (l.take (sz1 l)).isEmpty = false := by
  have hle := sz1_le l
  have hn : (l.take (sz1 l)).length ≠ 0 := by rw [List.length_take]; omega
  cases h : l.take (sz1 l) with
  | nil => rw [h] at hn; simp at hn
  | cons _ _ => rfl
theorem rightL_first {l : List UInt8} (h1 : l.head? ≠ some 0) (hz : sz1 l ≠ 0) (z : List UInt8) : rightL (l.take (sz1 l) ++ z) = rightL z := by
  unfold rightL
  rw [opts_first _ h1 hz, List.all_cons, rightL_any]
  simp [fineO, take_ne hz, rightL]
theorem rightL_step {l : List UInt8} (h1 : l.head? ≠ some 0) (hz : sz1 l ≠ 0) : rightL l = rightL (l.drop (sz1 l)) := by
  have := rightL_first h1 hz (l.drop (sz1 l))
  rwa [List.take_append_drop] at this

/-- What is right, and what is told, with an end and anything behind. -/
theorem opts_ended (junk : List UInt8) : ∀ (a : List UInt8), rightL a = true → ∀ i, opts (a ++ 0 :: junk) i = opts a i := by
  intro a
  induction a using opts_ind with
  | h0 => intro _ i; rw [List.nil_append, opts_end, opts_nil]
  | h1 r => intro _ i; rw [List.cons_append, opts_end, opts_end]
  | h2 l x y z => intro h; rw [rightL_bad x y z] at h; cases h
  | h3 l y z ih =>
    intro h i
    rw [rightL_step y z] at h
    have e : l ++ 0 :: junk = l.take (sz1 l) ++ (l.drop (sz1 l) ++ 0 :: junk) := by rw [← List.append_assoc, List.take_append_drop]
    rw [e, opts_first _ y z, ih h, ← opts_step _ y z]
/-- Two that are right, of which the first has no end. -/
theorem opts_joined (b : List UInt8) : ∀ (a : List UInt8), rightL a = true → (∀ c ∈ a, c ≠ 0) → ∀ i, opts (a ++ b) i = opts a i ++ opts b (i + a.length) := by
  intro a
  induction a using opts_ind with
  | h0 => intro _ _ i; rw [List.nil_append, opts_nil, List.nil_append, List.length_nil, Nat.add_zero]
  | h1 r => intro _ h; exact absurd rfl (h 0 (by simp))
  | h2 l x y z => intro h; rw [rightL_bad x y z] at h; cases h
  | h3 l y z ih =>
    intro h hc i
    rw [rightL_step y z] at h
    have e : l ++ b = l.take (sz1 l) ++ (l.drop (sz1 l) ++ b) := by rw [← List.append_assoc, List.take_append_drop]
    have hl := sz1_le l
    rw [e, opts_first _ y z, ih h (fun c hm => hc c (List.mem_of_mem_drop hm)), opts_step (l := l) _ y z, List.cons_append, List.length_drop, show i + sz1 l + (l.length - sz1 l) = i + l.length by omega]

/-- How options change. -/
theorem mssL_none {l : List UInt8} (h : rightL l = false) : mssL l = none := by simp [mssL, h]
theorem mssL_right {l : List UInt8} (h : rightL l = true) : mssL l = (opts l 0).findSome? mssO := by simp [mssL, h]
theorem one_ahead (a : List UInt8) : rightL (1 :: a) = rightL a ∧ mssL (1 :: a) = (mssL a).map (movedM 1) := by
  have hz : sz1 (1 :: a) = 1 := by cases a <;> simp [sz1]
  have h1 : (1 :: a).head? ≠ some (0 : UInt8) := by simp
  have hr : rightL (1 :: a) = rightL a := by
    rw [rightL_step h1 (by omega), hz]; rfl
  refine ⟨hr, ?_⟩
  unfold mssL
  rw [hr]
  cases rightL a with
  | false => rfl
  | true =>
    rw [if_pos rfl, if_pos rfl, opts_step _ h1 (by omega), hz, List.findSome?_cons]
    exact mss_any a 1
theorem ended_behind {a : List UInt8} (h : rightL a = true) (junk : List UInt8) : rightL (a ++ 0 :: junk) = true ∧ mssL (a ++ 0 :: junk) = mssL a := by
  have hr : rightL (a ++ 0 :: junk) = true := by unfold rightL; rw [opts_ended junk a h]; exact h
  refine ⟨hr, ?_⟩
  rw [mssL_right hr, mssL_right h, opts_ended junk a h]
theorem joined7 {a b : List UInt8} (ha : rightL a = true) (hb : rightL b = true) (hc : ∀ c ∈ a, c ≠ 0) : rightL (a ++ b) = true ∧ (mssL (a ++ b)).map (·.1) = ((mssL a).or (mssL b)).map (·.1) := by
  have hr : rightL (a ++ b) = true := by
    unfold rightL
    rw [opts_joined b a ha hc, List.all_append, rightL_any, rightL_any, ha, hb]
    rfl
  refine ⟨hr, ?_⟩
  rw [mssL_right hr, mssL_right ha, mssL_right hb, opts_joined b a ha hc, List.findSome?_append, mss_any b (0 + a.length)]
  cases (opts a 0).findSome? mssO with
  | some x => rfl
  | none =>
    cases (opts b 0).findSome? mssO with
    | none => rfl
    | some y => rfl

/-- Where an MSS stands, and what becomes of it with another number in its place. -/
structure Stands (l : List UInt8) (i n q : Nat) : Prop where
  at_ : ∃ pre x y post, l = pre ++ 2 :: 4 :: x :: y :: post ∧ q = i + pre.length + 2 ∧ n = x.toNat * 256 + y.toNat ∧ rightL pre = true ∧ (opts pre i).findSome? mssO = none ∧
    ∀ x' y' : UInt8, rightL (pre ++ 2 :: 4 :: x' :: y' :: post) = true ∧ (opts (pre ++ 2 :: 4 :: x' :: y' :: post) i).findSome? mssO = some (x'.toNat * 256 + y'.toNat, q)
theorem sz_four {c n : UInt8} {r : List UInt8} {x : List UInt8} (h : (c :: n :: r).take (sz1 (c :: n :: r)) = x) (hl : x.length = 4) : n = 4 := by
  have hle := sz1_le (c :: n :: r)
  have e : sz1 (c :: n :: r) = 4 := by rw [← hl, ← h, List.length_take]; omega
  simp only [sz1] at e
  split at e
  · omega
  · split at e
    · omega
    · exact UInt8.toNat_inj.1 e
theorem stands : ∀ (l : List UInt8), rightL l = true → ∀ i n q, (opts l i).findSome? mssO = some (n, q) → Stands l i n q := by
  intro l
  induction l using opts_ind with
  | h0 => intro _ i n q h; rw [opts_nil] at h; cases h
  | h1 r => intro _ i n q h; rw [opts_end] at h; cases h
  | h2 l x y z => intro h; rw [rightL_bad x y z] at h; cases h
  | h3 l y z ih =>
    intro hr i n q h
    rw [rightL_step y z] at hr
    rw [opts_step _ y z, List.findSome?_cons] at h
    cases hm : mssO (i, l.take (sz1 l)) with
    | none =>
      rw [hm] at h
      obtain ⟨pre, x, w, post, e, hq, hn, hp, hno, hall⟩ := (ih hr _ _ _ h).at_
      have hl : (l.take (sz1 l)).length = sz1 l := by rw [List.length_take]; have := sz1_le l; omega
      refine ⟨l.take (sz1 l) ++ pre, x, w, post, ?_, ?_, hn, ?_, ?_, ?_⟩
      · rw [List.append_assoc, ← e, List.take_append_drop]
      · rw [List.length_append, hl]; omega
      · rw [rightL_first y z]; exact hp
      · rw [opts_first _ y z, List.findSome?_cons, hm]; exact hno
      · intro x' y'
        rw [List.append_assoc, rightL_first y z, opts_first _ y z, List.findSome?_cons, hm]
        exact hall x' y'
    | some v =>
      rw [hm] at h
      obtain rfl : v = (n, q) := by simpa using h
      unfold mssO at hm
      simp only at hm
      split at hm
      · rename_i k m a b hx
        split at hm
        · rename_i hk
          subst hk
          have hls := sz1_le l
          have hl : (l.take (sz1 l)).length = sz1 l := by rw [List.length_take]; omega
          have hlen : sz1 l = 4 := by rw [← hl, hx]; rfl
          have hcat := (List.take_append_drop (sz1 l) l).symm
          rw [hx] at hcat
          have hm4 : m = 4 := by
            generalize l.drop (sz1 l) = d at hcat
            have hx' : (2 :: m :: (a :: b :: d)).take (sz1 (2 :: m :: (a :: b :: d))) = [2, m, a, b] := by rw [hcat] at hx; exact hx
            exact sz_four hx' rfl
          subst hm4
          rw [hlen] at hcat hr
          have hv : (a.toNat * 256 + b.toNat, i + 2) = (n, q) := by simpa using hm
          have hv1 : a.toNat * 256 + b.toNat = n := congrArg Prod.fst hv
          have hv2 : i + 2 = q := congrArg Prod.snd hv
          refine ⟨[], a, b, l.drop 4, hcat, by simp; omega, hv1.symm, rightL_nil, by rw [opts_nil]; rfl, ?_⟩
          intro x' y'
          have hsz : sz1 (2 :: 4 :: x' :: y' :: l.drop 4) = 4 := by
            simp [sz1]
          have hhd : (2 :: 4 :: x' :: y' :: l.drop 4).head? ≠ some (0 : UInt8) := by simp
          refine ⟨?_, ?_⟩
          · rw [List.nil_append, rightL_step hhd (by omega), hsz]; exact hr
          · rw [List.nil_append, opts_step _ hhd (by omega), hsz, List.findSome?_cons]
            simp [mssO]
            exact hv2
        · cases hm
      · cases hm

end Go.Proofs.Ytppobficnjpdiaa

/-
  sizeOfFirst: how many bytes the first option has.
-/
namespace Go.Proofs.Ytppobficnjpdiaa
open Go.RowKit
set_option linter.unusedVariables false

theorem szT_one {t : ByteArray} (h : 0 < t.size) (hc : (t[0]'h).toNat = 1) : sz1 t.data.toList = 1 := by
  obtain ⟨⟨l⟩⟩ := t
  match l with
  | [] => exact absurd h (by simp [ByteArray.size])
  | [c] =>
    obtain rfl : c = 1 := UInt8.toNat_inj.1 hc
    rfl
  | c :: n :: r =>
    obtain rfl : c = 1 := UInt8.toNat_inj.1 hc
    rfl
theorem szT_short {t : ByteArray} (h : 0 < t.size) (hc : (t[0]'h).toNat ≠ 1) (h2 : t.size < 2) : sz1 t.data.toList = 0 := by
  obtain ⟨⟨l⟩⟩ := t
  match l with
  | [] => rfl
  | [c] =>
    have hc' : c ≠ 1 := by rintro rfl; exact hc rfl
    simp [sz1, hc']
  | c :: n :: r => exact absurd h2 (by simp [ByteArray.size])
theorem szT_bad {t : ByteArray} (h : 1 < t.size) (hc : (t[0]'(by omega)).toNat ≠ 1) (hb : (t[1]'h).toNat < 2 ∨ t.size < (t[1]'h).toNat) : sz1 t.data.toList = 0 := by
  obtain ⟨⟨l⟩⟩ := t
  match l with
  | [] => rfl
  | [c] => exact absurd h (by simp [ByteArray.size])
  | c :: n :: r =>
    have hc' : c ≠ 1 := by rintro rfl; exact hc rfl
    have hb' : n.toNat < 2 ∨ r.length + 2 < n.toNat := hb
    simp only [sz1, if_neg hc', if_pos hb']
theorem szT_ok {t : ByteArray} (h : 1 < t.size) (hc : (t[0]'(by omega)).toNat ≠ 1) (hb : ¬ (t[1]'h).toNat < 2) (hb2 : ¬ t.size < (t[1]'h).toNat) : sz1 t.data.toList = (t[1]'h).toNat := by
  obtain ⟨⟨l⟩⟩ := t
  match l with
  | [] => exact absurd h (by simp [ByteArray.size])
  | [c] => exact absurd h (by simp [ByteArray.size])
  | c :: n :: r =>
    have hc' : c ≠ 1 := by rintro rfl; exact hc rfl
    have h1 : ¬ n.toNat < 2 := hb
    have h2 : ¬ r.length + 2 < n.toNat := hb2
    have hb' : ¬ (n.toNat < 2 ∨ r.length + 2 < n.toNat) := by omega
    simp only [sz1, if_neg hc', if_neg hb']
    rfl

theorem ret_i64 {a b : Nat} (h : a = b) : Ending.returned (.int .i64 (a : Int)) = .returned (.int .i64 (b : Int)) := by rw [h]

set_option maxHeartbeats 400000 in
theorem size_any (t : ByteArray) (w : World) (h : 0 < t.size) :
    Calls Try.prog 97 #[.string t] w fun e w' => e = .returned (.int .i64 (sz1 t.data.toList : Nat)) ∧ w' = w := by
  by_cases hc : (t[0]'h).toNat = 1
  · have HZ := Lib.hid (szT_one h hc)
    have t1 : ((((t[0]'h).toNat : Nat) : Int) == 1) = true := by simp; omega
    clear hc
    go_enter Try.func97, Try.ntmps97
    go_wp2_with fail
    go_ret
    exact ⟨by rw [HZ.out]; rfl, rfl⟩
  have t1 : ((((t[0]'h).toNat : Nat) : Int) == 1) = false := by simp; omega
  by_cases h2 : 1 < t.size
  case neg =>
    have HZ := Lib.hid (szT_short h hc (by omega))
    clear hc
    have t2 : decide ((t.size : Int) < 2) = true := by simp; omega
    go_enter Try.func97, Try.ntmps97
    go_wp2_with fail
    go_ret
    exact ⟨by rw [HZ.out]; rfl, rfl⟩
  have t2 : decide ((t.size : Int) < 2) = false := by simp; omega
  have hlt : (t[1]'h2).toNat < 256 := (t[1]'h2).toNat_lt
  by_cases hb : (t[1]'h2).toNat < 2
  · have HZ := Lib.hid (szT_bad h2 hc (Or.inl hb))
    have t3 : decide ((((t[1]'h2).toNat : Nat) : Int) < 2) = true := by simp; omega
    clear hc hb
    go_enter Try.func97, Try.ntmps97
    go_wp2_with fail
    go_ret
    exact ⟨by rw [HZ.out]; rfl, rfl⟩
  have t3 : decide ((((t[1]'h2).toNat : Nat) : Int) < 2) = false := by simp; omega
  by_cases hb2 : t.size < (t[1]'h2).toNat
  · have HZ := Lib.hid (szT_bad h2 hc (Or.inr hb2))
    have t4 : decide (t.size < (t[1]'h2).toNat) = true := by simp; omega
    clear hc hb hb2
    go_enter Try.func97, Try.ntmps97
    go_wp2_with fail
    go_ret
    exact ⟨by rw [HZ.out]; rfl, rfl⟩
  · have HZ := Lib.hid (szT_ok h2 hc hb hb2)
    have t4 : decide (t.size < (t[1]'h2).toNat) = false := by simp; omega
    clear hc hb hb2
    go_enter Try.func97, Try.ntmps97
    go_wp2_with fail
    go_ret
    exact ⟨by rw [HZ.out]; rfl, rfl⟩

end Go.Proofs.Ytppobficnjpdiaa

/-
  TCP segments, plain: which segment may be, its bytes, and what bytes say; no Go function is walked here.
-/
namespace Go.Proofs.Ytppobficnjpdiaa
open Go.RowKit
set_option linter.unusedVariables false

/-- A segment. -/
structure S7 where
  src : Int
  dst : Int
  seq : Int
  ack : Int
  flg : Int
  win : Int
  urg : Int
  opt : ByteArray
  pay : ByteArray

/-- Its cells. -/
def S7.cells (h : S7) : Array Value := #[.int .i64 h.src, .int .i64 h.dst, .int .u32 h.seq, .int .u32 h.ack, .int .i64 h.flg, .int .i64 h.win, .int .i64 h.urg, .string h.opt, .string h.pay]
def S7.zero : S7 := ⟨0, 0, 0, 0, 0, 0, 0, ⟨#[]⟩, ⟨#[]⟩⟩
/-- Seq and Ack are numbers of four bytes. -/
structure S7.Wf (h : S7) : Prop where
  seq : 0 ≤ h.seq ∧ h.seq < 4294967296
  ack : 0 ≤ h.ack ∧ h.ack < 4294967296

/-- The segment's cells. -/
structure Hc7 (u : World) (B : Nat) (h : S7) : Prop where
  c0 : u.cell? ⟨B, 0, none⟩ = some (.int .i64 h.src)
  c1 : u.cell? ⟨B, 1, none⟩ = some (.int .i64 h.dst)
  c2 : u.cell? ⟨B, 2, none⟩ = some (.int .u32 h.seq)
  c3 : u.cell? ⟨B, 3, none⟩ = some (.int .u32 h.ack)
  c4 : u.cell? ⟨B, 4, none⟩ = some (.int .i64 h.flg)
  c5 : u.cell? ⟨B, 5, none⟩ = some (.int .i64 h.win)
  c6 : u.cell? ⟨B, 6, none⟩ = some (.int .i64 h.urg)
  c7 : u.cell? ⟨B, 7, none⟩ = some (.string h.opt)
  c8 : u.cell? ⟨B, 8, none⟩ = some (.string h.pay)
theorem Hc7.of {u : World} {B : Nat} {h : S7} {T : TypeId} (hb : Blk u B h.cells T) : Hc7 u B h :=
  ⟨hb.cell 0, hb.cell 1, hb.cell 2, hb.cell 3, hb.cell 4, hb.cell 5, hb.cell 6, hb.cell 7, hb.cell 8⟩

/-- Is a number from 0 to another one? -/
def inR (n m : Int) : Bool := decide (0 ≤ n) && decide (n ≤ m)
theorem inR_iff (n m : Int) : inR n m = true ↔ 0 ≤ n ∧ n ≤ m := by simp [inR]
/-- May a segment be? -/
def S7.ok (h : S7) : Bool := inR h.src 65535 && inR h.dst 65535 && inR h.win 65535 && inR h.urg 65535 && inR h.flg 255 && decide (h.opt.size ≤ 40) && decide (h.opt.size % 4 = 0)
structure S7.Ok (h : S7) : Prop where
  src : 0 ≤ h.src ∧ h.src ≤ 65535
  dst : 0 ≤ h.dst ∧ h.dst ≤ 65535
  win : 0 ≤ h.win ∧ h.win ≤ 65535
  urg : 0 ≤ h.urg ∧ h.urg ≤ 65535
  flg : 0 ≤ h.flg ∧ h.flg ≤ 255
  few : h.opt.size ≤ 40
  four : h.opt.size % 4 = 0
theorem S7.ok_iff (h : S7) : h.ok = true ↔ h.Ok := by
  simp only [S7.ok, Bool.and_eq_true, inR_iff, decide_eq_true_eq]
  constructor
  · rintro ⟨⟨⟨⟨⟨⟨a, b⟩, c⟩, d⟩, e⟩, f⟩, g⟩; exact ⟨a, b, c, d, e, f, g⟩
  · rintro ⟨a, b, c, d, e, f, g⟩; exact ⟨⟨⟨⟨⟨⟨a, b⟩, c⟩, d⟩, e⟩, f⟩, g⟩
/-- Check's error. -/
def S7.err (h : S7) : Nat := if h.ok then 0 else 1
theorem S7.err_ok {h : S7} (e : h.ok = true) : h.err = 0 := by simp [S7.err, e]
theorem S7.err_no {h : S7} (e : h.ok = false) : h.err = 1 := by simp [S7.err, e]
/-- Is a segment not too long? -/
def S7.few (h : S7) : Bool := decide (h.opt.size ≤ 300) && decide (h.pay.size ≤ 5000)
theorem S7.few_iff (h : S7) : h.few = true ↔ h.opt.size ≤ 300 ∧ h.pay.size ≤ 5000 := by simp [S7.few]

/-- A segment's bytes. -/
def S7.pack (h : S7) (sum : Int) : List UInt8 :=
  be h.src.toNat 2 ++ be h.dst.toNat 2 ++ be h.seq.toNat 4 ++ be h.ack.toNat 4 ++ be ((5 + h.opt.size / 4) * 16) 1 ++ be h.flg.toNat 1 ++ be h.win.toNat 2 ++ be sum.toNat 2 ++ be h.urg.toNat 2 ++ h.opt.data.toList ++ h.pay.data.toList
def put7E (h : S7) (sum : Int) : Nat := if h.ok && inR sum 65535 then 0 else 1
def put7S (h : S7) (sum : Int) : ByteArray := if put7E h sum = 0 then ⟨(h.pack sum).toArray⟩ else ⟨#[]⟩

/-- How many bytes are ahead of the payload. -/
def off7 (b : ByteArray) : Nat := numOf b 12 1 / 16 * 4
def get7E (b : ByteArray) : Nat :=
  if b.size < 20 then 2 else if off7 b < 20 ∨ b.size < off7 b then 4 else if numOf b 12 1 % 16 ≠ 0 then 9 else if rightL (b.extract 20 (off7 b)).data.toList then 0 else 4
/-- The segment that stands there. -/
def seg7 (b : ByteArray) : S7 := ⟨numOf b 0 2, numOf b 2 2, numOf b 4 4, numOf b 8 4, numOf b 13 1, numOf b 14 2, numOf b 18 2, b.extract 20 (off7 b), b.extract (off7 b) b.size⟩
def get7H (b : ByteArray) : S7 := if get7E b = 0 then seg7 b else S7.zero
def get7N (b : ByteArray) : Nat := if get7E b = 0 then numOf b 16 2 else 0

theorem get7E_short {b : ByteArray} (h : ¬ 20 ≤ b.size) : get7E b = 2 := by unfold get7E; rw [if_pos (by omega)]
theorem get7E_len {b : ByteArray} (h : 20 ≤ b.size) (h1 : off7 b < 20 ∨ b.size < off7 b) : get7E b = 4 := by unfold get7E; rw [if_neg (by omega), if_pos h1]
theorem get7E_form {b : ByteArray} (h : 20 ≤ b.size) (h1 : ¬ (off7 b < 20 ∨ b.size < off7 b)) (h2 : numOf b 12 1 % 16 ≠ 0) : get7E b = 9 := by
  unfold get7E; rw [if_neg (by omega), if_neg h1, if_pos h2]
theorem get7E_opts {b : ByteArray} (h : 20 ≤ b.size) (h1 : ¬ (off7 b < 20 ∨ b.size < off7 b)) (h2 : numOf b 12 1 % 16 = 0) (h3 : rightL (b.extract 20 (off7 b)).data.toList = false) : get7E b = 4 := by
  unfold get7E; rw [if_neg (by omega), if_neg h1, if_neg (by omega), if_neg (by rw [h3]; decide)]
theorem get7E_ok {b : ByteArray} (h : 20 ≤ b.size) (h1 : ¬ (off7 b < 20 ∨ b.size < off7 b)) (h2 : numOf b 12 1 % 16 = 0) (h3 : rightL (b.extract 20 (off7 b)).data.toList = true) : get7E b = 0 := by
  unfold get7E; rw [if_neg (by omega), if_neg h1, if_neg (by omega), if_pos h3]
/-- Just when bytes are a segment. -/
structure Good7 (b : ByteArray) : Prop where
  short : 20 ≤ b.size
  least : 20 ≤ off7 b
  fit : off7 b ≤ b.size
  form : numOf b 12 1 % 16 = 0
  opts : rightL (b.extract 20 (off7 b)).data.toList = true
theorem get7E_zero {b : ByteArray} : get7E b = 0 ↔ Good7 b := by
  constructor
  · intro e
    by_cases h : 20 ≤ b.size
    · by_cases h1 : off7 b < 20 ∨ b.size < off7 b
      · rw [get7E_len h h1] at e; omega
      · by_cases h2 : numOf b 12 1 % 16 = 0
        · cases h3 : rightL (b.extract 20 (off7 b)).data.toList with
          | false => rw [get7E_opts h h1 h2 h3] at e; omega
          | true => exact ⟨h, by omega, by omega, h2, h3⟩
        · rw [get7E_form h h1 h2] at e; omega
    · rw [get7E_short h] at e; omega
  · rintro ⟨h, h1, h2, h3, h4⟩
    exact get7E_ok h (by omega) h3 h4
theorem get7_err {b : ByteArray} (h : get7E b ≠ 0) : get7H b = S7.zero ∧ get7N b = 0 := by
  unfold get7H get7N
  rw [if_neg h, if_neg h]
  exact ⟨rfl, rfl⟩
theorem get7_ok {b : ByteArray} (h : get7E b = 0) : get7H b = seg7 b ∧ get7N b = numOf b 16 2 := by
  unfold get7H get7N
  rw [if_pos h, if_pos h]
  exact ⟨rfl, rfl⟩

theorem put7_ok {h : S7} {sum : Int} (hok : h.Ok) (hs : 0 ≤ sum ∧ sum ≤ 65535) : put7E h sum = 0 ∧ put7S h sum = ⟨(h.pack sum).toArray⟩ := by
  have e : put7E h sum = 0 := by unfold put7E; rw [(S7.ok_iff h).2 hok, (inR_iff _ _).2 hs]; rfl
  exact ⟨e, by unfold put7S; rw [if_pos e]⟩
theorem put7_no {h : S7} {sum : Int} (hn : (h.ok && inR sum 65535) = false) : put7E h sum = 1 ∧ put7S h sum = ⟨#[]⟩ := by
  have e : put7E h sum = 1 := by unfold put7E; rw [hn]; rfl
  exact ⟨e, by unfold put7S; rw [if_neg (by omega)]⟩
theorem put7_told (h : S7) (sum : Int) : (put7E h sum = 0 ∧ h.Ok ∧ (0 ≤ sum ∧ sum ≤ 65535) ∧ put7S h sum = ⟨(h.pack sum).toArray⟩) ∨ (put7E h sum ≠ 0 ∧ put7S h sum = ⟨#[]⟩) := by
  cases hn : (h.ok && inR sum 65535) with
  | false => exact Or.inr ⟨by rw [(put7_no hn).1]; decide, (put7_no hn).2⟩
  | true =>
    have h2 := Bool.and_eq_true_iff.1 hn
    have hok := (S7.ok_iff h).1 h2.1
    have hs := (inR_iff _ _).1 h2.2
    exact Or.inl ⟨(put7_ok hok hs).1, hok, hs, (put7_ok hok hs).2⟩

/-- Of a segment that was put: what is got of it. -/
structure Sent7 (h : S7) (sum : Int) (P : ByteArray) : Prop where
  ok : h.Ok
  su : 0 ≤ sum ∧ sum ≤ 65535
  is : P.data.toList = h.pack sum
  size : P.size = 20 + h.opt.size + h.pay.size
  off : off7 P = 20 + h.opt.size
  form : numOf P 12 1 % 16 = 0
  opts : P.extract 20 (off7 P) = h.opt
  hd : seg7 P = h
  num : (numOf P 16 2 : Int) = sum
theorem put7_get (h : S7) (sum : Int) (hok : h.Ok) (hw : h.Wf) (hs : 0 ≤ sum ∧ sum ≤ 65535) : Sent7 h sum ⟨(h.pack sum).toArray⟩ := by
  obtain ⟨p, hp⟩ : ∃ p : ByteArray, p = ⟨(h.pack sum).toArray⟩ := ⟨_, rfl⟩
  rw [← hp]
  have hl : p.data.toList = h.pack sum := by rw [hp]
  obtain ⟨h1, h2, h3, h4, h5, h6, h7⟩ := hok
  obtain ⟨w1, w2⟩ := hw
  have hpk : p.data.toList = be h.src.toNat 2 ++ (be h.dst.toNat 2 ++ (be h.seq.toNat 4 ++ (be h.ack.toNat 4 ++ (be ((5 + h.opt.size / 4) * 16) 1 ++ (be h.flg.toNat 1 ++ (be h.win.toNat 2 ++ (be sum.toNat 2 ++ (be h.urg.toNat 2 ++ (h.opt.data.toList ++ h.pay.data.toList))))))))) := by
    rw [hl]; unfold S7.pack; simp only [List.append_assoc]
  have hsize : p.size = 20 + h.opt.size + h.pay.size := by
    have := congrArg List.length hpk
    simp only [List.length_append, be_length, Array.length_toList, ByteArray.size_data] at this
    omega
  have n0 : numOf p 0 2 = h.src.toNat := num_seg (a := []) hpk rfl rfl (by show _ < 65536; omega)
  have n2 : numOf p 2 2 = h.dst.toNat := num_seg (a := be h.src.toNat 2) hpk (by simp [be_length]) rfl (by show _ < 65536; omega)
  have n4 : numOf p 4 4 = h.seq.toNat := num_seg (a := be h.src.toNat 2 ++ be h.dst.toNat 2) (by rw [hpk]; simp only [List.append_assoc]; rfl) (by simp [be_length]) rfl (by show _ < 4294967296; omega)
  have n8 : numOf p 8 4 = h.ack.toNat := num_seg (a := be h.src.toNat 2 ++ be h.dst.toNat 2 ++ be h.seq.toNat 4) (by rw [hpk]; simp only [List.append_assoc]; rfl) (by simp [be_length]) rfl (by show _ < 4294967296; omega)
  have n12 : numOf p 12 1 = (5 + h.opt.size / 4) * 16 := num_seg (a := be h.src.toNat 2 ++ be h.dst.toNat 2 ++ be h.seq.toNat 4 ++ be h.ack.toNat 4) (by rw [hpk]; simp only [List.append_assoc]; rfl) (by simp [be_length]) rfl (by show _ < 256; omega)
  have n13 : numOf p 13 1 = h.flg.toNat := num_seg (a := be h.src.toNat 2 ++ be h.dst.toNat 2 ++ be h.seq.toNat 4 ++ be h.ack.toNat 4 ++ be ((5 + h.opt.size / 4) * 16) 1) (by rw [hpk]; simp only [List.append_assoc]; rfl) (by simp [be_length]) rfl (by show _ < 256; omega)
  have n14 : numOf p 14 2 = h.win.toNat := num_seg (a := be h.src.toNat 2 ++ be h.dst.toNat 2 ++ be h.seq.toNat 4 ++ be h.ack.toNat 4 ++ be ((5 + h.opt.size / 4) * 16) 1 ++ be h.flg.toNat 1) (by rw [hpk]; simp only [List.append_assoc]; rfl) (by simp [be_length]) rfl (by show _ < 65536; omega)
  have n16 : numOf p 16 2 = sum.toNat := num_seg (a := be h.src.toNat 2 ++ be h.dst.toNat 2 ++ be h.seq.toNat 4 ++ be h.ack.toNat 4 ++ be ((5 + h.opt.size / 4) * 16) 1 ++ be h.flg.toNat 1 ++ be h.win.toNat 2) (by rw [hpk]; simp only [List.append_assoc]; rfl) (by simp [be_length]) rfl (by show _ < 65536; omega)
  have n18 : numOf p 18 2 = h.urg.toNat := num_seg (a := be h.src.toNat 2 ++ be h.dst.toNat 2 ++ be h.seq.toNat 4 ++ be h.ack.toNat 4 ++ be ((5 + h.opt.size / 4) * 16) 1 ++ be h.flg.toNat 1 ++ be h.win.toNat 2 ++ be sum.toNat 2) (by rw [hpk]; simp only [List.append_assoc]; rfl) (by simp [be_length]) rfl (by show _ < 65536; omega)
  have hoff : off7 p = 20 + h.opt.size := by unfold off7; rw [n12]; omega
  have t20 : p.extract 20 (off7 p) = h.opt := by
    rw [hoff]
    exact text_seg (a := be h.src.toNat 2 ++ be h.dst.toNat 2 ++ be h.seq.toNat 4 ++ be h.ack.toNat 4 ++ be ((5 + h.opt.size / 4) * 16) 1 ++ be h.flg.toNat 1 ++ be h.win.toNat 2 ++ be sum.toNat 2 ++ be h.urg.toNat 2) (c := h.pay.data.toList) (by rw [hpk]; simp only [List.append_assoc]) (by simp [be_length]) rfl
  have tp : p.extract (off7 p) p.size = h.pay := by
    rw [hoff]
    exact text_seg (a := be h.src.toNat 2 ++ be h.dst.toNat 2 ++ be h.seq.toNat 4 ++ be h.ack.toNat 4 ++ be ((5 + h.opt.size / 4) * 16) 1 ++ be h.flg.toNat 1 ++ be h.win.toNat 2 ++ be sum.toNat 2 ++ be h.urg.toNat 2 ++ h.opt.data.toList) (c := []) (by rw [hpk]; simp only [List.append_assoc, List.append_nil]) (by simp [be_length]; omega) (by omega)
  refine ⟨⟨h1, h2, h3, h4, h5, h6, h7⟩, hs, hl, hsize, hoff, by rw [n12]; omega, t20, ?_, by rw [n16]; omega⟩
  unfold seg7
  rw [n0, n2, n4, n8, n13, n14, n18, t20, tp]
  rw [show ((h.src.toNat : Nat) : Int) = h.src by omega, show ((h.dst.toNat : Nat) : Int) = h.dst by omega, show ((h.seq.toNat : Nat) : Int) = h.seq by omega, show ((h.ack.toNat : Nat) : Int) = h.ack by omega, show ((h.flg.toNat : Nat) : Int) = h.flg by omega, show ((h.win.toNat : Nat) : Int) = h.win by omega, show ((h.urg.toNat : Nat) : Int) = h.urg by omega]
/-- What is told of it: all, if its options are right. -/
theorem Sent7.got {h : S7} {sum : Int} {P : ByteArray} (s : Sent7 h sum P) : get7E P = if rightL h.opt.data.toList then 0 else 4 := by
  have h1 : ¬ (off7 P < 20 ∨ P.size < off7 P) := by have := s.off; have := s.size; omega
  cases hr : rightL h.opt.data.toList with
  | true => exact get7E_ok (by have := s.size; omega) h1 s.form (by rw [s.opts]; exact hr)
  | false => exact get7E_opts (by have := s.size; omega) h1 s.form (by rw [s.opts]; exact hr)

/-- What is got is put as it was. -/
theorem get7_put (p : ByteArray) (g : Good7 p) : (seg7 p).Ok ∧ (0 ≤ (numOf p 16 2 : Int) ∧ (numOf p 16 2 : Int) ≤ 65535) ∧ (⟨((seg7 p).pack (numOf p 16 2 : Int)).toArray⟩ : ByteArray) = p := by
  obtain ⟨hsh, hle, hfit, hform, hop⟩ := g
  have l0 : numOf p 0 2 < 65536 := numOf_lt p 0 2 (by omega)
  have l2 : numOf p 2 2 < 65536 := numOf_lt p 2 2 (by omega)
  have l12 : numOf p 12 1 < 256 := numOf_lt p 12 1 (by omega)
  have l13 : numOf p 13 1 < 256 := numOf_lt p 13 1 (by omega)
  have l14 : numOf p 14 2 < 65536 := numOf_lt p 14 2 (by omega)
  have l16 : numOf p 16 2 < 65536 := numOf_lt p 16 2 (by omega)
  have l18 : numOf p 18 2 < 65536 := numOf_lt p 18 2 (by omega)
  have hoff : off7 p = numOf p 12 1 / 16 * 4 := rfl
  have hosz : (p.extract 20 (off7 p)).size = off7 p - 20 := by rw [ByteArray.size_extract]; omega
  refine ⟨⟨?_, ?_, ?_, ?_, ?_, ?_, ?_⟩, by omega, ?_⟩
  · show 0 ≤ ((numOf p 0 2 : Nat) : Int) ∧ ((numOf p 0 2 : Nat) : Int) ≤ 65535; omega
  · show 0 ≤ ((numOf p 2 2 : Nat) : Int) ∧ ((numOf p 2 2 : Nat) : Int) ≤ 65535; omega
  · show 0 ≤ ((numOf p 14 2 : Nat) : Int) ∧ ((numOf p 14 2 : Nat) : Int) ≤ 65535; omega
  · show 0 ≤ ((numOf p 18 2 : Nat) : Int) ∧ ((numOf p 18 2 : Nat) : Int) ≤ 65535; omega
  · show 0 ≤ ((numOf p 13 1 : Nat) : Int) ∧ ((numOf p 13 1 : Nat) : Int) ≤ 255; omega
  · show (p.extract 20 (off7 p)).size ≤ 40; omega
  · show (p.extract 20 (off7 p)).size % 4 = 0; omega
  apply text_ext
  show (seg7 p).pack (numOf p 16 2 : Int) = p.data.toList
  have e12 : (5 + (p.extract 20 (off7 p)).size / 4) * 16 = numOf p 12 1 := by omega
  unfold S7.pack seg7
  simp only [Int.toNat_natCast]
  rw [e12, be_num p 0 2 (by omega), be_num p 2 2 (by omega), be_num p 4 4 (by omega), be_num p 8 4 (by omega), be_num p 12 1 (by omega), be_num p 13 1 (by omega), be_num p 14 2 (by omega), be_num p 16 2 (by omega), be_num p 18 2 (by omega), sl_ext, sl_ext]
  rw [sl_join p 0 (0 + 2) (2 + 2) (by omega) (by omega), sl_join p 0 (2 + 2) (4 + 4) (by omega) (by omega), sl_join p 0 (4 + 4) (8 + 4) (by omega) (by omega), sl_join p 0 (8 + 4) (12 + 1) (by omega) (by omega), sl_join p 0 (12 + 1) (13 + 1) (by omega) (by omega), sl_join p 0 (13 + 1) (14 + 2) (by omega) (by omega), sl_join p 0 (14 + 2) (16 + 2) (by omega) (by omega), sl_join p 0 (16 + 2) (18 + 2) (by omega) (by omega), sl_join p 0 (18 + 2) (off7 p) (by omega) (by omega), sl_join p 0 (off7 p) p.size (by omega) (by omega), sl_all, List.drop_zero]
theorem seg7_wf (p : ByteArray) (h : 20 ≤ p.size) : (seg7 p).Wf := by
  have l4 : numOf p 4 4 < 4294967296 := numOf_lt p 4 4 (by omega)
  have l8 : numOf p 8 4 < 4294967296 := numOf_lt p 8 4 (by omega)
  exact ⟨by show 0 ≤ ((numOf p 4 4 : Nat) : Int) ∧ ((numOf p 4 4 : Nat) : Int) < 4294967296; omega, by show 0 ≤ ((numOf p 8 4 : Nat) : Int) ∧ ((numOf p 8 4 : Nat) : Int) < 4294967296; omega⟩

end Go.Proofs.Ytppobficnjpdiaa

/-
  Check: may a segment be? And the laws' few.
-/
namespace Go.Proofs.Ytppobficnjpdiaa
open Go.RowKit
set_option linter.unusedVariables false

/-- A segment in a block of the call's own. -/
structure Held7 (w u : World) (h : S7) : Prop where
  b : Blk u w.heap.size h.cells 49
  bel : Below w.heap.size w u
theorem Held7.new (w : World) (h : S7) : Held7 w (w.alloc (.cells h.cells 49)) h := ⟨Blk.new w _ _, (Below.refl _ _).alloc (Nat.le_refl _) _⟩
theorem Held7.below {w u u' : World} {h : S7} (s : Held7 w u h) (hb : Below u.heap.size u u') : Held7 w u' h :=
  ⟨(hb.block _ s.b.lt).trans s.b, s.bel.trans (hb.mono s.bel.size)⟩
theorem Held7.alloc {w u : World} {h : S7} (s : Held7 w u h) (o : Obj) : Held7 w (u.alloc o) h := ⟨s.b.alloc o, s.bel.alloc s.bel.size o⟩
theorem Held7.lt {w u : World} {h : S7} (s : Held7 w u h) : w.heap.size < u.heap.size := s.b.lt

def Check7End (h : S7) (w : World) (e : Ending) (w' : World) : Prop := e = .returned (.int .i64 (h.err : Nat)) ∧ Below w.heap.size w w'

end Go.Proofs.Ytppobficnjpdiaa
