/-
  CRC-32C, plain: the register moved by one bit, by bytes; that it is linear; what a change of bits does to it. No Go function is walked here.
-/
import Derived.Laws.BitsLemmas
namespace Go.Proofs.Ytoeamalmijnfkaa
set_option linter.unusedVariables false

/-- What the register is turned over by. -/
def poly : BitVec 32 := 2197175160#32
/-- One bit. -/
def st (x : BitVec 32) : BitVec 32 := (x >>> 1) ^^^ (if x.getLsbD 0 then poly else 0#32)
def stN : Nat → BitVec 32 → BitVec 32
  | 0, x => x
  | n + 1, x => stN n (st x)
/-- A byte as 32 bits. -/
def wide (c : UInt8) : BitVec 32 := c.toBitVec.setWidth 32
def feedB (x : BitVec 32) (c : UInt8) : BitVec 32 := stN 8 (x ^^^ wide c)
def feed (x : BitVec 32) (l : List UInt8) : BitVec 32 := l.foldl feedB x
/-- A sum, with more behind. -/
def updC (x : BitVec 32) (l : List UInt8) : BitVec 32 := ~~~ feed (~~~ x) l
/-- The sum of a text. -/
def crcD (l : List UInt8) : BitVec 32 := updC 0#32 l

theorem xor_swap (a b c d : BitVec 32) : a ^^^ b ^^^ (c ^^^ d) = a ^^^ c ^^^ (b ^^^ d) := by
  rw [BitVec.xor_assoc, BitVec.xor_assoc, ← BitVec.xor_assoc b, BitVec.xor_comm b c, BitVec.xor_assoc c]
theorem st_xor (x y : BitVec 32) : st (x ^^^ y) = st x ^^^ st y := by
  unfold st
  rw [BitVec.ushiftRight_xor_distrib, BitVec.getLsbD_xor, xor_swap]
  congr 1
  cases x.getLsbD 0 <;> cases y.getLsbD 0 <;> simp
theorem stN_xor (n : Nat) (x y : BitVec 32) : stN n (x ^^^ y) = stN n x ^^^ stN n y := by
  induction n generalizing x y with
  | zero => rfl
  | succ n ih => simp only [stN, st_xor, ih]
theorem stN_add (m n : Nat) (x : BitVec 32) : stN (m + n) x = stN n (stN m x) := by
  induction m generalizing x with
  | zero => simp [stN]
  | succ m ih => rw [show m + 1 + n = m + n + 1 by omega]; simp only [stN, ih]
theorem stN_succ' (n : Nat) (x : BitVec 32) : stN (n + 1) x = st (stN n x) := stN_add n 1 x
theorem st_zero : st 0#32 = 0#32 := by decide
theorem stN_zero (n : Nat) : stN n 0#32 = 0#32 := by
  induction n with
  | zero => rfl
  | succ n ih => simp only [stN, st_zero, ih]
/-- A register whose lowest bit is 0 is moved alone. -/
theorem st_even (x : BitVec 32) (h : x.getLsbD 0 = false) : st x = x >>> 1 := by
  unfold st; rw [h]; simp
theorem st_inj0 (x : BitVec 32) (h : st x = 0#32) : x = 0#32 := by
  cases h0 : x.getLsbD 0
  · rw [st_even x h0] at h
    apply BitVec.eq_of_getLsbD_eq
    intro i hi
    cases i with
    | zero => simpa using h0
    | succ i =>
      have := congrArg (fun v => v.getLsbD i) h
      simp only [BitVec.getLsbD_ushiftRight, BitVec.getLsbD_zero] at this
      rw [Nat.add_comm] at this
      simpa using this
  · exfalso
    unfold st at h
    rw [h0] at h
    have := congrArg (fun v => v.getLsbD 31) h
    simp only [BitVec.getLsbD_xor, BitVec.getLsbD_ushiftRight, BitVec.getLsbD_zero, if_true] at this
    rw [BitVec.getLsbD_of_ge x (1 + 31) (by omega)] at this
    revert this
    decide
theorem stN_inj0 (n : Nat) (x : BitVec 32) (h : stN n x = 0#32) : x = 0#32 := by
  induction n generalizing x with
  | zero => exact h
  | succ n ih => exact st_inj0 x (ih (st x) h)

/-- Bits that stand above k are moved alone, k times. -/
theorem stN_high (k : Nat) (x : BitVec 32) (h : ∀ i, i < k → x.getLsbD i = false) : stN k x = x >>> k := by
  induction k generalizing x with
  | zero => simp [stN]
  | succ k ih =>
    rw [stN, st_even x (h 0 (by omega)), ih]
    · rw [← BitVec.shiftRight_add, Nat.add_comm]
    · intro i hi
      rw [BitVec.getLsbD_ushiftRight, Nat.add_comm]
      exact h (i + 1) (by omega)
theorem low_high (x : BitVec 32) : (x &&& 15#32) ^^^ (x &&& ~~~ 15#32) = x := by
  apply BitVec.eq_of_getLsbD_eq
  intro i hi
  rw [BitVec.getLsbD_xor, BitVec.getLsbD_and, BitVec.getLsbD_and, BitVec.getLsbD_not]
  cases x.getLsbD i <;> cases (15#32).getLsbD i <;> simp [hi]
theorem low15 (i : Nat) (h : i < 4) : (15#32).getLsbD i = true := by
  have : i = 0 ∨ i = 1 ∨ i = 2 ∨ i = 3 := by omega
  rcases this with rfl | rfl | rfl | rfl <;> decide
theorem shr15 : (15#32) >>> 4 = 0#32 := by decide
/-- Four bits at once. -/
theorem half (x : BitVec 32) : (x >>> 4) ^^^ stN 4 (x &&& 15#32) = stN 4 x := by
  have h1 : stN 4 (x &&& ~~~ 15#32) = x >>> 4 := by
    rw [stN_high 4]
    · have h2 : (x >>> 4) = ((x &&& 15#32) >>> 4) ^^^ ((x &&& ~~~ 15#32) >>> 4) := by
        rw [← BitVec.ushiftRight_xor_distrib, low_high]
      have h3 : (x &&& 15#32) >>> 4 = 0#32 := by
        rw [BitVec.ushiftRight_and_distrib, shr15, BitVec.and_zero]
      rw [h2, h3, BitVec.zero_xor]
    · intro i hi
      rw [BitVec.getLsbD_and, BitVec.getLsbD_not, low15 i hi]
      simp
  rw [← h1, ← stN_xor, BitVec.xor_comm, low_high]

theorem feed_nil (x : BitVec 32) : feed x [] = x := rfl
theorem feed_cons (x : BitVec 32) (c : UInt8) (l : List UInt8) : feed x (c :: l) = feed (feedB x c) l := rfl
theorem feed_cat (x : BitVec 32) (l m : List UInt8) : feed x (l ++ m) = feed (feed x l) m := List.foldl_append
theorem feed_snoc (x : BitVec 32) (l : List UInt8) (c : UInt8) : feed x (l ++ [c]) = feedB (feed x l) c := by rw [feed_cat]; rfl
theorem updC_cat (x : BitVec 32) (l m : List UInt8) : updC x (l ++ m) = updC (updC x l) m := by
  unfold updC; rw [feed_cat, BitVec.not_not]
theorem updC_nil (x : BitVec 32) : updC x [] = x := by unfold updC; rw [feed_nil, BitVec.not_not]
theorem crcD_cat (l m : List UInt8) : updC (crcD l) m = crcD (l ++ m) := (updC_cat _ l m).symm

theorem feed_xor (x y : BitVec 32) (l : List UInt8) : feed (x ^^^ y) l = feed x l ^^^ stN (8 * l.length) y := by
  induction l generalizing x y with
  | nil => simp [feed_nil, stN]
  | cons c l ih =>
    rw [feed_cons, feed_cons]
    have : feedB (x ^^^ y) c = feedB x c ^^^ stN 8 y := by
      unfold feedB
      rw [← stN_xor, BitVec.xor_assoc, BitVec.xor_comm y, ← BitVec.xor_assoc]
    rw [this, ih, ← stN_add, List.length_cons]
    congr 2
    omega
theorem wide_xor (c d : UInt8) : wide (c ^^^ d) = wide c ^^^ wide d := by
  unfold wide
  show (c.toBitVec ^^^ d.toBitVec).setWidth 32 = _
  exact BitVec.setWidth_xor
/-- A byte turned over by c at q. -/
theorem feed_flip (x : BitVec 32) (l : List UInt8) (q : Nat) (c : UInt8) (h : q < l.length) : feed x (l.set q (l[q] ^^^ c)) = feed x l ^^^ stN (8 * (l.length - q)) (wide c) := by
  induction l generalizing x q with
  | nil => simp at h
  | cons d l ih =>
    cases q with
    | zero =>
      simp only [List.set_cons_zero, List.getElem_cons_zero, feed_cons]
      have : feedB x (d ^^^ c) = feedB x d ^^^ stN 8 (wide c) := by
        unfold feedB
        rw [← stN_xor, wide_xor, BitVec.xor_assoc]
      rw [this, feed_xor, ← stN_add]
      congr 2
      simp
      omega
    | succ q =>
      simp only [List.set_cons_succ, List.getElem_cons_succ, feed_cons, List.length_cons]
      rw [ih _ _ (by simpa using h)]
      congr 2
      omega
theorem wide_bit (r : Nat) (h : r < 8) : stN r (wide (UInt8.ofNat (2 ^ r))) = 1#32 := by
  have : r = 0 ∨ r = 1 ∨ r = 2 ∨ r = 3 ∨ r = 4 ∨ r = 5 ∨ r = 6 ∨ r = 7 := by omega
  rcases this with rfl | rfl | rfl | rfl | rfl | rfl | rfl | rfl <;> decide +kernel
/-- One bit, so far from the end. -/
def E (m : Nat) : BitVec 32 := stN m 1#32
/-- A bit that is turned over. -/
theorem feed_bit (x : BitVec 32) (l : List UInt8) (q r : Nat) (h : q < l.length) (hr : r < 8) :
    feed x (l.set q (l[q] ^^^ UInt8.ofNat (2 ^ r))) = feed x l ^^^ E (8 * l.length - (8 * q + r)) := by
  rw [feed_flip x l q _ h]
  congr 1
  unfold E
  rw [← wide_bit r hr, ← stN_add]
  congr 1
  omega

theorem E_ne (m : Nat) : E m ≠ 0#32 := fun h => absurd (stN_inj0 m _ h) (by decide)

/-- Whether so many of the bits, taken together, are odd. -/
def par : Nat → BitVec 32 → Bool
  | 0, _ => false
  | n + 1, x => par n x ^^ x.getLsbD n
theorem par_xor (n : Nat) (x y : BitVec 32) : par n (x ^^^ y) = (par n x ^^ par n y) := by
  induction n with
  | zero => rfl
  | succ n ih =>
    simp only [par, ih, BitVec.getLsbD_xor]
    cases par n x <;> cases par n y <;> cases x.getLsbD n <;> cases y.getLsbD n <;> rfl
theorem par_shr (n : Nat) (x : BitVec 32) : par n (x >>> 1) = (par (n + 1) x ^^ x.getLsbD 0) := by
  induction n with
  | zero => simp [par]
  | succ n ih =>
    rw [par, ih, BitVec.getLsbD_ushiftRight, Nat.add_comm 1 n]
    simp only [par]
    cases par n x <;> cases x.getLsbD n <;> cases x.getLsbD (n + 1) <;> cases x.getLsbD 0 <;> rfl
theorem par_poly : par 32 poly = true := by decide +kernel
theorem par_zero : par 32 0#32 = false := by decide +kernel
theorem par_one : par 32 1#32 = true := by decide +kernel
theorem par_st (x : BitVec 32) : par 32 (st x) = par 32 x := by
  unfold st
  rw [par_xor, par_shr]
  have h : par (32 + 1) x = par 32 x := by
    rw [par, BitVec.getLsbD_of_ge x 32 (by omega)]; simp
  rw [h]
  cases x.getLsbD 0
  · simp [par_zero]
  · simp [par_poly]
theorem par_E (m : Nat) : par 32 (E m) = true := by
  unfold E
  induction m with
  | zero => exact par_one
  | succ m ih => rw [stN_succ', par_st, ih]
theorem E_three (a b c : Nat) : E a ^^^ E b ^^^ E c ≠ 0#32 := by
  intro h
  have := congrArg (par 32) h
  rw [par_xor, par_xor, par_E, par_E, par_E, par_zero] at this
  cases this

/-- The same on numbers, for the kernel. -/
def nst (x : Nat) : Nat := (x >>> 1) ^^^ (if x % 2 = 1 then 2197175160 else 0)
theorem nst_st (x : BitVec 32) : (st x).toNat = nst x.toNat := by
  unfold st nst
  rw [BitVec.toNat_xor, BitVec.toNat_ushiftRight]
  congr 1
  have : x.getLsbD 0 = decide (x.toNat % 2 = 1) := by
    rw [BitVec.getLsbD, Nat.testBit_zero]
  rw [this]
  by_cases h : x.toNat % 2 = 1
  · rw [if_pos (by simpa using h), if_pos h]; rfl
  · rw [if_neg (by simpa using h), if_neg h]; rfl
/-- No 1 in the next steps. -/
def noOne : Nat → Nat → Bool
  | 0, _ => true
  | n + 1, x => nst x != 1 && noOne n (nst x)
theorem noOne_holds : noOne 4000 1 = true := by decide +kernel
theorem noOne_st (n : Nat) (x : BitVec 32) (h : noOne n x.toNat = true) (k : Nat) (h0 : 0 < k) (hk : k ≤ n) : stN k x ≠ 1#32 := by
  induction n generalizing x k with
  | zero => omega
  | succ n ih =>
    rw [noOne, Bool.and_eq_true, bne_iff_ne, ← nst_st] at h
    obtain ⟨k, rfl⟩ : ∃ j, k = j + 1 := ⟨k - 1, by omega⟩
    rw [stN]
    by_cases e : k = 0
    · subst e
      intro h1
      apply h.1
      rw [show st x = 1#32 from h1]; rfl
    · exact ih (st x) h.2 k (by omega) (by omega)
theorem E_two (a b : Nat) (h : a < b) (hb : b ≤ 4000) : E b ^^^ E a ≠ 0#32 := by
  intro h1
  obtain ⟨k, rfl⟩ : ∃ k, b = k + a := ⟨b - a, by omega⟩
  unfold E at h1
  rw [stN_add, ← stN_xor] at h1
  have h2 := stN_inj0 _ _ h1
  exact noOne_st 4000 1#32 noOne_holds k (by omega) (by omega) (by
    have h3 := congrArg (· ^^^ 1#32) h2
    simpa [BitVec.xor_assoc] using h3)
theorem E_apart (a b : Nat) (h : a ≠ b) (ha : a ≤ 4000) (hb : b ≤ 4000) : E a ^^^ E b ≠ 0#32 := by
  by_cases hl : a < b
  · rw [BitVec.xor_comm]; exact E_two a b hl hb
  · exact E_two b a (by omega) ha

/-- A bit k places behind 'at'. -/
theorem E_behind (m k : Nat) (hk : k < 32) (h : k ≤ m) : E (m - k) = stN m (1#32 <<< k) := by
  have h1 : stN k (1#32 <<< k) = 1#32 := by
    rw [stN_high k]
    · apply BitVec.eq_of_getLsbD_eq
      intro i hi
      rw [BitVec.getLsbD_ushiftRight, BitVec.getLsbD_shiftLeft]
      by_cases e : i = 0
      · subst e; simp [hk]
      · by_cases h2 : k + i < 32
        · simp [h2]
        · have : (1#32).getLsbD i = false := by simp; omega
          simp [h2, this]
    · intro i hi
      rw [BitVec.getLsbD_shiftLeft]
      simp [hi]
  have h2 := stN_add k (m - k) (1#32 <<< k)
  rw [h1, show k + (m - k) = m by omega] at h2
  exact h2.symm
theorem crcD_ne (l m : List UInt8) (d : BitVec 32) (h : feed (~~~ 0#32) m = feed (~~~ 0#32) l ^^^ d) (hd : d ≠ 0#32) : crcD m ≠ crcD l := by
  intro e
  unfold crcD updC at e
  have h1 := congrArg (fun v => ~~~ v) e
  simp only [BitVec.not_not] at h1
  rw [h1] at h
  apply hd
  have h2 := congrArg (fun v => feed (~~~ 0#32) l ^^^ v) h
  simp only [← BitVec.xor_assoc, BitVec.xor_self, BitVec.zero_xor] at h2
  exact h2.symm
theorem crcD_nine : crcD [49, 50, 51, 52, 53, 54, 55, 56, 57] = 3808858755#32 := by decide +kernel
end Go.Proofs.Ytoeamalmijnfkaa
