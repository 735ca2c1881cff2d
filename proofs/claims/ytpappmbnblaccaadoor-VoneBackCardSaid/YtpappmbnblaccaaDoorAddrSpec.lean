/-
  Addresses and numbers as texts: plain. No Go function is walked here.
-/
import Derived.Test.YtpappmbnblaccaaDoorGround
import Derived.Lib.ItoaNum
import Derived.Lib.ItoaMem
import Derived.Lib.AtoiTie
import Derived.Lib.Split
import Derived.Lib.IndexMore
namespace Go.Proofs.YtpappmbnblaccaaDoor
set_option linter.unusedVariables false

/-- A digit's sign. -/
def sg (d : Nat) : UInt8 := if d < 10 then UInt8.ofNat (48 + d) else UInt8.ofNat (87 + d)
/-- A number's digits by a base. -/
def digs (b n : Nat) : List UInt8 := if h : n < b ∨ b < 2 then [sg n] else digs b (n / b) ++ [sg (n % b)]
termination_by n
decreasing_by
  rw [not_or] at h
  exact Nat.div_lt_self (by omega) (by omega)

theorem digs_small {b n : Nat} (h : n < b) : digs b n = [sg n] := by rw [digs, dif_pos (Or.inl h)]
theorem digs_big {b n : Nat} (hb : 2 ≤ b) (h : b ≤ n) : digs b n = digs b (n / b) ++ [sg (n % b)] := by rw [digs, dif_neg (by omega)]
theorem digs_step {b m d : Nat} (hb : 2 ≤ b) (hm : 1 ≤ m) (hd : d < b) : digs b (m * b + d) = digs b m ++ [sg d] := by
  have h1 : b ≤ m * b + d := by have := Nat.mul_le_mul_right b hm; omega
  rw [digs_big hb h1]
  have e1 : (m * b + d) / b = m := by rw [Nat.mul_comm, Nat.mul_add_div (by omega), Nat.div_eq_of_lt hd, Nat.add_zero]
  have e2 : (m * b + d) % b = d := by rw [Nat.mul_comm, Nat.mul_add_mod, Nat.mod_eq_of_lt hd]
  rw [e1, e2]
theorem digs_ne {b n : Nat} : digs b n ≠ [] := by
  rw [digs]
  split
  · simp
  · simp
theorem digs_sg {b : Nat} (hb : 2 ≤ b) : ∀ n, ∀ c ∈ digs b n, ∃ d, d < b ∧ c = sg d := by
  intro n
  induction n using Nat.strongRecOn with
  | _ n ih =>
    intro c hc
    by_cases h : n < b
    · rw [digs_small h] at hc
      exact ⟨n, h, by simpa using hc⟩
    · rw [digs_big hb (by omega)] at hc
      rcases List.mem_append.1 hc with h1 | h1
      · exact ih (n / b) (Nat.div_lt_self (by omega) (by omega)) c h1
      · exact ⟨n % b, Nat.mod_lt _ (by omega), by simpa using h1⟩
theorem sg_range : ∀ d : Fin 16, (48 ≤ (sg d.val).toNat ∧ (sg d.val).toNat ≤ 57) ∨ (97 ≤ (sg d.val).toNat ∧ (sg d.val).toNat ≤ 102) := by decide +kernel
theorem digs_range {b : Nat} (hb : 2 ≤ b) (hb2 : b ≤ 16) {n : Nat} {c : UInt8} (hc : c ∈ digs b n) : (48 ≤ c.toNat ∧ c.toNat ≤ 57) ∨ (97 ≤ c.toNat ∧ c.toNat ≤ 102) := by
  obtain ⟨d, hd, rfl⟩ := digs_sg hb n c hc
  exact sg_range ⟨d, by omega⟩
theorem digs_length {b : Nat} (hb : 2 ≤ b) : ∀ (k n : Nat), n < b ^ (k + 1) → (digs b n).length ≤ k + 1 := by
  intro k
  induction k with
  | zero => intro n h; rw [digs_small (by simpa using h)]; simp
  | succ k ih =>
    intro n h
    by_cases h1 : n < b
    · rw [digs_small h1]; simp
    · rw [digs_big hb (by omega), List.length_append]
      have h2 : n / b < b ^ (k + 1) := by
        rw [Nat.div_lt_iff_lt_mul (by omega), ← Nat.pow_succ]; exact h
      have := ih _ h2
      simp; omega
theorem digs_10 : ∀ n, digs 10 n = Lib.decDigits n := by
  intro n
  induction n using Nat.strongRecOn with
  | _ n ih =>
    by_cases h : n < 10
    · rw [digs_small h, Lib.decDigits, dif_pos h]; simp [sg, h]
    · rw [digs_big (by omega) (by omega), Lib.decDigits, dif_neg h, ih _ (by omega)]
      have : n % 10 < 10 := Nat.mod_lt _ (by omega)
      simp [sg, this]

/-- A sign's value by a base (16 at most). -/
def dv (b : Nat) (c : UInt8) : Option Nat :=
  if 48 ≤ c.toNat ∧ c.toNat ≤ 57 ∧ c.toNat - 48 < b then some (c.toNat - 48) else if 97 ≤ c.toNat ∧ c.toNat ≤ 102 ∧ c.toNat - 87 < b then some (c.toNat - 87) else none
theorem sg_back : ∀ c : Fin 256, (48 ≤ c.val ∧ c.val ≤ 57 → sg (c.val - 48) = UInt8.ofNat c.val) ∧ (97 ≤ c.val ∧ c.val ≤ 102 → sg (c.val - 87) = UInt8.ofNat c.val) := by decide +kernel
theorem dv_some {b : Nat} {c : UInt8} {d : Nat} (h : dv b c = some d) : d < b ∧ c = sg d := by
  have hc := c.toNat_lt
  have hs := sg_back ⟨c.toNat, hc⟩
  simp only [UInt8.ofNat_toNat] at hs
  unfold dv at h
  split at h
  · rename_i h1
    obtain rfl := Option.some.inj h
    exact ⟨h1.2.2, (hs.1 ⟨h1.1, h1.2.1⟩).symm⟩
  · split at h
    · rename_i h1
      obtain rfl := Option.some.inj h
      exact ⟨h1.2.2, (hs.2 ⟨h1.1, h1.2.1⟩).symm⟩
    · cases h
theorem sg_val : ∀ d : Fin 16, (d.val < 10 → (sg d.val).toNat = 48 + d.val) ∧ (10 ≤ d.val → (sg d.val).toNat = 87 + d.val) := by decide +kernel
theorem dv_sg {b d : Nat} (hb : b ≤ 16) (hd : d < b) : dv b (sg d) = some d := by
  have h := sg_val ⟨d, by omega⟩
  simp only at h
  unfold dv
  by_cases h1 : d < 10
  · have e := h.1 h1
    rw [e, if_pos (by omega)]
    congr 1; omega
  · have e := h.2 (by omega)
    rw [e, if_neg (by omega), if_pos (by omega)]
    congr 1; omega
theorem sg_inj {d k : Nat} (hd : d < 16) (hk : k < 16) (h : sg d = sg k) : d = k := by
  have := dv_sg (b := 16) (by omega) hd
  rw [h, dv_sg (by omega) hk] at this
  exact (Option.some.inj this).symm

/-- The number that digits are: none, if some sign is no digit, or too great. -/
def valF (b : Nat) (acc : Nat) : List UInt8 → Option Nat
  | [] => some acc
  | c :: r => match dv b c with
    | none => none
    | some d => if 1000000000000000000 / b < acc * b + d then none else valF b (acc * b + d) r
/-- The number that a text is by a base: none, too, where it has a nought ahead. -/
def val (b : Nat) (s : List UInt8) : Option Nat := if s = [] ∨ 18 < s.length ∨ (1 < s.length ∧ s.head? = some 48) then none else valF b 0 s

theorem valF_snoc (b : Nat) : ∀ (l : List UInt8) (acc : Nat) (c : UInt8), valF b acc (l ++ [c]) = (valF b acc l).bind fun x => valF b x [c] := by
  intro l
  induction l with
  | nil => intro acc c; simp [valF]
  | cons a l ih =>
    intro acc c
    rw [List.cons_append, valF, valF]
    split
    · rfl
    · split
      · rfl
      · exact ih _ _
theorem valF_one {b x d : Nat} (hb : b ≤ 16) (hd : d < b) (hx : x * b + d ≤ 1000000000000000000 / b) : valF b x [sg d] = some (x * b + d) := by
  rw [valF, dv_sg hb hd]
  simp only
  rw [if_neg (by omega), valF]
theorem bound_16 {b : Nat} (hb : 2 ≤ b) (hb2 : b ≤ 16) : 65535 ≤ 1000000000000000000 / b := by
  have : 1000000000000000000 / 16 ≤ 1000000000000000000 / b := Nat.div_le_div_left hb2 (by omega)
  omega
theorem valF_digs {b : Nat} (hb : 2 ≤ b) (hb2 : b ≤ 16) : ∀ n, n ≤ 65535 → valF b 0 (digs b n) = some n := by
  intro n
  induction n using Nat.strongRecOn with
  | _ n ih =>
    intro hn
    have hB := bound_16 hb hb2
    by_cases h : n < b
    · rw [digs_small h]
      have := valF_one (b := b) (x := 0) hb2 h (by omega)
      simpa using this
    · have hlt : n / b < n := Nat.div_lt_self (by omega) (by omega)
      have hdm : n / b * b + n % b = n := by rw [Nat.mul_comm]; exact Nat.div_add_mod n b
      rw [digs_big hb (by omega), valF_snoc, ih _ hlt (by omega), Option.bind_some, valF_one hb2 (Nat.mod_lt _ (by omega)) (by rw [hdm]; omega), hdm]
theorem digs_head {b : Nat} (hb : 2 ≤ b) (hb2 : b ≤ 16) : ∀ n, 1 ≤ n → (digs b n).head? ≠ some 48 := by
  intro n
  induction n using Nat.strongRecOn with
  | _ n ih =>
    intro hn
    by_cases h : n < b
    · rw [digs_small h]
      intro e
      have e' : sg n = sg 0 := (show sg n = 48 by simpa using e).trans rfl
      have := sg_inj (by omega) (by omega) e'
      omega
    · have h1 := ih (n / b) (Nat.div_lt_self (by omega) (by omega)) (Nat.div_pos (by omega) (by omega))
      rw [digs_big hb (by omega)]
      have := @digs_ne b (n / b)
      cases hd : digs b (n / b) with
      | nil => exact absurd hd this
      | cons a l => rw [hd] at h1; simpa using h1
theorem pow_65535 {b : Nat} (hb : 2 ≤ b) : 65535 < b ^ (15 + 1) := Nat.lt_of_lt_of_le (by decide : 65535 < 2 ^ 16) (Nat.pow_le_pow_left hb 16)
theorem val_digs {b : Nat} (hb : 2 ≤ b) (hb2 : b ≤ 16) {n : Nat} (hn : n ≤ 65535) : val b (digs b n) = some n := by
  have hlen := digs_length hb 15 n (by have := pow_65535 hb; omega)
  unfold val
  rw [if_neg, valF_digs hb hb2 n hn]
  rintro (h | h | ⟨h1, h2⟩)
  · exact digs_ne h
  · omega
  · by_cases h0 : n = 0
    · subst h0
      rw [digs_small (by omega)] at h1
      simp at h1
    · exact digs_head hb hb2 n (by omega) h2
theorem valF_back {b : Nat} (hb : 2 ≤ b) : ∀ (k : Nat) (l : List UInt8) (n : Nat), l.length = k → l ≠ [] → l.head? ≠ some 48 → valF b 0 l = some n → l = digs b n ∧ 1 ≤ n := by
  intro k
  induction k with
  | zero => intro l n hl hne; exact absurd (List.length_eq_zero_iff.1 hl) hne
  | succ k ih =>
    intro l n hl hne hh hv
    have hlast := List.dropLast_concat_getLast hne
    generalize l.dropLast = m at hlast
    generalize l.getLast hne = c at hlast
    subst hlast
    rw [valF_snoc] at hv
    obtain ⟨x, hx, hc⟩ := Option.bind_eq_some_iff.1 hv
    rw [valF] at hc
    cases hd : dv b c with
    | none => rw [hd] at hc; cases hc
    | some d =>
      rw [hd] at hc
      simp only at hc
      split at hc
      · cases hc
      · rw [valF] at hc
        obtain rfl := Option.some.inj hc
        obtain ⟨hdb, rfl⟩ := dv_some hd
        by_cases hm : m = []
        · subst hm
          rw [valF] at hx
          obtain rfl := Option.some.inj hx
          have hd0 : d ≠ 0 := by
            rintro rfl
            exact hh rfl
          rw [Nat.zero_mul, Nat.zero_add, digs_small hdb]
          exact ⟨rfl, by omega⟩
        · have hh' : m.head? ≠ some 48 := by
            cases m with
            | nil => exact absurd rfl hm
            | cons a m => simpa using hh
          obtain ⟨e, h1⟩ := ih m x (by simpa using hl) hm hh' hx
          refine ⟨?_, by have := Nat.mul_le_mul_right b h1; omega⟩
          rw [digs_step hb h1 hdb, ← e]
theorem val_back {b : Nat} (hb : 2 ≤ b) {s : List UInt8} {n : Nat} (h : val b s = some n) : s = digs b n := by
  unfold val at h
  split at h
  · cases h
  · rename_i hn
    simp only [not_or] at hn
    by_cases hh : s.head? = some 48
    · match s, hn, hh, h with
      | [c], _, hh, h =>
        have hc : c = 48 := by simpa using hh
        subst hc
        rw [valF] at h
        have e : dv b 48 = some 0 := by
          unfold dv
          rw [if_pos (by refine ⟨by decide, by decide, ?_⟩; show 0 < b; omega)]
          rfl
        rw [e] at h
        simp only at h
        split at h
        · cases h
        · rw [valF] at h
          obtain rfl := Option.some.inj h
          rw [Nat.zero_mul, digs_small (by omega)]
          rfl
      | c :: d :: r, hn, hh, _ => exact absurd ⟨by simp, hh⟩ hn.2.2
    · exact (valF_back hb _ s n rfl hn.1 hh h).1

/-- The number that a text is, up to a greatest one. -/
def numOf (most : Nat) (s : List UInt8) : Option Nat := (val 10 s).filter fun n => decide (n ≤ most)
theorem numOf_digs {most n : Nat} (h : n ≤ most) (hm : most ≤ 65535) : numOf most (digs 10 n) = some n := by
  unfold numOf
  rw [val_digs (by omega) (by omega) (by omega)]
  simp [h]
theorem numOf_some {most n : Nat} {s : List UInt8} (h : numOf most s = some n) : n ≤ most ∧ s = digs 10 n := by
  unfold numOf at h
  rw [Option.filter_eq_some_iff] at h
  exact ⟨by simpa using h.2, val_back (by omega) h.1⟩
theorem numOf_none {most n : Nat} {s : List UInt8} (hm : most ≤ 65535) (h : numOf most s = none) (hn : n ≤ most) : s ≠ digs 10 n := by
  rintro rfl
  rw [numOf_digs hn hm] at h
  cases h

/-- What ParseUint of base 16 and 16 bits reads: a sign. -/
def hv (c : UInt8) : Option Nat :=
  if 48 ≤ c.toNat ∧ c.toNat ≤ 57 then some (c.toNat - 48) else if 97 ≤ (c ||| 32).toNat ∧ (c ||| 32).toNat ≤ 102 then some ((c ||| 32).toNat - 87) else none
/-- What ParseUint of base 16 and 16 bits reads, behind what was read. -/
def pu (acc : Nat) : List UInt8 → Option Nat
  | [] => some acc
  | c :: r => match hv c with
    | none => none
    | some d => if 65535 < acc * 16 + d then none else pu (acc * 16 + d) r
theorem hv_sg : ∀ d : Fin 16, hv (sg d.val) = some d.val := by decide +kernel
theorem pu_snoc : ∀ (l : List UInt8) (acc : Nat) (c : UInt8), pu acc (l ++ [c]) = (pu acc l).bind fun x => pu x [c] := by
  intro l
  induction l with
  | nil => intro acc c; simp [pu]
  | cons a l ih =>
    intro acc c
    rw [List.cons_append, pu, pu]
    split
    · rfl
    · split
      · rfl
      · exact ih _ _
theorem pu_le : ∀ (l : List UInt8) (acc n : Nat), acc ≤ 65535 → pu acc l = some n → n ≤ 65535 := by
  intro l
  induction l with
  | nil => intro acc n h e; rw [pu] at e; injection e with e; omega
  | cons a l ih =>
    intro acc n h e
    rw [pu] at e
    split at e
    · cases e
    · split at e
      · cases e
      · exact ih _ _ (by omega) e
theorem pu_digs : ∀ n, n ≤ 65535 → pu 0 (digs 16 n) = some n := by
  intro n
  induction n using Nat.strongRecOn with
  | _ n ih =>
    intro hn
    have one : ∀ x d, d < 16 → x * 16 + d ≤ 65535 → pu x [sg d] = some (x * 16 + d) := by
      intro x d hd hx
      rw [pu, show hv (sg d) = some d from hv_sg ⟨d, hd⟩]
      simp only
      rw [if_neg (by omega), pu]
    by_cases h : n < 16
    · rw [digs_small h]
      simpa using one 0 n h (by omega)
    · rw [digs_big (by omega) (by omega), pu_snoc, ih _ (by omega) (by omega), Option.bind_some, one _ _ (by omega) (by omega)]
      congr 1; omega

end Go.Proofs.YtpappmbnblaccaaDoor
