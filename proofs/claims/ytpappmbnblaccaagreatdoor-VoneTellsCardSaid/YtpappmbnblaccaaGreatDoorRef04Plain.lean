/-
  The document's way of printing sixteen bytes: what it has told of so many numbers. Plain. No Go function is walked here.
-/
import Derived.Test.YtpappmbnblaccaaGreatDoorAddrBack
namespace Go.Proofs.YtpappmbnblaccaaGreatDoor
set_option linter.unusedVariables false

/-- What is told when the loop comes to number i: f and n are the first of the longest rows of noughts, and how long it is. -/
def outAt (l : List Nat) (f n i : Nat) : List UInt8 := if n < 2 ∨ i ≤ f then jn 58 (hexs (l.take i)) else jn 58 (hexs (l.take f)) ++ [58, 58] ++ jn 58 (hexs ((l.take i).drop (f + n)))
theorem hexs_snoc (l : List Nat) (n : Nat) : hexs (l ++ [n]) = hexs l ++ [digs 16 n] := by simp [hexs]
theorem hexs_nil_iff (l : List Nat) : hexs l = [] ↔ l = [] := by simp [hexs]
theorem digs_end (n : Nat) : ∃ p d, digs 16 n = p ++ [d] ∧ d ≠ 58 := by
  have h := @digs_ne 16 n
  refine ⟨(digs 16 n).dropLast, (digs 16 n).getLast h, (List.dropLast_concat_getLast h).symm, fun e => ?_⟩
  exact digs_no (b := 16) (n := n) (by omega) (by omega) (c := 58) (by decide) (e ▸ List.getLast_mem h)
theorem jn_end (m : List Nat) (n : Nat) : ∃ p d, jn 58 (hexs (m ++ [n])) = p ++ [d] ∧ d ≠ 58 := by
  obtain ⟨p, d, h, hd⟩ := digs_end n
  rw [hexs_snoc]
  by_cases hm : m = []
  · subst hm
    exact ⟨p, d, h, hd⟩
  · rw [jn_snoc 58 _ _ (by rw [Ne, hexs_nil_iff]; exact hm), h]
    exact ⟨jn 58 (hexs m) ++ 58 :: p, d, by simp, hd⟩
theorem take_snoc (l : List Nat) (i : Nat) (h : i < l.length) : l.take (i + 1) = l.take i ++ [l[i]] := by rw [List.take_succ_eq_append_getElem h]
theorem take_ends (l : List Nat) (i : Nat) (h : i ≤ l.length) (h0 : 0 < i) : ∃ m n, l.take i = m ++ [n] := by
  obtain ⟨j, rfl⟩ : ∃ j, i = j + 1 := ⟨i - 1, by omega⟩
  exact ⟨_, _, take_snoc l j (by omega)⟩
theorem jn_more (m : List Nat) (n : Nat) (hm : m ≠ []) : jn 58 (hexs (m ++ [n])) = jn 58 (hexs m) ++ 58 :: digs 16 n := by
  rw [hexs_snoc, jn_snoc 58 _ _ (by rw [Ne, hexs_nil_iff]; exact hm)]

/-- One number more. -/
theorem outAt_step (l : List Nat) (hl : l.length = 8) (f n i : Nat) (hi : i < 8) (hk : n < 2 ∨ i < f ∨ f + n ≤ i) :
    (i = 0 ∧ outAt l f n i = [] ∧ outAt l f n (i + 1) = digs 16 (l[i]'(by omega))) ∨
    (0 < i ∧ ∃ p d, outAt l f n i = p ++ [d] ∧ ((d ≠ 58 ∧ outAt l f n (i + 1) = outAt l f n i ++ 58 :: digs 16 (l[i]'(by omega))) ∨ (d = 58 ∧ outAt l f n (i + 1) = outAt l f n i ++ digs 16 (l[i]'(by omega))))) := by
  have ht := take_snoc l i (by omega)
  by_cases hA : n < 2 ∨ i < f
  · have e1 : outAt l f n i = jn 58 (hexs (l.take i)) := by unfold outAt; rw [if_pos (by omega)]
    have e2 : outAt l f n (i + 1) = jn 58 (hexs (l.take (i + 1))) := by unfold outAt; rw [if_pos (by omega)]
    by_cases h0 : i = 0
    · subst h0
      refine Or.inl ⟨rfl, e1, ?_⟩
      rw [e2, ht]
      rfl
    · obtain ⟨m, x, hm⟩ := take_ends l i (by omega) (by omega)
      obtain ⟨p, d, hp, hd⟩ := jn_end m x
      refine Or.inr ⟨by omega, p, d, by rw [e1, hm, hp], Or.inl ⟨hd, ?_⟩⟩
      rw [e2, ht, jn_more _ _ (by rw [hm]; simp), e1]
  · have hB : f + n ≤ i ∧ 2 ≤ n := by omega
    have e1 : outAt l f n i = jn 58 (hexs (l.take f)) ++ [58, 58] ++ jn 58 (hexs ((l.take i).drop (f + n))) := by unfold outAt; rw [if_neg (by omega)]
    have e2 : outAt l f n (i + 1) = jn 58 (hexs (l.take f)) ++ [58, 58] ++ jn 58 (hexs ((l.take (i + 1)).drop (f + n))) := by unfold outAt; rw [if_neg (by omega)]
    have hd1 : (l.take (i + 1)).drop (f + n) = (l.take i).drop (f + n) ++ [l[i]] := by
      rw [ht, List.drop_append_of_le_length (by simp; omega)]
    refine Or.inr ⟨by omega, ?_⟩
    by_cases h0 : i = f + n
    · have hz : (l.take i).drop (f + n) = [] := List.drop_eq_nil_of_le (by simp; omega)
      refine ⟨jn 58 (hexs (l.take f)) ++ [58], 58, by rw [e1, hz]; simp [hexs, jn], Or.inr ⟨rfl, ?_⟩⟩
      rw [e2, e1, hd1, hz]
      simp [hexs, jn]
    · have hne : (l.take i).drop (f + n) ≠ [] := by
        intro e
        have := congrArg List.length e
        simp at this
        omega
      obtain ⟨m, x, hm⟩ : ∃ m x, (l.take i).drop (f + n) = m ++ [x] := ⟨_, _, (List.dropLast_concat_getLast hne).symm⟩
      obtain ⟨p, d, hp, hd⟩ := jn_end m x
      refine ⟨jn 58 (hexs (l.take f)) ++ [58, 58] ++ p, d, by rw [e1, hm, hp]; simp, Or.inl ⟨hd, ?_⟩⟩
      rw [e2, e1, hd1, jn_more _ _ hne]
      simp
theorem outAt_gap (l : List Nat) (f n : Nat) (h : 2 ≤ n) : outAt l f n (f + n) = outAt l f n f ++ [58, 58] := by
  unfold outAt
  rw [if_neg (by omega), if_pos (by omega), List.drop_eq_nil_of_le (by rw [List.length_take]; omega)]
  simp [hexs, jn]
theorem outAt_end (l : List Nat) (hl : l.length = 8) : outAt l (long l 8).1 (long l 8).2 8 = text8 l (left0 l 8).1 (left0 l 8).2 := by
  rw [left0_eq]
  have hr := long_row l 8
  have hle := run0_le l (long l 8).1
  generalize long l 8 = p at *
  obtain ⟨f, n⟩ := p
  simp only at *
  unfold outAt text8
  by_cases h : 2 ≤ n
  · rw [if_neg (by omega), if_pos h]
    simp only
    rw [if_neg (by omega), show l.take 8 = l from List.take_of_length_le (by omega)]
  · rw [if_pos (by omega), if_neg h]
    simp only
    rw [if_pos trivial, show l.take 8 = l from List.take_of_length_le (by omega)]
theorem outAt_len (l : List Nat) (hl : l.length = 8) (h16 : ∀ n ∈ l, n ≤ 65535) (f n i : Nat) : (outAt l f n i).length ≤ 100 := by
  have h1 := fun m hm => jn_len 58 4 (hexs m) (hexs_len m hm)
  have a := h1 (l.take i) fun n hn => h16 n (List.mem_of_mem_take hn)
  have b := h1 (l.take f) fun n hn => h16 n (List.mem_of_mem_take hn)
  have c := h1 ((l.take i).drop (f + n)) fun n hn => h16 n (List.mem_of_mem_take (List.mem_of_mem_drop hn))
  simp only [hexs, List.length_map, List.length_take, List.length_drop] at a b c
  unfold outAt hexs
  split
  · omega
  · simp only [List.length_append, List.length_cons, List.length_nil]
    omega

end Go.Proofs.YtpappmbnblaccaaGreatDoor
