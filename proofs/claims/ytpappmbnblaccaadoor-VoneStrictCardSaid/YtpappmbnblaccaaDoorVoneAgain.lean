/-
  What is got of a text is got of what it took, whatever stands behind; what is got may be put. Plain: no Go function is walked here.
-/
import Derived.Test.YtpappmbnblaccaaDoorVonePlain
namespace Go.Proofs.YtpappmbnblaccaaDoor
set_option linter.unusedVariables false

theorem nl_of {c : List UInt8} {k : Nat} (hk : k < 107) (hat : c[k]? = some 10) (hno : ∀ j, j < k → c[j]? ≠ some 10) : nlAt c = (k : Int) := by
  have hge := nlAt_ge c
  by_cases hneg : nlAt c < 0
  · exfalso
    have h1 := Lib.indexByte_none (show Lib.indexByte (c.take 107) 10 = -1 by show nlAt _ = -1; omega) k
    rw [List.getElem?_take_of_lt hk] at h1
    exact h1 hat
  · obtain ⟨j, hj⟩ : ∃ j : Nat, nlAt c = (j : Int) := ⟨(nlAt c).toNat, by omega⟩
    have h2 := nlAt_is hj
    rcases Nat.lt_trichotomy j k with h3 | h3 | h3
    · exact absurd h2.2.1 (hno j h3)
    · rw [hj, h3]
    · exact absurd hat (h2.2.2 _ h3)
theorem take_at {b c : List UInt8} {n j : Nat} (h : c.take n = b.take n) (hj : j < n) : c[j]? = b[j]? := by
  rw [← List.getElem?_take_of_lt hj, h, List.getElem?_take_of_lt hj]
theorem getE17_of {b : List UInt8} (hs : b.take 6 = pre17.take b.length) : getE17 b = if nlAt b < 0 then (if 107 ≤ b.length then 4 else 10) else match lineS ((b.take ((nlAt b).toNat + 1)).drop 6) with
    | some _ => 0
    | none => 9 := by
  unfold getE17
  rw [if_neg (fun x => x hs)]
  rfl
theorem got_same {b c : List UInt8} {k : Nat} (h : nlAt b = (k : Int)) (hs : b.take 6 = pre17.take b.length) (hc : c.take (k + 1) = b.take (k + 1)) : getE17 c = getE17 b ∧ getH17 c = getH17 b ∧ getN17 c = getN17 b := by
  have h1 := nlAt_is h
  have hf := nlAt_far hs h
  have hat : c[k]? = some 10 := (take_at hc (by omega)).trans h1.2.1
  have hn : nlAt c = (k : Int) := nl_of h1.1 hat (fun j hj => by rw [take_at hc (by omega)]; exact h1.2.2 j hj)
  have hcl : k < c.length := (List.getElem?_eq_some_iff.1 hat).1
  have p6 : pre17.length = 6 := rfl
  have hs2 : c.take 6 = pre17.take c.length := by
    have e1 : c.take 6 = (c.take (k + 1)).take 6 := by rw [List.take_take, Nat.min_eq_left (by omega)]
    have e2 : b.take 6 = (b.take (k + 1)).take 6 := by rw [List.take_take, Nat.min_eq_left (by omega)]
    rw [e1, hc, ← e2, hs, List.take_of_length_le (by omega), List.take_of_length_le (by omega)]
  have E : getE17 c = getE17 b := by
    have hn0 : ¬ ((k : Int) < 0) := by omega
    rw [getE17_of hs2, getE17_of hs, hn, h, Int.toNat_natCast, hc, if_neg hn0, if_neg hn0]
  refine ⟨E, ?_, ?_⟩
  · unfold getH17; rw [E, hn, h, Int.toNat_natCast, hc]
  · unfold getN17; rw [E, hn, h]
theorem err_none {b : List UInt8} (h : getE17 b ≠ 0) : getH17 b = S17.zero ∧ getN17 b = 0 := by
  unfold getH17 getN17
  rw [if_neg h, if_neg h]
  exact ⟨rfl, rfl⟩
/-- An error other than 10 stays, whatever more comes. -/
theorem err_stays {b : List UInt8} (m : List UInt8) (h10 : getE17 b ≠ 10) : getE17 (b ++ m) = getE17 b := by
  have p6 : pre17.length = 6 := rfl
  by_cases hs : b.take 6 = pre17.take b.length
  · by_cases hn : nlAt b < 0
    · have hl : 107 ≤ b.length := by
        by_cases hl : 107 ≤ b.length
        · exact hl
        · exfalso
          apply h10
          unfold getE17
          rw [if_neg (fun x => x hs), if_pos hn, if_neg hl]
      have e2 : nlAt (b ++ m) = nlAt b := by unfold nlAt; rw [List.take_append_of_le_length hl]
      have hs2 : (b ++ m).take 6 = pre17.take (b ++ m).length := by
        rw [List.take_append_of_le_length (by omega), hs, List.take_of_length_le (by omega), List.take_of_length_le (by rw [List.length_append]; omega)]
      have A : getE17 b = 4 := by unfold getE17; rw [if_neg (fun x => x hs), if_pos hn, if_pos hl]
      rw [A]
      unfold getE17
      rw [if_neg (fun x => x hs2), if_pos (by omega), if_pos (by rw [List.length_append]; omega)]
    · obtain ⟨k, hk⟩ : ∃ k : Nat, nlAt b = (k : Int) := ⟨(nlAt b).toNat, by omega⟩
      have hf := nlAt_far hs hk
      exact (got_same hk hs (List.take_append_of_le_length (by omega))).1
  · have hs2 : (b ++ m).take 6 ≠ pre17.take (b ++ m).length := fun e => hs (by
      have e2 := congrArg (List.take b.length) e
      have m1 : min b.length (b ++ m).length = b.length := Nat.min_eq_left (by rw [List.length_append]; omega)
      rw [List.take_take, List.take_take, m1] at e2
      rcases Nat.le_total b.length 6 with h6 | h6
      · rw [Nat.min_eq_left h6, List.take_append_of_le_length (by omega), List.take_length] at e2
        rw [List.take_of_length_le h6, ← e2]
      · rw [Nat.min_eq_right h6, List.take_append_of_le_length (by omega)] at e2
        exact e2)
    have A : getE17 b = 13 := by unfold getE17; rw [if_pos hs]
    rw [A]
    unfold getE17
    rw [if_pos hs2]

/-- What words say may be a line, and they are its own. -/
theorem words_may {f : Int} (hf : f = 1 ∨ f = 2) {ws : List (List UInt8)} {H : S17} (h : wordsS f ws = some H) : H.may ∧ H.fam = f ∧ ws = [text H.src.data.toList, text H.dst.data.toList, digs 10 H.sp.toNat, digs 10 H.dp.toNat] := by
  unfold wordsS at h
  split at h
  · rename_i a b c d
    split at h
    · rename_i x y p q e1 e2 e3 e4
      split at h
      · rename_i hl
        obtain rfl := Option.some.inj h
        have t1 := addrOf_some e1
        have t2 := addrOf_some e2
        have t3 := numOf_some e3
        have t4 := numOf_some e4
        refine ⟨⟨rfl, rfl, Or.inr ⟨hf, hl.1, hl.2, by simp, by simp; omega, by simp, by simp; omega⟩⟩, rfl, ?_⟩
        show [a, b, c, d] = [text x, text y, digs 10 ((p : Int)).toNat, digs 10 ((q : Int)).toNat]
        rw [t1.2, t2.2, Int.toNat_natCast, Int.toNat_natCast, ← t3.2, ← t4.2]
      · cases h
    · cases h
  · cases h
theorem said_may {v : List UInt8} {H : S17} (h : saidS v = some H) : H.may ∧ (H.fam ≠ 0 → v = bodyL H) := by
  unfold saidS at h
  split at h
  · cases h
  · rename_i w r hw
    have hv := jn_sp 32 v
    rw [hw] at hv
    split at h
    · obtain rfl := Option.some.inj h
      exact ⟨⟨rfl, rfl, Or.inl ⟨rfl, rfl, rfl, rfl, rfl⟩⟩, fun x => absurd rfl x⟩
    · split at h
      · rename_i e
        obtain ⟨h1, h2, h3⟩ := words_may (Or.inl rfl) h
        refine ⟨h1, fun hf => ?_⟩
        unfold bodyL
        rw [if_neg hf, ← hv, e, h3, h2]
      · split at h
        · rename_i e
          obtain ⟨h1, h2, h3⟩ := words_may (Or.inr rfl) h
          refine ⟨h1, fun hf => ?_⟩
          unfold bodyL
          rw [if_neg hf, ← hv, e, h3, h2]
        · cases h
/-- What is got may be put, and but for UNKNOWN what is put is what stood there. -/
theorem got_put {b : List UInt8} (h : getE17 b = 0) : ∃ k : Nat, nlAt b = (k : Int) ∧ b.take 6 = pre17.take b.length ∧ getN17 b = k + 1 ∧ k < b.length ∧ k < 107 ∧ (getH17 b).may ∧ ((getH17 b).fam ≠ 0 → lineL (getH17 b) = b.take (k + 1)) := by
  by_cases hs : b.take 6 = pre17.take b.length
  · by_cases hn : nlAt b < 0
    · exfalso
      unfold getE17 at h
      rw [if_neg (fun x => x hs), if_pos hn] at h
      split at h <;> omega
    · obtain ⟨k, hk⟩ : ∃ k : Nat, nlAt b = (k : Int) := ⟨(nlAt b).toNat, by omega⟩
      have hf := nlAt_far hs hk
      have hN : getN17 b = k + 1 := by unfold getN17; rw [if_pos h, hk, Int.toNat_natCast]
      have hL : ∃ H, lineS ((b.take (k + 1)).drop 6) = some H ∧ getH17 b = H := by
        cases hl : lineS ((b.take (k + 1)).drop 6) with
        | some H => exact ⟨H, rfl, by unfold getH17; rw [if_pos h, hk, Int.toNat_natCast, hl]; rfl⟩
        | none =>
          exfalso
          unfold getE17 at h
          rw [if_neg (fun x => x hs), if_neg hn, hk, Int.toNat_natCast, hl] at h
          simp at h
      obtain ⟨H, hl, hH⟩ := hL
      rw [hH]
      refine ⟨k, hk, hs, hN, hf.2.1, hf.2.2.1, ?_⟩
      have hu := hf.2.2.2
      generalize (b.take (k + 1)).drop 6 = u at *
      unfold lineS at hl
      split at hl
      · rename_i hend
        have hm := said_may hl
        refine ⟨hm.1, fun hfam => ?_⟩
        have e := lineL_form H []
        rw [List.append_nil] at e
        rw [hu, e, ← hm.2 hfam]
        unfold formL
        rw [List.append_nil, List.append_assoc, ← hend.1, List.take_append_drop]
      · cases hl
  · exfalso
    unfold getE17 at h
    rw [if_pos hs] at h
    omega

end Go.Proofs.YtpappmbnblaccaaDoor
