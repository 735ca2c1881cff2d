/-
  What is put is got: plainly. No Go function is walked here.
-/
import Derived.Test.YtpappmbnblaccaaDoorVoneGet
namespace Go.Proofs.YtpappmbnblaccaaDoor
set_option linter.unusedVariables false

theorem nlAt_is {b : List UInt8} {k : Nat} (h : nlAt b = (k : Int)) : k < 107 ∧ b[k]? = some 10 ∧ ∀ j, j < k → b[j]? ≠ some 10 := by
  have h1 := Lib.indexByte_some h
  have hk : k < (b.take 107).length := (List.getElem?_eq_some_iff.1 h1.1).1
  rw [List.length_take] at hk
  refine ⟨by omega, by rw [← h1.1, List.getElem?_take_of_lt (by omega)], fun j hj => ?_⟩
  have h2 := h1.2 j hj
  rwa [List.getElem?_take_of_lt (by omega)] at h2
theorem may_isA {h : S17} (hm : h.may) (hf : h.fam ≠ 0) : IsA h.src.data.toList ∧ IsA h.dst.data.toList ∧ 0 ≤ h.sp ∧ h.sp ≤ 65535 ∧ 0 ≤ h.dp ∧ h.dp ≤ 65535 ∧ (h.fam = 1 ∨ h.fam = 2) := by
  have hmm : (h.fam = 1 ∨ h.fam = 2) ∧ h.src.size = sizeF h.fam ∧ h.dst.size = sizeF h.fam ∧ 0 ≤ h.sp ∧ h.sp ≤ 65535 ∧ 0 ≤ h.dp ∧ h.dp ≤ 65535 := by
    rcases hm.2.2 with x | x
    · exact absurd x.1 hf
    · exact x
  have hia : ∀ x : ByteArray, x.size = sizeF h.fam → IsA x.data.toList := fun x hx => by
    unfold IsA
    rw [Array.length_toList]
    have e : x.data.size = x.size := rfl
    unfold sizeF at hx
    split at hx <;> omega
  exact ⟨hia _ hmm.2.1, hia _ hmm.2.2.1, hmm.2.2.2.1, hmm.2.2.2.2.1, hmm.2.2.2.2.2.1, hmm.2.2.2.2.2.2, hmm.1⟩

/-- A text with a line's form: the sign, what it says, its end, and what stands behind. -/
def formL (B rest : List UInt8) : List UInt8 := pre17 ++ B ++ [13, 10] ++ rest
theorem form_nl {B rest : List UInt8} (h : (10 : UInt8) ∉ B) (hB : B.length ≤ 99) : nlAt (formL B rest) = ((B.length + 7 : Nat) : Int) := by
  have hge := nlAt_ge (formL B rest)
  have hat : (formL B rest)[B.length + 7]? = some 10 := by
    have e : formL B rest = (pre17 ++ B ++ [13]) ++ ([10] ++ rest) := by simp [formL]
    have hl : (pre17 ++ B ++ [13]).length = B.length + 7 := by simp [pre17]
    rw [e, List.getElem?_append_right (by omega), hl, Nat.sub_self]
    rfl
  have hno : ∀ j, j < B.length + 7 → (formL B rest)[j]? ≠ some 10 := fun j hj hx => by
    have e : formL B rest = (pre17 ++ B ++ [13]) ++ ([10] ++ rest) := by simp [formL]
    have hl : (pre17 ++ B ++ [13]).length = B.length + 7 := by simp [pre17]
    rw [e, List.getElem?_append_left (by omega)] at hx
    have hm := List.mem_of_getElem? hx
    rw [List.mem_append, List.mem_append] at hm
    rcases hm with (hm | hm) | hm
    · exact absurd hm (by decide)
    · exact h hm
    · exact absurd hm (by decide)
  by_cases hneg : nlAt (formL B rest) < 0
  · exfalso
    have h1 := Lib.indexByte_none (show Lib.indexByte ((formL B rest).take 107) 10 = -1 by show nlAt _ = -1; omega) (B.length + 7)
    rw [List.getElem?_take_of_lt (by omega)] at h1
    exact h1 hat
  · obtain ⟨k, hk⟩ : ∃ k : Nat, nlAt (formL B rest) = (k : Int) := ⟨(nlAt (formL B rest)).toNat, by omega⟩
    have h2 := nlAt_is hk
    rcases Nat.lt_trichotomy k (B.length + 7) with h3 | h3 | h3
    · exact absurd h2.2.1 (hno k h3)
    · rw [hk, h3]
    · exact absurd hat (h2.2.2 _ h3)
theorem form_sign (B rest : List UInt8) : (formL B rest).take 6 = pre17.take (formL B rest).length := by
  have hl : 6 ≤ (formL B rest).length := by simp [formL, pre17]
  rw [List.take_of_length_le (l := pre17) (by exact hl)]
  have e : formL B rest = pre17 ++ (B ++ [13, 10] ++ rest) := by simp [formL]
  rw [e]
  rfl
theorem form_line (B rest : List UInt8) : lineS (((formL B rest).take (B.length + 7 + 1)).drop 6) = saidS B := by
  have e1 : (formL B rest).take (B.length + 7 + 1) = pre17 ++ B ++ [13, 10] := by
    have hl : (pre17 ++ B ++ [13, 10]).length = B.length + 7 + 1 := by simp [pre17]
    unfold formL
    rw [← hl, List.take_left]
  have e2 : (pre17 ++ B ++ [13, 10]).drop 6 = B ++ [13, 10] := by rw [List.append_assoc]; rfl
  rw [e1, e2]
  unfold lineS
  have hl : (B ++ [(13 : UInt8), 10]).length - 2 = B.length := by simp
  rw [hl, List.drop_left, List.take_left, if_pos ⟨rfl, by simp⟩]
/-- What is got of such a text. -/
theorem form_get {B rest : List UInt8} (h : (10 : UInt8) ∉ B) (hB : B.length ≤ 99) {s : S17} (hs : saidS B = some s) : getE17 (formL B rest) = 0 ∧ getH17 (formL B rest) = s ∧ getN17 (formL B rest) = B.length + 8 := by
  have hn := form_nl (rest := rest) h hB
  have e : getE17 (formL B rest) = 0 := by
    unfold getE17
    rw [if_neg (fun x => x (form_sign B rest)), if_neg (by omega), hn]
    show (match lineS (((formL B rest).take (B.length + 7 + 1)).drop 6) with | some _ => (0 : Int) | none => 9) = 0
    rw [form_line, hs]
  unfold getH17 getN17
  rw [e, hn]
  refine ⟨rfl, ?_, rfl⟩
  show (lineS (((formL B rest).take (B.length + 7 + 1)).drop 6)).getD S17.zero = s
  rw [form_line, hs]
  rfl
/-- Of a beginning that isn't all of it. -/
theorem form_cut {B : List UInt8} (h : (10 : UInt8) ∉ B) (hB : B.length ≤ 99) {c : Nat} (hc : c < B.length + 8) : getE17 ((formL B []).take c) = 10 ∧ getH17 ((formL B []).take c) = S17.zero ∧ getN17 ((formL B []).take c) = 0 := by
  have hl : (formL B []).length = B.length + 8 := by simp [formL, pre17]
  have hlc : ((formL B []).take c).length = c := by rw [List.length_take]; omega
  have hsg : ((formL B []).take c).take 6 = pre17.take ((formL B []).take c).length := by
    rw [hlc, List.take_take]
    have e : formL B [] = pre17 ++ (B ++ [13, 10]) := by simp [formL]
    rcases Nat.le_total c 6 with h6 | h6
    · rw [Nat.min_eq_right h6, e, List.take_append_of_le_length (by exact h6)]
    · rw [Nat.min_eq_left h6, List.take_of_length_le (l := pre17) (by exact h6), e]
      rfl
  have hneg : nlAt ((formL B []).take c) < 0 := by
    by_cases hneg : nlAt ((formL B []).take c) < 0
    · exact hneg
    · exfalso
      obtain ⟨k, hk⟩ : ∃ k : Nat, nlAt ((formL B []).take c) = (k : Int) := ⟨(nlAt ((formL B []).take c)).toNat, by omega⟩
      have h2 := nlAt_is hk
      have hkc : k < ((formL B []).take c).length := (List.getElem?_eq_some_iff.1 h2.2.1).1
      rw [hlc] at hkc
      have h3 : (formL B [])[k]? = some 10 := by rw [← h2.2.1, List.getElem?_take_of_lt hkc]
      have hn := nlAt_is (form_nl (rest := []) h hB)
      exact hn.2.2 k (by omega) h3
  have e : getE17 ((formL B []).take c) = 10 := by
    unfold getE17
    rw [if_neg (fun x => x hsg), if_pos hneg, if_neg (by omega)]
  unfold getH17 getN17
  rw [e]
  exact ⟨rfl, rfl, rfl⟩

/-- What a header says, without its fields' slice. -/
def S17.bare (h : S17) : S17 := ⟨h.loc, h.fam, h.src, h.dst, h.sp, h.dp, none, 0, 0⟩
/-- What stands between a line's sign and its end. -/
def bodyL (h : S17) : List UInt8 := if h.fam = 0 then uword else jn 32 [tword h.fam, text h.src.data.toList, text h.dst.data.toList, digs 10 h.sp.toNat, digs 10 h.dp.toNat]
theorem lineL_form (h : S17) (rest : List UInt8) : lineL h ++ rest = formL (bodyL h) rest := by
  unfold lineL bodyL formL
  split <;> rfl
theorem digs_no32 (n : Nat) {c : UInt8} (hc : c.toNat < 46) : c ∉ digs 10 n := digs_no (by decide) (by decide) (Or.inl (by omega))
theorem body_words {h : S17} (hm : h.may) (hf : h.fam ≠ 0) {c : UInt8} (hc : c.toNat < 46) : ∀ x ∈ [tword h.fam, text h.src.data.toList, text h.dst.data.toList, digs 10 h.sp.toNat, digs 10 h.dp.toNat], c ∉ x := by
  obtain ⟨ha, hb, _, _, _, _, hff⟩ := may_isA hm hf
  intro x hx
  simp only [List.mem_cons, List.not_mem_nil, or_false] at hx
  have ht : c ∉ tword h.fam := fun hm => by
    have : ∀ y ∈ tword h.fam, 46 ≤ y.toNat := by
      rcases hff with e | e <;> rw [e] <;> decide
    have := this c hm
    omega
  rcases hx with rfl | rfl | rfl | rfl | rfl
  · exact ht
  · exact text_sign hc
  · exact text_sign hc
  · exact digs_no32 _ hc
  · exact digs_no32 _ hc
theorem body_no10 {h : S17} (hm : h.may) : (10 : UInt8) ∉ bodyL h := by
  unfold bodyL
  split
  · decide
  · rename_i hf
    intro h10
    rcases jn_mem 32 10 _ h10 with e | ⟨x, hx, h⟩
    · exact absurd e (by decide)
    · exact body_words hm hf (c := 10) (by decide) x hx h
theorem body_len {h : S17} (hm : h.may) : (bodyL h).length ≤ 99 := by
  unfold bodyL
  split
  · decide
  · rename_i hf
    obtain ⟨ha, hb, hp0, hp1, hq0, hq1, hff⟩ := may_isA hm hf
    have h1 := text_len ha
    have h2 := text_len hb
    have h3 : (digs 10 h.sp.toNat).length ≤ 5 := digs_length (by decide) 4 _ (by simp; omega)
    have h4 : (digs 10 h.dp.toNat).length ≤ 5 := digs_length (by decide) 4 _ (by simp; omega)
    have h5 : (tword h.fam).length = 4 := by rcases hff with e | e <;> rw [e] <;> rfl
    show (tword h.fam ++ 32 :: (text h.src.data.toList ++ 32 :: (text h.dst.data.toList ++ 32 :: (digs 10 h.sp.toNat ++ 32 :: digs 10 h.dp.toNat)))).length ≤ 99
    simp only [List.length_append, List.length_cons]
    omega
theorem body_said {h : S17} (hm : h.may) : saidS (bodyL h) = some h.bare := by
  unfold bodyL
  split
  · rename_i hf
    rw [saidS_words (sp_word 32 uword (by decide)), if_pos rfl]
    obtain ⟨loc, fam, src, dst, sp, dp, fa, fn, fc⟩ := h
    obtain ⟨hl, hn, hx⟩ := hm
    obtain rfl : fam = 0 := hf
    rcases hx with ⟨_, h1, h2, h3, h4⟩ | ⟨h1, _⟩
    · obtain rfl : src = ⟨#[]⟩ := text_ext (List.length_eq_zero_iff.1 (by rw [Array.length_toList]; exact h1))
      obtain rfl : dst = ⟨#[]⟩ := text_ext (List.length_eq_zero_iff.1 (by rw [Array.length_toList]; exact h2))
      obtain rfl : sp = 0 := h3
      obtain rfl : dp = 0 := h4
      obtain rfl : loc = false := hl
      rfl
    · exfalso; simp at h1
  · rename_i hf
    obtain ⟨ha, hb, hp0, hp1, hq0, hq1, hff⟩ := may_isA hm hf
    have hsp := sp_jn 32 [tword h.fam, text h.src.data.toList, text h.dst.data.toList, digs 10 h.sp.toNat, digs 10 h.dp.toNat] (by simp) (body_words hm hf (by decide))
    have hsz : h.src.size = sizeF h.fam ∧ h.dst.size = sizeF h.fam := by
      rcases hm.2.2 with x | x
      · exact absurd x.1 hf
      · exact ⟨x.2.1, x.2.2.1⟩
    have hw : wordsS h.fam [text h.src.data.toList, text h.dst.data.toList, digs 10 h.sp.toNat, digs 10 h.dp.toNat] = some h.bare := by
      rw [pick17_is, addrOf_text ha, addrOf_text hb, numOf_digs (by omega) (by decide), numOf_digs (by omega) (by decide)]
      unfold pick17
      simp only
      have e1 : h.src.data.toList.length = sizeF h.fam := by rw [Array.length_toList]; exact hsz.1
      have e2 : h.dst.data.toList.length = sizeF h.fam := by rw [Array.length_toList]; exact hsz.2
      rw [if_pos ⟨e1, e2⟩]
      unfold S17.bare
      have e3 : ((h.sp.toNat : Nat) : Int) = h.sp := by omega
      have e4 : ((h.dp.toNat : Nat) : Int) = h.dp := by omega
      rw [e3, e4, hm.1]
    rw [saidS_words hsp]
    rcases hff with e | e
    · rw [e] at hw ⊢
      rw [if_neg (by decide), if_pos rfl, hw]
    · rw [e] at hw ⊢
      rw [if_neg (by decide), if_neg (by decide), if_pos rfl, hw]
/-- What is put is got, whatever stands behind. -/
theorem get_put17 {h : S17} (hm : h.may) (rest : List UInt8) : getE17 (lineL h ++ rest) = 0 ∧ getH17 (lineL h ++ rest) = h.bare ∧ getN17 (lineL h ++ rest) = (lineL h).length ∧ (lineL h).length ≤ 107 := by
  have hl : (lineL h).length = (bodyL h).length + 8 := by
    have e := lineL_form h []
    rw [List.append_nil] at e
    rw [e]
    simp [formL, pre17]
  have hb := body_len hm
  have := form_get (rest := rest) (body_no10 hm) hb (body_said hm)
  rw [lineL_form]
  exact ⟨this.1, this.2.1, by rw [this.2.2, hl], by omega⟩
theorem get_cut17 {h : S17} (hm : h.may) {c : Nat} (hc : c < (lineL h).length) : getE17 ((lineL h).take c) = 10 ∧ getH17 ((lineL h).take c) = S17.zero ∧ getN17 ((lineL h).take c) = 0 := by
  have e := lineL_form h []
  rw [List.append_nil] at e
  have hl : (lineL h).length = (bodyL h).length + 8 := by rw [e]; simp [formL, pre17]
  rw [e]
  exact form_cut (body_no10 hm) (body_len hm) (by omega)

end Go.Proofs.YtpappmbnblaccaaDoor
