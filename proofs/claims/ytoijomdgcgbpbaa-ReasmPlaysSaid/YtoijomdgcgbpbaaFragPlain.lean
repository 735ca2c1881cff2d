/-
  The pieces of a packet, one by one, plain: what is got of each, where its bytes lie; no Go function is walked here.
-/
import Derived.Test.YtoijomdgcgbpbaaFragSpec
namespace Go.Proofs.Ytoijomdgcgbpbaa
open Go.RowKit
set_option linter.unusedVariables false

theorem H4.at15_self (h : H4) : h.at15 0 h.mf = h := by
  cases h
  simp [H4.at15]
theorem H4.at15_twice (h : H4) (a b : Nat) (x y : Bool) : (h.at15 a x).at15 b y = h.at15 (a + b) y := by
  simp only [H4.at15, H4.mk.injEq, and_self, and_true, true_and]
  omega
/-- Where piece i begins, in the payload. -/
def pos15 (p : ByteArray) (m : Int) (i : Nat) : Nat := if i < (cutL p m).length then i * n15 p m else (getS p).size
/-- What holds of piece i. -/
structure Piece15 (p : ByteArray) (m : Int) (i : Nat) (x : ByteArray) : Prop where
  ge : getE x = 0
  gh : getH x = (getH p).at15 (pos15 p m i / 8) ((getH p).mf || decide (i + 1 < (cutL p m).length))
  gs : getS x = (getS p).extract (pos15 p m i) (pos15 p m (i + 1))
  le : (x.size : Int) ≤ m
  size : x.size = hsz p + (pos15 p m (i + 1) - pos15 p m i)
  up : pos15 p m i ≤ pos15 p m (i + 1)
  top : pos15 p m (i + 1) ≤ (getS p).size
  mod : pos15 p m i % 8 = 0
  more : i + 1 < (cutL p m).length ↔ pos15 p m (i + 1) < (getS p).size
  mid : i + 1 < (cutL p m).length → pos15 p m (i + 1) = pos15 p m i + n15 p m ∧ 8 ≤ n15 p m ∧ n15 p m % 8 = 0
  off : 0 ≤ (getH p).off ∧ (getH p).off + ((pos15 p m i / 8 : Nat) : Int) ≤ 8191
theorem pos15_zero {p : ByteArray} {m : Int} (h : 0 < (cutL p m).length) : pos15 p m 0 = 0 := by unfold pos15; rw [if_pos h, Nat.zero_mul]
theorem pos15_end (p : ByteArray) (m : Int) : pos15 p m (cutL p m).length = (getS p).size := by unfold pos15; rw [if_neg (Nat.lt_irrefl _)]

/-- A packet that is got has a header that may be, of the size that its first byte says. -/
theorem got15 {p : ByteArray} (e : getE p = 0) : (getH p).Ok ∧ (getH p).size = hsz p ∧ p.size = hsz p + (getS p).size ∧ p.size ≤ 65535 ∧ 20 ≤ hsz p ∧ hsz p ≤ 60 := by
  have r := right15 e
  refine ⟨by rw [r.gh]; exact r.ok, by rw [r.gh]; exact r.size, ?_, r.le, r.hz.1, r.hz.2.1⟩
  have := r.pay
  have := r.hz
  omega
theorem cutL_small {p : ByteArray} {m : Int} (h : cutE p m = 0) (h2 : (p.size : Int) ≤ m) : cutL p m = [p] := cutL_whole h h2
theorem cutL_many {p : ByteArray} {m : Int} (h : cutE p m = 0) (h2 : ¬ (p.size : Int) ≤ m) : cutL p m = texts15 (items15 (getH p) (getS p) (n15 p m)) ∧ (cutL p m).length = fore15 (getS p) (n15 p m) + 1 := by
  have e := cutL_put h h2
  refine ⟨e, ?_⟩
  rw [e]
  unfold texts15 all15
  rw [List.length_map, items15_length]
theorem cutL_pos {p : ByteArray} {m : Int} (h : cutE p m = 0) : 0 < (cutL p m).length := by
  by_cases h2 : (p.size : Int) ≤ m
  · rw [cutL_small h h2]; simp
  · rw [(cutL_many h h2).2]; omega

theorem items15_last (h : H4) (pay : ByteArray) (n : Nat) (i : Nat) (hi : i < (items15 h pay n).length) :
    (items15 h pay n)[i] = (h.at15 (i * (n / 8)) (if i < fore15 pay n then true else h.mf), pay.extract (i * n) (if i < fore15 pay n then i * n + n else pay.size)) := by
  have hl := items15_length h pay n
  have key : (items15 h pay n)[i]? = some (h.at15 (i * (n / 8)) (if i < fore15 pay n then true else h.mf), pay.extract (i * n) (if i < fore15 pay n then i * n + n else pay.size)) := by
    unfold items15 upto15
    by_cases hf : i < fore15 pay n
    · rw [List.getElem?_append_left (by simpa using hf), if_pos hf, if_pos hf]
      simp [hf, item15]
    · have e : i = fore15 pay n := by omega
      subst e
      rw [List.getElem?_append_right (by simp), if_neg hf, if_neg hf]
      simp [last15]
  rw [List.getElem?_eq_getElem hi] at key
  exact Option.some.inj key

theorem piece15 {p : ByteArray} {m : Int} (h : cutE p m = 0) (i : Nat) (hi : i < (cutL p m).length) : Piece15 p m i ((cutL p m)[i]'hi) := by
  obtain ⟨hg, h28, h65, hs⟩ := cut15_ok h
  obtain ⟨hok, hsize, hps, hp65, hz20, hz60⟩ := got15 hg
  rcases hs with hs | ⟨hm, hoff⟩
  · have hl := cutL_small h hs
    have hlen : (cutL p m).length = 1 := by rw [hl]; rfl
    have hi0 : i = 0 := by omega
    subst hi0
    have hx : (cutL p m)[0]'hi = p := by simp only [hl]; rfl
    have p0 : pos15 p m 0 = 0 := pos15_zero (by omega)
    have p1 : pos15 p m (0 + 1) = (getS p).size := by have := pos15_end p m; rwa [hlen] at this
    rw [hx]
    refine ⟨hg, ?_, ?_, hs, ?_, ?_, ?_, ?_, ?_, ?_, ?_⟩
    · rw [p0, hlen]
      have : decide (0 + 1 < 1) = false := rfl
      rw [this, Bool.or_false, H4.at15_self]
    · rw [p0, p1]
      apply text_ext
      rw [extract_list, List.take_of_length_le (by simp), List.drop_zero]
    · rw [p0, p1]; omega
    · rw [p0, p1]; omega
    · rw [p1]; exact Nat.le_refl _
    · rw [p0]
    · rw [hlen, p1]; omega
    · rw [hlen]; omega
    · rw [p0]; have := hok.off; omega
  · obtain ⟨hl, hlen⟩ := cutL_many h (by have := hm.big; omega)
    have hfit := hm.fit
    have hn0 := hfit.pos
    have h8 := hfit.eight
    have hmore := hm.more
    have hiL : i < (items15 (getH p) (getS p) (n15 p m)).length := by rw [items15_length]; omega
    have hx : (cutL p m)[i]'hi = putS ((items15 (getH p) (getS p) (n15 p m))[i]'hiL).1 ((items15 (getH p) (getS p) (n15 p m))[i]'hiL).2 := by
      simp only [hl, texts15, List.getElem_map]
    have hmost := hm.most
    have hile : i ≤ fore15 (getS p) (n15 p m) := by omega
    have hpos : pos15 p m i = i * n15 p m := by unfold pos15; rw [if_pos hi]
    have hin : i * n15 p m ≤ (getS p).size := fore15_le hn0 hile
    have hlast := fore15_last (pay := getS p) hn0
    have hsome := fore15_some (pay := getS p) hn0 (by omega)
    have hfl : i < fore15 (getS p) (n15 p m) ↔ n15 p m < (getS p).size - i * n15 p m := fore15_lt hn0
    have hdiv : i * n15 p m / 8 = i * (n15 p m / 8) := by
      have : i * n15 p m = i * (n15 p m / 8) * 8 := by rw [Nat.mul_assoc, Nat.div_mul_cancel (Nat.dvd_of_mod_eq_zero h8)]
      omega
    have hmod : i * n15 p m % 8 = 0 := by
      rw [Nat.mul_mod, h8, Nat.mul_zero, Nat.zero_mod]
    have hoi : (getH p).off + ((i * (n15 p m / 8) : Nat) : Int) ≤ 8191 := hfit.mono hile hoff
    have hnext : pos15 p m (i + 1) = if i < fore15 (getS p) (n15 p m) then i * n15 p m + n15 p m else (getS p).size := by
      unfold pos15
      rw [hlen]
      by_cases hf : i < fore15 (getS p) (n15 p m)
      · rw [if_pos (by omega), if_pos hf, Nat.add_mul, Nat.one_mul]
      · rw [if_neg (by omega), if_neg hf]
    have hdec : ((getH p).mf || decide (i + 1 < (cutL p m).length)) = if i < fore15 (getS p) (n15 p m) then true else (getH p).mf := by
      rw [hlen]
      by_cases hf : i < fore15 (getS p) (n15 p m)
      · rw [if_pos hf, decide_eq_true (by omega), Bool.or_true]
      · rw [if_neg hf, decide_eq_false (by omega), Bool.or_false]
    have hit := items15_last (getH p) (getS p) (n15 p m) i hiL
    rw [hx, hit]
    dsimp only
    have hsent := sent_of (h := (getH p).at15 (i * (n15 p m / 8)) (if i < fore15 (getS p) (n15 p m) then true else (getH p).mf)) (pay := (getS p).extract (i * n15 p m) (if i < fore15 (getS p) (n15 p m) then i * n15 p m + n15 p m else (getS p).size)) (H4.at15_ok hfit.ok hoi _) (by
      rw [H4.at15_size, ByteArray.size_extract]
      have := hfit.fit
      split <;> omega)
    have hsz : ((getS p).extract (i * n15 p m) (if i < fore15 (getS p) (n15 p m) then i * n15 p m + n15 p m else (getS p).size)).size = (if i < fore15 (getS p) (n15 p m) then i * n15 p m + n15 p m else (getS p).size) - i * n15 p m := by
      rw [ByteArray.size_extract]
      split <;> omega
    have hst := hsent.size
    rw [H4.at15_size, hsize, hsz] at hst
    refine ⟨hsent.ge, ?_, ?_, ?_, ?_, ?_, ?_, ?_, ?_, ?_, ?_⟩
    · rw [hsent.gh, hpos, hdiv, hdec]
    · rw [hsent.gs, hpos, hnext]
    · rw [hst]
      split <;> omega
    · rw [hst, hpos, hnext]
    · rw [hpos, hnext]
      split <;> omega
    · rw [hnext]
      split <;> omega
    · rw [hpos]; exact hmod
    · rw [hnext, hlen]
      by_cases hf : i < fore15 (getS p) (n15 p m)
      · rw [if_pos hf]
        have hnx : i * n15 p m + n15 p m ≤ fore15 (getS p) (n15 p m) * n15 p m := by
          have := Nat.mul_le_mul_right (n15 p m) (show i + 1 ≤ fore15 (getS p) (n15 p m) from hf)
          rwa [Nat.add_mul, Nat.one_mul] at this
        omega
      · rw [if_neg hf]; omega
    · intro hlt
      rw [hlen] at hlt
      rw [hpos, hnext, if_pos (by omega)]
      omega
    · rw [hpos, hdiv]
      exact ⟨hok.off.1, hoi⟩

/-- A piece is a packet that a cut by the same mtu, or a greater one, leaves whole. -/
theorem Piece15.again {p : ByteArray} {m : Int} {i : Nat} {x : ByteArray} (h : Piece15 p m i x) (hc : cutE p m = 0) : cutE x m = 0 ∧ cutL x m = [x] := by
  obtain ⟨_, h28, h65, _⟩ := cut15_ok hc
  have e := cutE_whole h.ge (by omega) h.le
  exact ⟨e, cutL_small e h.le⟩

/-- How many pieces there are. -/
theorem count15 {p : ByteArray} {m : Int} (h : cutE p m = 0) (h2 : ¬ (p.size : Int) ≤ m) : 8 ≤ n15 p m ∧ (cutL p m).length = ((getS p).size + n15 p m - 1) / n15 p m := by
  obtain ⟨hg, h28, h65, hs⟩ := cut15_ok h
  rcases hs with hs | ⟨hm, hoff⟩
  · exact absurd hs h2
  · have h8 := hm.fit.eight
    have h0 := hm.fit.pos
    have hmore := hm.more
    refine ⟨by omega, ?_⟩
    rw [(cutL_many h h2).2]
    unfold fore15
    have : (getS p).size + n15 p m - 1 = ((getS p).size - 1) + n15 p m := by omega
    rw [this, Nat.add_div_right _ h0]
/-- All but the last one are as great as fit. -/
theorem Piece15.great {p : ByteArray} {m : Int} {i : Nat} {x : ByteArray} (q : Piece15 p m i x) (h : cutE p m = 0) (hi : i + 1 < (cutL p m).length) : x.size = hsz p + n15 p m ∧ m < (x.size : Int) + 8 := by
  obtain ⟨hg, h28, h65, hs⟩ := cut15_ok h
  rcases hs with hs | ⟨hm, hoff⟩
  · rw [cutL_small h hs] at hi
    simp at hi
  · have h1 := q.mid hi
    have h2 := q.size
    have h3 := hm.most
    have e : x.size = hsz p + n15 p m := by omega
    exact ⟨e, by omega⟩
/-- A greater mtu makes no more pieces. -/
theorem greater15 {p : ByteArray} {a b : Int} (h : cutE p a = 0) (hab : a ≤ b) : (65535 < b ∧ cutE p b = 1) ∨ cutE p b = 4 ∨ (cutE p b = 0 ∧ (cutL p b).length ≤ (cutL p a).length) := by
  obtain ⟨hg, h28, h65, hs⟩ := cut15_ok h
  by_cases hb : 65535 < b
  · exact Or.inl ⟨hb, cutE_mtu hg (by omega)⟩
  · refine Or.inr ?_
    have h1 : ¬ (b < 28 ∨ 65535 < b) := by omega
    by_cases hsb : (p.size : Int) ≤ b
    · have e := cutE_whole hg h1 hsb
      refine Or.inr ⟨e, ?_⟩
      rw [cutL_small e hsb]
      exact cutL_pos h
    · rcases hs with hs | ⟨hm, hoff⟩
      · omega
      · have hnn : n15 p a ≤ n15 p b := by
          unfold n15 pn15
          exact Nat.mul_le_mul_right 8 (Nat.div_le_div_right (by omega))
        have h4 : n15 p b ≠ 0 := by have := hm.fit.pos; omega
        have e := cutE_put hg h1 hsb hm.df h4
        by_cases hall : allput15 (all15 p b) = true
        · rw [if_pos hall] at e
          refine Or.inr ⟨e, ?_⟩
          rw [(cutL_many e hsb).2, (cutL_many h (by have := hm.big; omega)).2]
          unfold fore15
          have := Nat.div_le_div_left (a := (getS p).size - 1) hnn hm.fit.pos
          omega
        · rw [if_neg hall] at e
          exact Or.inl e

end Go.Proofs.Ytoijomdgcgbpbaa
