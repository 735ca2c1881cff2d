/-
  What ReasmBounds asks, plain: what an Add that isn't taken leaves, when its answer is empty, what ticks leave.
-/
import Derived.Test.YtoijomdgcgbpbaaReasmMade
namespace Go.Proofs.Ytoijomdgcgbpbaa
open Go.RowKit
set_option linter.unusedVariables false

theorem putS_empty {h : H4} {s : ByteArray} : putS h s = ⟨#[]⟩ ↔ putE h s ≠ 0 := by
  constructor
  · intro e h0
    unfold putS at e
    rw [if_pos h0] at e
    have : (⟨(h.pack s).toArray⟩ : ByteArray).size = 0 := by rw [e]; rfl
    have h2 : (h.pack s).length = 0 := by simpa [ByteArray.size] using this
    have h3 := List.eq_nil_of_length_eq_zero h2
    simp [H4.pack, H4.head, be] at h3
  · intro h0
    unfold putS
    rw [if_neg h0]
theorem putE_cases (h : H4) (s : ByteArray) : putE h s = 0 ∨ putE h s = 4 ∨ putE h s = 1 := by
  unfold putE
  split
  · split
    · exact Or.inr (Or.inl rfl)
    · exact Or.inl rfl
  · exact Or.inr (Or.inr rfl)
theorem putE_ok {h : H4} {s : ByteArray} (hok : h.Ok) : putE h s = 0 ∨ putE h s = 4 := by
  unfold putE
  rw [if_pos ((H4.ok_iff h).2 hok)]
  split
  · exact Or.inr rfl
  · exact Or.inl rfl
theorem H4.Ok.whole {h : H4} (k : h.Ok) : h.whole.Ok := ⟨k.tos, k.ttl, k.proto, k.id, k.off, k.src, k.dst, k.opt, k.opt4⟩

/-- All pieces' bytes lie between the first's place and the last's end. -/
theorem good16_span {qs : List P16} (g : Good16 qs) : ∀ x z, qs.head? = some x → qs.getLast? = some z → x.lo + sum16 qs ≤ z.hi := by
  obtain ⟨hs, h0, ht⟩ := g
  induction qs with
  | nil => intro x z e; cases e
  | cons a r ih =>
    intro x z e1 e2
    obtain rfl : a = x := by simpa using e1
    rw [List.pairwise_cons] at hs
    have e : sum16 (a :: r) = a.s.size + sum16 r := by simp [sum16]
    cases r with
    | nil =>
      obtain rfl : a = z := by simpa using e2
      simp [sum16, P16.hi]
    | cons b t =>
      have e3 : (b :: t).getLast? = some z := by rw [← e2]; simp
      have h3 := ih hs.2 (fun y hy => h0 y (List.mem_cons_of_mem _ hy)) (fun y hy => ht y (List.mem_cons_of_mem _ hy)) b z rfl e3
      have h4 := (hs.1 b (List.mem_cons_self ..)).1
      unfold P16.hi at h4
      omega
/-- What is whole has a piece from 0 on. -/
theorem Good16.first {qs : List P16} (g : Good16 qs) (h : whole16 qs = true) : ∃ x ∈ qs, x.lo = 0 := by
  cases qs with
  | nil => cases h
  | cons a r =>
    unfold whole16 at h
    cases e : (a :: r).getLast? with
    | none => simp at e
    | some z =>
      rw [e] at h
      dsimp only at h
      rw [Bool.and_eq_true] at h
      have h1 := of_decide_eq_true h.2
      have h2 := good16_span g a z rfl e
      exact ⟨a, List.mem_cons_self .., by omega⟩
/-- The header of what is whole may be. -/
theorem Yes16.head {E B L : Nat} {l : List E16} (t : Tab16 E B L l) {h : H4} {s : ByteArray} (hok : h.Ok) (y : Yes16 E B l h.key (piece16 h s)) (hw : whole16 (ins16 (piece16 h s) (old16 l h.key).qs) = true) :
    ((old16 l h.key).put h (piece16 h s)).hd.Ok ∧ ((old16 l h.key).put h (piece16 h s)).hd.off = 0 ∧ ((old16 l h.key).put h (piece16 h s)).hd.key = h.key := by
  rcases Nat.eq_zero_or_pos s.size with h0 | h0
  · have hb := (y.bare t h0).2.1
    have e2 : ((old16 l h.key).put h (piece16 h s)).hd = h := by unfold E16.put; rw [if_pos hb]
    rw [e2]
    have : 8 * h.off.toNat = 0 := hb
    have := hok.off
    exact ⟨hok, by omega, rfl⟩
  · have ee := y.ent t hok h0
    obtain ⟨x, hx, hx0⟩ := ee.good.first hw
    have := ee.first x hx hx0
    rw [show ((old16 l h.key).put h (piece16 h s)).k = h.key from old16_key l h.key] at this
    exact this

/-- What an Add says. -/
structure Says16 (E B : Nat) (l : List E16) (p : ByteArray) : Prop where
  full : (add16 E B l p).1.2 = 0 ↔ (add16 E B l p).1.1 ≠ ⟨#[]⟩
  same : (add16 E B l p).1.2 ≠ 0 → (add16 E B l p).1.2 ≠ 10 → (add16 E B l p).1.2 ≠ 4 → (add16 E B l p).2 = l
  few : (add16 E B l p).1.2 ≤ 65535
theorem no16_le (E B : Nat) (l : List E16) (k : K16) (x : P16) : no16 E B l k x ≤ 14 := by
  unfold no16
  repeat (first | omega | split)
theorem getE_le (p : ByteArray) : getE p ≤ 9 := by
  unfold getE
  repeat (first | omega | split)
theorem says16 {E B L : Nat} {l : List E16} (t : Tab16 E B L l) (p : ByteArray) : Says16 E B l p := by
  by_cases hg : getE p = 0
  · have hok := (got15 hg).1
    by_cases hno : no16 E B l (getH p).key (piece16 (getH p) (getS p)) = 0
    · have y := yes16 t hno
      have e0 : add16 E B l p = made16 l (getH p) (piece16 (getH p) (getS p)) := by unfold add16; rw [if_neg (fun e => e hg), if_neg (fun e => e hno)]
      by_cases hw : whole16 (ins16 (piece16 (getH p) (getS p)) (old16 l (getH p).key).qs) = true
      · have hh := (y.head t hok hw).1.whole
        have e1 : made16 l (getH p) (piece16 (getH p) (getS p)) = ((putS ((old16 l (getH p).key).put (getH p) (piece16 (getH p) (getS p))).hd.whole (cat16 ((old16 l (getH p).key).put (getH p) (piece16 (getH p) (getS p))).qs), putE ((old16 l (getH p).key).put (getH p) (piece16 (getH p) (getS p))).hd.whole (cat16 ((old16 l (getH p).key).put (getH p) (piece16 (getH p) (getS p))).qs)), upd16 l (find16 l (getH p).key) ((old16 l (getH p).key).put (getH p) (piece16 (getH p) (getS p))).over) := by
          unfold made16
          exact if_pos hw
        rw [e1] at e0
        have hc := putE_ok (s := cat16 ((old16 l (getH p).key).put (getH p) (piece16 (getH p) (getS p))).qs) hh
        refine ⟨?_, ?_, ?_⟩ <;> rw [e0] <;> dsimp only
        · rw [Ne, putS_empty]
          omega
        · omega
        · omega
      · have e1 : made16 l (getH p) (piece16 (getH p) (getS p)) = ((⟨#[]⟩, 10), upd16 l (find16 l (getH p).key) ((old16 l (getH p).key).put (getH p) (piece16 (getH p) (getS p)))) := by
          unfold made16
          exact if_neg hw
        rw [e1] at e0
        refine ⟨?_, ?_, ?_⟩ <;> rw [e0] <;> dsimp only
        · simp
        · omega
        · omega
    · have e0 : add16 E B l p = ((⟨#[]⟩, no16 E B l (getH p).key (piece16 (getH p) (getS p))), l) := by unfold add16; rw [if_neg (fun e => e hg), if_pos hno]
      have hle := no16_le E B l (getH p).key (piece16 (getH p) (getS p))
      refine ⟨?_, ?_, ?_⟩ <;> rw [e0] <;> dsimp only
      · simp [hno]
      · exact fun _ _ _ => rfl
      · omega
  · have e0 : add16 E B l p = ((⟨#[]⟩, getE p), l) := by unfold add16; rw [if_pos hg]
    have hle := getE_le p
    refine ⟨?_, ?_, ?_⟩ <;> rw [e0] <;> dsimp only
    · simp [hg]
    · exact fun _ _ _ => rfl
    · omega

/-- Behind so many ticks. -/
def Old16 (k : Nat) (l : List E16) : Prop := ∀ e ∈ l, k ≤ e.age
theorem Old16.tick {k L : Nat} {l : List E16} (h : Old16 k l) : Old16 (k + 1) (tick16 L l) := by
  intro e he
  unfold tick16 at he
  have he := (List.mem_filter.1 he).1
  obtain ⟨x, hx, rfl⟩ := List.mem_map.1 he
  have := h x hx
  dsimp only
  omega
theorem Old16.none {E B L : Nat} {l : List E16} (h : Old16 L l) (t : Tab16 E B L l) : l = [] := by
  rw [List.eq_nil_iff_forall_not_mem]
  intro e he
  have h1 := h e he
  have h2 := (t.each e he).age
  omega

end Go.Proofs.Ytoijomdgcgbpbaa
