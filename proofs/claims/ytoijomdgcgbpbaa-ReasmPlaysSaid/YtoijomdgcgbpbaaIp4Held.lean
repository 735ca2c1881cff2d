/-
  A header that a law was handed, in its block, while it calls.
-/
import Derived.Test.YtoijomdgcgbpbaaIp4Awake
import Derived.Test.YtoijomdgcgbpbaaIp4A
import Derived.Test.YtoijomdgcgbpbaaIp4Plain2
namespace Go.Proofs.Ytoijomdgcgbpbaa
open Go.RowKit
set_option linter.unusedVariables false

/-- The header's block, and what was there. -/
structure Held (w W : World) (h : H4) : Prop where
  b : Blk W w.heap.size h.cells 43
  bel : Below w.heap.size w W
  lt : w.heap.size < W.heap.size
theorem Held.new (w : World) (h : H4) : Held w (w.alloc (.cells h.cells 43)) h :=
  ⟨Blk.new w _ _, (Below.refl _ _).alloc (Nat.le_refl _) _, by simp⟩
theorem Held.below {w W W' : World} {h : H4} (r : Held w W h) (hb : Below W.heap.size W W') : Held w W' h :=
  ⟨(hb.block _ r.b.lt).trans r.b, r.bel.trans (hb.mono r.bel.size), Nat.lt_of_lt_of_le r.lt hb.size⟩
theorem Held.alloc {w W : World} {h : H4} (r : Held w W h) (o : Obj) : Held w (W.alloc o) h :=
  ⟨r.b.alloc o, r.bel.alloc r.bel.size o, by have := r.lt; simp; omega⟩
theorem Held.drew {w W : World} {h : H4} (r : Held w W h) : Held w W.drew h := ⟨r.b.drew, ⟨r.bel.os, r.bel.tape, r.bel.output, r.bel.size, r.bel.block⟩, r.lt⟩
theorem Held.drewN {w W : World} {h : H4} (r : Held w W h) (n : Nat) : Held w (W.drewN n) h := ⟨r.b.drewN n, below_drewN r.bel n, r.lt⟩

theorem str_eq (s : ByteArray) : (s.toList == s.toList) = true := by simp
theorem str_ne (s : ByteArray) : (s.toList != s.toList) = false := by simp

/-- What Put tells, where it is OK, and where it isn't. -/
theorem put_told (h : H4) (pay : ByteArray) : (putE h pay = 0 ∧ h.Ok ∧ h.size + pay.size ≤ 65535 ∧ putS h pay = ⟨(h.pack pay).toArray⟩) ∨ (putE h pay ≠ 0 ∧ putS h pay = ⟨#[]⟩ ∧ putE h pay ≤ 4) := by
  unfold putS
  by_cases hok : h.ok = true
  · by_cases hn : 65535 < h.size + pay.size
    · have e : putE h pay = 4 := by unfold putE; rw [if_pos hok, if_pos hn]
      exact Or.inr ⟨by omega, by rw [if_neg (by omega)], by omega⟩
    · have e : putE h pay = 0 := by unfold putE; rw [if_pos hok, if_neg hn]
      exact Or.inl ⟨e, (H4.ok_iff h).1 hok, by omega, by rw [if_pos e]⟩
  · have e : putE h pay = 1 := by unfold putE; rw [if_neg hok]
    exact Or.inr ⟨by omega, by rw [if_neg (by omega)], by omega⟩
theorem put_ok {h : H4} {pay : ByteArray} (hok : h.Ok) (hn : h.size + pay.size ≤ 65535) : putE h pay = 0 ∧ putS h pay = ⟨(h.pack pay).toArray⟩ := by
  have e : putE h pay = 0 := by unfold putE; rw [if_pos ((H4.ok_iff h).2 hok), if_neg (by omega)]
  exact ⟨e, by unfold putS; rw [if_pos e]⟩
theorem get_of_put {h : H4} {pay : ByteArray} (hok : h.Ok) (hn : h.size + pay.size ≤ 65535) : getE ⟨(h.pack pay).toArray⟩ = 0 ∧ getH ⟨(h.pack pay).toArray⟩ = h ∧ getS ⟨(h.pack pay).toArray⟩ = pay := by
  obtain ⟨g, hh, hz, hp, _⟩ := put_get h pay hok hn
  have e := getE_zero.2 g
  refine ⟨e, by unfold getH; rw [if_pos e, hh], ?_⟩
  unfold getS
  rw [if_pos e, hz, hp]
/-- Of a packet that was put: what is got of it. -/
structure Sent (h : H4) (pay P : ByteArray) : Prop where
  ok : h.Ok
  fit : h.size + pay.size ≤ 65535
  is : P = ⟨(h.pack pay).toArray⟩
  ge : getE P = 0
  gh : getH P = h
  gs : getS P = pay
  size : P.size = h.size + pay.size
theorem sent_of {h : H4} {pay : ByteArray} (hok : h.Ok) (hn : h.size + pay.size ≤ 65535) : Sent h pay (putS h pay) := by
  have hs := (put_ok hok hn).2
  have hg := get_of_put hok hn
  have hz := (put_get h pay hok hn).2.2.2.2
  rw [hs]
  exact ⟨hok, hn, rfl, hg.1, hg.2.1, hg.2.2, hz⟩
theorem put_cases (h : H4) (pay : ByteArray) : (putE h pay = 0 ∧ Sent h pay (putS h pay)) ∨ (putE h pay ≠ 0 ∧ putS h pay = ⟨#[]⟩) := by
  rcases put_told h pay with ⟨e, hok, hn, _⟩ | ⟨e, hs, _⟩
  · exact Or.inl ⟨e, sent_of hok hn⟩
  · exact Or.inr ⟨e, hs⟩
theorem get_err {p : ByteArray} (h : getE p ≠ 0) : getH p = H4.zero ∧ getS p = ⟨#[]⟩ := by
  unfold getH getS
  rw [if_neg h, if_neg h]
  exact ⟨rfl, rfl⟩

end Go.Proofs.Ytoijomdgcgbpbaa
