/-
  What one more piece makes of a table, plain: it stays a table.
-/
import Derived.Test.YtoijomdgcgbpbaaReasmRefuse
import Derived.Test.YtoijomdgcgbpbaaReasmWhole
namespace Go.Proofs.Ytoijomdgcgbpbaa
open Go.RowKit
set_option linter.unusedVariables false

theorem old16_key (l : List E16) (k : K16) : (old16 l k).k = k := by
  unfold old16
  by_cases h : find16 l k < l.length
  · have := List.findIdx_getElem (p := fun e : E16 => decide (e.k = k)) (w := h)
    have e1 : l.getD (find16 l k) (E16.new k) = l[find16 l k]'h := by
      rw [List.getD_eq_getElem?_getD, List.getElem?_eq_getElem h, Option.getD_some]
    rw [e1]
    exact of_decide_eq_true this
  · rw [List.getD_eq_getElem?_getD, List.getElem?_eq_none (by omega)]
    rfl
theorem find16_le (l : List E16) (k : K16) : find16 l k ≤ l.length := List.findIdx_le_length

/-- What is said by no error. -/
structure Yes16 (E B : Nat) (l : List E16) (k : K16) (x : P16) : Prop where
  may : x.mayBe = true
  open' : (old16 l k).done = false
  new : (old16 l k).qs.any (alike16 x) = false
  fits : (old16 l k).qs.any (clash16 x) = false
  room : find16 l k = l.length → l.length + 1 ≤ E
  bytes : bytes16 l + x.s.size ≤ B
theorem yes16 {E B L : Nat} {l : List E16} (t : Tab16 E B L l) {k : K16} {x : P16} (h : no16 E B l k x = 0) : Yes16 E B l k x := by
  have hg := (old16_ent t k).good
  unfold no16 at h
  split at h
  · cases h
  · rename_i h1
    split at h
    · cases h
    · rename_i h2
      split at h
      · cases h
      · rename_i h3
        split at h
        · cases h
        · rename_i h4
          split at h
          · cases h
          · rename_i h5
            rw [near16_has hg] at h3
            rw [near16_fits hg] at h4
            have := t.len
            refine ⟨by simpa using h1, by simpa using h2, by simpa using h3, by simpa using h4, fun e => ?_, by omega⟩
            by_cases h6 : l.length = E
            · exact absurd (Or.inl ⟨e, h6⟩) h5
            · omega
/-- A piece without bytes stands alone, and is all. -/
theorem Yes16.bare {E B L : Nat} {l : List E16} (t : Tab16 E B L l) {k : K16} {x : P16} (h : Yes16 E B l k x) (hx : x.s.size = 0) : (old16 l k).qs = [] ∧ x.lo = 0 ∧ x.last = true := by
  have hm := h.may
  unfold P16.mayBe at hm
  have hl : x.last = true ∧ x.lo = 0 := by
    split at hm
    · cases hm
    · split at hm
      · rw [Bool.and_eq_true] at hm
        have := of_decide_eq_true hm.2
        omega
      · rename_i h2
        rw [Bool.or_eq_true] at hm
        refine ⟨by simpa using h2, ?_⟩
        rcases hm with hm | hm
        · exact of_decide_eq_true hm
        · have := of_decide_eq_true hm; omega
  refine ⟨?_, hl.2, hl.1⟩
  rw [List.eq_nil_iff_forall_not_mem]
  intro y hy
  have hc := h.fits
  rw [List.any_eq_false] at hc
  refine hc y hy ((clash16_iff _ _).2 (Or.inr (Or.inr (Or.inl ⟨hl.1, ?_⟩))))
  have := (old16_ent t k).good.some y hy
  have := hl.2
  unfold P16.hi
  omega
theorem Yes16.hi {E B : Nat} {l : List E16} {k : K16} {x : P16} (h : Yes16 E B l k x) : x.hi ≤ 65515 := by
  have hm := h.may
  unfold P16.mayBe at hm
  split at hm
  · cases hm
  · omega
theorem Yes16.few {E B L : Nat} {l : List E16} (t : Tab16 E B L l) {k : K16} {x : P16} (h : Yes16 E B l k x) : Few16 (ins16 x (old16 l k).qs) := by
  by_cases hx : x.s.size = 0
  · rw [(h.bare t hx).1]
    have e : ins16 x [] = [x] := rfl
    rw [e]
    have h1 := (h.bare t hx).2.1
    refine ⟨⟨by simp [sum16]; omega, by simp⟩, fun y hy => ?_⟩
    rw [List.mem_singleton.1 hy]
    exact ⟨by omega, by omega⟩
  · exact ((old16_ent t k).good.ins (by omega) h.hi h.fits).fewer
theorem Yes16.whole {E B L : Nat} {l : List E16} (t : Tab16 E B L l) {k : K16} {x : P16} (h : Yes16 E B l k x) (hx : x.s.size = 0) : whole16 (ins16 x (old16 l k).qs) = true := by
  have ⟨a, b, c⟩ := h.bare t hx
  rw [a]
  have e : ins16 x [] = [x] := rfl
  rw [e]
  simp [whole16, sum16, P16.hi, b, c]

theorem bytes16_append (a b : List E16) : bytes16 (a ++ b) = bytes16 a + bytes16 b := by simp [bytes16]
theorem bytes16_cons (e : E16) (b : List E16) : bytes16 (e :: b) = sum16 e.qs + bytes16 b := by simp [bytes16]
theorem old16_at {l : List E16} {k : K16} (h : find16 l k < l.length) : old16 l k = l[find16 l k]'h := by
  unfold old16
  rw [List.getD_eq_getElem?_getD, List.getElem?_eq_getElem h, Option.getD_some]
theorem old16_none {l : List E16} {k : K16} (h : ¬ find16 l k < l.length) : old16 l k = E16.new k := by
  unfold old16
  rw [List.getD_eq_getElem?_getD, List.getElem?_eq_none (by omega)]
  rfl
theorem upd16_bytes (l : List E16) (k : K16) (e : E16) : bytes16 (upd16 l (find16 l k) e) + sum16 (old16 l k).qs = bytes16 l + sum16 e.qs := by
  unfold upd16
  rw [bytes16_append, bytes16_cons]
  by_cases h : find16 l k < l.length
  · have e1 : bytes16 l = bytes16 (l.take (find16 l k)) + (sum16 (l[find16 l k]'h).qs + bytes16 (l.drop (find16 l k + 1))) := by
      rw [← bytes16_cons, ← List.drop_eq_getElem_cons, ← bytes16_append, List.take_append_drop]
    rw [e1, old16_at h]
    omega
  · rw [old16_none h, List.take_of_length_le (by omega), List.drop_of_length_le (by omega)]
    simp [E16.new, sum16, bytes16]
theorem upd16_mem {l : List E16} {i : Nat} {e x : E16} (h : x ∈ upd16 l i e) : x = e ∨ x ∈ l := by
  unfold upd16 at h
  rw [List.mem_append, List.mem_cons] at h
  rcases h with h | h | h
  · exact Or.inr (List.mem_of_mem_take h)
  · exact Or.inl h
  · exact Or.inr (List.mem_of_mem_drop h)
theorem upd16_length (l : List E16) (k : K16) (e : E16) : (upd16 l (find16 l k) e).length = if find16 l k = l.length then l.length + 1 else l.length := by
  have := find16_le l k
  unfold upd16
  rw [List.length_append, List.length_cons, List.length_take, List.length_drop]
  split <;> omega
theorem find16_before {l : List E16} {k : K16} {j : Nat} (h : j < find16 l k) (hj : j < l.length) : (l[j]'hj).k ≠ k := by
  have e := List.not_of_lt_findIdx (p := fun y : E16 => decide (y.k = k)) (xs := l) (i := j) h
  simpa using e
/-- One entry is another. -/
theorem Tab16.upd {E B L : Nat} {l : List E16} (t : Tab16 E B L l) {k : K16} {e : E16} (hk : e.k = k) (he : Ent16 L e) (hr : find16 l k = l.length → l.length + 1 ≤ E) (hb : bytes16 l + sum16 e.qs ≤ B + sum16 (old16 l k).qs) : Tab16 E B L (upd16 l (find16 l k) e) := by
  have h1 := upd16_bytes l k e
  refine ⟨t.store, ?_, by omega, ?_, fun x hx => ?_⟩
  · rw [upd16_length]
    have := t.len
    split
    · rename_i h; exact hr h
    · omega
  · have hp := t.keys
    unfold upd16
    by_cases h : find16 l k < l.length
    · have hat := old16_key l k
      rw [old16_at h] at hat
      rw [← List.take_append_drop (find16 l k) l, List.drop_eq_getElem_cons h, List.pairwise_append, List.pairwise_cons] at hp
      rw [List.pairwise_append, List.pairwise_cons]
      refine ⟨hp.1, ⟨fun y hy => ?_, hp.2.1.2⟩, fun a ha b hb => ?_⟩
      · have := hp.2.1.1 y hy
        rw [hk, ← hat]
        exact this
      · rcases List.mem_cons.1 hb with rfl | hb
        · have := hp.2.2 a ha _ (List.mem_cons_self ..)
          rw [hat] at this
          rw [hk]
          exact this
        · exact hp.2.2 a ha b (List.mem_cons_of_mem _ hb)
    · rw [List.take_of_length_le (by omega), List.drop_of_length_le (by omega), List.pairwise_append]
      refine ⟨hp, List.pairwise_singleton _ _, fun a ha b hb => ?_⟩
      rw [List.mem_singleton.1 hb, hk]
      obtain ⟨j, hj, rfl⟩ := List.getElem_of_mem ha
      exact find16_before (by omega) hj
  · rcases upd16_mem hx with rfl | hx
    · exact he
    · exact t.each x hx

/-- What Get says of a packet. -/
theorem Yes16.ent {E B L : Nat} {l : List E16} (t : Tab16 E B L l) {h : H4} {s : ByteArray} (hok : h.Ok) (y : Yes16 E B l h.key (piece16 h s)) (hs : 0 < s.size) : Ent16 L ((old16 l h.key).put h (piece16 h s)) := by
  have e := old16_ent t h.key
  have hkk := old16_key l h.key
  have hoff := hok.off
  refine ⟨e.good.ins hs y.hi y.fits, e.age, fun hd => ?_, ?_, fun z hz h0 => ?_⟩
  · have := y.open'
    unfold E16.put at hd
    rw [this] at hd
    cases hd
  · by_cases h0 : (piece16 h s).lo = 0
    · right; unfold E16.put; rw [if_pos h0]; exact hok
    · unfold E16.put; rw [if_neg h0]; exact e.hd
  · have kk : ((old16 l h.key).put h (piece16 h s)).k = h.key := hkk
    rw [kk]
    by_cases hx : (piece16 h s).lo = 0
    · have e2 : ((old16 l h.key).put h (piece16 h s)).hd = h := by unfold E16.put; rw [if_pos hx]
      rw [e2]
      refine ⟨hok, ?_, rfl⟩
      have : 8 * h.off.toNat = 0 := hx
      omega
    · have e2 : ((old16 l h.key).put h (piece16 h s)).hd = (old16 l h.key).hd := by unfold E16.put; rw [if_neg hx]
      rw [e2]
      rcases ins16_mem.1 hz with rfl | hz
      · exact absurd h0 hx
      · have := e.first z hz h0
        rw [hkk] at this
        exact this
theorem Yes16.tab {E B L : Nat} {l : List E16} (t : Tab16 E B L l) {h : H4} {s : ByteArray} (hok : h.Ok) (y : Yes16 E B l h.key (piece16 h s)) (hw : whole16 (ins16 (piece16 h s) (old16 l h.key).qs) = false) : Tab16 E B L (upd16 l (find16 l h.key) ((old16 l h.key).put h (piece16 h s))) := by
  have hs : 0 < s.size := by
    rcases Nat.eq_zero_or_pos s.size with h0 | h0
    · rw [y.whole t h0] at hw; cases hw
    · exact h0
  refine t.upd (old16_key l h.key) (y.ent t hok hs) y.room ?_
  have e : sum16 ((old16 l h.key).put h (piece16 h s)).qs = sum16 (old16 l h.key).qs + s.size := ins16_sum _ _
  have hb : bytes16 l + s.size ≤ B := y.bytes
  omega
theorem Ent16.over' {L : Nat} {e : E16} (h : Ent16 L e) : Ent16 L e.over :=
  ⟨⟨List.Pairwise.nil, fun _ h => absurd h (by simp [E16.over]), fun _ h => absurd h (by simp [E16.over])⟩, h.age, fun _ => rfl, Or.inl rfl, fun _ h => absurd h (by simp [E16.over])⟩
theorem Yes16.tabOver {E B L : Nat} {l : List E16} (t : Tab16 E B L l) {h : H4} {s : ByteArray} (y : Yes16 E B l h.key (piece16 h s)) : Tab16 E B L (upd16 l (find16 l h.key) ((old16 l h.key).put h (piece16 h s)).over) := by
  refine t.upd (old16_key l h.key) (e := ((old16 l h.key).put h (piece16 h s)).over) ?_ y.room ?_
  · exact (old16_ent t h.key).over'
  · have e : sum16 ((old16 l h.key).put h (piece16 h s)).over.qs = 0 := rfl
    have := t.bytes
    omega

end Go.Proofs.Ytoijomdgcgbpbaa
