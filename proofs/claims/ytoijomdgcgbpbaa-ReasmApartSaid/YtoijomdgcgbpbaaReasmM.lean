/-
  A packet's pieces added in any order, any of them often: it is made just once. Plain.
-/
import Derived.Test.YtoijomdgcgbpbaaReasmL
namespace Go.Proofs.Ytoijomdgcgbpbaa
open Go.RowKit
set_option linter.unusedVariables false

/-- What a table with much room says while the pieces T of the packet P are added: St tells which came, whether the packet is made, and the entries. -/
structure Ring16 (P : ByteArray) (T : List ByteArray) (St : List Nat → Bool → List E16 → Prop) : Prop where
  start : St [] false []
  step : ∀ js d l i (hi : i < T.length), Tab16 64 1048576 64 l → St js d l → ∃ q f l' d', add16 64 1048576 l (T[i]'hi) = ((q, f), l') ∧ St (i :: js) d' l' ∧ ((f = 10 ∧ d = false ∧ d' = false) ∨ (f = 0 ∧ q = P ∧ d = false ∧ d' = true) ∨ (f = 12 ∧ d = true ∧ d' = true))
  all : ∀ js d l, St js d l → (∀ i, i < T.length → i ∈ js) → d = true
  over : ∀ js l, St js true l → bytes16 l = 0 ∧ open16 l = 0 ∧ l.length = 1
  size : ∀ (i : Nat) (hi : i < T.length), (T[i]'hi).size ≤ 65535
  some : 0 < T.length

theorem old16_one {e : E16} {k : K16} (hk : e.k = k) : old16 [e] k = e := by
  unfold old16 find16
  rw [List.findIdx_cons, hk]
  simp
/-- A packet that is made, in a table. -/
structure Over16 (k : K16) (l : List E16) : Prop where
  is : ∃ e, l = [e] ∧ e.k = k ∧ e.done = true ∧ e.qs = []
theorem Over16.old {k : K16} {l : List E16} (h : Over16 k l) : (old16 l k).done = true := by
  obtain ⟨e, rfl, hk, hd, _⟩ := h.is
  rw [old16_one hk]
  exact hd
theorem Over16.told {k : K16} {l : List E16} (h : Over16 k l) : bytes16 l = 0 ∧ open16 l = 0 ∧ l.length = 1 := by
  obtain ⟨e, rfl, hk, hd, hq⟩ := h.is
  exact ⟨by simp [bytes16, hq, sum16], by simp [open16, hd], rfl⟩

/-- Where the payload has bytes. -/
def Some16 (h : H4) (S : ByteArray) (n : Nat) (pos : Nat → Nat) (js : List Nat) (d : Bool) (l : List E16) : Prop :=
  (d = false ∧ ∃ ks, One16 h S n pos ks l ∧ (∃ k, k < n ∧ k ∉ ks) ∧ ∀ j ∈ js, j ∈ ks) ∨ (d = true ∧ Over16 h.key l)
theorem ring16_some {h : H4} {S P : ByteArray} {T : List ByteArray} {pos : Nat → Nat} (o : Lot16 h S P T pos) : Ring16 P T (Some16 h S T.length pos) := by
  have h0 := o.cut.any
  refine ⟨Or.inl ⟨rfl, [], One16.nil h S T.length pos, ⟨0, h0, List.not_mem_nil⟩, fun _ hj => hj⟩, ?_, ?_, ?_, o.size, h0⟩
  · rintro js d l i hi t (⟨rfl, ks, q, ⟨k, hk, hkn⟩, hs⟩ | ⟨rfl, hov⟩)
    · by_cases hin : i ∈ ks
      · exact ⟨_, 10, l, false, add_twice16 t o.cut q.old hin (o.is i hi), Or.inl ⟨rfl, ks, q, ⟨k, hk, hkn⟩, fun j hj => by
          rcases List.mem_cons.1 hj with rfl | hj
          · exact hin
          · exact hs j hj⟩, Or.inl ⟨rfl, rfl, rfl⟩⟩
      · have ⟨a1, a2⟩ := q.add t (by omega) o.cut hi hin (o.is i hi)
        by_cases hw : ∃ k, k < T.length ∧ k ∉ insN i ks
        · obtain ⟨l', e, q'⟩ := a1 hw
          exact ⟨_, 10, l', false, e, Or.inl ⟨rfl, _, q', hw, fun j hj => by
            rcases List.mem_cons.1 hj with rfl | hj
            · exact insN_mem.2 (Or.inl rfl)
            · exact insN_mem.2 (Or.inr (hs j hj))⟩, Or.inl ⟨rfl, rfl, rfl⟩⟩
        · obtain ⟨e, he, hk, hd, hq, _⟩ := a2 (fun k hk => by
            rcases Classical.em (k ∈ insN i ks) with h | h
            · exact h
            · exact absurd ⟨k, hk, h⟩ hw)
          rw [o.made, o.ok] at he
          exact ⟨_, 0, [e], true, he, Or.inr ⟨rfl, ⟨e, rfl, hk, hd, hq⟩⟩, Or.inr (Or.inl ⟨rfl, rfl, rfl, rfl⟩)⟩
    · exact ⟨_, 12, l, true, add_done16 o.cut hov.old hi (o.is i hi), Or.inr ⟨rfl, hov⟩, Or.inr (Or.inr ⟨rfl, rfl, rfl⟩)⟩
  · rintro js d l (⟨rfl, ks, q, ⟨k, hk, hkn⟩, hs⟩ | ⟨rfl, hov⟩) ha
    · exact absurd (hs k (ha k hk)) hkn
    · rfl
  · rintro js l (⟨hd, _⟩ | ⟨_, hov⟩)
    · cases hd
    · exact hov.told

/-- Where it has none. -/
def None16 (k : K16) (js : List Nat) (d : Bool) (l : List E16) : Prop := (d = false ∧ js = [] ∧ l = []) ∨ (d = true ∧ Over16 k l)
theorem ring16_none {h : H4} {S P : ByteArray} (sent : Sent h S P) (hP : P = putS h S) (hoff : h.off = 0) (hmf : h.mf = false) (hs : S.size = 0) : Ring16 P [P] (None16 h.key) := by
  have hwh : h.whole = h := by
    obtain ⟨_, _, _, _, _, _, _, _, _, _⟩ := h
    simp only at hmf
    subst hmf
    rfl
  have hSe : S = ⟨#[]⟩ := by
    apply text_ext
    have : S.data.toList.length = 0 := by rw [Array.length_toList]; exact hs
    rw [List.eq_nil_of_length_eq_zero this]
  have hz : piece16 (getH P) (getS P) = ⟨0, S, true⟩ := by
    rw [sent.gh, sent.gs]
    unfold piece16
    rw [hoff, hmf]
    rfl
  have hmay : (⟨0, S, true⟩ : P16).mayBe = true := by
    unfold P16.mayBe P16.hi
    dsimp only
    rw [if_neg (by omega)]
    simp
  refine ⟨Or.inl ⟨rfl, rfl, rfl⟩, ?_, ?_, ?_, ?_, by simp⟩
  · rintro js d l i hi t hst
    have e0 : [P][i]'hi = P := by simp
    rw [e0, add16_of sent.ge (by rw [sent.gh]) hz]
    rcases hst with ⟨rfl, rfl, rfl⟩ | ⟨rfl, hov⟩
    · have hno : no16 64 1048576 [] h.key ⟨0, S, true⟩ = 0 := by
        unfold no16
        rw [hmay]
        simp [old16, find16, E16.new, near16, bytes16, hs]
      rw [hno, if_neg (by omega)]
      have hqs : ins16 ⟨0, S, true⟩ ([] : List P16) = [⟨0, S, true⟩] := rfl
      have hput : (old16 [] h.key).put (getH P) ⟨0, S, true⟩ = ⟨h.key, h, [⟨0, S, true⟩], 0, false⟩ := by
        rw [sent.gh]
        rfl
      have hcat : cat16 [(⟨0, S, true⟩ : P16)] = S := by
        rw [hSe]
        rfl
      refine ⟨P, 0, [(⟨h.key, h, [⟨0, S, true⟩], 0, false⟩ : E16).over], true, ?_, Or.inr ⟨rfl, ⟨_, rfl, rfl, rfl, rfl⟩⟩, Or.inr (Or.inl ⟨rfl, rfl, rfl, rfl⟩)⟩
      unfold made16
      have hk : (getH P).key = h.key := by rw [sent.gh]
      rw [hk]
      dsimp only
      rw [hput]
      dsimp only
      rw [if_pos (by simp [whole16, P16.hi, sum16]), hcat, hwh, (put_ok sent.ok sent.fit).1, ← hP]
      rfl
    · refine ⟨⟨#[]⟩, 12, l, true, ?_, Or.inr ⟨rfl, hov⟩, Or.inr (Or.inr ⟨rfl, rfl, rfl⟩)⟩
      have hno : no16 64 1048576 l h.key ⟨0, S, true⟩ = 12 := by
        unfold no16
        rw [if_neg (by rw [hmay]; simp), if_pos hov.old]
      rw [hno, if_pos (by omega)]
  · rintro js d l (⟨rfl, rfl, rfl⟩ | ⟨rfl, hov⟩) ha
    · have := ha 0 (by simp)
      cases this
    · rfl
  · rintro js l (⟨hd, _⟩ | ⟨_, hov⟩)
    · cases hd
    · exact hov.told
  · intro i hi
    have e0 : [P][i]'hi = P := by simp
    rw [e0, sent.size]
    exact sent.fit
/-- .. then the packet is cut in one. -/
theorem none16_cut {h : H4} {S P : ByteArray} {m : Int} (sent : Sent h S P) (hs : S.size = 0) (hc : cutE P m = 0) : cutL P m = [P] := by
  by_cases h2 : (P.size : Int) ≤ m
  · exact cutL_small hc h2
  · have ⟨h8, hl⟩ := count15 hc h2
    have h0 := cutL_pos hc
    rw [sent.gs, hs, Nat.zero_add, Nat.div_eq_of_lt (by omega)] at hl
    omega
theorem ring16 {h : H4} {S P : ByteArray} {m : Int} (sent : Sent h S P) (hP : P = putS h S) (hoff : h.off = 0) (hmf : h.mf = false) (hc : cutE P m = 0) : ∃ St, Ring16 P (cutL P m) St := by
  by_cases hs : S.size = 0
  · rw [none16_cut sent hs hc]
    exact ⟨_, ring16_none sent hP hoff hmf hs⟩
  · exact ⟨_, ring16_some (lot16 sent hP hoff hmf hc (by omega))⟩

end Go.Proofs.Ytoijomdgcgbpbaa

/-
  Pieces of two packets of unlike keys, mixed: both are made. Plain.
-/
namespace Go.Proofs.Ytoijomdgcgbpbaa
open Go.RowKit
set_option linter.unusedVariables false

theorem old16_find (l : List E16) (k : K16) : old16 l k = (l.find? fun e => decide (e.k = k)).getD (E16.new k) := by
  induction l with
  | nil => rfl
  | cons a r ih =>
    unfold old16 find16 at *
    by_cases h : a.k = k
    · simp [List.findIdx_cons, h]
    · simp only [List.findIdx_cons, List.find?_cons, h, decide_false, cond_false, List.getD_cons_succ]
      exact ih
theorem find16_take (l : List E16) (k : K16) : (l.take (find16 l k)).find? (fun e => decide (e.k = k)) = none := by
  rw [List.find?_eq_none]
  intro e he
  obtain ⟨j, hj, rfl⟩ := List.getElem_of_mem he
  have h1 : j < find16 l k := by simp at hj; omega
  have h2 : j < l.length := by simp at hj; omega
  have := find16_before h1 h2
  rw [List.getElem_take]
  simpa using this
theorem upd16_same {l : List E16} {k : K16} {e : E16} (hk : e.k = k) : old16 (upd16 l (find16 l k) e) k = e := by
  rw [old16_find]
  unfold upd16
  rw [List.find?_append, find16_take, List.find?_cons_of_pos (p := fun e : E16 => decide (e.k = k)) (by simpa using hk)]
  rfl
theorem upd16_other {l : List E16} {k k' : K16} {e : E16} (hk : e.k = k) (hne : k ≠ k') : old16 (upd16 l (find16 l k) e) k' = old16 l k' := by
  rw [old16_find, old16_find]
  congr 1
  have h1 : ¬ (decide (e.k = k') = true) := by rw [hk]; simpa using hne
  unfold upd16
  rw [List.find?_append, List.find?_cons_of_neg (p := fun e : E16 => decide (e.k = k')) h1]
  by_cases h : find16 l k < l.length
  · have hat := old16_key l k
    rw [old16_at h] at hat
    have h2 : ¬ (decide ((l[find16 l k]'h).k = k') = true) := by rw [hat]; simpa using hne
    conv => rhs; rw [← List.take_append_drop (find16 l k) l, List.drop_eq_getElem_cons h, List.find?_append, List.find?_cons_of_neg (p := fun e : E16 => decide (e.k = k')) h2]
  · rw [List.drop_of_length_le (by omega), List.take_of_length_le (by omega)]
    simp

/-- What a table with room says while the pieces T of the packet P, whose key is k, are added in their order: St tells the key's entry behind i of them; pos counts their bytes. -/
structure Side16 (k : K16) (P : ByteArray) (T : List ByteArray) (pos : Nat → Nat) (St : Nat → E16 → Prop) : Prop where
  start : St 0 (E16.new k)
  step : ∀ l i (hi : i < T.length), Tab16 64 1048576 64 l → St i (old16 l k) → (find16 l k = l.length → l.length + 1 ≤ 64) → bytes16 l + (pos (i + 1) - pos i) ≤ 1048576 →
    ∃ e', e'.k = k ∧ sum16 e'.qs ≤ sum16 (old16 l k).qs + (pos (i + 1) - pos i) ∧
      ((i + 1 < T.length ∧ St (i + 1) e' ∧ add16 64 1048576 l (T[i]'hi) = ((⟨#[]⟩, 10), upd16 l (find16 l k) e')) ∨ (i + 1 = T.length ∧ add16 64 1048576 l (T[i]'hi) = ((P, 0), upd16 l (find16 l k) e')))
  up : ∀ i, i < T.length → pos i ≤ pos (i + 1)
  top : ∀ i, i ≤ T.length → pos i ≤ 65535
  size : ∀ (i : Nat) (hi : i < T.length), (T[i]'hi).size ≤ 65535
  some : 0 < T.length

theorem side16_some {h : H4} {S P : ByteArray} {T : List ByteArray} {pos : Nat → Nat} (o : Lot16 h S P T pos) : ∃ St, Side16 h.key P T pos St := by
  have c := o.cut
  refine ⟨fun i e => ∃ js, (∀ j, j ∈ js ↔ j < i) ∧ Hold16 h S T.length pos js e, ⟨[], fun j => by simp, Hold16.new h S T.length pos h.key⟩, ?_, fun i hi => Nat.le_of_lt (c.up i hi), fun i hi => ?_, o.size, c.any⟩
  · rintro l i hi t ⟨js, hjs, ho⟩ hroom hb
    have hn : i ∉ js := fun e => by have := (hjs i).1 e; omega
    have ⟨a, b, d⟩ := add_new16 t c ho hi hn (o.is i hi) hroom hb
    have hmem : ∀ j, j ∈ insN i js ↔ j < i + 1 := fun j => by
      rw [insN_mem, hjs j]
      omega
    have hsum : sum16 ((old16 l h.key).put (getH (T[i]'hi)) (pc16 S T.length pos i)).qs = sum16 (old16 l h.key).qs + (pos (i + 1) - pos i) := by
      have := ins16_sum (pc16 S T.length pos i) (old16 l h.key).qs
      rw [c.size hi] at this
      exact this
    by_cases hl : i + 1 < T.length
    · exact ⟨(old16 l h.key).put (getH (T[i]'hi)) (pc16 S T.length pos i), old16_key l h.key, Nat.le_of_eq hsum, Or.inl ⟨hl, ⟨_, hmem, a⟩, b ⟨i + 1, hl, fun e => by have := (hmem _).1 e; omega⟩⟩⟩
    · have hl' : i + 1 = T.length := by omega
      have d' := d (fun k hk => (hmem k).2 (by omega))
      rw [o.made, o.ok] at d'
      exact ⟨((old16 l h.key).put (getH (T[i]'hi)) (pc16 S T.length pos i)).over, old16_key l h.key, Nat.zero_le _, Or.inr ⟨hl', d'⟩⟩
  · have h1 := c.mono hi (Nat.le_refl _)
    have h2 := c.last
    have h3 := c.le
    omega
theorem side16_none {h : H4} {S P : ByteArray} (sent : Sent h S P) (hP : P = putS h S) (hoff : h.off = 0) (hmf : h.mf = false) (hs : S.size = 0) : ∃ St, Side16 h.key P [P] (fun _ => 0) St := by
  have hwh : h.whole = h := by
    obtain ⟨_, _, _, _, _, _, _, _, _, _⟩ := h
    simp only at hmf
    subst hmf
    rfl
  have hSe : S = ⟨#[]⟩ := by
    apply text_ext
    have : S.data.toList.length = 0 := by rw [Array.length_toList]; exact hs
    rw [List.eq_nil_of_length_eq_zero this]
  have hz : piece16 (getH P) (getS P) = ⟨0, S, true⟩ := by
    rw [sent.gh, sent.gs]
    unfold piece16
    rw [hoff, hmf]
    rfl
  have hmay : (⟨0, S, true⟩ : P16).mayBe = true := by
    unfold P16.mayBe P16.hi
    dsimp only
    rw [if_neg (by omega)]
    simp
  refine ⟨fun i e => i = 0 → e = E16.new h.key ∨ (e.qs = [] ∧ e.done = false ∧ e.k = h.key), fun _ => Or.inl rfl, ?_, fun _ _ => Nat.le_refl _, fun _ _ => Nat.zero_le _, fun i hi => ?_, by simp⟩
  · rintro l i hi t hst hroom hb
    have hi0 : i = 0 := by simpa using hi
    subst hi0
    have e0 : [P][0]'hi = P := rfl
    have ho : (old16 l h.key).qs = [] ∧ (old16 l h.key).done = false := by
      rcases hst rfl with e | ⟨a, b, _⟩
      · rw [e]; exact ⟨rfl, rfl⟩
      · exact ⟨a, b⟩
    have hno : no16 64 1048576 l h.key ⟨0, S, true⟩ = 0 := by
      have hlen := t.len
      have hby := t.bytes
      unfold no16
      rw [if_neg (by rw [hmay]; simp), if_neg (by rw [ho.2]; simp), ho.1, if_neg (by simp [near16]), if_neg (by simp [near16]), if_neg]
      rw [show (⟨0, S, true⟩ : P16).s.size = 0 from hs]
      rintro (⟨h1, h2⟩ | h1)
      · have := hroom h1; omega
      · omega
    have hqs : ((old16 l h.key).put (getH P) ⟨0, S, true⟩).qs = [⟨0, S, true⟩] := by
      show ins16 _ (old16 l h.key).qs = _
      rw [ho.1]
      rfl
    have hhd : ((old16 l h.key).put (getH P) ⟨0, S, true⟩).hd = h := by
      unfold E16.put
      dsimp only
      rw [if_pos rfl, sent.gh]
    have hcat : cat16 [(⟨0, S, true⟩ : P16)] = S := by
      rw [hSe]
      rfl
    refine ⟨((old16 l h.key).put (getH P) ⟨0, S, true⟩).over, old16_key l h.key, Nat.zero_le _, Or.inr ⟨rfl, ?_⟩⟩
    rw [e0, add16_of sent.ge (by rw [sent.gh]) hz, hno, if_neg (by omega)]
    unfold made16
    have hk : (getH P).key = h.key := by rw [sent.gh]
    rw [hk]
    dsimp only
    rw [hqs, hhd, if_pos (by simp [whole16, P16.hi, sum16]), hcat, hwh, (put_ok sent.ok sent.fit).1, ← hP]
  · have hi0 : i = 0 := by simpa using hi
    subst hi0
    show P.size ≤ _
    rw [sent.size]
    exact sent.fit
theorem side16 {h : H4} {S P : ByteArray} {m : Int} (sent : Sent h S P) (hP : P = putS h S) (hoff : h.off = 0) (hmf : h.mf = false) (hc : cutE P m = 0) : ∃ pos St, Side16 h.key P (cutL P m) pos St := by
  by_cases hs : S.size = 0
  · rw [none16_cut sent hs hc]
    obtain ⟨St, q⟩ := side16_none sent hP hoff hmf hs
    exact ⟨_, St, q⟩
  · obtain ⟨St, q⟩ := side16_some (lot16 sent hP hoff hmf hc (by omega))
    exact ⟨_, St, q⟩

/-- A table with i pieces of one and j of the other. -/
structure Mix16 (k1 k2 : K16) (T1 T2 : List ByteArray) (p1 p2 : Nat → Nat) (S1 S2 : Nat → E16 → Prop) (i j : Nat) (l : List E16) : Prop where
  a : i < T1.length → S1 i (old16 l k1)
  b : j < T2.length → S2 j (old16 l k2)
  keys : ∀ e ∈ l, e.k = k1 ∨ e.k = k2
  bytes : bytes16 l ≤ p1 i + p2 j
theorem Mix16.start {k1 k2 : K16} {P1 P2 : ByteArray} {T1 T2 : List ByteArray} {p1 p2 : Nat → Nat} {S1 S2 : Nat → E16 → Prop} (s1 : Side16 k1 P1 T1 p1 S1) (s2 : Side16 k2 P2 T2 p2 S2) : Mix16 k1 k2 T1 T2 p1 p2 S1 S2 0 0 [] :=
  ⟨fun _ => s1.start, fun _ => s2.start, fun _ h => (List.not_mem_nil h).elim, Nat.zero_le _⟩
theorem Mix16.turn {k1 k2 : K16} {T1 T2 : List ByteArray} {p1 p2 : Nat → Nat} {S1 S2 : Nat → E16 → Prop} {i j : Nat} {l : List E16} (t : Mix16 k1 k2 T1 T2 p1 p2 S1 S2 i j l) : Mix16 k2 k1 T2 T1 p2 p1 S2 S1 j i l :=
  ⟨t.b, t.a, fun e he => (t.keys e he).symm, by have := t.bytes; omega⟩
/-- Few keys, few entries. -/
theorem few_keys {k1 k2 : K16} {l : List E16} (hp : l.Pairwise fun a b => a.k ≠ b.k) (h : ∀ e ∈ l, e.k = k1 ∨ e.k = k2) : l.length ≤ 2 := by
  match l, hp, h with
  | [], _, _ => exact Nat.zero_le _
  | [_], _, _ => exact Nat.le_succ _
  | [_, _], _, _ => exact Nat.le_refl _
  | a :: b :: c :: r, hp, h =>
    exfalso
    rw [List.pairwise_cons, List.pairwise_cons] at hp
    have h1 := hp.1 b (by simp)
    have h2 := hp.1 c (by simp)
    have h3 := hp.2.1 c (by simp)
    have ha := h a (by simp)
    have hb := h b (by simp)
    have hc := h c (by simp)
    rcases ha with ha | ha <;> rcases hb with hb | hb <;> rcases hc with hc | hc <;> simp_all
theorem Mix16.step {k1 k2 : K16} (hne : k1 ≠ k2) {P1 P2 : ByteArray} {T1 T2 : List ByteArray} {p1 p2 : Nat → Nat} {S1 S2 : Nat → E16 → Prop} (s1 : Side16 k1 P1 T1 p1 S1) (s2 : Side16 k2 P2 T2 p2 S2) {i j : Nat} {l : List E16} (w : Mix16 k1 k2 T1 T2 p1 p2 S1 S2 i j l) (t : Tab16 64 1048576 64 l) (hi : i < T1.length) (hj : j ≤ T2.length) :
    ∃ q f l', add16 64 1048576 l (T1[i]'hi) = ((q, f), l') ∧ Mix16 k1 k2 T1 T2 p1 p2 S1 S2 (i + 1) j l' ∧ ((i + 1 < T1.length ∧ f = 10) ∨ (i + 1 = T1.length ∧ f = 0 ∧ q = P1)) := by
  have hl := few_keys t.keys w.keys
  have hb := w.bytes
  have h1 := s1.top i (by omega)
  have h1' := s1.top (i + 1) (by omega)
  have h2 := s2.top j hj
  have h3 := s1.up i hi
  obtain ⟨e', hk, hq, h⟩ := s1.step l i hi t (w.a hi) (fun _ => by omega) (by omega)
  have hup := upd16_bytes l k1 e'
  have hkeys : ∀ e ∈ upd16 l (find16 l k1) e', e.k = k1 ∨ e.k = k2 := fun e he => by
    rcases upd16_mem he with rfl | he
    · exact Or.inl hk
    · exact w.keys e he
  have hby : bytes16 (upd16 l (find16 l k1) e') ≤ p1 (i + 1) + p2 j := by omega
  rcases h with ⟨hlt, hst, ha⟩ | ⟨hle, ha⟩
  · exact ⟨_, _, _, ha, ⟨fun _ => by rw [upd16_same hk]; exact hst, fun h => by rw [upd16_other hk hne]; exact w.b h, hkeys, hby⟩, Or.inl ⟨hlt, rfl⟩⟩
  · exact ⟨_, _, _, ha, ⟨fun h => by omega, fun h => by rw [upd16_other hk hne]; exact w.b h, hkeys, hby⟩, Or.inr ⟨hle, rfl, rfl⟩⟩

end Go.Proofs.Ytoijomdgcgbpbaa
