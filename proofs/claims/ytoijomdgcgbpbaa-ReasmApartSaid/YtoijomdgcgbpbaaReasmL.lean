/-
  What ReasmBounds asks, plain: what an Add that isn't taken leaves, when its answer is empty, what ticks leave.
-/
import Derived.Test.YtoijomdgcgbpbaaReasmMade
namespace Go.Proofs.Ytoijomdgcgbpbaa
open Go.RowKit
set_option linter.unusedVariables false

theorem putS_empty {h : H4} {s : ByteArray} : putS h s = ⟨#[]⟩ ↔ putE h s ≠ 0 := by
  constructor
  · intro e h0
    unfold putS at e
    rw [if_pos h0] at e
    have : (⟨(h.pack s).toArray⟩ : ByteArray).size = 0 := by rw [e]; rfl
    have h2 : (h.pack s).length = 0 := by simpa [ByteArray.size] using this
    have h3 := List.eq_nil_of_length_eq_zero h2
    simp [H4.pack, H4.head, be] at h3
  · intro h0
    unfold putS
    rw [if_neg h0]
theorem putE_cases (h : H4) (s : ByteArray) : putE h s = 0 ∨ putE h s = 4 ∨ putE h s = 1 := by
  unfold putE
  split
  · split
    · exact Or.inr (Or.inl rfl)
    · exact Or.inl rfl
  · exact Or.inr (Or.inr rfl)
theorem putE_ok {h : H4} {s : ByteArray} (hok : h.Ok) : putE h s = 0 ∨ putE h s = 4 := by
  unfold putE
  rw [if_pos ((H4.ok_iff h).2 hok)]
  split
  · exact Or.inr rfl
  · exact Or.inl rfl
theorem H4.Ok.whole {h : H4} (k : h.Ok) : h.whole.Ok := ⟨k.tos, k.ttl, k.proto, k.id, k.off, k.src, k.dst, k.opt, k.opt4⟩

/-- All pieces' bytes lie between the first's place and the last's end. -/
theorem good16_span {qs : List P16} (g : Good16 qs) : ∀ x z, qs.head? = some x → qs.getLast? = some z → x.lo + sum16 qs ≤ z.hi := by
  obtain ⟨hs, h0, ht⟩ := g
  induction qs with
  | nil => intro x z e; cases e
  | cons a r ih =>
    intro x z e1 e2
    obtain rfl : a = x := by simpa using e1
    rw [List.pairwise_cons] at hs
    have e : sum16 (a :: r) = a.s.size + sum16 r := by simp [sum16]
    cases r with
    | nil =>
      obtain rfl : a = z := by simpa using e2
      simp [sum16, P16.hi]
    | cons b t =>
      have e3 : (b :: t).getLast? = some z := by rw [← e2]; simp
      have h3 := ih hs.2 (fun y hy => h0 y (List.mem_cons_of_mem _ hy)) (fun y hy => ht y (List.mem_cons_of_mem _ hy)) b z rfl e3
      have h4 := (hs.1 b (List.mem_cons_self ..)).1
      unfold P16.hi at h4
      omega
/-- What is whole has a piece from 0 on. -/
theorem Good16.first {qs : List P16} (g : Good16 qs) (h : whole16 qs = true) : ∃ x ∈ qs, x.lo = 0 := by
  cases qs with
  | nil => cases h
  | cons a r =>
    unfold whole16 at h
    cases e : (a :: r).getLast? with
    | none => simp at e
    | some z =>
      rw [e] at h
      dsimp only at h
      rw [Bool.and_eq_true] at h
      have h1 := of_decide_eq_true h.2
      have h2 := good16_span g a z rfl e
      exact ⟨a, List.mem_cons_self .., by omega⟩
/-- The header of what is whole may be. -/
theorem Yes16.head {E B L : Nat} {l : List E16} (t : Tab16 E B L l) {h : H4} {s : ByteArray} (hok : h.Ok) (y : Yes16 E B l h.key (piece16 h s)) (hw : whole16 (ins16 (piece16 h s) (old16 l h.key).qs) = true) :
    ((old16 l h.key).put h (piece16 h s)).hd.Ok ∧ ((old16 l h.key).put h (piece16 h s)).hd.off = 0 ∧ ((old16 l h.key).put h (piece16 h s)).hd.key = h.key := by
  rcases Nat.eq_zero_or_pos s.size with h0 | h0
  · have hb := (y.bare t h0).2.1
    have e2 : ((old16 l h.key).put h (piece16 h s)).hd = h := by unfold E16.put; rw [if_pos hb]
    rw [e2]
    have : 8 * h.off.toNat = 0 := hb
    have := hok.off
    exact ⟨hok, by omega, rfl⟩
  · have ee := y.ent t hok h0
    obtain ⟨x, hx, hx0⟩ := ee.good.first hw
    have := ee.first x hx hx0
    rw [show ((old16 l h.key).put h (piece16 h s)).k = h.key from old16_key l h.key] at this
    exact this

/-- What an Add says. -/
structure Says16 (E B : Nat) (l : List E16) (p : ByteArray) : Prop where
  full : (add16 E B l p).1.2 = 0 ↔ (add16 E B l p).1.1 ≠ ⟨#[]⟩
  same : (add16 E B l p).1.2 ≠ 0 → (add16 E B l p).1.2 ≠ 10 → (add16 E B l p).1.2 ≠ 4 → (add16 E B l p).2 = l
  few : (add16 E B l p).1.2 ≤ 65535
theorem no16_le (E B : Nat) (l : List E16) (k : K16) (x : P16) : no16 E B l k x ≤ 14 := by
  unfold no16
  repeat (first | omega | split)
theorem getE_le (p : ByteArray) : getE p ≤ 9 := by
  unfold getE
  repeat (first | omega | split)
theorem says16 {E B L : Nat} {l : List E16} (t : Tab16 E B L l) (p : ByteArray) : Says16 E B l p := by
  by_cases hg : getE p = 0
  · have hok := (got15 hg).1
    by_cases hno : no16 E B l (getH p).key (piece16 (getH p) (getS p)) = 0
    · have y := yes16 t hno
      have e0 : add16 E B l p = made16 l (getH p) (piece16 (getH p) (getS p)) := by unfold add16; rw [if_neg (fun e => e hg), if_neg (fun e => e hno)]
      by_cases hw : whole16 (ins16 (piece16 (getH p) (getS p)) (old16 l (getH p).key).qs) = true
      · have hh := (y.head t hok hw).1.whole
        have e1 : made16 l (getH p) (piece16 (getH p) (getS p)) = ((putS ((old16 l (getH p).key).put (getH p) (piece16 (getH p) (getS p))).hd.whole (cat16 ((old16 l (getH p).key).put (getH p) (piece16 (getH p) (getS p))).qs), putE ((old16 l (getH p).key).put (getH p) (piece16 (getH p) (getS p))).hd.whole (cat16 ((old16 l (getH p).key).put (getH p) (piece16 (getH p) (getS p))).qs)), upd16 l (find16 l (getH p).key) ((old16 l (getH p).key).put (getH p) (piece16 (getH p) (getS p))).over) := by
          unfold made16
          exact if_pos hw
        rw [e1] at e0
        have hc := putE_ok (s := cat16 ((old16 l (getH p).key).put (getH p) (piece16 (getH p) (getS p))).qs) hh
        refine ⟨?_, ?_, ?_⟩ <;> rw [e0] <;> dsimp only
        · rw [Ne, putS_empty]
          omega
        · omega
        · omega
      · have e1 : made16 l (getH p) (piece16 (getH p) (getS p)) = ((⟨#[]⟩, 10), upd16 l (find16 l (getH p).key) ((old16 l (getH p).key).put (getH p) (piece16 (getH p) (getS p)))) := by
          unfold made16
          exact if_neg hw
        rw [e1] at e0
        refine ⟨?_, ?_, ?_⟩ <;> rw [e0] <;> dsimp only
        · simp
        · omega
        · omega
    · have e0 : add16 E B l p = ((⟨#[]⟩, no16 E B l (getH p).key (piece16 (getH p) (getS p))), l) := by unfold add16; rw [if_neg (fun e => e hg), if_pos hno]
      have hle := no16_le E B l (getH p).key (piece16 (getH p) (getS p))
      refine ⟨?_, ?_, ?_⟩ <;> rw [e0] <;> dsimp only
      · simp [hno]
      · exact fun _ _ _ => rfl
      · omega
  · have e0 : add16 E B l p = ((⟨#[]⟩, getE p), l) := by unfold add16; rw [if_pos hg]
    have hle := getE_le p
    refine ⟨?_, ?_, ?_⟩ <;> rw [e0] <;> dsimp only
    · simp [hg]
    · exact fun _ _ _ => rfl
    · omega

/-- Behind so many ticks. -/
def Old16 (k : Nat) (l : List E16) : Prop := ∀ e ∈ l, k ≤ e.age
theorem Old16.tick {k L : Nat} {l : List E16} (h : Old16 k l) : Old16 (k + 1) (tick16 L l) := by
  intro e he
  unfold tick16 at he
  have he := (List.mem_filter.1 he).1
  obtain ⟨x, hx, rfl⟩ := List.mem_map.1 he
  have := h x hx
  dsimp only
  omega
theorem Old16.none {E B L : Nat} {l : List E16} (h : Old16 L l) (t : Tab16 E B L l) : l = [] := by
  rw [List.eq_nil_iff_forall_not_mem]
  intro e he
  have h1 := h e he
  have h2 := (t.each e he).age
  omega

end Go.Proofs.Ytoijomdgcgbpbaa

/-
  A payload cut in pieces, plain: any set of them in an entry; whole just where none is wanting.
-/
namespace Go.Proofs.Ytoijomdgcgbpbaa
open Go.RowKit
set_option linter.unusedVariables false

/-- Where n pieces of a payload begin, each of some bytes. -/
structure Cut16 (S : ByteArray) (n : Nat) (pos : Nat → Nat) : Prop where
  zero : pos 0 = 0
  last : pos n = S.size
  any : 0 < n
  up : ∀ i, i < n → pos i < pos (i + 1)
  le : S.size ≤ 65515
  mod : ∀ i, i + 1 < n → (pos (i + 1) - pos i) % 8 = 0
/-- Piece i. -/
def pc16 (S : ByteArray) (n : Nat) (pos : Nat → Nat) (i : Nat) : P16 := ⟨pos i, S.extract (pos i) (pos (i + 1)), decide (i + 1 = n)⟩

theorem Cut16.mono {S : ByteArray} {n : Nat} {pos : Nat → Nat} (c : Cut16 S n pos) {i j : Nat} (hij : i ≤ j) (hj : j ≤ n) : pos i ≤ pos j := by
  obtain ⟨d, rfl⟩ := Nat.exists_eq_add_of_le hij
  induction d with
  | zero => exact Nat.le_refl _
  | succ d ih =>
    have h1 := ih (by omega) (by omega)
    have h2 := c.up (i + d) (by omega)
    have e : i + (d + 1) = i + d + 1 := by omega
    rw [e]
    omega
theorem Cut16.lt {S : ByteArray} {n : Nat} {pos : Nat → Nat} (c : Cut16 S n pos) {i j : Nat} (hij : i < j) (hj : j ≤ n) : pos i < pos j := by
  have h1 := c.up i (by omega)
  have h2 := c.mono (show i + 1 ≤ j by omega) hj
  omega
theorem Cut16.size {S : ByteArray} {n : Nat} {pos : Nat → Nat} (c : Cut16 S n pos) {i : Nat} (hi : i < n) : (pc16 S n pos i).s.size = pos (i + 1) - pos i := by
  have h1 := c.mono (show i + 1 ≤ n by omega) (Nat.le_refl _)
  have h2 := c.last
  unfold pc16
  dsimp only
  rw [ByteArray.size_extract]
  omega
theorem Cut16.hi {S : ByteArray} {n : Nat} {pos : Nat → Nat} (c : Cut16 S n pos) {i : Nat} (hi : i < n) : (pc16 S n pos i).hi = pos (i + 1) := by
  have h1 := c.size hi
  have h2 := c.up i hi
  unfold P16.hi
  rw [h1]
  show pos i + _ = _
  omega
theorem Cut16.mayBe {S : ByteArray} {n : Nat} {pos : Nat → Nat} (c : Cut16 S n pos) {i : Nat} (hi : i < n) : (pc16 S n pos i).mayBe = true := by
  have h1 := c.size hi
  have h2 := c.hi hi
  have h3 := c.mono (show i + 1 ≤ n by omega) (Nat.le_refl _)
  have h4 := c.last
  have h5 := c.le
  have h6 := c.up i hi
  unfold P16.mayBe
  rw [if_neg (by omega)]
  split
  · rename_i h
    have hne : ¬ i + 1 = n := by simpa [pc16] using h
    have := c.mod i (by omega)
    rw [Bool.and_eq_true, decide_eq_true_eq, decide_eq_true_eq]
    omega
  · rw [Bool.or_eq_true, decide_eq_true_eq, decide_eq_true_eq]
    omega
theorem Cut16.fit {S : ByteArray} {n : Nat} {pos : Nat → Nat} (c : Cut16 S n pos) {i j : Nat} (hi : i < n) (hj : j < n) (hij : i ≠ j) : clash16 (pc16 S n pos i) (pc16 S n pos j) = false := by
  rw [Bool.eq_false_iff]
  intro e
  rw [clash16_iff, c.hi hi, c.hi hj] at e
  have li : (pc16 S n pos i).lo = pos i := rfl
  have lj : (pc16 S n pos j).lo = pos j := rfl
  have fi : (pc16 S n pos i).last = true ↔ i + 1 = n := by simp [pc16]
  have fj : (pc16 S n pos j).last = true ↔ j + 1 = n := by simp [pc16]
  rw [li, lj, fi, fj] at e
  rcases Nat.lt_or_gt_of_ne hij with h | h
  · have h1 := c.mono (show i + 1 ≤ j by omega) (by omega)
    have h2 := c.lt (show i + 1 < j + 1 by omega) (by omega)
    omega
  · have h1 := c.mono (show j + 1 ≤ i by omega) (by omega)
    have h2 := c.lt (show j + 1 < i + 1 by omega) (by omega)
    omega
theorem Cut16.alike {S : ByteArray} {n : Nat} {pos : Nat → Nat} (c : Cut16 S n pos) {i j : Nat} (hi : i < n) (hj : j < n) : alike16 (pc16 S n pos i) (pc16 S n pos j) = decide (i = j) := by
  by_cases hij : i = j
  · subst hij
    simp [alike16]
  · rw [decide_eq_false hij]
    have : ¬ pos i = pos j := by
      rcases Nat.lt_or_gt_of_ne hij with h | h
      · have := c.lt h (by omega); omega
      · have := c.lt h (by omega); omega
    have e : (pc16 S n pos i).lo ≠ (pc16 S n pos j).lo := this
    simp [alike16, e]

/-- A set of pieces, by rising numbers. -/
structure Set16 (n : Nat) (js : List Nat) : Prop where
  up : js.Pairwise (· < ·)
  lt : ∀ j ∈ js, j < n
def insN (i : Nat) (js : List Nat) : List Nat := js.take (js.findIdx fun j => decide (i ≤ j)) ++ i :: js.drop (js.findIdx fun j => decide (i ≤ j))
theorem insN_mem {i j : Nat} {js : List Nat} : j ∈ insN i js ↔ j = i ∨ j ∈ js := by
  unfold insN
  rw [List.mem_append, List.mem_cons]
  constructor
  · rintro (h | h | h)
    · exact Or.inr (List.mem_of_mem_take h)
    · exact Or.inl h
    · exact Or.inr (List.mem_of_mem_drop h)
  · rintro (h | h)
    · exact Or.inr (Or.inl h)
    · rw [← List.take_append_drop (js.findIdx fun j => decide (i ≤ j)) js, List.mem_append] at h
      rcases h with h | h
      · exact Or.inl h
      · exact Or.inr (Or.inr h)
theorem Cut16.ins {S : ByteArray} {n : Nat} {pos : Nat → Nat} (c : Cut16 S n pos) {i : Nat} {js : List Nat} (hi : i < n) (h : Set16 n js) : ins16 (pc16 S n pos i) (js.map (pc16 S n pos)) = (insN i js).map (pc16 S n pos) := by
  have e : place16 (js.map (pc16 S n pos)) (pc16 S n pos i).lo = js.findIdx fun j => decide (i ≤ j) := by
    unfold place16
    rw [List.findIdx_map]
    have h2 : ∀ l : List Nat, (∀ j ∈ l, j < n) → l.findIdx ((fun y => decide ((pc16 S n pos i).lo ≤ y.lo)) ∘ pc16 S n pos) = l.findIdx fun j => decide (i ≤ j) := by
      intro l
      induction l with
      | nil => intro _; rfl
      | cons a r ih =>
        intro hl
        have ha := hl a (List.mem_cons_self ..)
        have e1 : ((fun y => decide ((pc16 S n pos i).lo ≤ y.lo)) ∘ pc16 S n pos) a = decide (i ≤ a) := by
          show decide (pos i ≤ pos a) = _
          rw [decide_eq_decide]
          constructor
          · intro h
            rcases Nat.lt_or_ge a i with h1 | h1
            · have := c.lt h1 (by omega); omega
            · exact h1
          · intro h; exact c.mono h (by omega)
        rw [List.findIdx_cons, List.findIdx_cons, e1, ih (fun j hj => hl j (List.mem_cons_of_mem _ hj))]
    exact h2 js h.lt
  unfold ins16 insN
  rw [e, List.map_append, List.map_cons, List.map_take, List.map_drop]

theorem Set16.ins {n i : Nat} {js : List Nat} (h : Set16 n js) (hi : i < n) (hn : i ∉ js) : Set16 n (insN i js) := by
  refine ⟨?_, fun j hj => ?_⟩
  · have hp := h.up
    rw [← List.take_append_drop (js.findIdx fun j => decide (i ≤ j)) js, List.pairwise_append] at hp
    have before : ∀ j ∈ js.take (js.findIdx fun j => decide (i ≤ j)), j < i := by
      intro j hj
      obtain ⟨k, hk, rfl⟩ := List.getElem_of_mem hj
      have hk2 : k < js.findIdx fun j => decide (i ≤ j) := by simp at hk; omega
      have e := List.not_of_lt_findIdx (p := fun j => decide (i ≤ j)) (xs := js) (i := k) hk2
      rw [List.getElem_take]
      simp at e
      omega
    have after : ∀ j ∈ js.drop (js.findIdx fun j => decide (i ≤ j)), i < j := by
      intro j hj
      have hne : j ≠ i := fun e => hn (e ▸ List.mem_of_mem_drop hj)
      obtain ⟨k, hk, rfl⟩ := List.getElem_of_mem hj
      have hl : js.findIdx (fun j => decide (i ≤ j)) < js.length := by simp at hk; omega
      have e0 := List.findIdx_getElem (p := fun j => decide (i ≤ j)) (w := hl)
      have e0 := of_decide_eq_true e0
      rw [List.getElem_drop] at hne ⊢
      by_cases hk0 : k = 0
      · subst hk0
        simp only [Nat.add_zero] at hne ⊢
        omega
      · have := (List.pairwise_iff_getElem.1 h.up) (js.findIdx fun j => decide (i ≤ j)) (js.findIdx (fun j => decide (i ≤ j)) + k) hl (by simp at hk; omega) (by omega)
        omega
    unfold insN
    rw [List.pairwise_append, List.pairwise_cons]
    refine ⟨hp.1, ⟨after, hp.2.1⟩, fun a ha b hb => ?_⟩
    rcases List.mem_cons.1 hb with rfl | hb
    · exact before a ha
    · exact hp.2.2 a ha b hb
  · rcases insN_mem.1 hj with rfl | hj
    · exact hi
    · exact h.lt j hj
theorem sum16_cons (x : P16) (r : List P16) : sum16 (x :: r) = x.s.size + sum16 r := by simp [sum16]
/-- Pieces from a on have no more bytes than lie there. -/
theorem Cut16.sum_le {S : ByteArray} {n : Nat} {pos : Nat → Nat} (c : Cut16 S n pos) : ∀ (js : List Nat) (a : Nat), Set16 n js → (∀ j ∈ js, a ≤ j) → a ≤ n → pos a + sum16 (js.map (pc16 S n pos)) ≤ pos n
  | [], a, _, _, ha => by
    have := c.mono ha (Nat.le_refl _)
    simpa [sum16] using this
  | j :: r, a, h, hj, ha => by
    have hu := List.pairwise_cons.1 h.up
    have hjn := h.lt j (List.mem_cons_self ..)
    have h1 := c.sum_le r (j + 1) ⟨hu.2, fun k hk => h.lt k (List.mem_cons_of_mem _ hk)⟩ (fun k hk => hu.1 k hk) (by omega)
    have h2 := c.size hjn
    have h3 := c.mono (hj j (List.mem_cons_self ..)) (by omega)
    have h4 := c.up j hjn
    rw [List.map_cons, sum16_cons, h2]
    omega
/-- .. and fewer, if one is wanting. -/
theorem Cut16.sum_lt {S : ByteArray} {n : Nat} {pos : Nat → Nat} (c : Cut16 S n pos) (k : Nat) (hk : k < n) : ∀ (js : List Nat) (a : Nat), Set16 n js → (∀ j ∈ js, a ≤ j) → a ≤ k → k ∉ js → pos a + sum16 (js.map (pc16 S n pos)) < pos n
  | [], a, _, _, ha, _ => by
    have := c.lt (show a < n by omega) (Nat.le_refl _)
    simpa [sum16] using this
  | j :: r, a, h, hj, ha, hn => by
    have hu := List.pairwise_cons.1 h.up
    have hjn := h.lt j (List.mem_cons_self ..)
    have hs : Set16 n r := ⟨hu.2, fun k hk => h.lt k (List.mem_cons_of_mem _ hk)⟩
    have h2 := c.size hjn
    have h3 := c.mono (hj j (List.mem_cons_self ..)) (by omega)
    have h4 := c.up j hjn
    have hne : k ≠ j := fun e => hn (e ▸ List.mem_cons_self ..)
    rw [List.map_cons, sum16_cons, h2]
    by_cases hkj : k < j
    · have h5 := c.lt (show a < j by omega) (by omega)
      have h1 := c.sum_le r (j + 1) hs (fun k hk => hu.1 k hk) (by omega)
      omega
    · have h1 := c.sum_lt k hk r (j + 1) hs (fun k hk => hu.1 k hk) (by omega) (fun h => hn (List.mem_cons_of_mem _ h))
      omega
/-- Whole: the last one is there, and none is wanting. -/
theorem Cut16.not_whole {S : ByteArray} {n : Nat} {pos : Nat → Nat} (c : Cut16 S n pos) {js : List Nat} (h : Set16 n js) {k : Nat} (hk : k < n) (hn : k ∉ js) : whole16 (js.map (pc16 S n pos)) = false := by
  rw [Bool.eq_false_iff]
  intro e
  unfold whole16 at e
  rw [List.getLast?_map] at e
  cases hl : js.getLast? with
  | none => rw [hl] at e; simp at e
  | some j =>
    rw [hl] at e
    dsimp only [Option.map_some] at e
    rw [Bool.and_eq_true, decide_eq_true_eq] at e
    have hj := h.lt j (List.mem_of_getLast? hl)
    have e1 : j + 1 = n := by simpa [pc16] using e.1
    have e2 := e.2
    rw [c.hi hj, e1] at e2
    have := c.sum_lt k hk js 0 h (fun _ _ => Nat.zero_le _) (Nat.zero_le _) hn
    have := c.zero
    omega

/-- All pieces from a on. -/
theorem Set16.all {n : Nat} : ∀ (d a : Nat) (js : List Nat), a + d = n → Set16 n js → (∀ j ∈ js, a ≤ j) → (∀ k, a ≤ k → k < n → k ∈ js) → js = List.range' a d
  | 0, a, js, hd, h, hj, _ => by
    rw [List.range'_zero, List.eq_nil_iff_forall_not_mem]
    intro j hm
    have := h.lt j hm
    have := hj j hm
    omega
  | d + 1, a, js, hd, h, hj, hk => by
    have ha := hk a (Nat.le_refl _) (by omega)
    cases js with
    | nil => cases ha
    | cons j r =>
      have hu := List.pairwise_cons.1 h.up
      have ej : j = a := by
        rcases List.mem_cons.1 ha with e | e
        · exact e.symm
        · have := hu.1 a e
          have := hj j (List.mem_cons_self ..)
          omega
      subst ej
      rw [List.range'_succ, Set16.all d (j + 1) r (by omega) ⟨hu.2, fun k hk => h.lt k (List.mem_cons_of_mem _ hk)⟩ (fun k hk => hu.1 k hk) (fun k h1 h2 => by
        rcases List.mem_cons.1 (hk k (by omega) h2) with e | e
        · omega
        · exact e)]
theorem Cut16.sum_all {S : ByteArray} {n : Nat} {pos : Nat → Nat} (c : Cut16 S n pos) : ∀ (d a : Nat), a + d = n → pos a + sum16 ((List.range' a d).map (pc16 S n pos)) = pos n
  | 0, a, h => by
    have e : a = n := by omega
    subst e
    simp [sum16]
  | d + 1, a, h => by
    have h1 := c.sum_all d (a + 1) (by omega)
    have h2 := c.size (show a < n by omega)
    have h3 := c.up a (by omega)
    rw [List.range'_succ, List.map_cons, sum16_cons, h2]
    omega
theorem join16 (S : ByteArray) {a b : Nat} (h : a ≤ b) : S.extract 0 a ++ S.extract a b = S.extract 0 b := by
  rw [ByteArray.extract_append_extract]
  congr 1 <;> omega
theorem full16 (S : ByteArray) : S.extract 0 S.size = S := by
  apply text_ext
  rw [extract_list, List.take_of_length_le (by simp), List.drop_zero]
theorem nil16 (S : ByteArray) : S.extract 0 0 = ⟨#[]⟩ := by
  apply text_ext
  rw [extract_list]
  rfl
theorem Cut16.cat_all {S : ByteArray} {n : Nat} {pos : Nat → Nat} (c : Cut16 S n pos) : ∀ (d a : Nat), a + d = n → ((List.range' a d).map (pc16 S n pos)).foldl (fun s x => s ++ x.s) (S.extract 0 (pos a)) = S.extract 0 (pos n)
  | 0, a, h => by
    have e : a = n := by omega
    subst e
    rfl
  | d + 1, a, h => by
    have h1 := c.cat_all d (a + 1) (by omega)
    have h3 := c.up a (by omega)
    rw [List.range'_succ, List.map_cons, List.foldl_cons]
    rw [show S.extract 0 (pos a) ++ (pc16 S n pos a).s = S.extract 0 (pos (a + 1)) from join16 S (by omega)]
    exact h1
/-- Whole, if none is wanting: then it is the payload. -/
theorem Cut16.whole {S : ByteArray} {n : Nat} {pos : Nat → Nat} (c : Cut16 S n pos) {js : List Nat} (h : Set16 n js) (ha : ∀ k, k < n → k ∈ js) : whole16 (js.map (pc16 S n pos)) = true ∧ cat16 (js.map (pc16 S n pos)) = S := by
  have e := Set16.all n 0 js (by omega) h (fun _ _ => Nat.zero_le _) (fun k _ hk => ha k hk)
  subst e
  have h0 := c.any
  have hz := c.zero
  constructor
  · unfold whole16
    have e1 : (List.range' 0 n).getLast? = some (n - 1) := by
      rw [List.getLast?_eq_getElem?, List.length_range', List.getElem?_range' (by omega)]
      simp
    rw [List.getLast?_map, e1]
    dsimp only [Option.map_some]
    have h1 := c.sum_all n 0 (by omega)
    rw [Bool.and_eq_true, decide_eq_true_eq, c.hi (by omega)]
    refine ⟨by simp [pc16]; omega, ?_⟩
    rw [show n - 1 + 1 = n by omega]
    omega
  · have h1 := c.cat_all n 0 (by omega)
    rw [hz, c.last] at h1
    rw [nil16] at h1
    unfold cat16
    rw [h1, full16]

end Go.Proofs.Ytoijomdgcgbpbaa

/-
  A packet's pieces added, plain: what each Add says, and what the entry then holds.
-/
namespace Go.Proofs.Ytoijomdgcgbpbaa
open Go.RowKit
set_option linter.unusedVariables false

/-- A text is piece i. -/
structure Is16 (h : H4) (S : ByteArray) (n : Nat) (pos : Nat → Nat) (i : Nat) (x : ByteArray) : Prop where
  ge : getE x = 0
  pc : piece16 (getH x) (getS x) = pc16 S n pos i
  key : (getH x).key = h.key
  hd : i = 0 → (getH x).whole = h
/-- An entry holds these pieces. -/
structure Hold16 (h : H4) (S : ByteArray) (n : Nat) (pos : Nat → Nat) (js : List Nat) (e : E16) : Prop where
  qs : e.qs = js.map (pc16 S n pos)
  open' : e.done = false
  hd : 0 ∈ js → e.hd.whole = h
  set : Set16 n js

theorem Hold16.new (h : H4) (S : ByteArray) (n : Nat) (pos : Nat → Nat) (k : K16) : Hold16 h S n pos [] (E16.new k) :=
  ⟨rfl, rfl, fun e => (List.not_mem_nil e).elim, ⟨List.Pairwise.nil, fun _ e => (List.not_mem_nil e).elim⟩⟩

theorem add16_of {E B : Nat} {l : List E16} {x : ByteArray} {k : K16} {z : P16} (hg : getE x = 0) (hk : (getH x).key = k) (hz : piece16 (getH x) (getS x) = z) :
    add16 E B l x = if no16 E B l k z ≠ 0 then ((⟨#[]⟩, no16 E B l k z), l) else made16 l (getH x) z := by
  unfold add16
  rw [if_neg (fun e => e hg), hk, hz]

/-- A piece that is there. -/
theorem add_twice16 {E B L : Nat} {l : List E16} (t : Tab16 E B L l) {h : H4} {S : ByteArray} {n : Nat} {pos : Nat → Nat} (c : Cut16 S n pos) {js : List Nat} (ho : Hold16 h S n pos js (old16 l h.key)) {i : Nat} (hi : i ∈ js) {x : ByteArray} (hx : Is16 h S n pos i x) :
    add16 E B l x = ((⟨#[]⟩, 10), l) := by
  have hin := ho.set.lt i hi
  have e : no16 E B l h.key (pc16 S n pos i) = 10 := by
    unfold no16
    rw [if_neg (by rw [c.mayBe hin]; simp), if_neg (by rw [ho.open']; simp), if_pos]
    rw [near16_has (old16_ent t h.key).good, ho.qs, List.any_eq_true]
    exact ⟨_, List.mem_map_of_mem hi, by rw [c.alike hin hin]; simp⟩
  rw [add16_of hx.ge hx.key hx.pc, e, if_pos (by omega)]
/-- A piece of what is done. -/
theorem add_done16 {E B : Nat} {l : List E16} {h : H4} {S : ByteArray} {n : Nat} {pos : Nat → Nat} (c : Cut16 S n pos) (hd : (old16 l h.key).done = true) {i : Nat} (hi : i < n) {x : ByteArray} (hx : Is16 h S n pos i x) :
    add16 E B l x = ((⟨#[]⟩, 12), l) := by
  have e : no16 E B l h.key (pc16 S n pos i) = 12 := by
    unfold no16
    rw [if_neg (by rw [c.mayBe hi]; simp), if_pos hd]
  rw [add16_of hx.ge hx.key hx.pc, e, if_pos (by omega)]
/-- A piece that is not yet there. -/
theorem add_new16 {E B L : Nat} {l : List E16} (t : Tab16 E B L l) {h : H4} {S : ByteArray} {n : Nat} {pos : Nat → Nat} (c : Cut16 S n pos) {js : List Nat} (ho : Hold16 h S n pos js (old16 l h.key)) {i : Nat} (hi : i < n) (hn : i ∉ js) {x : ByteArray} (hx : Is16 h S n pos i x)
    (hroom : find16 l h.key = l.length → l.length + 1 ≤ E) (hb : bytes16 l + (pos (i + 1) - pos i) ≤ B) :
    Hold16 h S n pos (insN i js) ((old16 l h.key).put (getH x) (pc16 S n pos i)) ∧
    ((∃ k, k < n ∧ k ∉ insN i js) → add16 E B l x = ((⟨#[]⟩, 10), upd16 l (find16 l h.key) ((old16 l h.key).put (getH x) (pc16 S n pos i)))) ∧
    ((∀ k, k < n → k ∈ insN i js) → add16 E B l x = ((putS h S, putE h S), upd16 l (find16 l h.key) ((old16 l h.key).put (getH x) (pc16 S n pos i)).over)) := by
  have hg := (old16_ent t h.key).good
  have hs := ho.set.ins hi hn
  have hq : ((old16 l h.key).put (getH x) (pc16 S n pos i)).qs = (insN i js).map (pc16 S n pos) := by
    show ins16 _ (old16 l h.key).qs = _
    rw [ho.qs, c.ins hi ho.set]
  have hhd : 0 ∈ insN i js → ((old16 l h.key).put (getH x) (pc16 S n pos i)).hd.whole = h := by
    intro h0
    unfold E16.put
    dsimp only
    by_cases e : i = 0
    · rw [if_pos (by rw [e]; exact c.zero)]
      exact hx.hd e
    · rw [if_neg]
      · rcases insN_mem.1 h0 with e2 | e2
        · exact absurd e2.symm e
        · exact ho.hd e2
      · have := c.lt (show 0 < i by omega) (by omega)
        have e3 : (pc16 S n pos i).lo = pos i := rfl
        rw [e3]
        omega
  have hno : no16 E B l h.key (pc16 S n pos i) = 0 := by
    have hlen := t.len
    have hfl := find16_le l h.key
    unfold no16
    rw [if_neg (by rw [c.mayBe hi]; simp), if_neg (by rw [ho.open']; simp), if_neg, if_neg, if_neg]
    · rw [c.size hi]
      rintro (⟨h1, h2⟩ | h1)
      · have := hroom h1; omega
      · omega
    · rw [near16_fits hg, ho.qs, Bool.not_eq_true, List.any_eq_false]
      intro y hy
      obtain ⟨j, hj, rfl⟩ := List.mem_map.1 hy
      rw [c.fit hi (ho.set.lt j hj) (fun e => hn (e ▸ hj))]
      simp
    · rw [near16_has hg, ho.qs, Bool.not_eq_true, List.any_eq_false]
      intro y hy
      obtain ⟨j, hj, rfl⟩ := List.mem_map.1 hy
      rw [c.alike hi (ho.set.lt j hj), decide_eq_false (show ¬ i = j from fun e => hn (e ▸ hj))]
      simp
  have ha : add16 E B l x = made16 l (getH x) (pc16 S n pos i) := by
    rw [add16_of hx.ge hx.key hx.pc, hno, if_neg (by omega)]
  refine ⟨⟨hq, ho.open', hhd, hs⟩, ?_, ?_⟩
  · rintro ⟨k, hk, hkn⟩
    rw [ha]
    unfold made16
    rw [hx.key]
    dsimp only
    rw [if_neg]
    rw [hq, c.not_whole hs hk hkn]
    simp
  · intro hall
    have hw := c.whole hs hall
    rw [ha]
    unfold made16
    rw [hx.key]
    dsimp only
    rw [if_pos (by rw [hq]; exact hw.1), hhd (hall 0 c.any), hq, hw.2]

end Go.Proofs.Ytoijomdgcgbpbaa

/-
  The pieces that a cut makes are such pieces.
-/
namespace Go.Proofs.Ytoijomdgcgbpbaa
open Go.RowKit
set_option linter.unusedVariables false

theorem cut16_of {p : ByteArray} {m : Int} (h : cutE p m = 0) (hs : 0 < (getS p).size) : Cut16 (getS p) (cutL p m).length (pos15 p m) := by
  have h0 := cutL_pos h
  have hg := got15 (cut15_ok h).1
  refine ⟨pos15_zero h0, pos15_end p m, h0, fun i hi => ?_, by omega, fun i hi => ?_⟩
  · have q := piece15 h i hi
    by_cases h1 : i + 1 < (cutL p m).length
    · have := q.mid h1
      omega
    · have e : i + 1 = (cutL p m).length := by omega
      rw [e, pos15_end]
      by_cases h2 : i = 0
      · rw [h2, pos15_zero h0]
        exact hs
      · have q2 := piece15 h (i - 1) (by omega)
        have := q2.more.1 (by omega)
        rwa [show i - 1 + 1 = i by omega] at this
  · have q := piece15 h i (by omega)
    have := q.mid hi
    omega
theorem is16_of {p : ByteArray} {m : Int} (h : cutE p m = 0) (hoff : (getH p).off = 0) (hmf : (getH p).mf = false) (i : Nat) (hi : i < (cutL p m).length) : Is16 (getH p) (getS p) (cutL p m).length (pos15 p m) i ((cutL p m)[i]'hi) := by
  have q := piece15 h i hi
  have hmod := q.mod
  refine ⟨q.ge, ?_, ?_, fun e => ?_⟩
  · rw [q.gh, q.gs, hmf]
    unfold piece16 pc16 H4.at15
    dsimp only
    rw [hoff, P16.mk.injEq]
    refine ⟨by omega, rfl, ?_⟩
    rw [Bool.false_or, Bool.eq_iff_iff, Bool.not_eq_true', decide_eq_false_iff_not, decide_eq_true_eq]
    omega
  · rw [q.gh]
    rfl
  · subst e
    rw [q.gh, pos15_zero hi]
    have : ∀ h : H4, h.off = 0 → h.mf = false → ∀ b, (h.at15 (0 / 8) b).whole = h := by
      intro h h1 h2 b
      obtain ⟨_, _, _, _, _, _, _, _, _, _⟩ := h
      simp only at h1 h2
      subst h1 h2
      rfl
    exact this _ hoff hmf _

end Go.Proofs.Ytoijomdgcgbpbaa

/-
  A table with one packet's pieces alone, plain.
-/
namespace Go.Proofs.Ytoijomdgcgbpbaa
open Go.RowKit
set_option linter.unusedVariables false

/-- A table with these pieces of one packet and nothing else. -/
structure One16 (h : H4) (S : ByteArray) (n : Nat) (pos : Nat → Nat) (js : List Nat) (l : List E16) : Prop where
  old : Hold16 h S n pos js (old16 l h.key)
  find : find16 l h.key = 0
  is : (js = [] ∧ l = []) ∨ (js ≠ [] ∧ ∃ e, l = [e] ∧ e.k = h.key ∧ e.age = 0 ∧ e.done = false)
  bytes : bytes16 l = sum16 (js.map (pc16 S n pos))
theorem One16.nil (h : H4) (S : ByteArray) (n : Nat) (pos : Nat → Nat) : One16 h S n pos [] [] :=
  ⟨Hold16.new h S n pos h.key, rfl, Or.inl ⟨rfl, rfl⟩, rfl⟩
theorem insN_ne (i : Nat) (js : List Nat) : insN i js ≠ [] := fun e => by
  have := (insN_mem (i := i) (j := i) (js := js)).2 (Or.inl rfl)
  rw [e] at this
  cases this
/-- One more piece of a packet of which others are wanting. -/
theorem One16.add {E B L : Nat} {l : List E16} (t : Tab16 E B L l) (hB : 65515 ≤ B) {h : H4} {S : ByteArray} {n : Nat} {pos : Nat → Nat} (c : Cut16 S n pos) {js : List Nat} (o : One16 h S n pos js l) {i : Nat} (hi : i < n) (hn : i ∉ js) {x : ByteArray} (hx : Is16 h S n pos i x) :
    ((∃ k, k < n ∧ k ∉ insN i js) → ∃ l', add16 E B l x = ((⟨#[]⟩, 10), l') ∧ One16 h S n pos (insN i js) l') ∧
    ((∀ k, k < n → k ∈ insN i js) → ∃ e, add16 E B l x = ((putS h S, putE h S), [e]) ∧ e.k = h.key ∧ e.done = true ∧ e.qs = [] ∧ e.age = 0) := by
  have hsum := ins16_sum (pc16 S n pos i) (js.map (pc16 S n pos))
  rw [c.ins hi o.old.set, c.size hi] at hsum
  have hle := c.sum_le (insN i js) 0 (o.old.set.ins hi hn) (fun _ _ => Nat.zero_le _) (Nat.zero_le _)
  have hz := c.last
  have hS := c.le
  have hE := t.store.1
  have hb := o.bytes
  have hroom : find16 l h.key = l.length → l.length + 1 ≤ E := fun e => by rw [o.find] at e; omega
  have ⟨h1, h2, h3⟩ := add_new16 t c o.old hi hn hx hroom (by omega)
  have hup : ∀ e, upd16 l (find16 l h.key) e = [e] := by
    intro e
    rw [o.find]
    rcases o.is with ⟨_, rfl⟩ | ⟨_, e', rfl, _⟩ <;> rfl
  have hage : (old16 l h.key).age = 0 := by
    rcases o.is with ⟨_, rfl⟩ | ⟨_, e', rfl, hk, ha, _⟩
    · rfl
    · have hf := o.find
      unfold old16
      rw [hf]
      exact ha
  refine ⟨fun hk => ⟨_, h2 hk, ?_⟩, fun hall => ⟨((old16 l h.key).put (getH x) (pc16 S n pos i)).over, ?_, old16_key l h.key, rfl, rfl, hage⟩⟩
  · rw [hup]
    have hkey : ((old16 l h.key).put (getH x) (pc16 S n pos i)).k = h.key := old16_key l h.key
    have hf : find16 [(old16 l h.key).put (getH x) (pc16 S n pos i)] h.key = 0 := by
      unfold find16
      rw [List.findIdx_cons, hkey]
      simp
    refine ⟨?_, hf, Or.inr ⟨insN_ne i js, _, rfl, hkey, hage, o.old.open'⟩, ?_⟩
    · have e : old16 [(old16 l h.key).put (getH x) (pc16 S n pos i)] h.key = (old16 l h.key).put (getH x) (pc16 S n pos i) := by
        generalize (old16 l h.key).put (getH x) (pc16 S n pos i) = z at *
        unfold old16
        rw [hf]
        rfl
      rw [e]
      exact h1
    · rw [bytes16_cons, h1.qs]
      rfl
  · rw [h3 hall, hup]

end Go.Proofs.Ytoijomdgcgbpbaa

/-
  A piece like one that is there but for its bytes, plain: it is refused.
-/
namespace Go.Proofs.Ytoijomdgcgbpbaa
open Go.RowKit
set_option linter.unusedVariables false

theorem add_clash16 {E B L : Nat} {l : List E16} (t : Tab16 E B L l) {h : H4} {S : ByteArray} {n : Nat} {pos : Nat → Nat} (c : Cut16 S n pos) {js : List Nat} (ho : Hold16 h S n pos js (old16 l h.key)) {k : Nat} (hk : k ∈ js) {x : ByteArray} (hg : getE x = 0) (hkey : (getH x).key = h.key)
    {s : ByteArray} (hz : piece16 (getH x) (getS x) = ⟨pos k, s, decide (k + 1 = n)⟩) (hs : s.size = pos (k + 1) - pos k) (hne : s ≠ S.extract (pos k) (pos (k + 1))) : add16 E B l x = ((⟨#[]⟩, 14), l) := by
  have hkn := ho.set.lt k hk
  have hup := c.up k hkn
  have hgood := (old16_ent t h.key).good
  have hmay : (⟨pos k, s, decide (k + 1 = n)⟩ : P16).mayBe = true := by
    have h1 := c.mayBe hkn
    have h2 := c.size hkn
    unfold P16.mayBe P16.hi at h1 ⊢
    rw [h2] at h1
    dsimp only at h1 ⊢
    rw [hs]
    exact h1
  have e : no16 E B l h.key ⟨pos k, s, decide (k + 1 = n)⟩ = 14 := by
    unfold no16
    rw [if_neg (by rw [hmay]; simp), if_neg (by rw [ho.open']; simp), if_neg, if_pos]
    · rw [near16_fits hgood, ho.qs, List.any_eq_true]
      refine ⟨_, List.mem_map_of_mem hk, (clash16_iff _ _).2 (Or.inl ?_)⟩
      rw [c.hi hkn]
      unfold P16.hi
      dsimp only
      have : (pc16 S n pos k).lo = pos k := rfl
      omega
    · rw [near16_has hgood, ho.qs, Bool.not_eq_true, List.any_eq_false]
      intro y hy
      obtain ⟨j, hj, rfl⟩ := List.mem_map.1 hy
      have hjn := ho.set.lt j hj
      by_cases ej : j = k
      · subst ej
        simp [alike16, pc16, hne]
      · have : ¬ pos k = pos j := by
          rcases Nat.lt_or_gt_of_ne ej with h1 | h1
          · have := c.lt h1 (by omega); omega
          · have := c.lt h1 (by omega); omega
        simp [alike16, pc16, this]
  rw [add16_of hg hkey hz, e, if_pos (by omega)]

end Go.Proofs.Ytoijomdgcgbpbaa

/-
  A packet, cut: what the laws ask of its pieces, in one; a piece with other bytes. Plain.
-/
namespace Go.Proofs.Ytoijomdgcgbpbaa
open Go.RowKit
set_option linter.unusedVariables false

/-- The pieces l of the packet P, made of h and S. -/
structure Lot16 (h : H4) (S P : ByteArray) (l : List ByteArray) (pos : Nat → Nat) : Prop where
  cut : Cut16 S l.length pos
  is : ∀ (i : Nat) (hi : i < l.length), Is16 h S l.length pos i (l[i]'hi)
  size : ∀ (i : Nat) (hi : i < l.length), (l[i]'hi).size ≤ 65535
  made : putS h S = P
  ok : putE h S = 0
theorem lot16 {h : H4} {S P : ByteArray} {m : Int} (sent : Sent h S P) (hP : P = putS h S) (hoff : h.off = 0) (hmf : h.mf = false) (hc : cutE P m = 0) (hs : 0 < S.size) : Lot16 h S P (cutL P m) (pos15 P m) := by
  have c := cut16_of hc (by rw [sent.gs]; exact hs)
  have i := is16_of hc (by rw [sent.gh]; exact hoff) (by rw [sent.gh]; exact hmf)
  rw [sent.gs] at c i
  rw [sent.gh] at i
  refine ⟨c, i, fun k hk => ?_, hP.symm, ?_⟩
  · have q := got15 (i k hk).ge
    exact q.2.2.2.1
  · exact (put_ok sent.ok sent.fit).1
/-- More than one piece: some bytes. -/
theorem cut16_some {h : H4} {S P : ByteArray} {m : Int} (sent : Sent h S P) (hc : cutE P m = 0) (h2 : 2 ≤ (cutL P m).length) : 0 < S.size := by
  have q := piece15 hc 0 (by omega)
  have a := q.mid (by omega)
  have t := q.top
  rw [sent.gs] at t
  omega

/-- A piece, its bytes changed. -/
structure Bad16 (h : H4) (S : ByteArray) (n : Nat) (pos : Nat → Nat) (k : Nat) (s : ByteArray) (x : ByteArray) : Prop where
  ge : getE x = 0
  key : (getH x).key = h.key
  pc : piece16 (getH x) (getS x) = ⟨pos k, s, decide (k + 1 = n)⟩
  size : x.size ≤ 65535
theorem bad16 {h : H4} {S : ByteArray} {n : Nat} {pos : Nat → Nat} {k : Nat} {x : ByteArray} (q : Is16 h S n pos k x) {s : ByteArray} (hs : s.size = (getS x).size) : putE (getH x) s = 0 ∧ Bad16 h S n pos k s (putS (getH x) s) := by
  have g := got15 q.ge
  have hf : (getH x).size + s.size ≤ 65535 := by omega
  have e := put_ok g.1 hf
  have st := sent_of g.1 hf
  have hp := q.pc
  unfold piece16 pc16 at hp
  rw [P16.mk.injEq] at hp
  refine ⟨e.1, st.ge, by rw [st.gh]; exact q.key, ?_, by rw [st.size]; exact hf⟩
  rw [st.gh, st.gs]
  unfold piece16
  rw [P16.mk.injEq]
  exact ⟨hp.1, rfl, hp.2.2⟩
theorem Is16.gs {h : H4} {S : ByteArray} {n : Nat} {pos : Nat → Nat} {k : Nat} {x : ByteArray} (q : Is16 h S n pos k x) : getS x = S.extract (pos k) (pos (k + 1)) := by
  have hp := q.pc
  unfold piece16 pc16 at hp
  rw [P16.mk.injEq] at hp
  exact hp.2.1
theorem Bad16.told {E B L : Nat} {l : List E16} (t : Tab16 E B L l) {h : H4} {S : ByteArray} {n : Nat} {pos : Nat → Nat} (c : Cut16 S n pos) {js : List Nat} (o : One16 h S n pos js l) {k : Nat} (hk : k ∈ js) {s x : ByteArray} (b : Bad16 h S n pos k s x)
    (hs : s.size = (S.extract (pos k) (pos (k + 1))).size) (hne : s ≠ S.extract (pos k) (pos (k + 1))) : add16 E B l x = ((⟨#[]⟩, 14), l) := by
  refine add_clash16 t c o.old hk b.ge b.key b.pc ?_ hne
  have := c.size (o.old.set.lt k hk)
  rw [hs]
  exact this
/-- The first bytes differ. -/
theorem other16 {l m : List UInt8} (c : UInt8) {b : UInt8} (hb : b ≠ 0) (h0 : 0 < l.length) : (⟨(l.set 0 (l[0] ^^^ b)).toArray⟩ : ByteArray) ≠ ⟨l.toArray⟩ := by
  intro e
  have e1 : (l.set 0 (l[0] ^^^ b)).toArray = l.toArray := by simpa using e
  have e2 := congrArg (fun a => a[0]?) e1
  simp [h0] at e2
  have e3 : l[0] ^^^ (l[0] ^^^ b) = l[0] ^^^ l[0] := by rw [e2]
  rw [← UInt8.xor_assoc, UInt8.xor_self, UInt8.zero_xor] at e3
  exact hb e3

theorem tmod16 (a b : Nat) : ((a : Int)).tmod (b : Int) = ((a % b : Nat) : Int) := by
  rw [Int.tmod_eq_emod_of_nonneg (by omega)]
  rfl

end Go.Proofs.Ytoijomdgcgbpbaa
