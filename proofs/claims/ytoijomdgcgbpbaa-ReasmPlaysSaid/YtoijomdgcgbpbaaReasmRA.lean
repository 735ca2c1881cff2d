/-
  The document's table, plain: pieces in the order in which they came; and how it goes with the sorted ones.
-/
import Derived.Test.YtoijomdgcgbpbaaReasmMade
import Derived.Test.YtoijomdgcgbpbaaReasmBoundsPlain
import Derived.Deep.RegionHeld3
import Derived.Test.YtoijomdgcgbpbaaGround
import Derived.Deep.QuietTactic
import Derived.BigQuiet
namespace Go.Proofs.Ytoijomdgcgbpbaa
open Go.RowKit
set_option linter.unusedVariables false

structure R16 where
  hd : H4
  ps : List (H4 × ByteArray)
  done : Bool
  age : Nat
def pcOf (x : H4 × ByteArray) : P16 := piece16 x.1 x.2
/-- An entry of the table, and the document's. -/
structure Rel16 (e : E16) (r : R16) : Prop where
  key : e.k = r.hd.key
  done : e.done = r.done
  age : e.age = r.age
  perm : e.qs.Perm (r.ps.map pcOf)
  first : ∀ x ∈ r.ps, (pcOf x).lo = 0 → e.hd = x.1
  each : ∀ x ∈ r.ps, 0 ≤ x.1.off ∧ x.1.off ≤ 8191 ∧ x.2.size ≤ 65535
def Rels : List E16 → List R16 → Prop
  | [], [] => True
  | e :: l, r :: rl => Rel16 e r ∧ Rels l rl
  | _, _ => False
def rfind (rl : List R16) (k : K16) : Nat := rl.findIdx fun r => decide (r.hd.key = k)
def rbytes (rl : List R16) : Nat := (rl.map fun r => (r.ps.map fun x => x.2.size).sum).sum
def ropen (rl : List R16) : Nat := rl.countP fun r => !r.done
def rtick (L : Nat) (rl : List R16) : List R16 := (rl.map fun r => { r with age := r.age + 1 }).filter fun r => decide (r.age < L)

theorem Rels.find : ∀ {l : List E16} {rl : List R16} (h : Rels l rl) (k : K16), find16 l k = rfind rl k
  | [], [], _, _ => rfl
  | e :: l, r :: rl, h, k => by
    have ih := Rels.find h.2 k
    unfold find16 rfind at *
    rw [List.findIdx_cons, List.findIdx_cons, h.1.key, ih]
theorem perm_sum {qs : List P16} {ps : List (H4 × ByteArray)} (h : qs.Perm (ps.map pcOf)) : sum16 qs = (ps.map fun x => x.2.size).sum := by
  unfold sum16
  have e := (h.map fun x => x.s.size).sum_nat
  rw [e, List.map_map]
  rfl
theorem Rels.bytes : ∀ {l : List E16} {rl : List R16} (h : Rels l rl), bytes16 l = rbytes rl
  | [], [], _ => rfl
  | e :: l, r :: rl, h => by
    have ih := Rels.bytes h.2
    unfold bytes16 rbytes at *
    rw [List.map_cons, List.map_cons, List.sum_cons, List.sum_cons, perm_sum h.1.perm, ih]
theorem Rels.opens : ∀ {l : List E16} {rl : List R16} (h : Rels l rl), open16 l = ropen rl
  | [], [], _ => rfl
  | e :: l, r :: rl, h => by
    have ih := Rels.opens h.2
    unfold open16 ropen at *
    rw [List.countP_cons, List.countP_cons, h.1.done, ih]
theorem Rels.length : ∀ {l : List E16} {rl : List R16} (h : Rels l rl), l.length = rl.length
  | [], [], _ => rfl
  | e :: l, r :: rl, h => by rw [List.length_cons, List.length_cons, Rels.length h.2]
theorem Rels.tick (L : Nat) : ∀ {l : List E16} {rl : List R16} (h : Rels l rl), Rels (tick16 L l) (rtick L rl)
  | [], [], _ => trivial
  | e :: l, r :: rl, h => by
    have ih := Rels.tick L h.2
    unfold tick16 rtick at *
    rw [List.map_cons, List.map_cons, List.filter_cons, List.filter_cons]
    have ea : e.age = r.age := h.1.age
    dsimp only
    rw [ea]
    split
    · exact ⟨⟨h.1.key, h.1.done, rfl, h.1.perm, h.1.first, h.1.each⟩, ih⟩
    · exact ih
theorem Rels.get : ∀ {l : List E16} {rl : List R16} (h : Rels l rl) {i : Nat} (hi : i < l.length) (hr : i < rl.length), Rel16 (l[i]'hi) (rl[i]'hr)
  | e :: l, r :: rl, h, 0, _, _ => h.1
  | e :: l, r :: rl, h, i + 1, hi, hr => Rels.get h.2 (by simpa using hi) (by simpa using hr)
/-- One entry for another, or a new one behind all. -/
theorem Rels.upd {e : E16} {r : R16} (hr : Rel16 e r) : ∀ {l : List E16} {rl : List R16} (h : Rels l rl) (i : Nat), Rels (upd16 l i e) (rl.take i ++ r :: rl.drop (i + 1))
  | [], [], _, i => by
    unfold upd16
    simp only [List.take_nil, List.drop_nil, List.nil_append]
    exact ⟨hr, trivial⟩
  | a :: l, b :: rl, h, 0 => by
    unfold upd16
    simpa using ⟨hr, h.2⟩
  | a :: l, b :: rl, h, i + 1 => by
    have ih := Rels.upd hr h.2 i
    unfold upd16 at *
    simpa using ⟨h.1, ih⟩

/-- Pieces that a table may hold, or one piece that is all. -/
def Fine16 (qs : List P16) : Prop := Good16 qs ∨ ∃ x, qs = [x] ∧ x.lo = 0 ∧ x.last = true ∧ x.s.size = 0
/-- The piece that the document takes next. -/
def nxt16 (ps : List (H4 × ByteArray)) (n : Nat) : Nat := ps.findIdx fun x => decide ((pcOf x).lo = n) && !(x.1.mf && decide (x.2.size = 0))
theorem take_one {qs : List P16} {j : Nat} (hj : j < qs.length) : sum16 (qs.take (j + 1)) = sum16 (qs.take j) + (qs[j]'hj).s.size := by
  have e : qs.take (j + 1) = qs.take j ++ [qs[j]'hj] := by rw [List.take_append_getElem]
  rw [e, sum16_append]
  simp [sum16]
theorem sum_take_le {qs : List P16} (g : Good16 qs) : ∀ j, (hj : j < qs.length) → sum16 (qs.take j) ≤ (qs[j]'hj).lo
  | 0, _ => Nat.zero_le _
  | j + 1, hj => by
    have h1 := sum_take_le g j (by omega)
    have h2 : (qs[j]'(by omega)).hi ≤ (qs[j + 1]'hj).lo := (g.apart (Nat.lt_succ_self j) hj).1
    have h3 := take_one (qs := qs) (j := j) (by omega)
    unfold P16.hi at h2
    omega
theorem cat_one {qs : List P16} {j : Nat} (hj : j < qs.length) : cat16 (qs.take (j + 1)) = cat16 (qs.take j) ++ (qs[j]'hj).s := by
  have e : qs.take (j + 1) = qs.take j ++ [qs[j]'hj] := by rw [List.take_append_getElem]
  unfold cat16
  rw [e, List.foldl_append]
  rfl
theorem sum_take_mono (qs : List P16) {i j : Nat} (h : i ≤ j) : sum16 (qs.take i) ≤ sum16 (qs.take j) := by
  have e : qs.take j = qs.take i ++ (qs.take j).drop i := by
    have := List.take_append_drop i (qs.take j)
    rw [List.take_take, Nat.min_eq_left h] at this
    exact this.symm
  rw [e, sum16_append]
  omega
theorem sum_split (qs : List P16) (j : Nat) : sum16 qs = sum16 (qs.take j) + sum16 (qs.drop j) := by rw [← sum16_append, List.take_append_drop]
theorem Good16.drop {qs : List P16} (g : Good16 qs) (j : Nat) : Good16 (qs.drop j) :=
  ⟨g.sorted.sublist (List.drop_sublist j qs), fun x hx => g.some x (List.mem_of_mem_drop hx), fun x hx => g.top x (List.mem_of_mem_drop hx)⟩

/-- So many pieces from the first byte on, without a gap, none of them the last one. -/
structure Chain16 (qs : List P16) (j : Nat) : Prop where
  le : j ≤ qs.length
  lo : ∀ i (hi : i < qs.length), i < j → (qs[i]'hi).lo = sum16 (qs.take i)
  last : ∀ i (hi : i < qs.length), i < j → (qs[i]'hi).last = false
theorem Chain16.start (qs : List P16) : Chain16 qs 0 := ⟨Nat.zero_le _, fun i _ h => absurd h (Nat.not_lt_zero _), fun i _ h => absurd h (Nat.not_lt_zero _)⟩
theorem nxt_lt {ps : List (H4 × ByteArray)} {n : Nat} {x : H4 × ByteArray} (hx : x ∈ ps) (h1 : (pcOf x).lo = n) (h2 : (pcOf x).last = true ∨ x.2.size ≠ 0) : nxt16 ps n < ps.length := by
  unfold nxt16
  rw [List.findIdx_lt_length]
  refine ⟨x, hx, ?_⟩
  rw [Bool.and_eq_true, decide_eq_true_eq, Bool.not_eq_true', Bool.and_eq_false_iff, decide_eq_false_iff_not]
  refine ⟨h1, ?_⟩
  rcases h2 with h2 | h2
  · left
    simpa [pcOf, piece16] using h2
  · exact Or.inr h2
theorem Chain16.no {qs : List P16} {ps : List (H4 × ByteArray)} {j : Nat} (c : Chain16 qs j) (f : Fine16 qs) (p : qs.Perm (ps.map pcOf)) (hk : ¬ nxt16 ps (sum16 (qs.take j)) < ps.length) : whole16 qs = false := by
  rw [Bool.eq_false_iff]
  intro hw
  unfold whole16 at hw
  cases hz : qs.getLast? with
  | none => rw [hz] at hw; cases hw
  | some z =>
    rw [hz] at hw
    dsimp only at hw
    rw [Bool.and_eq_true, decide_eq_true_eq] at hw
    obtain ⟨hzl, hzh⟩ := hw
    have hne : qs ≠ [] := fun e => by rw [e] at hz; cases hz
    have hlen : 0 < qs.length := List.length_pos_iff.2 hne
    have hze : z = qs[qs.length - 1]'(by omega) := by
      rw [List.getLast?_eq_getElem?, List.getElem?_eq_getElem (by omega)] at hz
      exact (Option.some.inj hz).symm
    have hj : j < qs.length := by
      rcases Nat.lt_or_ge j qs.length with h | h
      · exact h
      · have := c.last (qs.length - 1) (by omega) (by omega)
        rw [← hze, hzl] at this
        cases this
    have hmem : qs[j]'hj ∈ ps.map pcOf := p.subset (List.getElem_mem hj)
    obtain ⟨x, hx, hxe⟩ := List.mem_map.1 hmem
    rcases f with g | ⟨y, rfl, h0, hl, hs⟩
    · have h1 := sum_take_le g j hj
      have h2 := good16_span (g.drop j) (qs[j]'hj) z (by rw [List.head?_drop, List.getElem?_eq_getElem hj]) (by rw [List.getLast?_drop, if_neg (by omega)]; exact hz)
      have h3 := sum_split qs j
      have h4 : (qs[j]'hj).lo = sum16 (qs.take j) := by omega
      refine hk (nxt_lt hx (by rw [hxe]; exact h4) (Or.inr ?_))
      have := g.some _ (List.getElem_mem hj)
      rw [← hxe] at this
      exact Nat.ne_of_gt this
    · have hj0 : j = 0 := by simpa using hj
      subst hj0
      refine hk (nxt_lt hx (by rw [hxe]; exact h0) (Or.inl (by rw [hxe]; exact hl)))
theorem Chain16.yes {qs : List P16} {ps : List (H4 × ByteArray)} {j k : Nat} (c : Chain16 qs j) (f : Fine16 qs) (p : qs.Perm (ps.map pcOf)) (hk : k < ps.length) (he : nxt16 ps (sum16 (qs.take j)) = k) :
    ∃ hj : j < qs.length, pcOf (ps[k]'hk) = qs[j]'hj ∧ (qs[j]'hj).lo = sum16 (qs.take j) ∧ ((qs[j]'hj).last = true → whole16 qs = true ∧ j + 1 = qs.length) ∧ ((qs[j]'hj).last = false → Chain16 qs (j + 1)) := by
  have hp := List.findIdx_getElem (p := fun x : H4 × ByteArray => decide ((pcOf x).lo = sum16 (qs.take j)) && !(x.1.mf && decide (x.2.size = 0))) (xs := ps) (w := by unfold nxt16 at he; omega)
  have he2 : ps.findIdx (fun x : H4 × ByteArray => decide ((pcOf x).lo = sum16 (qs.take j)) && !(x.1.mf && decide (x.2.size = 0))) = k := he
  simp only [he2] at hp
  rw [Bool.and_eq_true, decide_eq_true_eq] at hp
  have hmem : pcOf (ps[k]'hk) ∈ qs := p.symm.subset (List.mem_map_of_mem (List.getElem_mem hk))
  obtain ⟨i, hi, hie⟩ := List.getElem_of_mem hmem
  have hlo : (qs[i]'hi).lo = sum16 (qs.take j) := by rw [hie]; exact hp.1
  have hij : i = j := by
    rcases f with g | ⟨y, rfl, h0, hl, hs⟩
    · rcases Nat.lt_trichotomy i j with h | h | h
      · have h1 := c.lo i hi h
        have h2 := sum_take_mono qs (show i + 1 ≤ j from h)
        have h3 := take_one hi
        have h4 := g.some _ (List.getElem_mem hi)
        omega
      · exact h
      · have hjl : j < qs.length := by omega
        have h1 := sum_take_le g j hjl
        have h2 := (g.apart h hi).1
        have h3 := g.size hjl
        omega
    · have hi0 : i = 0 := by simpa using hi
      rcases Nat.eq_zero_or_pos j with h | h
      · omega
      · have := c.last 0 (by simp) h
        have e : ([y] : List P16)[0]'(by simp) = y := rfl
        rw [e, hl] at this
        cases this
  subst hij
  refine ⟨hi, hie.symm, hlo, fun hl => ?_, fun hl => ⟨hi, fun i' hi' h => ?_, fun i' hi' h => ?_⟩⟩
  · have hlen : i + 1 = qs.length := by
      rcases f with g | ⟨y, rfl, h0, hl, hs⟩
      · rcases Nat.lt_or_ge (i + 1) qs.length with h | h
        · have := (g.apart (Nat.lt_succ_self i) h).2
          rw [hl] at this
          cases this
        · omega
      · have hi0 : i = 0 := by simpa using hi
        rw [hi0]
        rfl
    refine ⟨?_, hlen⟩
    have h3 := take_one hi
    rw [hlen, List.take_length] at h3
    unfold whole16
    rw [List.getLast?_eq_getElem?, show qs.length - 1 = i by omega, List.getElem?_eq_getElem hi]
    dsimp only
    rw [Bool.and_eq_true, decide_eq_true_eq]
    refine ⟨hl, ?_⟩
    unfold P16.hi
    omega
  · rcases Nat.lt_or_ge i' i with h1 | h1
    · exact c.lo i' hi' h1
    · have : i' = i := by omega
      subst this
      exact hlo
  · rcases Nat.lt_or_ge i' i with h1 | h1
    · exact c.last i' hi' h1
    · have : i' = i := by omega
      subst this
      exact hl

end Go.Proofs.Ytoijomdgcgbpbaa

/-
  The document's pieces: where one begins and ends.
-/
namespace Go.Proofs.Ytoijomdgcgbpbaa
open Go.RowKit
set_option linter.unusedVariables false

/-- A piece's cells. -/
def pccells (x : H4 × ByteArray) : List Value := [.int .i64 x.1.tos, .int .i64 x.1.id, .int .i64 x.1.off, .int .i64 x.1.ttl, .int .i64 x.1.proto, .bool x.1.df, .bool x.1.mf, .string x.1.src, .string x.1.dst, .string x.1.opt, .string x.2]
/-- What holds of a piece's numbers. -/
structure Pc16 (x : H4 × ByteArray) : Prop where
  off : 0 ≤ x.1.off ∧ x.1.off ≤ 8191
  size : x.2.size ≤ 65535
theorem Pc16.lo {x : H4 × ByteArray} (h : Pc16 x) : x.1.off * 8 = ((pcOf x).lo : Nat) := by
  have := h.off
  show _ = ((8 * x.1.off.toNat : Nat) : Int)
  omega
theorem Pc16.hi {x : H4 × ByteArray} (h : Pc16 x) : x.1.off * 8 + (x.2.size : Int) = ((pcOf x).hi : Nat) := by
  have := h.lo
  show _ = (((pcOf x).lo + x.2.size : Nat) : Int)
  omega

theorem rfrom16_any (x : H4 × ByteArray) (hx : Pc16 x) (w : World) : Calls Try.prog 37 #[.agg (pccells x).toArray] w (Tells (.int .i64 ((pcOf x).lo : Nat)) w) := by
  have hlo := hx.lo
  have hoff := hx.off
  have ew : IntKind.i64.wrap (x.1.off * 8) = x.1.off * 8 := IntWalk.i64_in _ (by omega)
  unfold Tells
  rw [← hlo]
  unfold pccells
  clear hlo hx
  go_enter Try.func37, Try.ntmps37
  go_wp2_with fail
  go_ret
  exact ⟨rfl, (Below.refl _ w).alloc (Nat.le_refl _) _⟩
theorem rend16_any (x : H4 × ByteArray) (hx : Pc16 x) (w : World) : Calls Try.prog 35 #[.agg (pccells x).toArray] w (Tells (.int .i64 ((pcOf x).hi : Nat)) w) := by
  have hhi := hx.hi
  have hoff := hx.off
  have hsz := hx.size
  have ew : IntKind.i64.wrap (x.1.off * 8) = x.1.off * 8 := IntWalk.i64_in _ (by omega)
  have ew2 : IntKind.i64.wrap (x.1.off * 8 + (x.2.size : Int)) = x.1.off * 8 + (x.2.size : Int) := IntWalk.i64_in _ (by omega)
  unfold Tells
  rw [← hhi]
  unfold pccells
  clear hhi hx
  go_enter Try.func35, Try.ntmps35
  go_wp2_with fail
  go_ret
  exact ⟨rfl, (Below.refl _ w).alloc (Nat.le_refl _) _⟩

end Go.Proofs.Ytoijomdgcgbpbaa

/-
  What the document's Add says and leaves, plain: over pieces in the order in which they came.
-/
namespace Go.Proofs.Ytoijomdgcgbpbaa
open Go.RowKit
set_option linter.unusedVariables false

/-- The document's entry of a header's key, or a new one. -/
def rold (rl : List R16) (h : H4) : R16 := rl.getD (rfind rl h.key) ⟨h, [], false, 0⟩
theorem Rel16.new (h : H4) : Rel16 (E16.new h.key) ⟨h, [], false, 0⟩ :=
  ⟨rfl, rfl, rfl, List.Perm.nil, fun _ hx => (List.not_mem_nil hx).elim, fun _ hx => (List.not_mem_nil hx).elim⟩
theorem Rels.old {l : List E16} {rl : List R16} (r : Rels l rl) (h : H4) : Rel16 (old16 l h.key) (rold rl h) := by
  have hf := r.find h.key
  have hl := r.length
  unfold old16 rold
  rw [List.getD_eq_getElem?_getD, List.getD_eq_getElem?_getD, ← hf]
  by_cases hi : find16 l h.key < l.length
  · rw [List.getElem?_eq_getElem hi, List.getElem?_eq_getElem (by omega), Option.getD_some, Option.getD_some]
    exact r.get hi (by omega)
  · rw [List.getElem?_eq_none (by omega), List.getElem?_eq_none (by omega)]
    exact Rel16.new h
theorem perm_any {qs : List P16} {ps : List (H4 × ByteArray)} (h : qs.Perm (ps.map pcOf)) (f : P16 → Bool) : qs.any f = ps.any fun x => f (pcOf x) := by
  rw [Bool.eq_iff_iff, List.any_eq_true, List.any_eq_true]
  constructor
  · rintro ⟨q, hq, e⟩
    obtain ⟨x, hx, rfl⟩ := List.mem_map.1 (h.subset hq)
    exact ⟨x, hx, e⟩
  · rintro ⟨x, hx, e⟩
    exact ⟨pcOf x, h.symm.subset (List.mem_map_of_mem hx), e⟩
/-- Why a piece can't be one more. -/
def rno (E B : Nat) (rl : List R16) (x : H4 × ByteArray) : Nat :=
  if (pcOf x).mayBe = false then 4 else if (rold rl x.1).done = true then 12 else if ((rold rl x.1).ps.any fun y => alike16 (pcOf x) (pcOf y)) = true then 10 else if ((rold rl x.1).ps.any fun y => clash16 (pcOf x) (pcOf y)) = true then 14
  else if (rfind rl x.1.key = rl.length ∧ rl.length = E) ∨ B < rbytes rl + x.2.size then 11 else 0
theorem rno_is {E B L : Nat} {l : List E16} (t : Tab16 E B L l) {rl : List R16} (r : Rels l rl) (x : H4 × ByteArray) : no16 E B l x.1.key (pcOf x) = rno E B rl x := by
  have o := r.old x.1
  have g := (old16_ent t x.1.key).good
  have hs : (pcOf x).s.size = x.2.size := rfl
  unfold no16 rno
  rw [near16_has g, near16_fits g, perm_any o.perm, perm_any o.perm, o.done, r.find, r.length, r.bytes, hs]

/-- One more piece. -/
def R16.put (r : R16) (x : H4 × ByteArray) : R16 := { r with ps := r.ps ++ [x] }
def R16.over (r : R16) : R16 := { r with ps := [], done := true }
theorem Rel16.over {e : E16} {r : R16} (h : Rel16 e r) : Rel16 e.over r.over :=
  ⟨h.key, rfl, h.age, List.Perm.nil, fun _ hx => (List.not_mem_nil hx).elim, fun _ hx => (List.not_mem_nil hx).elim⟩
theorem ins_perm (z : P16) (qs : List P16) : (ins16 z qs).Perm (z :: qs) := by
  unfold ins16
  refine List.perm_middle.trans ?_
  rw [List.take_append_drop]
theorem Rels.put {E B L : Nat} {l : List E16} (t : Tab16 E B L l) {rl : List R16} (r : Rels l rl) {x : H4 × ByteArray} (hok : x.1.Ok) (hsz : x.2.size ≤ 65535) (hno : no16 E B l x.1.key (pcOf x) = 0) :
    Rel16 ((old16 l x.1.key).put x.1 (pcOf x)) ((rold rl x.1).put x) ∧ Fine16 ((old16 l x.1.key).put x.1 (pcOf x)).qs := by
  have o := r.old x.1
  have y := yes16 t hno
  have g := (old16_ent t x.1.key).good
  have hoff := hok.off
  have hqs : ((old16 l x.1.key).put x.1 (pcOf x)).qs = ins16 (pcOf x) (old16 l x.1.key).qs := rfl
  refine ⟨⟨o.key, o.done, o.age, ?_, ?_, ?_⟩, ?_⟩
  · rw [hqs]
    refine (ins_perm _ _).trans ?_
    show List.Perm _ (((rold rl x.1).ps ++ [x]).map pcOf)
    rw [List.map_append]
    exact (List.Perm.cons _ o.perm).trans (List.perm_append_comm (l₁ := [pcOf x]) (l₂ := (rold rl x.1).ps.map pcOf))
  · intro u hu h0
    rcases List.mem_append.1 hu with hu | hu
    · have hm : pcOf u ∈ (old16 l x.1.key).qs := o.perm.symm.subset (List.mem_map_of_mem hu)
      have hne : ¬ (pcOf x).lo = 0 := fun e => by
        by_cases hb : (pcOf x).s.size = 0
        · have := (y.bare t hb).1
          rw [this] at hm
          cases hm
        · have hc := y.fits
          rw [List.any_eq_false] at hc
          refine hc _ hm ((clash16_iff _ _).2 (Or.inl ?_))
          have h1 := g.some _ hm
          unfold P16.hi
          omega
      have e2 : ((old16 l x.1.key).put x.1 (pcOf x)).hd = (old16 l x.1.key).hd := by unfold E16.put; rw [if_neg hne]
      rw [e2]
      exact o.first u hu h0
    · rw [List.mem_singleton.1 hu] at h0 ⊢
      unfold E16.put
      rw [if_pos h0]
  · intro u hu
    rcases List.mem_append.1 hu with hu | hu
    · exact o.each u hu
    · rw [List.mem_singleton.1 hu]
      exact ⟨hoff.1, hoff.2, hsz⟩
  · rw [hqs]
    by_cases hb : (pcOf x).s.size = 0
    · have ⟨a, b, c⟩ := y.bare t hb
      rw [a]
      exact Or.inr ⟨pcOf x, rfl, b, c, hb⟩
    · exact Or.inl (g.ins (by omega) y.hi y.fits)

/-- The tests that Add makes ahead. -/
theorem rmay (x : H4 × ByteArray) (h : 0 ≤ x.1.off) : (pcOf x).mayBe = !(decide (65515 < (pcOf x).hi) || (x.1.mf && (decide (x.2.size % 8 ≠ 0) || decide (x.2.size = 0))) || (decide (0 < x.1.off) && decide (x.2.size = 0))) := by
  have hs : (pcOf x).s.size = x.2.size := rfl
  have hl : (pcOf x).last = !x.1.mf := rfl
  have hlo : (pcOf x).lo = 8 * x.1.off.toNat := rfl
  unfold P16.mayBe
  rw [hs, hl, hlo]
  by_cases h1 : 65515 < (pcOf x).hi
  · simp [h1]
  · rw [if_neg h1, decide_eq_false h1]
    cases x.1.mf with
    | true =>
      by_cases h2 : x.2.size % 8 = 0 <;> by_cases h3 : x.2.size = 0 <;> simp [h2, h3]
      omega
    | false =>
      by_cases h3 : x.2.size = 0
      · by_cases h4 : 0 < x.1.off
        · simp [h3, h4]
          omega
        · simp [h3, h4]
          omega
      · simp [h3]
        omega

end Go.Proofs.Ytoijomdgcgbpbaa
