/-
  The document's Right; two tables side by side.
-/
import Derived.Test.YtoijomdgcgbpbaaReasmRB
import Derived.Test.YtoijomdgcgbpbaaReasmT
namespace Go.Proofs.Ytoijomdgcgbpbaa
open Go.RowKit
set_option linter.unusedVariables false

theorem rin16_any (n hi : Int) (w : World) : Calls Try.prog 28 #[.int .i64 n, .int .i64 hi] w (Tells (.bool (decide (1 ≤ n ∧ n ≤ hi))) w) := by
  unfold Tells
  by_cases h1 : 1 ≤ n
  · have t1 : decide ((1 : Int) ≤ n) = true := decide_eq_true h1
    by_cases h2 : n ≤ hi
    · have t2 : decide (n ≤ hi) = true := decide_eq_true h2
      rw [decide_eq_true (show 1 ≤ n ∧ n ≤ hi from ⟨h1, h2⟩)]
      clear h1 h2
      go_enter Try.func28, Try.ntmps28
      go_wp2_with fail
      go_ret
      exact ⟨rfl, Below.refl _ _⟩
    · have t2 : decide (n ≤ hi) = false := decide_eq_false h2
      rw [decide_eq_false (show ¬ (1 ≤ n ∧ n ≤ hi) from fun e => h2 e.2)]
      clear h1 h2
      go_enter Try.func28, Try.ntmps28
      go_wp2_with fail
      go_ret
      exact ⟨rfl, Below.refl _ _⟩
  · have t1 : decide ((1 : Int) ≤ n) = false := decide_eq_false h1
    rw [decide_eq_false (show ¬ (1 ≤ n ∧ n ≤ hi) from fun e => h1 e.1)]
    clear h1
    go_enter Try.func28, Try.ntmps28
    go_wp2_with fail
    go_ret
    exact ⟨rfl, Below.refl _ _⟩

instance (s : S16) : Decidable s.Right := by unfold S16.Right; infer_instance
set_option maxRecDepth 100000 in
theorem rright16_any (s : S16) (w : World) : Calls Try.prog 12 #[.agg s.cells] w (Tells (.bool (decide s.Right)) w) := by
  have NS := Lib.hid (Blk.new w s.cells 23)
  have B0 := Lib.hid ((Below.refl w.heap.size w).alloc (Nat.le_refl _) (.cells s.cells 23))
  have I1 := Lib.hid (fun W => rin16_any s.e 64 W)
  have I2 := Lib.hid (fun W => rin16_any s.b 1048576 W)
  have I3 := Lib.hid (fun W => rin16_any s.l 64 W)
  have HR : decide s.Right = (decide (1 ≤ s.e ∧ s.e ≤ 64) && (decide (1 ≤ s.b ∧ s.b ≤ 1048576) && decide (1 ≤ s.l ∧ s.l ≤ 64))) := by
    rw [Bool.eq_iff_iff]
    simp only [Bool.and_eq_true, decide_eq_true_eq]
    exact Iff.rfl
  unfold Tells at I1 I2 I3 ⊢
  rw [HR]
  clear HR
  generalize decide (1 ≤ s.e ∧ s.e ≤ 64) = b1 at *
  generalize decide (1 ≤ s.b ∧ s.b ≤ 1048576) = b2 at *
  generalize decide (1 ≤ s.l ∧ s.l ≤ 64) = b3 at *
  unfold S16.cells at NS B0 ⊢
  have c0 := NS.out.cell 0
  simp only [List.getElem?_toArray, List.getElem?_cons_zero] at c0
  go_enter Try.func12, Try.ntmps12
  go_wp2_with fail
  refine (I1.out _).mono ?_
  rintro e w1 ⟨rfl, hb1⟩
  have B1 := Lib.hid (B0.out.trans (hb1.mono B0.out.size))
  have NS1 := Lib.hid ((hb1.block _ NS.out.lt).trans NS.out)
  have c1 := Blk.cell NS1.out 1
  simp only [List.getElem?_toArray, List.getElem?_cons_zero, List.getElem?_cons_succ] at c1
  clear hb1 c0 NS B0 I1
  cases b1 with
  | false =>
    go_wp2_with fail
    go_ret
    exact ⟨rfl, B1.out⟩
  | true =>
    go_wp2_with fail
    refine (I2.out _).mono ?_
    rintro e w2 ⟨rfl, hb2⟩
    have B2 := Lib.hid (B1.out.trans (hb2.mono B1.out.size))
    have NS2 := Lib.hid ((hb2.block _ (Blk.lt NS1.out)).trans NS1.out)
    have c2 := Blk.cell NS2.out 2
    simp only [List.getElem?_toArray, List.getElem?_cons_zero, List.getElem?_cons_succ] at c2
    clear hb2 c1 NS1 B1 I2
    cases b2 with
    | false =>
      go_wp2_with fail
      go_ret
      exact ⟨rfl, B2.out⟩
    | true =>
      go_wp2_with fail
      refine (I3.out _).mono ?_
      rintro e w3 ⟨rfl, hb3⟩
      have B3 := Lib.hid (B2.out.trans (hb3.mono B2.out.size))
      clear hb3 c2 NS2 B2 I3
      cases b3 with
      | false =>
        go_wp2_with fail
        go_ret
        exact ⟨rfl, B3.out⟩
      | true =>
        go_wp2_with fail
        go_ret
        exact ⟨rfl, B3.out⟩

/-- The program's table, with its blocks named, beside another's that aren't. -/
structure TbS16 (S : Nat → Prop) (W : World) (tb E B L : Nat) (l : List E16) : Prop where
  tab : TbL16 (fun i => S i ∨ W.heap.size ≤ i) W tb E B L l
  lt : ∀ i, S i → i < W.heap.size
theorem TbL16.mono {S S' : Nat → Prop} {W : World} {tb E B L : Nat} {l : List E16} (h : TbL16 S W tb E B L l) (hs : ∀ i, S i → S' i) : TbL16 S' W tb E B L l := by
  obtain ⟨mb, ms, clock, t, rfl⟩ := h.is
  exact ⟨⟨mb, ms, clock, t.mono hs, rfl⟩, fun i hi => hs i (h.up i hi)⟩
/-- Blocks of another's are changed, and some made. -/
theorem TbS16.other {S T : Nat → Prop} {W W' : World} {tb E B L : Nat} {l : List E16} (h : TbS16 S W tb E B L l) (k : Kb T W W') (hs : ∀ i, S i → ¬ T i) : TbS16 S W' tb E B L l := by
  obtain ⟨mb, ms, clock, t, rfl⟩ := h.tab.is
  have t2 : Tb16 S W tb mb E B L ms clock := t.cut.mono (fun i hi => by
    rcases hi.1 with h1 | h1
    · exact h1
    · have := hi.2; omega)
  exact ⟨⟨⟨mb, ms, clock, (t2.kb k hs).mono (fun i hi => Or.inl hi), rfl⟩, fun i hi => Or.inr hi⟩, fun i hi => Nat.lt_of_lt_of_le (h.lt i hi) k.size⟩
/-- Its own are. -/
theorem TbS16.own {S : Nat → Prop} {W W' : World} {tb E B L : Nat} {l l' : List E16} (h : TbS16 S W tb E B L l) (t : TbL16 (fun i => S i ∨ W.heap.size ≤ i) W' tb E B L l') (hz : W.heap.size ≤ W'.heap.size) : TbS16 (fun i => S i ∨ (W.heap.size ≤ i ∧ i < W'.heap.size)) W' tb E B L l' := by
  refine ⟨t.mono (fun i hi => ?_), fun i hi => ?_⟩
  · by_cases hlt : i < W'.heap.size
    · rcases hi with h1 | h1
      · exact Or.inl (Or.inl h1)
      · exact Or.inl (Or.inr ⟨h1, hlt⟩)
    · exact Or.inr (by omega)
  · rcases hi with h1 | h1
    · exact Nat.lt_of_lt_of_le (h.lt i h1) hz
    · exact h1.2

end Go.Proofs.Ytoijomdgcgbpbaa
