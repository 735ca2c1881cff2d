/-
  A range over a function whose iterator keeps a variable of its own in a block: the iterator's contract, and the law for the loop over it. Of no Go function.
-/
import Derived.Test.YtoijomdgcgbpbaaGround
import Derived.RangeFuncNested
import Derived.RangeFuncCalls
import Derived.RangeFuncLeaves
namespace Go.Proofs.Ytoijomdgcgbpbaa
open Go.RowKit
set_option linter.unusedVariables false

/-- The loop's own blocks (for deferred calls, its record), and the iterator's, which is made next. -/
def Three (N k : Nat) : Prop := N ≤ k ∧ k ≤ N + 2

theorem kb_putObj (S : Nat → Prop) (A : World) {r : Nat} (o : Obj) (hr : S r) : Kb S A (A.putObj r o) :=
  ⟨rfl, rfl, rfl, by simp, fun k _ hs => World.putObj_heap_other (fun e => hs (e ▸ hr))⟩

/-- What a round keeps: all that lay ahead of n₀, and these three. -/
structure Keep (n₀ N : Nat) (A A' : World) : Prop where
  bel : Below n₀ A A'
  own : ∀ k, Three N k → A'.heap[k]? = A.heap[k]?
theorem Keep.refl (n₀ N : Nat) (A : World) : Keep n₀ N A A := ⟨Below.refl _ _, fun _ _ => rfl⟩
theorem Keep.trans {n₀ N : Nat} {A B C : World} (h : Keep n₀ N A B) (k : Keep n₀ N B C) : Keep n₀ N A C :=
  ⟨h.bel.trans k.bel, fun i hi => (k.own i hi).trans (h.own i hi)⟩

/-- What the iterator asks of a round: all that lay ahead of n₀, and its own block, stay. -/
structure Kept (n₀ B : Nat) (A A' : World) : Prop where
  bel : Below n₀ A A'
  own : A'.heap[B]? = A.heap[B]?

/-- The contract of an iterator that keeps a variable in block B, the next one to be made where it is called. -/
def BoxSeq {α : Type} (F : Fence) (n : Nat) (P : Program) (g : Nat) (lb : Array Value) (encs : α → Array Value) (n₀ B most : Nat) (S Sp : List α → Prop) (W : World) : Prop :=
  ∀ (l : Nat) (J Jx : List α → World → Prop), (∀ s A A', J s A → Kb (· = B) A A' → J s A') → (∀ s A A', Jx s A → Kb (· = B) A A' → Jx s A') →
    (∀ pre x A, J pre A → B < A.heap.size → pre.length < most → YieldAt F (n - 1) P l (encs x) A fun e A' =>
      (e = .returned (.bool true) ∧ J (pre ++ [x]) A' ∧ Kept n₀ B A A') ∨ (e = .returned (.bool false) ∧ Jx (pre ++ [x]) A')) →
    J [] W →
    CallsIn F n P g (#[.func (.yield l) #[] #[]] ++ lb) W fun e A' => (∃ v, e = .returned v) ∧ ((∃ xs, S xs ∧ J xs A') ∨ (∃ pre, Sp pre ∧ Jx pre A'))

/-- How a round may end: it goes on, or it returns. -/
def boxPost {α : Type} (n₀ N : Nat) (I Ix : List α → World → Prop) (xs : List α) (A : World) : Exit → Act → World → Prop
  | .normal, _, A' => Keep n₀ N A A' ∧ I xs A'
  | .ret, _, A' => Keep n₀ N A A' ∧ Ix xs A'
  | .exit _, _, _ => False
  | .goto _, _, _ => False
  | .panic _, _, _ => False
  | .outgrown, _, _ => False

theorem rangeFunc_box {α : Type} {F : Fence} {n : Nat} {P : Program} {g : Operand} {ps : Array Tmp} {assign body : Code} {Q : Exit → Act → World → Prop} {a : Act} {w : World}
    (hro : F.round = none) (h1 : 1 ≤ n) {gf : Nat} {lb : Array Value} (hg : a.eval g = .func (.func gf) #[] lb) (hFg : F.fn gf) (eg : ∀ args w, (callFunc gf args).run P w = .ok (.enter gf args) w)
    {encs : α → Array Value} {n₀ most : Nat} {S Sp : List α → Prop} (hn : n₀ ≤ w.heap.size) (hps : ∀ x, (encs x).size = ps.size)
    (hseq : ∀ W, W.heap.size = w.heap.size + 2 → Below w.heap.size w W → BoxSeq F (n - 1) P gf lb encs n₀ (w.heap.size + 2) most S Sp W)
    (I Ix : List α → World → Prop) (hI : ∀ s A A', I s A → Kb (Three w.heap.size) A A' → I s A') (hIx : ∀ s A A', Ix s A → Kb (Three w.heap.size) A A' → Ix s A') (h0 : I [] w)
    (hround : ∀ (l : Nat) (pre : List α) (x : α) (A : World), I pre A → w.heap.size + 2 < A.heap.size → pre.length < most →
      assign.wpIn (F.inRound l) (n - 1 - 1) P (Exit.then (fun a₁ A₁ => Keep n₀ w.heap.size A A₁ ∧
          ∀ A₂, Kb (Three w.heap.size) A₁ A₂ → body.wpIn (F.inRound l) (n - 1 - 1) P (boxPost n₀ w.heap.size I Ix (pre ++ [x]) A₂) a₁ A₂) (fun _ _ _ => False))
        { tmps := (ps.zip (encs x)).foldl (fun t (p, v) => t.setIfInBounds p v) a.tmps, defers := [] } A)
    (hdone : ∀ (xs : List α) (A : World), S xs → I xs A → A.heap[w.heap.size]? = some (.deferred (some [])) → Q .normal { a with defers := { target := .collected w.heap.size, args := #[] } :: a.defers } A)
    (hstop : ∀ (pre : List α) (A : World), Sp pre → Ix pre A → A.heap[w.heap.size]? = some (.deferred (some [])) → Code.ret.wpIn F n P Q { a with defers := { target := .collected w.heap.size, args := #[] } :: a.defers } A) :
    (Code.rangeFunc g ps assign body).wpIn F n P Q a w := by
  generalize hN : w.heap.size = N at *
  refine wpIn_rangeFunc fun fn hfn => ?_
  rw [hro]
  -- the record, by its state and its jump
  let R : LoopState → Option Code → Obj := fun st j => .loop { state := st, pending := j, fn, tmps := a.tmps, params := ps, assign, body, defers := N }
  obtain ⟨W, hW⟩ : ∃ W, W = (w.alloc (.deferred (some []))).alloc (R .ready none) := ⟨_, rfl⟩
  have hz : W.heap.size = N + 2 := by rw [hW]; simp; omega
  have hwW : Kb (fun _ => False) w W := by rw [hW]; exact ((Kb.refl _ w).alloc _).alloc _
  have hL : W.heap[N + 1]? = some (R .ready none) := by
    have h := World.alloc_heap_new (w.alloc (.deferred (some []))) (R .ready none)
    rw [World.size_alloc, hN] at h
    rw [hW]; exact h
  have hD : W.heap[N]? = some (.deferred (some [])) := by
    have h := World.alloc_heap_new w (.deferred (some []))
    rw [hN] at h
    rw [hW]; exact (Below.heap_alloc _ _ _ (by simp; omega)).trans h
  have three : ∀ {k : Nat}, k = N ∨ k = N + 1 ∨ k = N + 2 → Three N k := fun h => ⟨by omega, by omega⟩
  have wide : ∀ {A A' : World}, Kb (· = N + 2) A A' → Kb (Three N) A A' := fun h => h.mono fun k _ e => by subst e; exact three (by omega)
  have hbel : Below N w W := ⟨hwW.os, hwW.tape, hwW.output, hwW.size, fun k hk => hwW.block k (by omega) id⟩
  refine ⟨N + 1, [{ target := .collected N, args := #[] }], W, { target := .fn (.func gf) lb, args := #[.func (.yield (N + 1)) #[] #[]] }, W, gf, #[.func (.yield (N + 1)) #[] #[]] ++ lb, W, ?_, ?_, ?_, ?_, fun _ => h1, ?_⟩
  · rw [hW, ← hN]
    have h := run_enterLoop_outer (P := P) (w := w) fn a.tmps ps assign body
    simp only [R, ← hN]
    exact h
  · simp only [resolve, hg]
    simp [go_sem]
  · intro f' hf'
    simp [Target.leads] at hf'
    subst hf'
    exact hFg
  · simp [invoke, go_sem, eg]
  refine (hseq W hz hbel (N + 1)
    (fun pre A => I pre A ∧ A.heap[N + 1]? = some (R .ready none) ∧ A.heap[N]? = some (.deferred (some [])))
    (fun pre A => Ix pre A ∧ A.heap[N + 1]? = some (R .done (some .ret)) ∧ A.heap[N]? = some (.deferred (some [])))
    ?ji ?jx ?round ⟨hI _ _ _ h0 (hwW.mono fun _ _ h => h.elim), hL, hD⟩).mono ?behind
  case ji =>
    rintro s A A' ⟨hi, hl, hd⟩ hk
    exact ⟨hI _ _ _ hi (wide hk), (hk.block _ (Array.getElem?_eq_some_iff.1 hl).1 (by omega)).trans hl, (hk.block _ (Array.getElem?_eq_some_iff.1 hd).1 (by omega)).trans hd⟩
  case jx =>
    rintro s A A' ⟨hi, hl, hd⟩ hk
    exact ⟨hIx _ _ _ hi (wide hk), (hk.block _ (Array.getElem?_eq_some_iff.1 hl).1 (by omega)).trans hl, (hk.block _ (Array.getElem?_eq_some_iff.1 hd).1 (by omega)).trans hd⟩
  case round =>
    rintro pre x A ⟨hi, hl, hd⟩ hlt hmost
    refine ⟨fn, _, assign, body, run_yield hl (hps x), roundIn_of_wpIn hfn (wpIn_mono (hround (N + 1) pre x A hi hlt hmost) ?_)⟩
    intro e a₁ A₁ he
    cases e with
    | normal =>
      obtain ⟨hk, hb⟩ := he
      have hl1 := (hk.own _ (three (by omega))).trans hl
      have hd1 := (hk.own _ (three (by omega))).trans hd
      have hlt1 : N + 1 < A₁.heap.size := (Array.getElem?_eq_some_iff.1 hl1).1
      refine ⟨_, run_beginRound hl1 rfl, wpIn_mono (hb _ (kb_putObj _ _ _ (three (by omega)))) ?_⟩
      -- how the record's block is behind a round that ends by j
      have fin : ∀ (j : Option Code) (A₃ : World), Keep n₀ N (A₁.putObj (N + 1) (R .busy none)) A₃ →
          (Instr.endRound (N + 1) j).run P A₃ = .ok (.bool j.isNone) (A₃.putObj (N + 1) (R (if j.isNone then .ready else .done) j)) ∧
          (A₃.putObj (N + 1) (R (if j.isNone then .ready else .done) j)).heap[N + 1]? = some (R (if j.isNone then .ready else .done) j) ∧
          (A₃.putObj (N + 1) (R (if j.isNone then .ready else .done) j)).heap[N]? = some (.deferred (some [])) := by
        intro j A₃ h3
        have hl3 : A₃.heap[N + 1]? = some (R .busy none) := (h3.own _ (three (by omega))).trans (World.putObj_heap_same hlt1)
        have hd3 : A₃.heap[N]? = some (.deferred (some [])) := (h3.own _ (three (by omega))).trans ((World.putObj_heap_other (by omega)).trans hd1)
        exact ⟨run_endRound j hl3, World.putObj_heap_same (Array.getElem?_eq_some_iff.1 hl3).1, (World.putObj_heap_other (by omega)).trans hd3⟩
      intro e a₃ A₃ he
      cases e with
      | normal =>
        obtain ⟨h3, hi3⟩ := he
        obtain ⟨f1, f2, f3⟩ := fin none A₃ h3
        refine ⟨_, _, f1, Or.inl ⟨rfl, ⟨hI _ _ _ hi3 (kb_putObj _ _ _ (three (by omega))), f2, f3⟩, ?_, ?_⟩⟩
        · have q1 : Below n₀ A₁ (A₁.putObj (N + 1) (R .busy none)) := ⟨rfl, rfl, rfl, by simp, fun k hk => World.putObj_heap_other (by omega)⟩
          have q2 : Below n₀ A₃ (A₃.putObj (N + 1) (R .ready none)) := ⟨rfl, rfl, rfl, by simp, fun k hk => World.putObj_heap_other (by omega)⟩
          exact ((hk.bel.trans q1).trans h3.bel).trans q2
        · refine (World.putObj_heap_other (by omega)).trans ((h3.own _ (three (by omega))).trans ((World.putObj_heap_other (by omega)).trans (hk.own _ (three (by omega)))))
      | ret =>
        obtain ⟨h3, hi3⟩ := he
        obtain ⟨f1, f2, f3⟩ := fin (some .ret) A₃ h3
        exact ⟨_, _, f1, Or.inr ⟨rfl, hIx _ _ _ hi3 (kb_putObj _ _ _ (three (by omega))), f2, f3⟩⟩
      | exit _ => exact he.elim
      | goto _ => exact he.elim
      | panic _ => exact he.elim
      | outgrown => exact he.elim
    | ret => exact he.elim
    | exit _ => exact he.elim
    | goto _ => exact he.elim
    | panic _ => exact he.elim
    | outgrown => exact he.elim
  case behind =>
    rintro e A ⟨⟨v, rfl⟩, (⟨xs, hS, hi, hl, hd⟩ | ⟨pre, hSp, hi, hl, hd⟩)⟩
    · exact ⟨none, _, run_endLoop hl (by simp), hdone xs _ hS (hI _ _ _ hi (kb_putObj _ _ _ (three (by omega)))) ((World.putObj_heap_other (by omega)).trans hd)⟩
    · exact ⟨some .ret, _, run_endLoop hl (by simp), hstop pre _ hSp (hIx _ _ _ hi (kb_putObj _ _ _ (three (by omega)))) ((World.putObj_heap_other (by omega)).trans hd)⟩

end Go.Proofs.Ytoijomdgcgbpbaa
