/-
  A range over a function whose iterator keeps a variable of its own in a block: the iterator's contract, and the law for the loop over it. Of no Go function.
-/
import Derived.Test.YtoijomdgcgbpbaaGround
import Derived.RangeFuncNested
import Derived.RangeFuncCalls
import Derived.RangeFuncLeaves
import Derived.Test.YtoijomdgcgbpbaaFragSpec
import Derived.RangeFuncBound
import Derived.Shelf.Abstract
import Derived.Shelf.RegionOpen
import Derived.WalkKit
import Derived.OwnWalkIn
import Derived.TacticsInMore
import Derived.LoopNIn
import Derived.LoopIn
import Derived.OwnWalk
import Derived.Deep.AppendLies
import Derived.RangeFuncBox
import Derived.Test.YtoijomdgcgbpbaaIp4RefGet
import Derived.Test.YtoijomdgcgbpbaaIp4B
namespace Go.Proofs.Ytoijomdgcgbpbaa
open Go.RowKit
set_option linter.unusedVariables false

/-- The loop's own blocks (for deferred calls, its record), and the iterator's, which is made next. -/
def Three (N k : Nat) : Prop := N ≤ k ∧ k ≤ N + 2

theorem kb_putObj (S : Nat → Prop) (A : World) {r : Nat} (o : Obj) (hr : S r) : Kb S A (A.putObj r o) :=
  ⟨rfl, rfl, rfl, by simp, fun k _ hs => World.putObj_heap_other (fun e => hs (e ▸ hr))⟩

/-- What a round keeps: all that lay ahead of n₀, and these three. -/
structure Keep (n₀ N : Nat) (A A' : World) : Prop where
  bel : Below n₀ A A'
  own : ∀ k, Three N k → A'.heap[k]? = A.heap[k]?
theorem Keep.refl (n₀ N : Nat) (A : World) : Keep n₀ N A A := ⟨Below.refl _ _, fun _ _ => rfl⟩
theorem Keep.trans {n₀ N : Nat} {A B C : World} (h : Keep n₀ N A B) (k : Keep n₀ N B C) : Keep n₀ N A C :=
  ⟨h.bel.trans k.bel, fun i hi => (k.own i hi).trans (h.own i hi)⟩

/-- What the iterator asks of a round: all that lay ahead of n₀, and its own block, stay. -/
structure Kept (n₀ B : Nat) (A A' : World) : Prop where
  bel : Below n₀ A A'
  own : A'.heap[B]? = A.heap[B]?

/-- The contract of an iterator that keeps a variable in block B, the next one to be made where it is called. -/
def BoxSeq {α : Type} (F : Fence) (n : Nat) (P : Program) (g : Nat) (lb : Array Value) (encs : α → Array Value) (n₀ B most : Nat) (S Sp : List α → Prop) (W : World) : Prop :=
  ∀ (l : Nat) (J Jx : List α → World → Prop), (∀ s A A', J s A → Kb (· = B) A A' → J s A') → (∀ s A A', Jx s A → Kb (· = B) A A' → Jx s A') →
    (∀ pre x A, J pre A → B < A.heap.size → pre.length < most → YieldAt F (n - 1) P l (encs x) A fun e A' =>
      (e = .returned (.bool true) ∧ J (pre ++ [x]) A' ∧ Kept n₀ B A A') ∨ (e = .returned (.bool false) ∧ Jx (pre ++ [x]) A')) →
    J [] W →
    CallsIn F n P g (#[.func (.yield l) #[] #[]] ++ lb) W fun e A' => (∃ v, e = .returned v) ∧ ((∃ xs, S xs ∧ J xs A') ∨ (∃ pre, Sp pre ∧ Jx pre A'))

/-- How a round may end: it goes on, or it returns. -/
def boxPost {α : Type} (n₀ N : Nat) (I Ix : List α → World → Prop) (xs : List α) (A : World) : Exit → Act → World → Prop
  | .normal, _, A' => Keep n₀ N A A' ∧ I xs A'
  | .ret, _, A' => Keep n₀ N A A' ∧ Ix xs A'
  | .exit _, _, _ => False
  | .goto _, _, _ => False
  | .panic _, _, _ => False
  | .outgrown, _, _ => False

theorem rangeFunc_box {α : Type} {F : Fence} {n : Nat} {P : Program} {g : Operand} {ps : Array Tmp} {assign body : Code} {Q : Exit → Act → World → Prop} {a : Act} {w : World}
    (hro : F.round = none) (h1 : 1 ≤ n) {gf : Nat} {lb : Array Value} (hg : a.eval g = .func (.func gf) #[] lb) (hFg : F.fn gf) (eg : ∀ args w, (callFunc gf args).run P w = .ok (.enter gf args) w)
    {encs : α → Array Value} {n₀ most : Nat} {S Sp : List α → Prop} (hn : n₀ ≤ w.heap.size) (hps : ∀ x, (encs x).size = ps.size)
    (hseq : ∀ W, W.heap.size = w.heap.size + 2 → Below w.heap.size w W → BoxSeq F (n - 1) P gf lb encs n₀ (w.heap.size + 2) most S Sp W)
    (I Ix : List α → World → Prop) (hI : ∀ s A A', I s A → Kb (Three w.heap.size) A A' → I s A') (hIx : ∀ s A A', Ix s A → Kb (Three w.heap.size) A A' → Ix s A') (h0 : I [] w)
    (hround : ∀ (l : Nat) (pre : List α) (x : α) (A : World), I pre A → w.heap.size + 2 < A.heap.size → pre.length < most →
      assign.wpIn (F.inRound l) (n - 1 - 1) P (Exit.then (fun a₁ A₁ => Keep n₀ w.heap.size A A₁ ∧
          ∀ A₂, Kb (Three w.heap.size) A₁ A₂ → body.wpIn (F.inRound l) (n - 1 - 1) P (boxPost n₀ w.heap.size I Ix (pre ++ [x]) A₂) a₁ A₂) (fun _ _ _ => False))
        { tmps := (ps.zip (encs x)).foldl (fun t (p, v) => t.setIfInBounds p v) a.tmps, defers := [] } A)
    (hdone : ∀ (xs : List α) (A : World), S xs → I xs A → A.heap[w.heap.size]? = some (.deferred (some [])) → Q .normal { a with defers := { target := .collected w.heap.size, args := #[] } :: a.defers } A)
    (hstop : ∀ (pre : List α) (A : World), Sp pre → Ix pre A → A.heap[w.heap.size]? = some (.deferred (some [])) → Code.ret.wpIn F n P Q { a with defers := { target := .collected w.heap.size, args := #[] } :: a.defers } A) :
    (Code.rangeFunc g ps assign body).wpIn F n P Q a w := by
  generalize hN : w.heap.size = N at *
  refine wpIn_rangeFunc fun fn hfn => ?_
  rw [hro]
  -- the record, by its state and its jump
  let R : LoopState → Option Code → Obj := fun st j => .loop { state := st, pending := j, fn, tmps := a.tmps, params := ps, assign, body, defers := N }
  obtain ⟨W, hW⟩ : ∃ W, W = (w.alloc (.deferred (some []))).alloc (R .ready none) := ⟨_, rfl⟩
  have hz : W.heap.size = N + 2 := by rw [hW]; simp; omega
  have hwW : Kb (fun _ => False) w W := by rw [hW]; exact ((Kb.refl _ w).alloc _).alloc _
  have hL : W.heap[N + 1]? = some (R .ready none) := by
    have h := World.alloc_heap_new (w.alloc (.deferred (some []))) (R .ready none)
    rw [World.size_alloc, hN] at h
    rw [hW]; exact h
  have hD : W.heap[N]? = some (.deferred (some [])) := by
    have h := World.alloc_heap_new w (.deferred (some []))
    rw [hN] at h
    rw [hW]; exact (Below.heap_alloc _ _ _ (by simp; omega)).trans h
  have three : ∀ {k : Nat}, k = N ∨ k = N + 1 ∨ k = N + 2 → Three N k := fun h => ⟨by omega, by omega⟩
  have wide : ∀ {A A' : World}, Kb (· = N + 2) A A' → Kb (Three N) A A' := fun h => h.mono fun k _ e => by subst e; exact three (by omega)
  have hbel : Below N w W := ⟨hwW.os, hwW.tape, hwW.output, hwW.size, fun k hk => hwW.block k (by omega) id⟩
  refine ⟨N + 1, [{ target := .collected N, args := #[] }], W, { target := .fn (.func gf) lb, args := #[.func (.yield (N + 1)) #[] #[]] }, W, gf, #[.func (.yield (N + 1)) #[] #[]] ++ lb, W, ?_, ?_, ?_, ?_, fun _ => h1, ?_⟩
  · rw [hW, ← hN]
    have h := run_enterLoop_outer (P := P) (w := w) fn a.tmps ps assign body
    simp only [R, ← hN]
    exact h
  · simp only [resolve, hg]
    simp [go_sem]
  · intro f' hf'
    simp [Target.leads] at hf'
    subst hf'
    exact hFg
  · simp [invoke, go_sem, eg]
  refine (hseq W hz hbel (N + 1)
    (fun pre A => I pre A ∧ A.heap[N + 1]? = some (R .ready none) ∧ A.heap[N]? = some (.deferred (some [])))
    (fun pre A => Ix pre A ∧ A.heap[N + 1]? = some (R .done (some .ret)) ∧ A.heap[N]? = some (.deferred (some [])))
    ?ji ?jx ?round ⟨hI _ _ _ h0 (hwW.mono fun _ _ h => h.elim), hL, hD⟩).mono ?behind
  case ji =>
    rintro s A A' ⟨hi, hl, hd⟩ hk
    exact ⟨hI _ _ _ hi (wide hk), (hk.block _ (Array.getElem?_eq_some_iff.1 hl).1 (by omega)).trans hl, (hk.block _ (Array.getElem?_eq_some_iff.1 hd).1 (by omega)).trans hd⟩
  case jx =>
    rintro s A A' ⟨hi, hl, hd⟩ hk
    exact ⟨hIx _ _ _ hi (wide hk), (hk.block _ (Array.getElem?_eq_some_iff.1 hl).1 (by omega)).trans hl, (hk.block _ (Array.getElem?_eq_some_iff.1 hd).1 (by omega)).trans hd⟩
  case round =>
    rintro pre x A ⟨hi, hl, hd⟩ hlt hmost
    refine ⟨fn, _, assign, body, run_yield hl (hps x), roundIn_of_wpIn hfn (wpIn_mono (hround (N + 1) pre x A hi hlt hmost) ?_)⟩
    intro e a₁ A₁ he
    cases e with
    | normal =>
      obtain ⟨hk, hb⟩ := he
      have hl1 := (hk.own _ (three (by omega))).trans hl
      have hd1 := (hk.own _ (three (by omega))).trans hd
      have hlt1 : N + 1 < A₁.heap.size := (Array.getElem?_eq_some_iff.1 hl1).1
      refine ⟨_, run_beginRound hl1 rfl, wpIn_mono (hb _ (kb_putObj _ _ _ (three (by omega)))) ?_⟩
      -- how the record's block is behind a round that ends by j
      have fin : ∀ (j : Option Code) (A₃ : World), Keep n₀ N (A₁.putObj (N + 1) (R .busy none)) A₃ →
          (Instr.endRound (N + 1) j).run P A₃ = .ok (.bool j.isNone) (A₃.putObj (N + 1) (R (if j.isNone then .ready else .done) j)) ∧
          (A₃.putObj (N + 1) (R (if j.isNone then .ready else .done) j)).heap[N + 1]? = some (R (if j.isNone then .ready else .done) j) ∧
          (A₃.putObj (N + 1) (R (if j.isNone then .ready else .done) j)).heap[N]? = some (.deferred (some [])) := by
        intro j A₃ h3
        have hl3 : A₃.heap[N + 1]? = some (R .busy none) := (h3.own _ (three (by omega))).trans (World.putObj_heap_same hlt1)
        have hd3 : A₃.heap[N]? = some (.deferred (some [])) := (h3.own _ (three (by omega))).trans ((World.putObj_heap_other (by omega)).trans hd1)
        exact ⟨run_endRound j hl3, World.putObj_heap_same (Array.getElem?_eq_some_iff.1 hl3).1, (World.putObj_heap_other (by omega)).trans hd3⟩
      intro e a₃ A₃ he
      cases e with
      | normal =>
        obtain ⟨h3, hi3⟩ := he
        obtain ⟨f1, f2, f3⟩ := fin none A₃ h3
        refine ⟨_, _, f1, Or.inl ⟨rfl, ⟨hI _ _ _ hi3 (kb_putObj _ _ _ (three (by omega))), f2, f3⟩, ?_, ?_⟩⟩
        · have q1 : Below n₀ A₁ (A₁.putObj (N + 1) (R .busy none)) := ⟨rfl, rfl, rfl, by simp, fun k hk => World.putObj_heap_other (by omega)⟩
          have q2 : Below n₀ A₃ (A₃.putObj (N + 1) (R .ready none)) := ⟨rfl, rfl, rfl, by simp, fun k hk => World.putObj_heap_other (by omega)⟩
          exact ((hk.bel.trans q1).trans h3.bel).trans q2
        · refine (World.putObj_heap_other (by omega)).trans ((h3.own _ (three (by omega))).trans ((World.putObj_heap_other (by omega)).trans (hk.own _ (three (by omega)))))
      | ret =>
        obtain ⟨h3, hi3⟩ := he
        obtain ⟨f1, f2, f3⟩ := fin (some .ret) A₃ h3
        exact ⟨_, _, f1, Or.inr ⟨rfl, hIx _ _ _ hi3 (kb_putObj _ _ _ (three (by omega))), f2, f3⟩⟩
      | exit _ => exact he.elim
      | goto _ => exact he.elim
      | panic _ => exact he.elim
      | outgrown => exact he.elim
    | ret => exact he.elim
    | exit _ => exact he.elim
    | goto _ => exact he.elim
    | panic _ => exact he.elim
    | outgrown => exact he.elim
  case behind =>
    rintro e A ⟨⟨v, rfl⟩, (⟨xs, hS, hi, hl, hd⟩ | ⟨pre, hSp, hi, hl, hd⟩)⟩
    · exact ⟨none, _, run_endLoop hl (by simp), hdone xs _ hS (hI _ _ _ hi (kb_putObj _ _ _ (three (by omega)))) ((World.putObj_heap_other (by omega)).trans hd)⟩
    · exact ⟨some .ret, _, run_endLoop hl (by simp), hstop pre _ hSp (hIx _ _ _ hi (kb_putObj _ _ _ (three (by omega)))) ((World.putObj_heap_other (by omega)).trans hd)⟩

end Go.Proofs.Ytoijomdgcgbpbaa

/-
  pieces: the iterator that hands each piece's header and payload, in order, till the body of the loop says no more.
-/
namespace Go.Proofs.Ytoijomdgcgbpbaa
open Go.RowKit Go.Shelf
set_option linter.unusedVariables false

attribute [local go_sem] Oper.semAt_some

/-- A header and a payload of no more than M bytes. -/
abbrev It15 (M : Nat) : Type := { x : H4 × ByteArray // x.2.size ≤ M }
/-- What the body is handed. -/
def enc15 {M : Nat} (x : It15 M) : Array Value := #[.agg x.1.1.cells, .string x.1.2]
def len15 : Value → Nat
  | .string s => s.size
  | _ => 0

/-- The three variables that the iterator reads, in blocks ahead of n₀. -/
structure Cap15 (W : World) (n₀ hb pb sb : Nat) (h : H4) (pay : ByteArray) (n : Nat) : Prop where
  h : Blk W hb h.cells 43
  p : Blk W pb #[.string pay] 9
  s : Blk W sb #[.int .i64 (n : Int)] 3
  hlt : hb < n₀
  plt : pb < n₀
  slt : sb < n₀
theorem Cap15.below {W W' : World} {n₀ hb pb sb : Nat} {h : H4} {pay : ByteArray} {n : Nat} (c : Cap15 W n₀ hb pb sb h pay n) (b : Below n₀ W W') : Cap15 W' n₀ hb pb sb h pay n :=
  ⟨(b.block _ c.hlt).trans c.h, (b.block _ c.plt).trans c.p, (b.block _ c.slt).trans c.s, c.hlt, c.plt, c.slt⟩
theorem Cap15.kb {W W' : World} {n₀ hb pb sb B : Nat} {h : H4} {pay : ByteArray} {n : Nat} (c : Cap15 W n₀ hb pb sb h pay n) (hB : n₀ ≤ B) (k : Kb (· = B) W W') : Cap15 W' n₀ hb pb sb h pay n :=
  ⟨c.h.kb k (fun e => by have := c.hlt; omega), c.p.kb k (fun e => by have := c.plt; omega), c.s.kb k (fun e => by have := c.slt; omega), c.hlt, c.plt, c.slt⟩

theorem items15_at {h : H4} {pay : ByteArray} {n i : Nat} (hi : i < fore15 pay n) : (items15 h pay n)[i]? = some (item15 h pay n i) := by
  unfold items15 upto15
  rw [List.getElem?_append_left (by simpa using hi)]
  simp [hi]
theorem items15_end {h : H4} {pay : ByteArray} {n : Nat} : (items15 h pay n)[fore15 pay n]? = some (last15 h pay n) := by
  unfold items15 upto15
  rw [List.getElem?_append_right (by simp)]
  simp
theorem sub15_at {M : Nat} {xs : List (It15 M)} {l : List (H4 × ByteArray)} (hx : xs.map (·.1) = l) {i : Nat} {x : H4 × ByteArray} (h : l[i]? = some x) : ∃ hi : i < xs.length, (xs[i]'hi).1 = x := by
  subst hx
  rw [List.getElem?_map] at h
  cases hy : xs[i]? with
  | none => rw [hy] at h; cases h
  | some y =>
    rw [hy] at h
    obtain ⟨hi, e⟩ := List.getElem?_eq_some_iff.1 hy
    exact ⟨hi, by rw [e]; exact Option.some.inj h⟩
theorem take15 {α : Type} (xs : List α) {i : Nat} (hi : i < xs.length) : xs.take i ++ [xs[i]'hi] = xs.take (i + 1) := (List.take_succ_eq_append_getElem hi).symm
theorem ext15_front {pay : ByteArray} {a n : Nat} (h : a + n ≤ pay.size) : (pay.extract a pay.size).extract 0 n = pay.extract a (a + n) := by
  rw [ByteArray.extract_extract]
  congr 1
  omega
theorem ext15_rest {pay : ByteArray} {a n : Nat} (h : a + n ≤ pay.size) : (pay.extract a pay.size).extract n (pay.extract a pay.size).size = pay.extract (a + n) pay.size := by
  rw [ByteArray.extract_extract, ByteArray.size_extract]
  congr 1
  omega

theorem ext15_all (pay : ByteArray) : pay.extract 0 pay.size = pay := by
  apply text_ext
  rw [extract_list, List.take_of_length_le (by simp), List.drop_zero]

/-- What a round says to the iterator. -/
def Said15 {M : Nat} (J Jx : List (It15 M) → World → Prop) (n₀ B : Nat) (pre : List (It15 M)) (A : World) (b : Bool) (A' : World) : Prop :=
  (b = true ∧ J pre A' ∧ Kept n₀ B A A') ∨ (b = false ∧ Jx pre A')

set_option maxRecDepth 100000 in
set_option maxHeartbeats 2000000 in
theorem pieces1_in {M : Nat} (n₀ hb pb sb : Nat) (h : H4) (pay : ByteArray) (n : Nat) (xs : List (It15 M)) (hx : xs.map (·.1) = items15 h pay n) (hn : 0 < n) (hn2 : n ≤ 65535) (hp : pay.size ≤ 1000000) (ho : 0 ≤ h.off ∧ h.off ≤ 8191)
    (W : World) (hn₀ : n₀ ≤ W.heap.size) (hc : Cap15 W n₀ hb pb sb h pay n) :
    BoxSeq Fence.wide 3 Try.prog 66 #[.pointer (some ⟨hb, 0, none⟩), .pointer (some ⟨pb, 0, none⟩), .pointer (some ⟨sb, 0, none⟩)] enc15 n₀ W.heap.size xs.length (fun ys => ys = xs) (fun pre => pre <+: xs) W := by
  intro l J Jx hJ hJx hY h0
  have HC := Lib.hid hc
  have ⟨z0, z1, z2, z3, z4, z5, z6, z7, z8, z9⟩ := Hc.of hc.h
  have zp := hc.p.cell 0
  simp at zp
  clear hc
  refine callsIn_of_wp Try.func66 rfl trivial ?_ rfl
  simp only [Try.ntmps66, List.size_toArray, List.length_cons, List.length_nil, Nat.reduceAdd, Nat.reduceSub, Array.replicate_succ, Array.replicate_zero, List.push_toArray, List.append_toArray, List.nil_append, List.cons_append]
  gi_wp2_with fail
  have HC1 := HC.out.kb hn₀ ((Kb.refl (· = W.heap.size) W).alloc (.cells #[.int .i64 0, .int .i64 0, .int .i64 0, .int .i64 0, .int .i64 0, .bool false, .bool false, .string { data := #[] }, .string { data := #[] }, .string { data := #[] }] 43))
  have ⟨y0, y1, y2, y3, y4, y5, y6, y7, y8, y9⟩ := Hc.of HC1.h
  have yp := HC1.p.cell 0
  simp at yp
  have HC2 := HC.out.kb hn₀ ((Kb.refl (· = W.heap.size) W).alloc (.cells #[.int .i64 h.tos, .int .i64 h.id, .int .i64 h.off, .int .i64 h.ttl, .int .i64 h.proto, .bool h.df, .bool h.mf, .string h.src, .string h.dst, .string h.opt] 43))
  have xp := HC2.p.cell 0
  simp at xp
  clear HC1 HC2
  have hm : Try.prog.follows .mixedOrders = true := by kernel_rfl
  gi_region
  have K1 : Kb (· = W.heap.size) W ((W.alloc (.cells h.cells 43)).drew) := ((Kb.refl _ W).alloc _).drew
  have B1 : Blk ((W.alloc (.cells h.cells 43)).drew) W.heap.size h.cells 43 := (Blk.new W _ _).drew
  have J1 := Lib.hid (hJ _ _ _ h0 K1)
  have C1 := Lib.hid (HC.out.kb hn₀ K1)
  unfold H4.cells at K1 B1 J1 C1
  have HB1 := Lib.hid B1
  clear K1 B1 z0 z1 z2 z3 z4 z5 z6 z7 z8 z9 zp y0 y1 y2 y3 y4 y5 y6 y7 y8 y9 yp xp HC h0
  generalize hB : W.heap.size = B at *
  generalize (W.alloc (.cells #[.int .i64 h.tos, .int .i64 h.id, .int .i64 h.off, .int .i64 h.ttl, .int .i64 h.proto, .bool h.df, .bool h.mf, .string h.src, .string h.dst, .string h.opt] 43)).drew = W1 at *
  have c6 := HB1.out.cell 6
  have f6 := HB1.out.frozen 6
  simp at c6
  gi_wp2_with fail
  have HB2 := Lib.hid (HB1.out.set 6 (.bool true))
  have K2 : Kb (· = B) W1 (W1.setCell ⟨B, 6, none⟩ (.bool true)) := Kb.setCell (S := (· = B)) (Kb.refl _ W1) (p := ⟨B, 6, none⟩) (fun _ => rfl) _
  have J2 := Lib.hid (hJ _ _ _ J1.out K2)
  have C2 := Lib.hid (C1.out.kb hn₀ K2)
  simp only [List.setIfInBounds_toArray, List.set_cons_zero, List.set_cons_succ] at HB2
  clear K2 HB1 J1 C1 c6 f6
  generalize W1.setCell ⟨B, 6, none⟩ (.bool true) = W2 at *
  gi_loopw [6] (fun v wr => ∃ i : Nat, i ≤ fore15 pay n ∧ v = .string (pay.extract (i * n) pay.size) ∧ J (xs.take i) wr ∧ Blk wr B (h.at15 (i * (n / 8)) true).cells 43 ∧ Cap15 wr n₀ hb pb sb h pay n) (fun v _ => len15 v)
  case atStart => exact ⟨0, Nat.zero_le _, by rw [Nat.zero_mul]; exact congrArg Value.string (ext15_all pay).symm, J2.out, by rw [Nat.zero_mul]; unfold H4.at15 H4.cells; simp only [Int.natCast_zero, Int.add_zero]; exact HB2.out, C2.out⟩
  case round =>
    obtain ⟨i, hi, rfl, hJi, hbi, hci⟩ := hrel
    clear HB2 J2 C2
    have hlt2 := hbi.lt
    have hle := fore15_le hn hi
    have hLs : (pay.extract (i * n) pay.size).size = pay.size - i * n := by rw [ByteArray.size_extract]; omega
    have HL := Lib.hid hLs
    have HI := Lib.hid hi
    have HF : Hid (i < fore15 pay n ↔ n < pay.size - i * n) := fore15_lt hn
    have zs := hci.s.cell 0
    simp at zs
    by_cases hlt : i < fore15 pay n
    · have hfit : i * n + n ≤ pay.size := by have := HF.out.1 hlt; omega
      obtain ⟨hix, ex⟩ := sub15_at hx (items15_at hlt)
      obtain ⟨fn, tmps, assign, body, hy, hR⟩ := hY (xs.take i) (xs[i]'hix) wr.drew (hJ _ _ _ hJi (Kb.refl _ _).drew) hlt2 (by rw [List.length_take]; omega)
      rw [take15 xs hix] at hR
      unfold enc15 at hy
      rw [ex] at hy
      unfold item15 H4.at15 H4.cells at hy
      dsimp only at hy
      have EF := Lib.hid (ext15_front hfit)
      have ER := Lib.hid (ext15_rest hfit)
      unfold H4.at15 H4.cells at hbi
      dsimp only at hbi
      have HR : Hid (RoundIn Fence.wide (3 - 1) Try.prog l fn tmps assign body wr.drew fun e A' => ∃ b : Bool, e = .returned (.bool b) ∧ Said15 J Jx n₀ B (xs.take (i + 1)) wr.drew b A') := by
        refine hR.mono ?_
        rintro e A' (⟨rfl, h1, h2⟩ | ⟨rfl, h1⟩)
        · exact ⟨true, rfl, Or.inl ⟨rfl, h1, h2⟩⟩
        · exact ⟨false, rfl, Or.inr ⟨rfl, h1⟩⟩
      have HO : Hid (h.off + ((i * (n / 8) : Nat) : Int) + ((n / 8 : Nat) : Int) = h.off + (((i + 1) * (n / 8) : Nat) : Int)) := by
        show _ = _
        rw [Nat.add_mul, Nat.one_mul]
        omega
      have hob : h.off + ((i * (n / 8) : Nat) : Int) ≤ 8191 + 1000000 ∧ 0 ≤ h.off + ((i * (n / 8) : Nat) : Int) := by
        have : i * (n / 8) ≤ i * n := Nat.mul_le_mul_left _ (Nat.div_le_self _ _)
        omega
      have HN : Hid (xs[i]'hix = xs[i]'hix) := rfl
      clear hR hJi ex
      generalize hO : h.off + ((i * (n / 8) : Nat) : Int) = O at *
      generalize hT : pay.extract (i * n) (i * n + n) = T at *
      generalize hL : pay.extract (i * n) pay.size = L at *
      have ef := EF.out
      have HB := Lib.hid hbi
      have HC := Lib.hid hci
      have ⟨c0, c1, c2, c3, c4, c5, c6, c7, c8, c9⟩ := Hc.of (h := ⟨h.tos, h.id, O, h.ttl, h.proto, h.df, true, h.src, h.dst, h.opt⟩) hbi
      dsimp only at c0 c1 c2 c3 c4 c5 c6 c7 c8 c9
      have hgt : n < L.size := by rw [HL.out]; exact HF.out.1 hlt
      have HG := Lib.hid hgt
      have HLT := Lib.hid hlt
      clear hlt hbi hci hle hfit HF hi hLs
      gi_wp2_with fail
      gi_region_with_o (refine HR.out.mono ?_; rintro e W3 ⟨b, rfl, hb3⟩)
      all_goals
        rcases hb3 with ⟨rfl, hJ3, hK3⟩ | ⟨rfl, hJx3⟩
        · have HB3 := Lib.hid (show Blk W3 B _ 43 from hK3.own.trans HB.out.drew)
          have HC3 := Lib.hid ((HC.out.kb hn₀ (Kb.refl _ _).drew).below hK3.bel)
          have HJ3 := Lib.hid hJ3
          clear c0 c1 c2 c3 c4 c5 c6 c7 c8 c9 zs hK3 hJ3 HB HC HR
          have c2 := HB3.out.cell 2
          have f2 := HB3.out.frozen 2
          have zs := HC3.out.s.cell 0
          simp at c2 zs
          have er := ER.out
          have hle : n ≤ L.size := by omega
          have e1 : IntKind.i64.wrap (Int.tdiv (n : Int) 8) = ((n / 8 : Nat) : Int) := by rw [Int.tdiv_eq_ediv_of_nonneg (by omega)]; exact IntWalk.i64_in _ (by omega)
          have e2 : IntKind.i64.wrap (O + ((n / 8 : Nat) : Int)) = O + ((n / 8 : Nat) : Int) := IntWalk.i64_in _ (by omega)
          gi_wp2_with fail
          have hv : O + (n : Int) / 8 = h.off + (((i + 1) * (n / 8) : Nat) : Int) := by have := HO.out; omega
          rw [hv]
          have K4 : Kb (· = B) W3 (W3.setCell ⟨B, 2, none⟩ (.int .i64 (h.off + (((i + 1) * (n / 8) : Nat) : Int)))) := Kb.setCell (S := (· = B)) (Kb.refl _ W3) (p := ⟨B, 2, none⟩) (fun _ => rfl) _
          have hs1 : (pay.extract (i * n + n) pay.size).size = pay.size - (i * n + n) := by rw [ByteArray.size_extract]; omega
          refine ⟨⟨i + 1, HLT.out, by rw [Nat.add_mul, Nat.one_mul], hJ _ _ _ HJ3.out K4, ?_, HC3.out.kb hn₀ K4⟩, ?_⟩
          · have hb4 := HB3.out.set 2 (.int .i64 (h.off + (((i + 1) * (n / 8) : Nat) : Int)))
            simp only [List.setIfInBounds_toArray, List.set_cons_zero, List.set_cons_succ] at hb4
            exact hb4
          · have := HL.out
            simp only [len15, hs1]
            omega
        · gi_wp2_with fail
          refine bodyPost_ret (results_none rfl _ _ _) rfl ?_
          exact ⟨⟨_, rfl⟩, .inr ⟨xs.take (i + 1), List.take_prefix _ _, hJx3⟩⟩
    · have hik : i = fore15 pay n := by have := HI.out; omega
      subst hik
      obtain ⟨hix, ex⟩ := sub15_at hx items15_end
      have hxl : fore15 pay n + 1 = xs.length := by rw [← items15_length h pay n, ← hx, List.length_map]
      have hgt : ¬ n < (pay.extract (fore15 pay n * n) pay.size).size := by rw [HL.out, ← HF.out]; exact hlt
      unfold H4.at15 H4.cells at hbi
      dsimp only at hbi
      have HB := Lib.hid hbi
      have HC := Lib.hid hci
      have HJ := Lib.hid hJi
      have y6 := (Hc.of hci.h).c6
      have K4 : Kb (· = B) wr (wr.setCell ⟨B, 6, none⟩ (.bool h.mf)) := Kb.setCell (S := (· = B)) (Kb.refl _ wr) (p := ⟨B, 6, none⟩) (fun _ => rfl) _
      obtain ⟨fn, tmps, assign, body, hy, hR⟩ := hY (xs.take (fore15 pay n)) (xs[fore15 pay n]'hix) _ (hJ _ _ _ hJi K4) (Nat.lt_of_lt_of_le hlt2 K4.size) (by rw [List.length_take]; omega)
      rw [take15 xs hix, hxl, List.take_length] at hR
      unfold enc15 at hy
      rw [ex] at hy
      unfold last15 H4.at15 H4.cells at hy
      dsimp only at hy
      have HR := Lib.hid hR
      generalize hO : h.off + ((fore15 pay n * (n / 8) : Nat) : Int) = O at *
      have ⟨c0, c1, c2, c3, c4, c5, c6, c7, c8, c9⟩ := Hc.of (h := ⟨h.tos, h.id, O, h.ttl, h.proto, h.df, true, h.src, h.dst, h.opt⟩) hbi
      dsimp only at c0 c1 c2 c3 c4 c5 c6 c7 c8 c9
      have f6 := hbi.frozen 6
      have t1 : decide (n < (pay.extract (fore15 pay n * n) pay.size).size) = false := by simp only [decide_eq_false_iff_not]; exact hgt
      clear hbi hci hJi ex hgt hlt hxl hLs hR K4 HL HF HI
      generalize hL : pay.extract (fore15 pay n * n) pay.size = L at *
      gi_wp2_with fail
      refine HR.out.mono ?_
      rintro e W5 (⟨rfl, hJ5, hk5⟩ | ⟨rfl, hJx5⟩)
      · gi_wp2_with fail
        go_end0
        exact ⟨⟨_, rfl⟩, .inl ⟨xs, rfl, hJ5⟩⟩
      · gi_wp2_with fail
        go_end0
        exact ⟨⟨_, rfl⟩, .inr ⟨xs, List.prefix_refl _, hJx5⟩⟩

end Go.Proofs.Ytoijomdgcgbpbaa

/-
  put: the pieces, put one behind the other, as long as each can be.
-/
namespace Go.Proofs.Ytoijomdgcgbpbaa
open Go.RowKit Go.Shelf
set_option linter.unusedVariables false

attribute [local go_sem] Oper.semAt_some

theorem Try.infoS : (Try.prog.info? 9).map (fun i => (i.zero, i.size, i.bytes)) = some (some (.string ⟨#[]⟩), 1, 16) := by kernel_rfl

/-- Texts as cells. -/
def strs15 (l : List ByteArray) : List Value := l.map Value.string
theorem strs15_snoc (l : List ByteArray) (s : ByteArray) : strs15 (l ++ [s]) = strs15 l ++ [.string s] := by simp [strs15]
theorem strs15_length (l : List ByteArray) : (strs15 l).length = l.length := by simp [strs15]

/-- A slice of texts that a call told. -/
def TextsAt (W : World) (v : Value) (l : List ByteArray) : Prop :=
  (l = [] ∧ v = .slice none 0 0) ∨ ∃ b c, v = .slice (some ⟨b, 0, none⟩) l.length c ∧ b < W.heap.size ∧ (∀ (i : Nat) (h : i < l.length), W.cell? ⟨b, i, none⟩ = some (.string (l[i]'h))) ∧ l.length ≤ c
theorem TextsAt.below {W W' : World} {v : Value} {l : List ByteArray} (h : TextsAt W v l) (hb : Below W.heap.size W W') : TextsAt W' v l := by
  rcases h with h | ⟨b, c, rfl, hlt, hc⟩
  · exact Or.inl h
  · exact Or.inr ⟨b, c, rfl, Nat.lt_of_lt_of_le hlt hb.size, fun i hi => (hb.cell (p := ⟨b, i, none⟩) hlt).trans (hc.1 i hi), hc.2⟩
theorem TextsAt.of_row {W : World} {base : Nat} {v : Value} {l : List ByteArray} (h : W.ownsRow base 9 1 v l.length (strs15 l)) : TextsAt W v l := by
  have hlt := h.lt
  have hcell := @World.ownsRow.cellAt W base 9 1
  rcases h.2 with ⟨rfl, h0⟩ | ⟨g, cap, cur, rfl, _, hg, hle, _⟩
  · exact Or.inl ⟨List.length_eq_zero_iff.1 h0, rfl⟩
  · refine Or.inr ⟨g, cap, rfl, (hlt g rfl).2, fun i hi => ?_, hle⟩
    rw [World.ownsRow.cellAt h i (by omega)]
    simp [strs15, hi]

/-- An append in a fenced walk, and where the new slice lies. -/
theorem wpListIn_append_lies {F : Fence} {n : Nat} {P : Program} (w : World) {ops : Array Oper} {rest : List Oper} {o : Oper} {a : Act} {Q : Exit → Act → World → Prop} (hg : o.guard = none) (s x : Operand) (t : TypeId)
    (ho : o.op = .call { callee := .builtin .append, args := #[s, x], argTypes := #[t, t] }) (base : Nat) (e : TypeId) (i : TypeInfo) (z : Value) (size bytes : Nat) (ht : P.underlying t = some (.slice e)) (hi : P.info? e = some i) (hz : i.zero = some z)
    (hsize : i.size = size) (hby : i.bytes = bytes) (hzs : z.cells.size = size) (hsz : 0 < size) (v : Value) (k : Nat) (xs : List Value) (hs : a.eval s = v) (hown : w.ownsRow base e size v k xs)
    (ad : Addr) (m c : Nat) (news : List Value) (hx : a.eval x = .slice (some ad) m c) (hl : news.length = m * size) (hnews : ∀ j u, news[j]? = some u → w.cell? (ad.add j) = some u) (h1 : ∀ u ∈ news, u.oneCell' = true)
    (hm : 0 < m) (h63 : k + m ≤ maxLen) (hbytes : (k + m) * bytes ≤ 140737488355328) (hbase : base ≤ w.heap.size) (H : Nat) (hH : w.heap.size = H)
    (h : ∀ g cap w', w'.ownsRow base e size (.slice (some ⟨g, 0, none⟩) (k + m) cap) (k + m) (xs ++ news) → w.grownBy w' v.ownBlock → (v.ownBlock = some g ∨ g = H) → g < w'.heap.size →
      wpListIn F n P ops Q rest (a.put o.dst (.slice (some ⟨g, 0, none⟩) (k + m) cap)) w') : wpListIn F n P ops Q (o :: rest) a w := by
  refine wpListIn_plain hg fun K hK => ?_
  obtain ⟨g, cap, w', hr, r1, r2, r3, r4⟩ := run_append_lies (P := P) w t o.type base e i z size bytes ht hi hz hsize hby hzs hsz v k xs hown ad m c news hl hnews h1 hm h63 hbytes hbase H hH
  unfold Oper.wpIn
  refine ⟨by simp [Oper.about, ho, resolve, Target.leads, Sem.run_pure], ?_⟩
  rw [Oper.semAt_plain F _ _ (by rw [ho]; intro c hc; cases hc)]
  simp [execOp, ho, resolve, invoke, builtin, hs, hx, hr, Result.andThen]
  exact hK _ _ (h g cap w' r1 r2 r3 r4)

/-- What came, with its bounds struck. -/
def vals15 {M : Nat} (l : List (It15 M)) : List (H4 × ByteArray) := l.map (·.1)
theorem vals15_snoc {M : Nat} (l : List (It15 M)) (x : It15 M) : vals15 (l ++ [x]) = vals15 l ++ [x.1] := by simp [vals15]

/-- put's three variables, and the slice that it makes. -/
structure Pb15 (N : Nat) (w W : World) (r : Value) (k : Int) (v : Value) (l : List ByteArray) : Prop where
  b0 : Blk W N #[r] 24
  b1 : Blk W (N + 1) #[.int .i64 k] 28
  b2 : Blk W (N + 1 + 1) #[v] 24
  row : W.ownsRow N 9 1 v l.length (strs15 l)
  far : ∀ g, v.ownBlock = some g → ¬ Three (N + 1 + 1 + 1) g
  bel : Below N w W
theorem three_not {N k : Nat} (h : k < N) : ¬ Three N k := fun e => by have := e.1; omega
theorem row15_kb {S : Nat → Prop} {W W' : World} {N : Nat} {e : TypeId} {v : Value} {n : Nat} {xs : List Value} (h : W.ownsRow N e 1 v n xs) (hf : ∀ g, v.ownBlock = some g → ¬ S g) (k : Kb S W W') : W'.ownsRow N e 1 v n xs := by
  refine ⟨h.1, ?_⟩
  rcases h.2 with h2 | ⟨g, cap, cur, rfl, hb, hg, r⟩
  · exact Or.inl h2
  · exact Or.inr ⟨g, cap, cur, rfl, hb, (k.block g (Array.getElem?_eq_some_iff.1 hg).1 (hf g rfl)).trans hg, r⟩
theorem Pb15.kb {N : Nat} {w W W' : World} {r : Value} {k : Int} {v : Value} {l : List ByteArray} (h : Pb15 N w W r k v l) (hk : Kb (Three (N + 1 + 1 + 1)) W W') : Pb15 N w W' r k v l :=
  ⟨h.b0.kb hk (three_not (by omega)), h.b1.kb hk (three_not (by omega)), h.b2.kb hk (three_not (by omega)), row15_kb h.row h.far hk, h.far,
    ⟨hk.os.trans h.bel.os, hk.tape.trans h.bel.tape, hk.output.trans h.bel.output, Nat.le_trans h.bel.size hk.size, fun i hi => (hk.block i (Nat.lt_trans hi h.b0.lt) (three_not (by omega))).trans (h.bel.block i hi)⟩⟩
theorem Pb15.below {N : Nat} {w W W' : World} {r : Value} {k : Int} {v : Value} {l : List ByteArray} (h : Pb15 N w W r k v l) (hb : Below W.heap.size W W') : Pb15 N w W' r k v l :=
  ⟨(hb.block _ h.b0.lt).trans h.b0, (hb.block _ h.b1.lt).trans h.b1, (hb.block _ h.b2.lt).trans h.b2,
    row15_kb (S := fun k => W.heap.size ≤ k) h.row (fun g e => by have := (h.row.lt g e).2; omega) ⟨hb.os, hb.tape, hb.output, hb.size, fun i hi _ => hb.block i hi⟩, h.far, h.bel.trans (hb.mono (Nat.le_of_lt h.b0.lt))⟩

theorem Pb15.apart {N : Nat} {w W : World} {r : Value} {k : Int} {v : Value} {l : List ByteArray} (h : Pb15 N w W r k v l) : ∀ g, v.ownBlock = some g → g ≠ N ∧ g ≠ N + 1 ∧ g ≠ N + 1 + 1 := fun g e => by
  have a0 := Boxed.not_row (B := N) (t := 24) (u := r) h.b0 (by decide) h.row
  have a1 := Boxed.not_row (B := N + 1) (t := 28) (u := .int .i64 k) h.b1 (by decide) h.row
  have a2 := Boxed.not_row (B := N + 1 + 1) (t := 24) (u := v) h.b2 (by decide) h.row
  rw [e] at a0 a1 a2
  exact ⟨fun x => a0 (by rw [x]), fun x => a1 (by rw [x]), fun x => a2 (by rw [x])⟩
theorem Pb15.set2 {N : Nat} {w W : World} {r : Value} {k : Int} {v : Value} {l : List ByteArray} (h : Pb15 N w W r k v l) (r' : Value) (k' : Int) : Pb15 N w ((W.setCell ⟨N, 0, none⟩ r').setCell ⟨N + 1, 0, none⟩ (.int .i64 k')) r' k' v l := by
  have hne := h.apart
  refine ⟨(h.b0.set 0 r').set_other (by simp) _, (h.b1.set_other (by simp) _).set 0 _, (h.b2.set_other (by simp; omega) _).set_other (by simp) _, ?_, h.far, (h.bel.setCell (Nat.le_refl _) _).setCell (by simp) _⟩
  exact row15_kb (S := fun j => j = N ∨ j = N + 1) h.row (fun g e => by have := hne g e; omega) (((Kb.refl _ W).setCell (fun _ => Or.inl rfl) _).setCell (fun _ => Or.inr rfl) _)

/-- What a round does: it writes put's own variables, and what it makes. -/
def Far15 (N : Nat) (k : Nat) : Prop := (N ≤ k ∧ k < N + 3) ∨ N + 6 ≤ k
theorem kb15 {N : Nat} {A A' : World} (b : Below A.heap.size A A') (hz : N + 6 ≤ A.heap.size) : Kb (Far15 N) A A' := ⟨b.os, b.tape, b.output, b.size, fun i hi _ => b.block i hi⟩
theorem kb15_set2 {N : Nat} {A A' : World} (k : Kb (Far15 N) A A') (u v : Value) : Kb (Far15 N) A ((A'.setCell ⟨N, 0, none⟩ u).setCell ⟨N + 1, 0, none⟩ v) :=
  (k.setCell (fun _ => Or.inl ⟨Nat.le_refl _, by simp⟩) _).setCell (fun _ => Or.inl ⟨Nat.le_succ _, by simp⟩) _
theorem keep15 {N : Nat} {A A' : World} (k : Kb (Far15 N) A A') (hz : N + 6 ≤ A.heap.size) : Keep N (N + 1 + 1 + 1) A A' :=
  ⟨⟨k.os, k.tape, k.output, k.size, fun i hi => k.block i (by omega) (by unfold Far15; omega)⟩, fun i hi => k.block i (by have := hi.2; omega) (by unfold Far15; have := hi.1; have := hi.2; omega)⟩

theorem new15 (W : World) (x : Value) (T : TypeId) : ∀ (j : Nat) (u : Value), [x][j]? = some u → (W.alloc (.cells #[x] T)).cell? ((⟨W.heap.size, 0, none⟩ : Addr).add j) = some u :=
  World.news_of_block (World.alloc_heap_new W (.cells #[x] T))
theorem kb_grown {S : Nat → Prop} {A W W' : World} {row : Option Nat} (k : Kb S A W) (hg : W.grownBy W' row) (hr : ∀ g, row = some g → S g) : Kb S A W' :=
  k.trans ⟨hg.os, hg.tape, hg.output, hg.size, fun i hi hs => hg.block i hi (fun e => hs (hr i e.symm))⟩
theorem Pb15.appended {N : Nat} {w W : World} {r : Value} {k : Int} {v : Value} {l : List ByteArray} (h : Pb15 N w W r k v l) (hz : N + 6 ≤ W.heap.size) {s : ByteArray} {W' : World} {g cap n : Nat}
    (hrow : W'.ownsRow N 9 1 (.slice (some ⟨g, 0, none⟩) n cap) (l.length + 1) (strs15 l ++ [.string s])) (hg : (W.alloc (.cells #[.string s] 9)).grownBy W' v.ownBlock) (hw : v.ownBlock = some g ∨ g = W.heap.size + 1) :
    Blk W' (N + 1 + 1) #[v] 24 ∧ Pb15 N w (W'.setCell ⟨N + 1 + 1, 0, none⟩ (.slice (some ⟨g, 0, none⟩) n cap)) r k (.slice (some ⟨g, 0, none⟩) n cap) (l ++ [s]) ∧
      ∀ A, Kb (Far15 N) A W → N + 6 ≤ A.heap.size → Kb (Far15 N) A (W'.setCell ⟨N + 1 + 1, 0, none⟩ (.slice (some ⟨g, 0, none⟩) n cap)) := by
  have ha := h.apart
  have hbk := Boxed.kept (W := W.alloc (.cells #[.string s] 9)) (B := N) (t := 24) (v := r) (h.b0.alloc _) hg (fun e => (ha N e.symm).1 rfl)
  have hb1 := Boxed.kept (W := W.alloc (.cells #[.string s] 9)) (B := N + 1) (t := 28) (v := .int .i64 k) (h.b1.alloc _) hg (fun e => (ha (N + 1) e.symm).2.1 rfl)
  have hb2 := Boxed.kept (W := W.alloc (.cells #[.string s] 9)) (B := N + 1 + 1) (t := 24) (v := v) (h.b2.alloc _) hg (fun e => (ha (N + 1 + 1) e.symm).2.2 rfl)
  have hlt := h.row.lt
  have hfar : ∀ g', (Value.slice (some ⟨g, 0, none⟩) n cap).ownBlock = some g' → ¬ Three (N + 1 + 1 + 1) g' := by
    intro g' e
    have e' : g = g' := by simpa [Value.ownBlock] using e
    subst e'
    rcases hw with hw | hw
    · exact h.far g hw
    · intro t
      have := t.2
      omega
  have hS : ∀ g', v.ownBlock = some g' → Far15 N g' := fun g' e => by
    have h1 := h.far g' e
    have h2 := hlt g' e
    unfold Three at h1
    unfold Far15
    omega
  have hne : g ≠ N + 1 + 1 := by
    rcases hw with hw | hw
    · exact (ha g hw).2.2
    · omega
  refine ⟨hb2, ⟨Blk.set_other hbk (by simp; omega) _, Blk.set_other hb1 (by simp) _, Blk.set hb2 0 _, ?_, hfar, ?_⟩, fun A kA hA => ?_⟩
  · rw [strs15_snoc, List.length_append]
    exact row15_kb (S := fun j => j = N + 1 + 1) hrow (fun g' e => by have e' : g = g' := (by simpa [Value.ownBlock] using e); omega) (Kb.setCell (S := fun j => j = N + 1 + 1) (Kb.refl _ W') (p := ⟨N + 1 + 1, 0, none⟩) (fun _ => rfl) _)
  · have hN : N ≤ W.heap.size := by omega
    exact ((h.bel.alloc hN _).grown hg (by simp; omega) (fun g' e => (hlt g' e).1)).setCell (by simp; omega) _
  · exact (kb_grown (kA.alloc _) hg hS).setCell (fun _ => Or.inl ⟨by simp; omega, by simp⟩) _

/-- What put answers. -/
def PutsEnd (l : List (H4 × ByteArray)) (w : World) (e : Ending) (w' : World) : Prop :=
  Below w.heap.size w w' ∧ ((allput15 l = true ∧ ∃ v, e = .returned (.tuple #[v, .int .i64 0]) ∧ TextsAt w' v (texts15 l)) ∨ (allput15 l = false ∧ e = .returned (.tuple #[.slice none 0 0, .int .i64 4])))

set_option maxRecDepth 100000 in
set_option maxHeartbeats 2000000 in
theorem put15_in {M : Nat} (hM : M ≤ 140737488355328) (hb pb sb : Nat) (h : H4) (pay : ByteArray) (n : Nat) (xs : List (It15 M)) (hx : xs.map (·.1) = items15 h pay n) (hn : 0 < n) (hn2 : n ≤ 65535) (hp : pay.size ≤ 1000000) (ho : 0 ≤ h.off ∧ h.off ≤ 8191)
    (w : World) (hc : Cap15 w w.heap.size hb pb sb h pay n) :
    CallsIn Fence.wide 4 Try.prog 44 #[.func (.func 66) #[] #[.pointer (some ⟨hb, 0, none⟩), .pointer (some ⟨pb, 0, none⟩), .pointer (some ⟨sb, 0, none⟩)]] w (PutsEnd (items15 h pay n) w) := by
  obtain ⟨i0, hi, hz0, hz1, hz2⟩ := info_parts Try.infoS
  have P0 := Lib.hid (show Pb15 w.heap.size w (((w.alloc (.cells #[.slice none 0 0] 24)).alloc (.cells #[.int .i64 0] 28)).alloc (.cells #[.slice none 0 0] 24)) (.slice none 0 0) 0 (.slice none 0 0) [] from by
    have e1 := Blk.new w #[.slice none 0 0] 24
    have e2 := Blk.new (w.alloc (.cells #[.slice none 0 0] 24)) #[.int .i64 0] 28
    have e3 := Blk.new ((w.alloc (.cells #[.slice none 0 0] 24)).alloc (.cells #[.int .i64 0] 28)) #[.slice none 0 0] 24
    simp only [World.size_alloc] at e2 e3
    exact ⟨(e1.alloc _).alloc _, e2.alloc _, e3, World.ownsRow_nil _ _ _ _, fun g e => by simp [Value.ownBlock] at e, (((Below.refl _ w).alloc (Nat.le_refl _) _).alloc (by simp) _).alloc (by simp; omega) _⟩)
  refine callsIn_of_wp_marks Try.func44 rfl trivial ?_ rfl
  simp only [Try.ntmps44, List.size_toArray, List.length_cons, List.length_nil, Nat.reduceAdd, Nat.reduceSub, Array.replicate_succ, Array.replicate_zero, List.push_toArray, List.append_toArray, List.nil_append, List.cons_append]
  gi_wp2_with fail
  obtain ⟨w3, hw3⟩ : ∃ w3, ((w.alloc (.cells #[.slice none 0 0] 24)).alloc (.cells #[.int .i64 0] 28)).alloc (.cells #[.slice none 0 0] 24) = w3 := ⟨_, rfl⟩
  have hz3 : w3.heap.size = w.heap.size + 1 + 1 + 1 := by rw [← hw3]; simp
  rw [hw3] at P0 ⊢
  clear hw3
  have hxl : xs.length ≤ 1000001 := by
    have h1 : xs.length = fore15 pay n + 1 := by rw [← items15_length h pay n, ← hx, List.length_map]
    have h2 : fore15 pay n ≤ pay.size - 1 := Nat.div_le_self _ _
    omega
  have hv : vals15 xs = items15 h pay n := hx
  refine rangeFunc_box rfl (by decide) (gf := 66) (lb := #[.pointer (some ⟨hb, 0, none⟩), .pointer (some ⟨pb, 0, none⟩), .pointer (some ⟨sb, 0, none⟩)]) rfl trivial (enters_of Try.func66 (by kernel_rfl) rfl)
    (encs := enc15 (M := M)) (n₀ := w.heap.size) (most := xs.length) (S := fun ys => ys = xs) (Sp := fun pre => pre <+: xs) (by omega) (fun _ => rfl)
    (fun W hW hbW => by
      have h1 := pieces1_in (M := M) w.heap.size hb pb sb h pay n xs hx hn hn2 hp ho W (by omega) ((hc.below P0.out.bel).below (hbW.mono (by omega)))
      rw [hW] at h1
      exact h1)
    (fun pre W => allput15 (vals15 pre) = true ∧ ∃ v, Pb15 w.heap.size w W (.slice none 0 0) 0 v (texts15 (vals15 pre)))
    (fun pre W => allput15 (vals15 pre) = false ∧ ∃ v l, Pb15 w.heap.size w W (.slice none 0 0) 4 v l)
    (by rintro s A A' ⟨h1, v, h2⟩ hk; rw [hz3] at hk; exact ⟨h1, v, h2.kb hk⟩)
    (by rintro s A A' ⟨h1, v, l, h2⟩ hk; rw [hz3] at hk; exact ⟨h1, v, l, h2.kb hk⟩)
    ⟨rfl, _, P0.out⟩ ?round ?done ?stop
  case round =>
    rintro l pre ⟨⟨g, part⟩, hpart⟩ A ⟨hall, v, hP⟩ hlt hmost
    unfold enc15 H4.cells
    rw [hz3] at hlt ⊢
    dsimp only
    gi_wp2_with fail
    refine ⟨⟨(Below.refl _ A).alloc (by omega) _, fun k hk => Below.heap_alloc _ _ _ (by have := hk.2; omega)⟩, ?_⟩
    intro A₂ hk
    have BH := (Blk.new A g.cells 43).kb hk (fun e => by have := e.2; omega)
    have ⟨c0, c1, c2, c3, c4, c5, c6, c7, c8, c9⟩ := Hc.of BH
    have P2 := Lib.hid ((hP.kb ((Kb.refl _ A).alloc (.cells g.cells 43))).kb hk)
    have hlt2 : w.heap.size + 1 + 1 + 1 + 2 < A₂.heap.size := by have := hk.size; simp at this; omega
    have HPut := Lib.hid (put_any g part A₂ (by have : part.size ≤ M := hpart; omega))
    unfold PutEnd H4.cells at HPut
    have hsn := vals15_snoc pre ⟨(g, part), hpart⟩
    have hal := allput15_snoc (vals15 pre) (g, part)
    have htx := texts15_snoc (vals15 pre) (g, part)
    rw [← hsn] at hal htx
    rw [hall, Bool.true_and] at hal
    simp only at hal htx
    have hlen : (texts15 (vals15 pre)).length = pre.length := by simp [texts15, vals15]
    have HZ : Hid ((texts15 (vals15 pre)).length ≤ 1000001) := by show _ ≤ _; omega
    clear hk BH hsn hP hlen
    gi_wp2_with fail
    refine ⟨trivial, (CallsIn.inRound l (callsIn_wide.2 HPut.out)).mono ?_⟩
    rintro e W3 ⟨rfl, hb3⟩
    have P3 := Lib.hid (P2.out.below hb3)
    have hz23 := hb3.size
    have Q3 := Lib.hid hb3
    have n0 := P3.out.b0.cell 0
    have n1 := P3.out.b1.cell 0
    have n2 := P3.out.b2.cell 0
    have f0 := P3.out.b0.frozen 0
    have f1 := P3.out.b1.frozen 0
    have f2 := P3.out.b2.frozen 0
    simp at n0 n1 n2
    clear HPut hb3 P2 c0 c1 c2 c3 c4 c5 c6 c7 c8 c9
    by_cases hE : putE g part = 0
    case neg =>
      have t1 : ((putE g part : Int) != 0) = true := by simp; omega
      have hal0 : allput15 (vals15 (pre ++ [⟨(g, part), hpart⟩])) = false := by rw [hal]; simp [hE]
      generalize putE g part = E at *
      generalize putS g part = Sx at *
      gi_wp2_with fail
      exact ⟨keep15 (kb15_set2 (kb15 Q3.out (by omega)) _ _) (by omega), hal0, v, _, P3.out.set2 _ 4⟩
    case pos =>
      have t1 : ((putE g part : Int) != 0) = false := by simp; omega
      have hal0 : allput15 (vals15 (pre ++ [⟨(g, part), hpart⟩])) = true := by rw [hal]; simp [hE]
      generalize putE g part = E at *
      generalize putS g part = Sx at *
      have P4 := P3.out
      have hrow := Lib.hid (P4.row.alloc (.cells #[.string Sx] 9))
      gi_wp2_with (gi_at_builtin; refine wpListIn_append_lies _ rfl _ _ 24 rfl w.heap.size 9 i0 (.string ⟨#[]⟩) 1 16 (by kernel_rfl) hi hz0 hz1 hz2 rfl (by decide) v _ _ rfl hrow.out ⟨W3.heap.size, 0, none⟩ 1 1 [.string Sx] rfl rfl (new15 W3 _ _) (by intro u hu; simp at hu; subst hu; rfl) (by decide) (by have := HZ.out; show _ ≤ 2 ^ 63 - 1; omega) (by have := HZ.out; omega) (by simp; omega) _ rfl ?c7)
      all_goals
        intro g1 cap w4 hown hgrow hwhere hlt4
        have ⟨hb2, hP5, hK5⟩ := P4.appended (by omega) hown hgrow hwhere
        have m2 := hb2.cell 0
        have f4 := hb2.frozen 0
        simp at m2
        gi_wp2_with fail
        exact ⟨keep15 (hK5 _ (kb15 Q3.out (by omega)) (by omega)) (by omega), hal0, _, htx ▸ hP5⟩
  case done =>
    rintro ys A rfl ⟨hall, v, hP⟩ hd
    rw [hv] at hall hP
    rw [hz3] at hd ⊢
    obtain ⟨g1, c1, rfl⟩ : ∃ g1 c1, v = .slice (some ⟨g1, 0, none⟩) (texts15 (items15 h pay n)).length c1 := by
      rcases hP.row.2 with ⟨rfl, h0⟩ | ⟨g1, c1, _, rfl, _⟩
      · rw [show (texts15 (items15 h pay n)).length = fore15 pay n + 1 from by simp [texts15, items15_length]] at h0
        omega
      · exact ⟨g1, c1, rfl⟩
    have d0 := hP.b0.cell 0
    have d1 := hP.b1.cell 0
    have d2 := hP.b2.cell 0
    have f0 := hP.b0.frozen 0
    have f1 := hP.b1.frozen 0
    simp at d0 d1 d2
    have hq := Lib.hid hP
    clear hP
    generalize hL : (texts15 (items15 h pay n)).length = L at *
    gi_wp2_with fail
    have P5 := hq.out.set2 (.slice (some ⟨g1, 0, none⟩) L c1) 0
    have hd5 : ((A.setCell ⟨w.heap.size, 0, none⟩ (.slice (some ⟨g1, 0, none⟩) L c1)).setCell ⟨w.heap.size + 1, 0, none⟩ (.int .i64 0)).heap[w.heap.size + 1 + 1 + 1]? = some (.deferred (some [])) :=
      (Below.heap_setCell _ _ _ _ (by simp; omega)).trans ((Below.heap_setCell _ _ _ _ (by simp; omega)).trans hd)
    have P6 := P5.kb (kb_putObj (Three (w.heap.size + 1 + 1 + 1)) _ (.deferred none) (r := w.heap.size + 1 + 1 + 1) ⟨Nat.le_refl _, by omega⟩)
    have e0 := P6.b0.cell 0
    have e1 := P6.b1.cell 0
    simp at e0 e1
    refine ⟨by simp, .inl ⟨_, _, rfl, run_takeDeferred hd5, ?_⟩⟩
    refine ⟨.tuple #[.slice (some ⟨g1, 0, none⟩) L c1, .int .i64 0], ?_, P6.bel, Or.inl ⟨hall, _, rfl, TextsAt.of_row P6.row⟩⟩
    simp [results, Try.results44, go_sem, e0, e1]
  case stop =>
    rintro pre A hpre ⟨hall, v, l, hP⟩ hd
    rw [hz3] at hd ⊢
    gi_wp2_with fail
    have P6 := hP.kb (kb_putObj (Three (w.heap.size + 1 + 1 + 1)) _ (.deferred none) (r := w.heap.size + 1 + 1 + 1) ⟨Nat.le_refl _, by omega⟩)
    have e0 := P6.b0.cell 0
    have e1 := P6.b1.cell 0
    simp at e0 e1
    refine ⟨by simp, .inl ⟨_, _, rfl, run_takeDeferred hd, ?_⟩⟩
    refine ⟨.tuple #[.slice none 0 0, .int .i64 4], ?_, P6.bel, Or.inr ⟨?_, rfl⟩⟩
    · simp [results, Try.results44, go_sem, e0, e1]
    · rw [← hv]
      exact allput15_pre (hpre.map _) hall

end Go.Proofs.Ytoijomdgcgbpbaa

/-
  Usable and Part: how many bytes of payload a piece has; and the document's.
-/
namespace Go.Proofs.Ytoijomdgcgbpbaa
open Go.RowKit
set_option linter.unusedVariables false

/-- What is left, and how much of it a piece has. -/
def us15 (m s : Int) : Int := if s < m then m - s else 0
def pt15 (a m : Int) : Int := us15 m a / 8 * 8
theorem us15_le (m s : Int) (h : ¬ s < m) : us15 m s = 0 := by unfold us15; rw [if_neg h]
theorem us15_lt (m s : Int) (h : s < m) : us15 m s = m - s := by unfold us15; rw [if_pos h]
theorem us15_nn (m s : Int) : 0 ≤ us15 m s := by unfold us15; split <;> omega
theorem pt15_nat (a : Nat) (m : Int) : pt15 a m = (pn15 a m.toNat : Nat) := by
  unfold pt15 pn15 us15
  split <;> omega

theorem usable_any (m s : Int) (w : World) (hm : -1099511627776 ≤ m ∧ m ≤ 1099511627776) (hs : -1099511627776 ≤ s ∧ s ≤ 1099511627776) :
    Calls Try.prog 65 #[.int .i64 m, .int .i64 s] w (Tells (.int .i64 (us15 m s)) w) := by
  have e1 : IntKind.i64.wrap (m - s) = m - s := IntWalk.i64_in _ (by omega)
  by_cases h : m - s < 0
  · rw [us15_le m s (by omega)]
    go_enter Try.func65, Try.ntmps65
    go_wp2_with fail
    go_ret
    exact ⟨rfl, Below.refl _ _⟩
  · have hu : us15 m s = m - s := by unfold us15; split <;> omega
    rw [hu]
    have t1 : 0 ≤ m - s := by omega
    clear h hu
    go_enter Try.func65, Try.ntmps65
    go_wp2_with fail
    go_ret
    exact ⟨rfl, Below.refl _ _⟩

theorem part_any (a m : Int) (w : World) (hm : -1099511627776 ≤ m ∧ m ≤ 1099511627776) (ha : -1099511627776 ≤ a ∧ a ≤ 1099511627776) :
    Calls Try.prog 43 #[.int .i64 a, .int .i64 m] w (Tells (.int .i64 (pt15 a m)) w) := by
  have HU := Lib.hid (usable_any m a w hm ha)
  have h0 := us15_nn m a
  have h1 : us15 m a ≤ 2199023255552 := by unfold us15; split <;> omega
  have HP : Hid (pt15 a m = us15 m a / 8 * 8) := rfl
  generalize pt15 a m = R at *
  generalize us15 m a = U at *
  have e1 : IntKind.i64.wrap (Int.tdiv U 8) = U / 8 := by rw [Int.tdiv_eq_ediv_of_nonneg h0]; exact IntWalk.i64_in _ (by omega)
  have e2 : IntKind.i64.wrap (U / 8 * 8) = U / 8 * 8 := IntWalk.i64_in _ (by omega)
  go_enter Try.func43, Try.ntmps43
  go_wp2_with fail
  refine HU.out.mono ?_
  rintro e w1 ⟨rfl, hb⟩
  go_wp2_with fail
  go_ret
  exact ⟨by rw [HP.out]; rfl, hb⟩

theorem refpart_any (a m : Int) (w : World) (hm : -1099511627776 ≤ m ∧ m ≤ 1099511627776) (ha : -1099511627776 ≤ a ∧ a ≤ 1099511627776) :
    Calls Try.prog 47 #[.int .i64 a, .int .i64 m] w (Tells (.int .i64 (pt15 a m)) w) := by
  unfold pt15
  by_cases h : a < m
  · rw [us15_lt m a h]
    have e0 : IntKind.i64.wrap (m - a) = m - a := IntWalk.i64_in _ (by omega)
    have h0 : 0 ≤ m - a := by omega
    have h1 : m - a ≤ 2199023255552 := by omega
    have t1 : decide (a < m) = true := by simp; omega
    have e1 : IntKind.i64.wrap (Int.tdiv (m - a) 8) = (m - a) / 8 := by rw [Int.tdiv_eq_ediv_of_nonneg h0]; exact IntWalk.i64_in _ (by omega)
    have e2 : IntKind.i64.wrap ((m - a) / 8 * 8) = (m - a) / 8 * 8 := IntWalk.i64_in _ (by omega)
    go_enter Try.func47, Try.ntmps47
    go_wp2_with fail
    go_ret
    exact ⟨rfl, Below.refl _ _⟩
  · rw [us15_le m a h]
    have t1 : decide (a < m) = false := by simp; omega
    go_enter Try.func47, Try.ntmps47
    go_wp2_with fail
    go_ret
    exact ⟨rfl, Below.refl _ _⟩

end Go.Proofs.Ytoijomdgcgbpbaa

/-
  Cut: a packet's pieces, at every text and every number.
-/
namespace Go.Proofs.Ytoijomdgcgbpbaa
open Go.RowKit Go.Shelf
set_option linter.unusedVariables false

/-- What Cut answers. -/
def CutEnd (p : ByteArray) (m : Int) (w : World) (e : Ending) (w' : World) : Prop :=
  Below w.heap.size w w' ∧ ∃ v, e = .returned (.tuple #[v, .int .i64 (cutE p m : Nat)]) ∧ TextsAt w' v (cutL p m)

theorem bounded15 {M : Nat} : ∀ (l : List (H4 × ByteArray)), (∀ x ∈ l, x.2.size ≤ M) → ∃ xs : List (It15 M), xs.map (·.1) = l
  | [], _ => ⟨[], rfl⟩
  | x :: l, h => by
    obtain ⟨xs, e⟩ := bounded15 l (fun y hy => h y (List.mem_cons_of_mem _ hy))
    exact ⟨⟨x, h x (List.mem_cons_self ..)⟩ :: xs, by simp [e]⟩
theorem items15_bounded (h : H4) (pay : ByteArray) (n : Nat) : ∀ x ∈ items15 h pay n, x.2.size ≤ pay.size := by
  intro x hx
  unfold items15 upto15 at hx
  simp only [List.mem_append, List.mem_map, List.mem_range, List.mem_singleton] at hx
  rcases hx with ⟨i, _, rfl⟩ | rfl
  · show (pay.extract _ _).size ≤ _
    rw [ByteArray.size_extract]; omega
  · show (pay.extract _ _).size ≤ _
    rw [ByteArray.size_extract]; omega

theorem puts15 (hb pb sb : Nat) (h : H4) (pay : ByteArray) (n : Nat) (hn : 0 < n) (hn2 : n ≤ 65535) (hp : pay.size ≤ 1000000) (ho : 0 ≤ h.off ∧ h.off ≤ 8191) (w : World) (hc : Cap15 w w.heap.size hb pb sb h pay n) :
    Calls Try.prog 44 #[.func (.func 66) #[] #[.pointer (some ⟨hb, 0, none⟩), .pointer (some ⟨pb, 0, none⟩), .pointer (some ⟨sb, 0, none⟩)]] w (PutsEnd (items15 h pay n) w) := by
  obtain ⟨xs, hx⟩ := bounded15 (M := pay.size) (items15 h pay n) (items15_bounded h pay n)
  exact callsIn_wide.1 (put15_in (M := pay.size) (by omega) hb pb sb h pay n xs hx hn hn2 hp ho w hc)

/-- pieces: its three arguments, each in a block, and the iterator. -/
def PiecesEnd (h : H4) (pay : ByteArray) (n : Nat) (w : World) (e : Ending) (w' : World) : Prop :=
  Below w.heap.size w w' ∧ e = .returned (.func (.func 66) #[] #[.pointer (some ⟨w.heap.size, 0, none⟩), .pointer (some ⟨w.heap.size + 1, 0, none⟩), .pointer (some ⟨w.heap.size + 2, 0, none⟩)]) ∧ Cap15 w' w'.heap.size w.heap.size (w.heap.size + 1) (w.heap.size + 2) h pay n
theorem pieces_any (h : H4) (pay : ByteArray) (n : Nat) (w : World) : Calls Try.prog 45 #[.agg h.cells, .string pay, .int .i64 (n : Int)] w (PiecesEnd h pay n w) := by
  have hmf : ∀ (fn : Fn) (first cap : Array Value) (w : World), (Instr.makeFunc fn first cap).run Try.prog w = .ok (.func fn first cap) w := fun _ _ _ _ => rfl
  have e1 := Blk.new w h.cells 43
  have e2 := Blk.new (w.alloc (.cells h.cells 43)) #[.string pay] 9
  have e3 := Blk.new ((w.alloc (.cells h.cells 43)).alloc (.cells #[.string pay] 9)) #[.int .i64 (n : Int)] 3
  simp only [World.size_alloc] at e2 e3
  have hb : Below w.heap.size w (((w.alloc (.cells h.cells 43)).alloc (.cells #[.string pay] 9)).alloc (.cells #[.int .i64 (n : Int)] 3)) :=
    (((Below.refl _ w).alloc (Nat.le_refl _) _).alloc (by simp) _).alloc (by simp; omega) _
  have HC := Lib.hid (show Cap15 (((w.alloc (.cells h.cells 43)).alloc (.cells #[.string pay] 9)).alloc (.cells #[.int .i64 (n : Int)] 3)) (w.heap.size + 3) w.heap.size (w.heap.size + 1) (w.heap.size + 2) h pay n from
    ⟨(e1.alloc _).alloc _, e2.alloc _, e3, by omega, by omega, by omega⟩)
  have HB := Lib.hid hb
  unfold H4.cells at HC HB ⊢
  clear e1 e2 e3 hb
  go_enter Try.func45, Try.ntmps45
  go_wp2_with fail
  go_ret
  refine ⟨HB.out, rfl, ?_⟩
  have hs : ((((w.alloc (.cells h.cells 43)).alloc (.cells #[.string pay] 9)).alloc (.cells #[.int .i64 (n : Int)] 3))).heap.size = w.heap.size + 3 := by simp
  unfold H4.cells at hs
  rw [hs]
  exact HC.out

/-- Cut's header, in its block. -/
structure Lc15 (w W : World) (h : H4) : Prop where
  b : Blk W w.heap.size h.cells 43
  bel : Below w.heap.size w W
  lt : w.heap.size < W.heap.size

theorem one15 (W : World) (o : Obj) (s : ByteArray) (T : TypeId) : ((W.alloc o).alloc (.cells #[.string s] T)).cell? ⟨W.heap.size + 1, 0, none⟩ = some (.string s) := by
  have h := (Blk.new (W.alloc o) #[.string s] T).cell 0
  simp only [World.size_alloc] at h
  exact h

set_option maxHeartbeats 1000000 in
theorem cut_any (p : ByteArray) (m : Int) (w : World) (hs : p.size ≤ 1000000) :
    Calls Try.prog 23 #[.string p, .int .i64 m] w (CutEnd p m w) := by
  have HG := Lib.hid (fun W => get_any p W hs)
  unfold GetEnd at HG
  have HS : Hid (p.size ≤ 1000000) := hs
  clear hs
  by_cases hE : getE p = 0
  case neg =>
    have hc := cutE_get (m := m) hE
    have t1 : ((getE p : Int) != 0) = true := by simp; omega
    have hl := cutL_err (p := p) (m := m) (by rw [hc]; exact hE)
    unfold CutEnd
    rw [hc, hl]
    clear hc hl
    generalize getE p = E at *
    generalize getH p = H at *
    generalize getS p = S at *
    unfold H4.cells at HG
    go_enter Try.func23, Try.ntmps23
    go_wp2_with fail
    refine (HG.out _).mono ?_
    rintro e w1 ⟨rfl, hb1⟩
    have HB := Lib.hid hb1
    clear hb1 HG
    go_wp2_with fail
    refine ⟨rfl, .tuple #[.slice none 0 0, .int .i64 (E : Nat)], by simp [results, Try.results23, go_sem], HB.out.alloc (by have := HB.out.size; omega) _, _, rfl, Or.inl ⟨rfl, rfl⟩⟩
  case pos =>
    have hr := right15 hE
    have t0 : ((getE p : Int) != 0) = false := by rw [hE]; rfl
    have hcE := @cutE_mtu p m hE
    have hcW := @cutE_whole p m hE
    have hcD := @cutE_df p m hE
    have hcN := @cutE_none p m hE
    have hcP := @cutE_put p m hE
    have hall : all15 p m = items15 (getH p) (getS p) (n15 p m) := rfl
    have hlE := @cutL_err p m
    have hlW := @cutL_whole p m
    have hlP := @cutL_put p m
    have hmany := @many15 p m hE
    have hrest : ((p.size : Int) - ((getS p).size : Int)) = (hsz p : Int) := by rw [hr.pay]; have := hr.hz; omega
    have hpt : pt15 (hsz p) m = (n15 p m : Nat) := pt15_nat _ _
    have hz := hr.hz
    have hgh : (getH p).Ok := by rw [hr.gh]; exact hr.ok
    have HR := Lib.hid hrest
    have HS2 : Hid ((getS p).size ≤ 1000000) := by have := hr.pay; have := HS.out; show _ ≤ _; omega
    clear hr hrest
    generalize hEq : getE p = E at *
    subst hE
    generalize getH p = H at *
    generalize getS p = S at *
    have HO := Lib.hid hgh.off
    clear hgh
    unfold H4.cells at HG
    unfold CutEnd
    go_enter Try.func23, Try.ntmps23
    go_wp2_with fail
    refine (HG.out _).mono ?_
    rintro e w1 ⟨rfl, hb1⟩
    have HB := Lib.hid (hb1.alloc hb1.size (.cells H.cells 43))
    have HK := Lib.hid (Blk.new w1 H.cells 43)
    unfold H4.cells at HB HK
    clear hb1 HG
    generalize hd : H.df = d at *
    have HD := Lib.hid hd
    clear hd
    by_cases h1 : m < 28 ∨ 65535 < m
    · have hce := hcE h1
      have hcl := hlE (by rw [hce]; decide)
      clear hcE hcW hcD hcN hcP hlE hlW hlP hmany
      have hx : decide (m < 28) = true ∨ (decide (m < 28) = false ∧ decide (m > 65535) = true) := by simp only [decide_eq_true_eq, decide_eq_false_iff_not]; omega
      rcases hx with t1 | ⟨t1, t2⟩
      · go_wp2_with fail
        refine ⟨rfl, .tuple #[.slice none 0 0, .int .i64 (cutE p m : Nat)], by rw [hce]; simp [results, Try.results23, go_sem], HB.out, _, rfl, Or.inl ⟨hcl, rfl⟩⟩
      · go_wp2_with fail
        refine ⟨rfl, .tuple #[.slice none 0 0, .int .i64 (cutE p m : Nat)], by rw [hce]; simp [results, Try.results23, go_sem], HB.out, _, rfl, Or.inl ⟨hcl, rfl⟩⟩
    · have t1 : decide (m < 28) = false := by simp only [decide_eq_false_iff_not]; omega
      have t2 : decide (m > 65535) = false := by simp only [decide_eq_false_iff_not]; omega
      by_cases h2 : (p.size : Int) ≤ m
      · have t3 : decide ((p.size : Int) ≤ m) = true := by simp only [decide_eq_true_eq]; exact h2
        have hce := hcW h1 h2
        have hcl := hlW hce h2
        clear hcE hcW hcD hcN hcP hlE hlW hlP hmany
        go_wp2_with fail
        refine ⟨rfl, .tuple #[.slice (some ⟨w1.heap.size + 1, 0, none⟩) 1 1, .int .i64 (cutE p m : Nat)], by rw [hce]; simp [results, Try.results23, go_sem], HB.out.alloc HB.out.size _, _, rfl, ?_⟩
        rw [hcl]
        refine Or.inr ⟨_, _, rfl, by simp, ?_, by simp⟩
        intro i hi
        have : i = 0 := by simpa using hi
        subst this
        exact one15 _ _ _ _
      · have t3 : decide ((p.size : Int) ≤ m) = false := by simp only [decide_eq_false_iff_not]; exact h2
        have ⟨c0, c1, c2, c3, c4, c5, c6, c7, c8, c9⟩ := Hc.of (h := ⟨H.tos, H.id, H.off, H.ttl, H.proto, d, H.mf, H.src, H.dst, H.opt⟩) HK.out
        dsimp only at c0 c1 c2 c3 c4 c5 c6 c7 c8 c9
        cases d with
        | true =>
          have hce := hcD h1 (by omega) rfl
          have hcl := hlE (by rw [hce]; decide)
          clear hcE hcW hcD hcN hcP hlE hlW hlP hmany
          go_wp2_with fail
          refine ⟨rfl, .tuple #[.slice none 0 0, .int .i64 (cutE p m : Nat)], by rw [hce]; simp [results, Try.results23, go_sem], HB.out, _, rfl, Or.inl ⟨hcl, rfl⟩⟩
        | false =>
          have hrest := HR.out
          have e1 : IntKind.i64.wrap ((hsz p : Nat) : Int) = (hsz p : Nat) := IntWalk.i64_in _ (by omega)
          have HP := Lib.hid (fun W => part_any (hsz p) m W (by omega) (by omega))
          rw [hpt] at HP
          by_cases h4 : n15 p m = 0
          · have t4 : ((n15 p m : Nat) : Int) = 0 := by omega
            have hce := hcN h1 (by omega) rfl h4
            have hcl := hlE (by rw [hce]; decide)
            rw [t4] at HP
            clear hcE hcW hcD hcN hcP hlE hlW hlP hmany
            go_wp2_with fail
            refine (HP.out _).mono ?_
            rintro e w2 ⟨rfl, hb2⟩
            have HB2 := Lib.hid (HB.out.trans (hb2.mono HB.out.size))
            clear HB hb2 HP
            go_wp2_with fail
            refine ⟨rfl, .tuple #[.slice none 0 0, .int .i64 (cutE p m : Nat)], by rw [hce]; simp [results, Try.results23, go_sem], HB2.out, _, rfl, Or.inl ⟨hcl, rfl⟩⟩
          · have hm := hmany h1 (by omega) rfl h4
            have t4 : (((n15 p m : Nat) : Int) == 0) = false := by simp; exact h4
            have hcp := hcP h1 (by omega) rfl h4
            have hlp := hlP
            have hle := hlE
            have HN := Lib.hid (show 0 < n15 p m ∧ n15 p m ≤ 65535 from ⟨by omega, by have := hm.most; omega⟩)
            clear hcE hcW hcD hcN hcP hlE hlW hlP hmany hm
            go_wp2_with fail
            refine (HP.out _).mono ?_
            rintro e w2 ⟨rfl, hb2⟩
            have HB2 := Lib.hid (HB.out.trans (hb2.mono HB.out.size))
            have HK2 := (hb2.block _ HK.out.lt).trans HK.out
            have ⟨d0, d1, d2, d3, d4, d5, d6, d7, d8, d9⟩ := Hc.of (h := ⟨H.tos, H.id, H.off, H.ttl, H.proto, false, H.mf, H.src, H.dst, H.opt⟩) HK2
            clear c0 c1 c2 c3 c4 c5 c6 c7 c8 c9 HB hb2 HP HK
            have HQ := fun W => pieces_any H S (n15 p m) W
            unfold H4.cells at HQ
            simp only [HD.out] at HQ
            have HQ := Lib.hid HQ
            have HA := Lib.hid hall
            have HCP := Lib.hid hcp
            have HLP := Lib.hid hlp
            have HLE := Lib.hid hle
            clear hall hcp hlp hle
            generalize n15 p m = n at *
            go_wp2_with fail
            refine (HQ.out _).mono ?_
            rintro e w3 ⟨hb3, rfl, hc3⟩
            have HB3 := Lib.hid (HB2.out.trans (hb3.mono HB2.out.size))
            clear d0 d1 d2 d3 d4 d5 d6 d7 d8 d9 HQ hb3 HK2
            have HC3 := Lib.hid (puts15 _ _ _ H S n HN.out.1 HN.out.2 HS2.out HO.out w3 hc3)
            clear hc3
            go_wp2_with fail
            refine HC3.out.mono ?_
            rintro e w4 ⟨hb4, ⟨ha, v, rfl, ht⟩ | ⟨ha, rfl⟩⟩
            · rw [← HA.out] at ha ht
              have hce := HCP.out
              rw [if_pos ha] at hce
              have hcl := HLP.out hce (by omega)
              have HB4 := Lib.hid (HB3.out.trans (hb4.mono HB3.out.size))
              have HT := Lib.hid ht
              clear HC3 hb4 ha HB3 HCP HLP HLE ht
              go_wp2_with fail
              refine ⟨rfl, .tuple #[v, .int .i64 (cutE p m : Nat)], by rw [hce]; simp [results, Try.results23, go_sem], HB4.out, v, rfl, ?_⟩
              rw [hcl]
              exact HT.out
            · rw [← HA.out] at ha
              have hce := HCP.out
              rw [if_neg (by rw [ha]; decide)] at hce
              have hcl := HLE.out (by rw [hce]; decide)
              have HB4 := Lib.hid (HB3.out.trans (hb4.mono HB3.out.size))
              clear HC3 hb4 ha HB3 HCP HLP HLE
              go_wp2_with fail
              refine ⟨rfl, .tuple #[.slice none 0 0, .int .i64 (cutE p m : Nat)], by rw [hce]; simp [results, Try.results23, go_sem], HB4.out, _, rfl, Or.inl ⟨hcl, rfl⟩⟩

end Go.Proofs.Ytoijomdgcgbpbaa

/-
  The document's Texts, of two slices that hold the same texts; and the example.
-/
namespace Go.Proofs.Ytoijomdgcgbpbaa
open Go.RowKit Go.Shelf
set_option linter.unusedVariables false

/-- Where they lie, and that there is room for them. -/
theorem TextsAt.full {W : World} {v : Value} {l : List ByteArray} (h : TextsAt W v l) (hl : l ≠ []) : ∃ b c, v = .slice (some ⟨b, 0, none⟩) l.length c ∧ b < W.heap.size ∧ (∀ (i : Nat) (h : i < l.length), W.cell? ⟨b, i, none⟩ = some (.string (l[i]'h))) ∧ l.length ≤ c := by
  rcases h with ⟨e, _⟩ | h
  · exact absurd e hl
  · exact h
theorem TextsAt.some {W : World} {v : Value} {l : List ByteArray} (h : TextsAt W v l) (hl : l ≠ []) : ∃ b c, v = .slice (some ⟨b, 0, none⟩) l.length c ∧ b < W.heap.size ∧ ∀ (i : Nat) (h : i < l.length), W.cell? ⟨b, i, none⟩ = some (.string (l[i]'h)) := by
  rcases h with ⟨e, _⟩ | ⟨b, c, e, hb, hc, _⟩
  · exact absurd e hl
  · exact ⟨b, c, e, hb, hc⟩
theorem TextsAt.none {W : World} {v : Value} {l : List ByteArray} (h : TextsAt W v l) (hl : l = []) : ∃ a c, v = .slice a 0 c := by
  subst hl
  rcases h with ⟨_, rfl⟩ | ⟨b, c, rfl, _⟩
  · exact ⟨_, _, rfl⟩
  · exact ⟨_, _, rfl⟩
/-- A slice of texts, whatever it holds: its length. -/
theorem TextsAt.len {W : World} {v : Value} {l : List ByteArray} (h : TextsAt W v l) : ∃ a c, v = .slice a l.length c := by
  rcases h with ⟨rfl, rfl⟩ | ⟨b, c, rfl, _⟩
  · exact ⟨_, _, rfl⟩
  · exact ⟨_, _, rfl⟩

theorem cutL_length (p : ByteArray) (m : Int) (hp : p.size ≤ 1000000) : (cutL p m).length ≤ 1000001 := by
  unfold cutL
  split
  · simp
  · split
    · simp
    · unfold texts15 all15
      rw [List.length_map, items15_length]
      have h1 : fore15 (getS p) (n15 p m) ≤ (getS p).size - 1 := Nat.div_le_self _ _
      have h2 : (getS p).size ≤ p.size := by
        unfold getS
        split
        · rw [ByteArray.size_extract]; omega
        · show 0 ≤ _; omega
      omega

end Go.Proofs.Ytoijomdgcgbpbaa

/-
  The document's Cut and Texts.
-/
namespace Go.Proofs.Ytoijomdgcgbpbaa
open Go.RowKit Go.Shelf
set_option linter.unusedVariables false

/-- The loop's blocks: the header as it was got, the one that is turned, and the slice. -/
structure Rc15 (w : World) (B X : Nat) (W : World) (h x : H4) (v : Value) (l : List ByteArray) : Prop where
  hb : Blk W B h.cells 43
  xb : Blk W X x.cells 43
  row : W.ownsRow (X + 1) 9 1 v l.length (strs15 l)
  bel : Below w.heap.size w W
  old : w.heap.size ≤ B
  lt : B < X
theorem Rc15.below {w W W' : World} {B X : Nat} {h x : H4} {v : Value} {l : List ByteArray} (r : Rc15 w B X W h x v l) (b : Below W.heap.size W W') : Rc15 w B X W' h x v l :=
  ⟨(b.block _ r.hb.lt).trans r.hb, (b.block _ r.xb.lt).trans r.xb,
    row15_kb (S := fun k => W.heap.size ≤ k) r.row (fun g e => by have := (r.row.lt g e).2; omega) ⟨b.os, b.tape, b.output, b.size, fun i hi _ => b.block i (by omega)⟩, r.bel.trans (b.mono r.bel.size), r.old, r.lt⟩
theorem Rc15.drew {w W : World} {B X : Nat} {h x : H4} {v : Value} {l : List ByteArray} (r : Rc15 w B X W h x v l) : Rc15 w B X W.drew h x v l :=
  r.below ⟨rfl, rfl, rfl, Nat.le_refl _, fun _ _ => rfl⟩
theorem Rc15.set {w W : World} {B X : Nat} {h x x' : H4} {v : Value} {l : List ByteArray} (r : Rc15 w B X W h x v l) (k : Nat) (u : Value) (e : x.cells.setIfInBounds k u = x'.cells) : Rc15 w B X (W.setCell ⟨X, k, none⟩ u) h x' v l :=
  ⟨r.hb.set_other (by have := r.lt; simp; omega) _, by rw [← e]; exact r.xb.set k u,
    row15_kb (S := fun j => j = X) r.row (fun g e => by have := (r.row.lt g e).1; omega) (Kb.setCell (S := fun j => j = X) (Kb.refl _ W) (p := ⟨X, k, none⟩) (fun _ => rfl) _), r.bel.setCell (by have := r.old; have := r.lt; simp; omega) _, r.old, r.lt⟩
theorem Rc15.appended {w W W' : World} {B X : Nat} {h x : H4} {v v' : Value} {l : List ByteArray} (r : Rc15 w B X W h x v l) {s : ByteArray} (hrow : W'.ownsRow (X + 1) 9 1 v' (l.length + 1) (strs15 l ++ [.string s]))
    (hg : (W.alloc (.cells #[.string s] 9)).grownBy W' v.ownBlock) : Rc15 w B X W' h x v' (l ++ [s]) := by
  have hlt := r.row.lt
  have hl := r.lt
  refine ⟨?_, ?_, ?_, ?_, r.old, r.lt⟩
  · exact (hg.block _ (by have := r.hb.lt; simp; omega) (fun e => by have := (hlt B e.symm).1; omega)).trans (r.hb.alloc _)
  · exact (hg.block _ (by have := r.xb.lt; simp; omega) (fun e => by have := (hlt X e.symm).1; omega)).trans (r.xb.alloc _)
  · rw [strs15_snoc, List.length_append]; exact hrow
  · have hz := r.xb.lt
    have ho := r.old
    exact (r.bel.alloc (by omega) _).grown hg (by simp; omega) (fun g e => by have := (hlt g e).1; omega)
theorem Rc15.texts {w W : World} {B X : Nat} {h x : H4} {v : Value} {l : List ByteArray} (r : Rc15 w B X W h x v l) : TextsAt W v l := TextsAt.of_row r.row

set_option maxRecDepth 100000 in
set_option maxHeartbeats 1000000 in
theorem refcut_any (p : ByteArray) (m : Int) (w : World) (hs : p.size ≤ 1000000) :
    Calls Try.prog 27 #[.string p, .int .i64 m] w (CutEnd p m w) := by
  have HG := Lib.hid (fun W => refget_any p W hs)
  unfold RefGot at HG
  have HS : Hid (p.size ≤ 1000000) := hs
  clear hs
  by_cases hE : getE p = 0
  case neg =>
    have hc := cutE_get (m := m) hE
    have t1 : ((getE p : Int) != 0) = true := by simp; omega
    have hl := cutL_err (p := p) (m := m) (by rw [hc]; exact hE)
    unfold CutEnd
    rw [hc, hl]
    clear hc hl
    generalize getE p = E at *
    generalize getH p = H at *
    generalize getS p = S at *
    unfold H4.cells at HG
    go_enter Try.func27, Try.ntmps27
    go_wp2_with fail
    refine (HG.out _).mono ?_
    rintro e w1 ⟨rfl, hb1⟩
    have HB := Lib.hid hb1
    clear hb1 HG
    go_wp2_with fail
    refine ⟨rfl, .tuple #[.slice none 0 0, .int .i64 (E : Nat)], by simp [results, Try.results27, go_sem], HB.out.alloc (by have := HB.out.size; omega) _, _, rfl, Or.inl ⟨rfl, rfl⟩⟩
  case pos =>
    have hr := right15 hE
    have t0 : ((getE p : Int) != 0) = false := by rw [hE]; rfl
    have hcE := @cutE_mtu p m hE
    have hcW := @cutE_whole p m hE
    have hcD := @cutE_df p m hE
    have hcN := @cutE_none p m hE
    have hcP := @cutE_put p m hE
    have hall : all15 p m = items15 (getH p) (getS p) (n15 p m) := rfl
    have hlE := @cutL_err p m
    have hlW := @cutL_whole p m
    have hlP := @cutL_put p m
    have hmany := @many15 p m hE
    have hrest : ((p.size : Int) - ((getS p).size : Int)) = (hsz p : Int) := by rw [hr.pay]; have := hr.hz; omega
    have hpt : pt15 (hsz p) m = (n15 p m : Nat) := pt15_nat _ _
    have hz := hr.hz
    have hos : 20 + ((getH p).opt.size : Int) = (hsz p : Nat) := by
      have h1 := hr.size
      rw [← hr.gh] at h1
      unfold H4.size at h1
      omega
    have hlep := hr.le
    have hpay := hr.pay
    have hgh : (getH p).Ok := by rw [hr.gh]; exact hr.ok
    have HR := Lib.hid hrest
    have HS2 : Hid ((getS p).size ≤ 1000000) := by have := hr.pay; have := HS.out; show _ ≤ _; omega
    clear hr hrest
    generalize hEq : getE p = E at *
    subst hE
    generalize hHp : getH p = H at *
    have HHP := Lib.hid hHp
    clear hHp
    generalize getS p = S at *
    have HO := Lib.hid hgh.off
    clear hgh
    unfold H4.cells at HG
    unfold CutEnd
    go_enter Try.func27, Try.ntmps27
    go_wp2_with fail
    refine (HG.out _).mono ?_
    rintro e w1 ⟨rfl, hb1⟩
    have HW := Lib.hid hb1.size
    have HB := Lib.hid (hb1.alloc hb1.size (.cells H.cells 43))
    have HK := Lib.hid (Blk.new w1 H.cells 43)
    unfold H4.cells at HB HK
    clear hb1 HG
    generalize hd : H.df = d at *
    have HD := Lib.hid hd
    clear hd
    by_cases h1 : m < 28 ∨ 65535 < m
    · have hce := hcE h1
      have hcl := hlE (by rw [hce]; decide)
      clear hcE hcW hcD hcN hcP hlE hlW hlP hmany
      have hx : decide (m < 28) = true ∨ (decide (m < 28) = false ∧ decide (m > 65535) = true) := by simp only [decide_eq_true_eq, decide_eq_false_iff_not]; omega
      rcases hx with t1 | ⟨t1, t2⟩
      · go_wp2_with fail
        refine ⟨rfl, .tuple #[.slice none 0 0, .int .i64 (cutE p m : Nat)], by rw [hce]; simp [results, Try.results27, go_sem], HB.out, _, rfl, Or.inl ⟨hcl, rfl⟩⟩
      · go_wp2_with fail
        refine ⟨rfl, .tuple #[.slice none 0 0, .int .i64 (cutE p m : Nat)], by rw [hce]; simp [results, Try.results27, go_sem], HB.out, _, rfl, Or.inl ⟨hcl, rfl⟩⟩
    · have t1 : decide (m < 28) = false := by simp only [decide_eq_false_iff_not]; omega
      have t2 : decide (m > 65535) = false := by simp only [decide_eq_false_iff_not]; omega
      by_cases h2 : (p.size : Int) ≤ m
      · have t3 : decide ((p.size : Int) ≤ m) = true := by simp only [decide_eq_true_eq]; exact h2
        have hce := hcW h1 h2
        have hcl := hlW hce h2
        clear hcE hcW hcD hcN hcP hlE hlW hlP hmany
        go_wp2_with fail
        refine ⟨rfl, .tuple #[.slice (some ⟨w1.heap.size + 1, 0, none⟩) 1 1, .int .i64 (cutE p m : Nat)], by rw [hce]; simp [results, Try.results27, go_sem], HB.out.alloc HB.out.size _, _, rfl, ?_⟩
        rw [hcl]
        refine Or.inr ⟨_, _, rfl, by simp, ?_, by simp⟩
        intro i hi
        have : i = 0 := by simpa using hi
        subst this
        exact one15 _ _ _ _
      · have t3 : decide ((p.size : Int) ≤ m) = false := by simp only [decide_eq_false_iff_not]; exact h2
        have ⟨c0, c1, c2, c3, c4, c5, c6, c7, c8, c9⟩ := Hc.of (h := ⟨H.tos, H.id, H.off, H.ttl, H.proto, d, H.mf, H.src, H.dst, H.opt⟩) HK.out
        dsimp only at c0 c1 c2 c3 c4 c5 c6 c7 c8 c9
        cases d with
        | true =>
          have hce := hcD h1 (by omega) rfl
          have hcl := hlE (by rw [hce]; decide)
          clear hcE hcW hcD hcN hcP hlE hlW hlP hmany
          go_wp2_with fail
          refine ⟨rfl, .tuple #[.slice none 0 0, .int .i64 (cutE p m : Nat)], by rw [hce]; simp [results, Try.results27, go_sem], HB.out, _, rfl, Or.inl ⟨hcl, rfl⟩⟩
        | false =>
          have hrest := HR.out
          have e1 : IntKind.i64.wrap ((hsz p : Nat) : Int) = (hsz p : Nat) := IntWalk.i64_in _ (by omega)
          have HP := Lib.hid (fun W => refpart_any (hsz p) m W (by omega) (by omega))
          rw [hpt] at HP
          by_cases h4 : n15 p m = 0
          · have t4 : ((n15 p m : Nat) : Int) = 0 := by omega
            have hce := hcN h1 (by omega) rfl h4
            have hcl := hlE (by rw [hce]; decide)
            rw [t4] at HP
            clear hcE hcW hcD hcN hcP hlE hlW hlP hmany
            go_wp2_with fail
            refine (HP.out _).mono ?_
            rintro e w2 ⟨rfl, hb2⟩
            have HB2 := Lib.hid (HB.out.trans (hb2.mono HB.out.size))
            clear HB hb2 HP
            go_wp2_with fail
            refine ⟨rfl, .tuple #[.slice none 0 0, .int .i64 (cutE p m : Nat)], by rw [hce]; simp [results, Try.results27, go_sem], HB2.out, _, rfl, Or.inl ⟨hcl, rfl⟩⟩
          · have hm := hmany h1 (by omega) rfl h4
            have hft := hm.fit
            rw [HHP.out] at hft
            have HFIT := Lib.hid hft
            have HALL := Lib.hid (hft.all S)
            clear hft HHP
            have t4 : (((n15 p m : Nat) : Int) == 0) = false := by simp; exact h4
            have hcp := hcP h1 (by omega) rfl h4
            have hlp := hlP
            have hle := hlE
            have HN := Lib.hid (show 0 < n15 p m ∧ n15 p m ≤ 65535 from ⟨by omega, by have := hm.most; omega⟩)
            clear hcE hcW hcD hcN hcP hlE hlW hlP hmany hm
            go_wp2_with fail
            refine (HP.out _).mono ?_
            rintro e w2 ⟨rfl, hb2⟩
            have HW1 : Hid (w.heap.size ≤ w1.heap.size) := HW.out
            have HB2 := Lib.hid (HB.out.trans (hb2.mono HB.out.size))
            have HK2 := (hb2.block _ HK.out.lt).trans HK.out
            have ⟨d0, d1, d2, d3, d4, d5, d6, d7, d8, d9⟩ := Hc.of (h := ⟨H.tos, H.id, H.off, H.ttl, H.proto, false, H.mf, H.src, H.dst, H.opt⟩) HK2
            clear c0 c1 c2 c3 c4 c5 c6 c7 c8 c9 HB hb2 HP HK
            have HPUT := Lib.hid (fun (x : H4) (s : ByteArray) (hs : s.size ≤ 1000000) (W : World) => refput_any x s W (by omega))
            have HSZ : Hid (S.size ≤ 65535) := by have := HR.out; show _ ≤ _; omega
            rw [hall] at hcp hlp
            have HCP := Lib.hid hcp
            have HLP := Lib.hid hlp
            have HLE := Lib.hid hle
            have HM := Lib.hid h2
            have HK3 := Lib.hid HK2
            clear hall hcp hlp hle hlep hpay hos hrest HK2
            generalize n15 p m = n at *
            obtain ⟨a0, a1, a2, a3, a4, a5, a6, a7, a8, a9⟩ := H
            have h5 : a5 = false := HD.out
            subst h5
            dsimp only at d0 d1 d2 d3 d4 d5 d6 d7 d8 d9 HB2 HK3
            go_wp2_with fail
            obtain ⟨i0, hi0, hz0, hz1, hz2⟩ := info_parts Try.infoS
            have R0 := Lib.hid (show Rc15 w w1.heap.size w2.heap.size (w2.alloc (.cells #[.int .i64 a0, .int .i64 a1, .int .i64 a2, .int .i64 a3, .int .i64 a4, .bool false, .bool a6, .string a7, .string a8, .string a9] 43)) ⟨a0, a1, a2, a3, a4, false, a6, a7, a8, a9⟩ ⟨a0, a1, a2, a3, a4, false, a6, a7, a8, a9⟩ (.slice none 0 0) [] from
              ⟨Blk.alloc (h := HK3.out) _, Blk.new w2 _ _, World.ownsRow_nil _ _ _ _, HB2.out.alloc HB2.out.size _, HW1.out, (show Blk w2 w1.heap.size _ 43 from HK3.out).lt⟩)
            generalize w2.alloc (.cells #[.int .i64 a0, .int .i64 a1, .int .i64 a2, .int .i64 a3, .int .i64 a4, .bool false, .bool a6, .string a7, .string a8, .string a9] 43) = w3 at *
            generalize w2.heap.size = X at *
            generalize w1.heap.size = B at *
            clear d0 d1 d2 d3 d4 d5 d6 d7 d8 d9 HK3 HB2
            obtain ⟨K, hK⟩ : ∃ K : H4, K = ⟨a0, a1, a2, a3, a4, false, a6, a7, a8, a9⟩ := ⟨_, rfl⟩
            rw [← hK] at R0
            go_loopw [10, 11] (fun v r wr => ∃ (i : Nat) (b : Bool), i ≤ fore15 S n ∧ r = .string (S.extract (i * n) S.size) ∧ K.off + ((i * (n / 8) : Nat) : Int) ≤ 8191 ∧ Rc15 w B X wr K (K.at15 (i * (n / 8)) b) v (texts15 (upto15 K S n i))) (fun _ r _ => len15 r)
            case atStart =>
              refine ⟨0, a6, Nat.zero_le _, by rw [Nat.zero_mul, ext15_all], by rw [Nat.zero_mul, hK]; have := HO.out.2; show a2 + _ ≤ _; omega, ?_⟩
              rw [Nat.zero_mul, show K.at15 0 a6 = K from by rw [hK]; simp [H4.at15]]
              exact R0.out
            case round =>
              obtain ⟨i, b, hi, rfl, ho, hR⟩ := hrel
              subst hK
              clear R0
              have hle := fore15_le HN.out.1 hi
              have hLs : (S.extract (i * n) S.size).size = S.size - i * n := by rw [ByteArray.size_extract]; omega
              have HL := Lib.hid hLs
              have HI := Lib.hid hi
              have HF : Hid (i < fore15 S n ↔ n < S.size - i * n) := fore15_lt HN.out.1
              have HR1 := Lib.hid hR
              have ⟨c0, c1, c2, c3, c4, c5, c6, c7, c8, c9⟩ := Hc.of hR.xb
              unfold H4.at15 at c0 c1 c2 c3 c4 c5 c6 c7 c8 c9
              dsimp only at c0 c1 c2 c3 c4 c5 c6 c7 c8 c9 ho
              have f6 := hR.xb.frozen 6
              have f2 := hR.xb.frozen 2
              have hlen : (texts15 (upto15 ⟨a0, a1, a2, a3, a4, false, a6, a7, a8, a9⟩ S n i)).length = i := by simp [texts15, upto15]
              have hO0 : 0 ≤ a2 + ((i * (n / 8) : Nat) : Int) := by have := HO.out.1; omega
              by_cases hlt : i < fore15 S n
              case neg =>
                have hik : i = fore15 S n := by omega
                have y6 := (Hc.of hR.hb).c6
                dsimp only at y6
                have t5 : decide (n < (S.extract (i * n) S.size).size) = false := by
                  rw [decide_eq_false_iff_not, hLs, ← HF.out]; exact hlt
                have hall0 : allput15 (items15 ⟨a0, a1, a2, a3, a4, false, a6, a7, a8, a9⟩ S n) = true := by
                  rw [HALL.out]
                  exact decide_eq_true (by rw [← hik]; exact ho)
                have hce : cutE p m = 0 := by have := HCP.out; rw [if_pos hall0] at this; exact this
                have hcl : cutL p m = texts15 (upto15 ⟨a0, a1, a2, a3, a4, false, a6, a7, a8, a9⟩ S n i) ++ [putS ((⟨a0, a1, a2, a3, a4, false, a6, a7, a8, a9⟩ : H4).at15 (i * (n / 8)) a6) (S.extract (i * n) S.size)] := by
                  rw [HLP.out hce (by have := HM.out; omega), hik]
                  unfold items15
                  rw [texts15_snoc]
                  rfl
                have HCL := Lib.hid hcl
                have HCE := Lib.hid hce
                clear hall0 hce hcl hik HALL HCP HLP HLE
                have HRR := Lib.hid (HR1.out.set (x' := (⟨a0, a1, a2, a3, a4, false, a6, a7, a8, a9⟩ : H4).at15 (i * (n / 8)) a6) 6 (.bool a6) rfl)
                have HP := Lib.hid (HPUT.out ((⟨a0, a1, a2, a3, a4, false, a6, a7, a8, a9⟩ : H4).at15 (i * (n / 8)) a6) (S.extract (i * n) S.size) (by have := HSZ.out; omega))
                generalize hQ : putS ((⟨a0, a1, a2, a3, a4, false, a6, a7, a8, a9⟩ : H4).at15 (i * (n / 8)) a6) (S.extract (i * n) S.size) = Q at *
                generalize putE ((⟨a0, a1, a2, a3, a4, false, a6, a7, a8, a9⟩ : H4).at15 (i * (n / 8)) a6) (S.extract (i * n) S.size) = E at *
                unfold H4.at15 H4.cells at HP
                dsimp only at HP
                clear hQ
                generalize hO : a2 + ((i * (n / 8) : Nat) : Int) = O at *
                generalize hLL : S.extract (i * n) S.size = L at *
                clear hi hle hLs hR hlt HPUT
                go_wp2_with fail
                refine (HP.out _).mono ?_
                rintro e W5 ⟨rfl, hb5⟩
                have R5 := Lib.hid (HRR.out.below hb5)
                have HROW := Lib.hid (R5.out.row.alloc (.cells #[.string Q] 9))
                have HX := Lib.hid R5.out.xb.lt
                have HT := Lib.hid hlen
                have HI2 : Hid (i ≤ 70000) := by
                  have h1 := HI.out
                  have h2 : fore15 S n ≤ S.size - 1 := Nat.div_le_self _ _
                  have h3 := HSZ.out
                  show i ≤ 70000
                  omega
                clear hb5 HRR HP c0 c1 c2 c3 c4 c5 c6 c7 c8 c9 f6 f2 y6 hlen
                go_wp2_with (at_builtin; refine wpList_append_own _ rfl _ _ 24 rfl (X + 1) 9 i0 (.string ⟨#[]⟩) 1 16 (by kernel_rfl) hi0 hz0 hz1 hz2 rfl (by decide) _ _ _ rfl HROW.out ⟨W5.heap.size, 0, none⟩ 1 1 [.string Q] rfl rfl (new15 W5 _ _) (by simp [Value.oneCell']) (by have := HI2.out; have := HT.out; unfold maxLen; omega) (by have := HI2.out; have := HT.out; omega) (by have := HX.out; simp; omega) ?_; intro v' w6 hown' hgrow _; have R6 := Lib.hid (R5.out.appended hown' hgrow); clear hown' hgrow)
                refine ⟨rfl, .tuple #[v', .int .i64 (cutE p m : Nat)], by rw [HCE.out]; simp [results, Try.results27, go_sem], R6.out.bel, v', rfl, ?_⟩
                rw [HCL.out]
                exact R6.out.texts
              case pos =>
                have hgt : n < S.size - i * n := HF.out.1 hlt
                have hft : i * n + n ≤ S.size := by omega
                have EF := Lib.hid (ext15_front hft)
                have ER := Lib.hid (ext15_rest hft)
                have hmul : (i + 1) * (n / 8) ≤ fore15 S n * (n / 8) := Nat.mul_le_mul_right _ hlt
                have HO2 : Hid (a2 + ((i * (n / 8) : Nat) : Int) + ((n / 8 : Nat) : Int) = a2 + (((i + 1) * (n / 8) : Nat) : Int)) := by
                  show _ = _
                  rw [Nat.add_mul, Nat.one_mul]
                  omega
                have HBAD : Hid (8191 < a2 + (((i + 1) * (n / 8) : Nat) : Int) → cutE p m = 4) := by
                  intro hbig
                  have := HCP.out
                  rw [HALL.out, if_neg (by simp only [decide_eq_true_eq]; omega)] at this
                  exact this
                have HSN : Hid (texts15 (upto15 ⟨a0, a1, a2, a3, a4, false, a6, a7, a8, a9⟩ S n (i + 1)) = texts15 (upto15 ⟨a0, a1, a2, a3, a4, false, a6, a7, a8, a9⟩ S n i) ++ [putS ((⟨a0, a1, a2, a3, a4, false, a6, a7, a8, a9⟩ : H4).at15 (i * (n / 8)) true) (S.extract (i * n) (i * n + n))]) := by
                  show _ = _
                  rw [upto15_succ, texts15_snoc]
                  rfl
                have HRR := Lib.hid (HR1.out.set (x' := (⟨a0, a1, a2, a3, a4, false, a6, a7, a8, a9⟩ : H4).at15 (i * (n / 8)) true) 6 (.bool true) rfl)
                have HP := Lib.hid (HPUT.out ((⟨a0, a1, a2, a3, a4, false, a6, a7, a8, a9⟩ : H4).at15 (i * (n / 8)) true) (S.extract (i * n) (i * n + n)) (by rw [ByteArray.size_extract]; have := HSZ.out; omega))
                generalize hQ : putS ((⟨a0, a1, a2, a3, a4, false, a6, a7, a8, a9⟩ : H4).at15 (i * (n / 8)) true) (S.extract (i * n) (i * n + n)) = Q at *
                generalize putE ((⟨a0, a1, a2, a3, a4, false, a6, a7, a8, a9⟩ : H4).at15 (i * (n / 8)) true) (S.extract (i * n) (i * n + n)) = E at *
                have HLT := Lib.hid hlt
                clear hQ hmul hi hle hR hlt HCP HALL HLP HPUT HR1 hft
                unfold H4.at15 H4.cells at HP
                dsimp only at HP
                generalize hO : a2 + ((i * (n / 8) : Nat) : Int) = O at *
                have HOO := Lib.hid hO
                clear hO
                generalize hLL : S.extract (i * n) S.size = L at *
                generalize S.extract (i * n) (i * n + n) = T at *
                have ef := EF.out
                have er := ER.out
                have hlen2 : n < L.size := by rw [hLs]; exact hgt
                have t5 : decide (n < L.size) = true := decide_eq_true hlen2
                clear hLs hLL hgt
                go_wp2_with fail
                have R2 := Lib.hid HRR.out
                generalize wr.setCell ⟨X, 6, none⟩ (.bool true) = w4 at *
                clear c0 c1 c2 c3 c4 c5 c6 c7 c8 c9 f6 f2 HRR
                have hxb := R2.out.xb
                unfold H4.at15 at hxb
                dsimp only at hxb
                rw [HOO.out] at hxb
                have ⟨c0, c1, c2, c3, c4, c5, c6, c7, c8, c9⟩ := Hc.of hxb
                dsimp only at c0 c1 c2 c3 c4 c5 c6 c7 c8 c9
                clear hxb
                go_region_with (refine (HP.out _).mono ?_; rintro e W5 ⟨rfl, hb5⟩)
                all_goals
                  have R5 := Lib.hid (R2.out.drew.below hb5)
                  clear c0 c1 c2 c3 c4 c5 c6 c7 c8 c9 R2 HP hb5
                  have HROW := Lib.hid (R5.out.row.alloc (.cells #[.string Q] 9))
                  have HX := Lib.hid R5.out.xb.lt
                  have HT := Lib.hid hlen
                  have HI2 : Hid (i ≤ 70000) := by
                    have h1 := HI.out
                    have h2 : fore15 S n ≤ S.size - 1 := Nat.div_le_self _ _
                    have h3 := HSZ.out
                    show i ≤ 70000
                    omega
                  have hn2 : n ≤ 65535 := HN.out.2
                  have hle2 : n ≤ L.size := by omega
                  clear hlen
                  have hs1 : (S.extract (i * n + n) S.size).size = S.size - (i * n + n) := by rw [ByteArray.size_extract]; omega
                  by_cases hbig : 8191 < O + (n : Int) / 8
                  · have t6 : decide (O + (n : Int) / 8 > 8191) = true := decide_eq_true hbig
                    have hbad := HBAD.out (by rw [← HO2.out]; omega)
                    have HBB := Lib.hid hbad
                    have hcl := HLE.out (by rw [hbad]; decide)
                    have HCL := Lib.hid hcl
                    clear hbad hbig hcl HBAD HO2 HSN HLE hs1
                    go_wp2_with (at_builtin; refine wpList_append_own _ rfl _ _ 24 rfl (X + 1) 9 i0 (.string ⟨#[]⟩) 1 16 (by kernel_rfl) hi0 hz0 hz1 hz2 rfl (by decide) _ _ _ rfl HROW.out ⟨W5.heap.size, 0, none⟩ 1 1 [.string Q] rfl rfl (new15 W5 _ _) (by simp [Value.oneCell']) (by have := HI2.out; have := HT.out; unfold maxLen; omega) (by have := HI2.out; have := HT.out; omega) (by have := HX.out; simp; omega) ?_; intro v' w6 hown' hgrow _; have R6 := Lib.hid (R5.out.appended hown' hgrow); have c2 := (Hc.of R6.out.xb).c2; have f2 := R6.out.xb.frozen 2; unfold H4.at15 at c2; dsimp only at c2; rw [HOO.out] at c2; clear hown' hgrow)
                    refine ⟨rfl, .tuple #[.slice none 0 0, .int .i64 (cutE p m : Nat)], by rw [HBB.out]; simp [results, Try.results27, go_sem], R6.out.bel.setCell (by have := R6.out.old; have := R6.out.lt; simp; omega) _, _, rfl, Or.inl ⟨HCL.out, rfl⟩⟩
                  · have t6 : decide (O + (n : Int) / 8 > 8191) = false := decide_eq_false hbig
                    go_wp2_with (at_builtin; refine wpList_append_own _ rfl _ _ 24 rfl (X + 1) 9 i0 (.string ⟨#[]⟩) 1 16 (by kernel_rfl) hi0 hz0 hz1 hz2 rfl (by decide) _ _ _ rfl HROW.out ⟨W5.heap.size, 0, none⟩ 1 1 [.string Q] rfl rfl (new15 W5 _ _) (by simp [Value.oneCell']) (by have := HI2.out; have := HT.out; unfold maxLen; omega) (by have := HI2.out; have := HT.out; omega) (by have := HX.out; simp; omega) ?_; intro v' w6 hown' hgrow _; have R6 := Lib.hid (R5.out.appended hown' hgrow); have c2 := (Hc.of R6.out.xb).c2; have f2 := R6.out.xb.frozen 2; unfold H4.at15 at c2; dsimp only at c2; rw [HOO.out] at c2; clear hown' hgrow)
                    have hv : O + (n : Int) / 8 = a2 + (((i + 1) * (n / 8) : Nat) : Int) := by have := HO2.out; omega
                    rw [hv]
                    refine ⟨⟨i + 1, true, HLT.out, by rw [Nat.add_mul, Nat.one_mul], by have := hbig; omega, ?_⟩, ?_⟩
                    · rw [HSN.out]
                      exact R6.out.set 2 (.int .i64 (a2 + (((i + 1) * (n / 8) : Nat) : Int))) rfl
                    · simp only [len15, hs1]
                      have := HL.out
                      omega

end Go.Proofs.Ytoijomdgcgbpbaa

/-
  The document's example: the laws' 'awake'.
-/
namespace Go.Proofs.Ytoijomdgcgbpbaa
open Go.RowKit Go.Shelf
set_option linter.unusedVariables false

/-- The example's packet. -/
def zeros15 : ByteArray := ⟨(List.replicate 100 (0 : UInt8)).toArray⟩
def packet15 : ByteArray := putS exampleH zeros15
set_option maxRecDepth 100000 in
theorem packet15_e : putE exampleH zeros15 = 0 := by decide +kernel
set_option maxRecDepth 100000 in
theorem packet15_size : packet15.size = 120 := by decide +kernel
set_option maxRecDepth 100000 in
theorem packet15_cut : cutE packet15 60 = 0 ∧ (cutL packet15 60).map ByteArray.size = [60, 60, 40] := by decide +kernel

/-- The example's three pieces, as a slice tells them. -/
structure Three15 (W : World) (v : Value) : Prop where
  is : ∃ (b c : Nat) (x y z : ByteArray), v = .slice (some ⟨b, 0, none⟩) 3 c ∧ x.size = 60 ∧ y.size = 60 ∧ z.size = 40 ∧ W.cell? ⟨b, 0, none⟩ = some (.string x) ∧ W.cell? ⟨b, 1, none⟩ = some (.string y) ∧ W.cell? ⟨b, 2, none⟩ = some (.string z)
theorem three15 {W : World} {v : Value} {l : List ByteArray} (h : TextsAt W v l) (hl : l.map ByteArray.size = [60, 60, 40]) : Three15 W v := by
  obtain ⟨x, l1, rfl, hx, h1⟩ := List.map_eq_cons_iff.1 hl
  obtain ⟨y, l2, rfl, hy, h2⟩ := List.map_eq_cons_iff.1 h1
  obtain ⟨z, l3, rfl, hz, h3⟩ := List.map_eq_cons_iff.1 h2
  obtain rfl := List.map_eq_nil_iff.1 h3
  obtain ⟨b, c, rfl, _, hc⟩ := h.some (by simp)
  exact ⟨⟨b, c, x, y, z, rfl, hx, hy, hz, hc 0 (by simp), hc 1 (by simp), hc 2 (by simp)⟩⟩

end Go.Proofs.Ytoijomdgcgbpbaa
