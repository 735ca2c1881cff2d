/-
  The document's pieces: whether two fit. (Its regions by wip/tools/genfit16.py.)
-/
import Derived.Test.YtoijomdgcgbpbaaReasmRA
import Derived.Test.YtoijomdgcgbpbaaTk
import Derived.Deep.RegionHeld3
namespace Go.Proofs.Ytoijomdgcgbpbaa
open Go.RowKit
set_option linter.unusedVariables false

/-- The two pieces' blocks. -/
structure RF16 (w W : World) (x y : H4 × ByteArray) : Prop where
  a : Blk W w.heap.size (pccells x).toArray 85
  b : Blk W (w.heap.size + 1) (pccells y).toArray 85
  bel : Below w.heap.size w W
def RFs16 (w W : World) (x y : H4 × ByteArray) : Prop :=
  W.cell? ⟨w.heap.size, 0, none⟩ = some (.int .i64 x.1.tos) ∧ W.cell? ⟨w.heap.size, 1, none⟩ = some (.int .i64 x.1.id) ∧ W.cell? ⟨w.heap.size, 2, none⟩ = some (.int .i64 x.1.off) ∧ W.cell? ⟨w.heap.size, 3, none⟩ = some (.int .i64 x.1.ttl) ∧ W.cell? ⟨w.heap.size, 4, none⟩ = some (.int .i64 x.1.proto) ∧ W.cell? ⟨w.heap.size, 5, none⟩ = some (.bool x.1.df) ∧ W.cell? ⟨w.heap.size, 6, none⟩ = some (.bool x.1.mf) ∧ W.cell? ⟨w.heap.size, 7, none⟩ = some (.string x.1.src) ∧ W.cell? ⟨w.heap.size, 8, none⟩ = some (.string x.1.dst) ∧ W.cell? ⟨w.heap.size, 9, none⟩ = some (.string x.1.opt) ∧ W.cell? ⟨w.heap.size, 10, none⟩ = some (.string x.2) ∧
  W.cell? ⟨w.heap.size + 1, 0, none⟩ = some (.int .i64 y.1.tos) ∧ W.cell? ⟨w.heap.size + 1, 1, none⟩ = some (.int .i64 y.1.id) ∧ W.cell? ⟨w.heap.size + 1, 2, none⟩ = some (.int .i64 y.1.off) ∧ W.cell? ⟨w.heap.size + 1, 3, none⟩ = some (.int .i64 y.1.ttl) ∧ W.cell? ⟨w.heap.size + 1, 4, none⟩ = some (.int .i64 y.1.proto) ∧ W.cell? ⟨w.heap.size + 1, 5, none⟩ = some (.bool y.1.df) ∧ W.cell? ⟨w.heap.size + 1, 6, none⟩ = some (.bool y.1.mf) ∧ W.cell? ⟨w.heap.size + 1, 7, none⟩ = some (.string y.1.src) ∧ W.cell? ⟨w.heap.size + 1, 8, none⟩ = some (.string y.1.dst) ∧ W.cell? ⟨w.heap.size + 1, 9, none⟩ = some (.string y.1.opt) ∧ W.cell? ⟨w.heap.size + 1, 10, none⟩ = some (.string y.2) ∧ Hid (RF16 w W x y)
theorem RF16.all {w W : World} {x y : H4 × ByteArray} (h : RF16 w W x y) : RFs16 w W x y :=
  ⟨h.a.cell 0, h.a.cell 1, h.a.cell 2, h.a.cell 3, h.a.cell 4, h.a.cell 5, h.a.cell 6, h.a.cell 7, h.a.cell 8, h.a.cell 9, h.a.cell 10, h.b.cell 0, h.b.cell 1, h.b.cell 2, h.b.cell 3, h.b.cell 4, h.b.cell 5, h.b.cell 6, h.b.cell 7, h.b.cell 8, h.b.cell 9, h.b.cell 10, Lib.hid h⟩
theorem RF16.below {w W W' : World} {x y : H4 × ByteArray} (h : RF16 w W x y) (hb : Below W.heap.size W W') : RF16 w W' x y :=
  ⟨(hb.block _ h.a.lt).trans h.a, (hb.block _ h.b.lt).trans h.b, h.bel.trans (hb.mono h.bel.size)⟩
theorem RF16.drew {w W : World} {x y : H4 × ByteArray} (h : RF16 w W x y) : RF16 w W.drew x y := ⟨h.a.drew, h.b.drew, ⟨h.bel.os, h.bel.tape, h.bel.output, h.bel.size, h.bel.block⟩⟩
theorem RF16.keep {w W W' : World} {x y : H4 × ByteArray} (hb : Below W.heap.size W W') (r : RFs16 w W x y) : RFs16 w W' x y := (r.2.2.2.2.2.2.2.2.2.2.2.2.2.2.2.2.2.2.2.2.2.2.out.below hb).all

set_option maxRecDepth 100000 in
set_option maxHeartbeats 8000000 in
theorem rfit16_any (x y : H4 × ByteArray) (w : World) (hx : Pc16 x) (hy : Pc16 y) : Calls Try.prog 38 #[.agg (pccells x).toArray, .agg (pccells y).toArray] w (Tells (.bool (!clash16 (pcOf y) (pcOf x))) w) := by
  have FA := Lib.hid (fun W => rfrom16_any x hx W)
  have FB := Lib.hid (fun W => rfrom16_any y hy W)
  have EA := Lib.hid (fun W => rend16_any x hx W)
  have EB := Lib.hid (fun W => rend16_any y hy W)
  have HC : Hid ((!clash16 (pcOf y) (pcOf x)) = !((decide ((pcOf y).lo < (pcOf x).hi) && decide ((pcOf x).lo < (pcOf y).hi)) || ((!y.1.mf) && (!x.1.mf)) || ((!y.1.mf) && decide ((pcOf y).hi < (pcOf x).hi)) || ((!x.1.mf) && decide ((pcOf x).hi < (pcOf y).hi)))) := rfl
  have S0 : Hid (RF16 w ((w.alloc (.cells (pccells x).toArray 85)).alloc (.cells (pccells y).toArray 85)) x y) := by
    have e1 := Blk.new w (pccells x).toArray 85
    have e2 := Blk.new (w.alloc (.cells (pccells x).toArray 85)) (pccells y).toArray 85
    simp only [World.size_alloc] at e2
    exact ⟨e1.alloc _, e2, ((Below.refl _ w).alloc (Nat.le_refl _) _).alloc (by simp) _⟩
  have S1 := Lib.hid S0.out.drew
  clear S0
  unfold Tells at FA FB EA EB ⊢
  generalize (!clash16 (pcOf y) (pcOf x)) = C at *
  generalize (pcOf x).lo = LA at *
  generalize (pcOf x).hi = HA at *
  generalize (pcOf y).lo = LB at *
  generalize (pcOf y).hi = HB at *
  obtain ⟨⟨a0, a1, a2, a3, a4, a5, am, a7, a8, a9⟩, sa⟩ := x
  obtain ⟨⟨b0, b1, b2, b3, b4, b5, bm, b7, b8, b9⟩, sb⟩ := y
  unfold pccells at FA FB EA EB ⊢
  dsimp only at *
  have T1 : decide ((LA : Int) < (HB : Int)) = decide (LA < HB) := by rw [Bool.eq_iff_iff]; simp
  have T2 : decide ((LB : Int) < (HA : Int)) = decide (LB < HA) := by rw [Bool.eq_iff_iff]; simp
  have T3 : decide ((HA : Int) < (HB : Int)) = decide (HA < HB) := by rw [Bool.eq_iff_iff]; simp
  have T4 : decide ((HA : Int) ≤ (HB : Int)) = decide (HA ≤ HB) := by rw [Bool.eq_iff_iff]; simp
  have T5 : decide (HB < HA) = !decide (HA ≤ HB) := by rw [Bool.eq_iff_iff]; simp
  rw [T5] at HC
  clear T5
  generalize hN1 : decide (LA < HB) = x1 at *
  generalize hN2 : decide (LB < HA) = x2 at *
  generalize hN3 : decide (HA < HB) = c3 at *
  generalize hN4 : decide (HA ≤ HB) = c4 at *
  go_enter Try.func38, Try.ntmps38
  have hc := HC.out
  clear HC hx hy
  go_upto_region 1 with (fail)
  -- THE REGIONS
  cases x1 with
  | true =>
    cases x2 with
    | true =>
      have hc' : C = false := by rw [hc]; simp
      clear hc
      subst hc'
      refine wp_region_held_drew (S := fun W => W.cell? ⟨w.heap.size, 0, none⟩ = some (.int .i64 a0) ∧ W.cell? ⟨w.heap.size, 1, none⟩ = some (.int .i64 a1) ∧ W.cell? ⟨w.heap.size, 2, none⟩ = some (.int .i64 a2) ∧ W.cell? ⟨w.heap.size, 3, none⟩ = some (.int .i64 a3) ∧ W.cell? ⟨w.heap.size, 4, none⟩ = some (.int .i64 a4) ∧ W.cell? ⟨w.heap.size, 5, none⟩ = some (.bool a5) ∧ W.cell? ⟨w.heap.size, 6, none⟩ = some (.bool am) ∧ W.cell? ⟨w.heap.size, 7, none⟩ = some (.string a7) ∧ W.cell? ⟨w.heap.size, 8, none⟩ = some (.string a8) ∧ W.cell? ⟨w.heap.size, 9, none⟩ = some (.string a9) ∧ W.cell? ⟨w.heap.size, 10, none⟩ = some (.string sa) ∧ W.cell? ⟨w.heap.size + 1, 0, none⟩ = some (.int .i64 b0) ∧ W.cell? ⟨w.heap.size + 1, 1, none⟩ = some (.int .i64 b1) ∧ W.cell? ⟨w.heap.size + 1, 2, none⟩ = some (.int .i64 b2) ∧ W.cell? ⟨w.heap.size + 1, 3, none⟩ = some (.int .i64 b3) ∧ W.cell? ⟨w.heap.size + 1, 4, none⟩ = some (.int .i64 b4) ∧ W.cell? ⟨w.heap.size + 1, 5, none⟩ = some (.bool b5) ∧ W.cell? ⟨w.heap.size + 1, 6, none⟩ = some (.bool bm) ∧ W.cell? ⟨w.heap.size + 1, 7, none⟩ = some (.string b7) ∧ W.cell? ⟨w.heap.size + 1, 8, none⟩ = some (.string b8) ∧ W.cell? ⟨w.heap.size + 1, 9, none⟩ = some (.string b9) ∧ W.cell? ⟨w.heap.size + 1, 10, none⟩ = some (.string sb) ∧ Hid (RF16 w W (⟨a0, a1, a2, a3, a4, a5, am, a7, a8, a9⟩, sa) (⟨b0, b1, b2, b3, b4, b5, bm, b7, b8, b9⟩, sb))) (by kernel_rfl) ?_ (fun hHeld => ?_)
      · first | exact RF16.all (w := w) (x := (⟨a0, a1, a2, a3, a4, a5, am, a7, a8, a9⟩, sa)) (y := (⟨b0, b1, b2, b3, b4, b5, bm, b7, b8, b9⟩, sb)) S1.out.drew | exact RF16.all (w := w) (x := (⟨a0, a1, a2, a3, a4, a5, am, a7, a8, a9⟩, sa)) (y := (⟨b0, b1, b2, b3, b4, b5, bm, b7, b8, b9⟩, sb)) S1.out
      clear S1
      refine tk 0 (some 5) rfl rfl ?_
      simp only [Act.put, List.setIfInBounds_toArray, List.set_cons_zero, List.set_cons_succ]
      refine tk 2 (some 7) rfl rfl ?_
      simp only [Act.put, List.setIfInBounds_toArray, List.set_cons_zero, List.set_cons_succ]
      refine wpAnyH_ready (rs := [1]) (by kernel_rfl) (by simp) ?_
      refine AllReadyH.cons rfl (fun K hK => ?_) AllReadyH.nil
      go_simp
      refine (FA.out _).mono ?_
      rintro e w' ⟨rfl, hb⟩
      refine hK.out _ _ ?_ (fun held1 => ?_)
      · exact RF16.keep (w := w) (x := (⟨a0, a1, a2, a3, a4, a5, am, a7, a8, a9⟩, sa)) (y := (⟨b0, b1, b2, b3, b4, b5, bm, b7, b8, b9⟩, sb)) hb hHeld
      clear hK K
      try simp only [Act.put, List.setIfInBounds_toArray, List.set_cons_zero, List.set_cons_succ]
      refine wpAnyH_ready (rs := [3]) (by kernel_rfl) (by simp) ?_
      refine AllReadyH.cons rfl (fun K hK => ?_) AllReadyH.nil
      go_simp
      refine (EB.out _).mono ?_
      rintro e w' ⟨rfl, hb⟩
      refine hK.out _ _ ?_ (fun held3 => ?_)
      · exact RF16.keep (w := w) (x := (⟨a0, a1, a2, a3, a4, a5, am, a7, a8, a9⟩, sa)) (y := (⟨b0, b1, b2, b3, b4, b5, bm, b7, b8, b9⟩, sb)) hb held1
      clear hK K
      try simp only [Act.put, List.setIfInBounds_toArray, List.set_cons_zero, List.set_cons_succ]
      refine tk 4 (some 9) rfl rfl ?_
      simp only [Act.put, List.setIfInBounds_toArray, List.set_cons_zero, List.set_cons_succ]
      refine tk 5 (some 10) rfl rfl ?_
      simp only [Act.put, List.setIfInBounds_toArray, List.set_cons_zero, List.set_cons_succ]
      refine tk 6 (some 11) rfl rfl ?_
      simp only [Act.put, List.setIfInBounds_toArray, List.set_cons_zero, List.set_cons_succ]
      refine tk 8 (some 13) rfl rfl ?_
      simp only [Act.put, List.setIfInBounds_toArray, List.set_cons_zero, List.set_cons_succ]
      refine wpAnyH_ready (rs := [7]) (by kernel_rfl) (by simp) ?_
      refine AllReadyH.cons rfl (fun K hK => ?_) AllReadyH.nil
      go_simp
      refine (FB.out _).mono ?_
      rintro e w' ⟨rfl, hb⟩
      refine hK.out _ _ ?_ (fun held7 => ?_)
      · exact RF16.keep (w := w) (x := (⟨a0, a1, a2, a3, a4, a5, am, a7, a8, a9⟩, sa)) (y := (⟨b0, b1, b2, b3, b4, b5, bm, b7, b8, b9⟩, sb)) hb held3
      clear hK K
      try simp only [Act.put, List.setIfInBounds_toArray, List.set_cons_zero, List.set_cons_succ]
      refine wpAnyH_ready (rs := [9]) (by kernel_rfl) (by simp) ?_
      refine AllReadyH.cons rfl (fun K hK => ?_) AllReadyH.nil
      go_simp
      refine (EA.out _).mono ?_
      rintro e w' ⟨rfl, hb⟩
      refine hK.out _ _ ?_ (fun held9 => ?_)
      · exact RF16.keep (w := w) (x := (⟨a0, a1, a2, a3, a4, a5, am, a7, a8, a9⟩, sa)) (y := (⟨b0, b1, b2, b3, b4, b5, bm, b7, b8, b9⟩, sb)) hb held7
      clear hK K
      try simp only [Act.put, List.setIfInBounds_toArray, List.set_cons_zero, List.set_cons_succ]
      refine tk 10 (some 15) rfl rfl ?_
      simp only [Act.put, List.setIfInBounds_toArray, List.set_cons_zero, List.set_cons_succ]
      refine tk 11 (some 16) rfl rfl ?_
      simp only [Act.put, List.setIfInBounds_toArray, List.set_cons_zero, List.set_cons_succ]
      refine wpAnyH_done (by kernel_rfl) ?_ _
      have S11 := Lib.hid held9.2.2.2.2.2.2.2.2.2.2.2.2.2.2.2.2.2.2.2.2.2.2.out
      clear held9
      go_wp2_with fail
      go_ret
      exact ⟨rfl, S11.out.bel⟩
    | false =>
      refine wp_region_held_drew (S := fun W => W.cell? ⟨w.heap.size, 0, none⟩ = some (.int .i64 a0) ∧ W.cell? ⟨w.heap.size, 1, none⟩ = some (.int .i64 a1) ∧ W.cell? ⟨w.heap.size, 2, none⟩ = some (.int .i64 a2) ∧ W.cell? ⟨w.heap.size, 3, none⟩ = some (.int .i64 a3) ∧ W.cell? ⟨w.heap.size, 4, none⟩ = some (.int .i64 a4) ∧ W.cell? ⟨w.heap.size, 5, none⟩ = some (.bool a5) ∧ W.cell? ⟨w.heap.size, 6, none⟩ = some (.bool am) ∧ W.cell? ⟨w.heap.size, 7, none⟩ = some (.string a7) ∧ W.cell? ⟨w.heap.size, 8, none⟩ = some (.string a8) ∧ W.cell? ⟨w.heap.size, 9, none⟩ = some (.string a9) ∧ W.cell? ⟨w.heap.size, 10, none⟩ = some (.string sa) ∧ W.cell? ⟨w.heap.size + 1, 0, none⟩ = some (.int .i64 b0) ∧ W.cell? ⟨w.heap.size + 1, 1, none⟩ = some (.int .i64 b1) ∧ W.cell? ⟨w.heap.size + 1, 2, none⟩ = some (.int .i64 b2) ∧ W.cell? ⟨w.heap.size + 1, 3, none⟩ = some (.int .i64 b3) ∧ W.cell? ⟨w.heap.size + 1, 4, none⟩ = some (.int .i64 b4) ∧ W.cell? ⟨w.heap.size + 1, 5, none⟩ = some (.bool b5) ∧ W.cell? ⟨w.heap.size + 1, 6, none⟩ = some (.bool bm) ∧ W.cell? ⟨w.heap.size + 1, 7, none⟩ = some (.string b7) ∧ W.cell? ⟨w.heap.size + 1, 8, none⟩ = some (.string b8) ∧ W.cell? ⟨w.heap.size + 1, 9, none⟩ = some (.string b9) ∧ W.cell? ⟨w.heap.size + 1, 10, none⟩ = some (.string sb) ∧ Hid (RF16 w W (⟨a0, a1, a2, a3, a4, a5, am, a7, a8, a9⟩, sa) (⟨b0, b1, b2, b3, b4, b5, bm, b7, b8, b9⟩, sb))) (by kernel_rfl) ?_ (fun hHeld => ?_)
      · first | exact RF16.all (w := w) (x := (⟨a0, a1, a2, a3, a4, a5, am, a7, a8, a9⟩, sa)) (y := (⟨b0, b1, b2, b3, b4, b5, bm, b7, b8, b9⟩, sb)) S1.out.drew | exact RF16.all (w := w) (x := (⟨a0, a1, a2, a3, a4, a5, am, a7, a8, a9⟩, sa)) (y := (⟨b0, b1, b2, b3, b4, b5, bm, b7, b8, b9⟩, sb)) S1.out
      clear S1
      refine tk 0 (some 5) rfl rfl ?_
      simp only [Act.put, List.setIfInBounds_toArray, List.set_cons_zero, List.set_cons_succ]
      refine tk 2 (some 7) rfl rfl ?_
      simp only [Act.put, List.setIfInBounds_toArray, List.set_cons_zero, List.set_cons_succ]
      refine wpAnyH_ready (rs := [1]) (by kernel_rfl) (by simp) ?_
      refine AllReadyH.cons rfl (fun K hK => ?_) AllReadyH.nil
      go_simp
      refine (FA.out _).mono ?_
      rintro e w' ⟨rfl, hb⟩
      refine hK.out _ _ ?_ (fun held1 => ?_)
      · exact RF16.keep (w := w) (x := (⟨a0, a1, a2, a3, a4, a5, am, a7, a8, a9⟩, sa)) (y := (⟨b0, b1, b2, b3, b4, b5, bm, b7, b8, b9⟩, sb)) hb hHeld
      clear hK K
      try simp only [Act.put, List.setIfInBounds_toArray, List.set_cons_zero, List.set_cons_succ]
      refine wpAnyH_ready (rs := [3]) (by kernel_rfl) (by simp) ?_
      refine AllReadyH.cons rfl (fun K hK => ?_) AllReadyH.nil
      go_simp
      refine (EB.out _).mono ?_
      rintro e w' ⟨rfl, hb⟩
      refine hK.out _ _ ?_ (fun held3 => ?_)
      · exact RF16.keep (w := w) (x := (⟨a0, a1, a2, a3, a4, a5, am, a7, a8, a9⟩, sa)) (y := (⟨b0, b1, b2, b3, b4, b5, bm, b7, b8, b9⟩, sb)) hb held1
      clear hK K
      try simp only [Act.put, List.setIfInBounds_toArray, List.set_cons_zero, List.set_cons_succ]
      refine tk 4 (some 9) rfl rfl ?_
      simp only [Act.put, List.setIfInBounds_toArray, List.set_cons_zero, List.set_cons_succ]
      refine tk 5 (some 10) rfl rfl ?_
      simp only [Act.put, List.setIfInBounds_toArray, List.set_cons_zero, List.set_cons_succ]
      refine tk 6 (some 11) rfl rfl ?_
      simp only [Act.put, List.setIfInBounds_toArray, List.set_cons_zero, List.set_cons_succ]
      refine tk 8 (some 13) rfl rfl ?_
      simp only [Act.put, List.setIfInBounds_toArray, List.set_cons_zero, List.set_cons_succ]
      refine wpAnyH_ready (rs := [7]) (by kernel_rfl) (by simp) ?_
      refine AllReadyH.cons rfl (fun K hK => ?_) AllReadyH.nil
      go_simp
      refine (FB.out _).mono ?_
      rintro e w' ⟨rfl, hb⟩
      refine hK.out _ _ ?_ (fun held7 => ?_)
      · exact RF16.keep (w := w) (x := (⟨a0, a1, a2, a3, a4, a5, am, a7, a8, a9⟩, sa)) (y := (⟨b0, b1, b2, b3, b4, b5, bm, b7, b8, b9⟩, sb)) hb held3
      clear hK K
      try simp only [Act.put, List.setIfInBounds_toArray, List.set_cons_zero, List.set_cons_succ]
      refine wpAnyH_ready (rs := [9]) (by kernel_rfl) (by simp) ?_
      refine AllReadyH.cons rfl (fun K hK => ?_) AllReadyH.nil
      go_simp
      refine (EA.out _).mono ?_
      rintro e w' ⟨rfl, hb⟩
      refine hK.out _ _ ?_ (fun held9 => ?_)
      · exact RF16.keep (w := w) (x := (⟨a0, a1, a2, a3, a4, a5, am, a7, a8, a9⟩, sa)) (y := (⟨b0, b1, b2, b3, b4, b5, bm, b7, b8, b9⟩, sb)) hb held7
      clear hK K
      try simp only [Act.put, List.setIfInBounds_toArray, List.set_cons_zero, List.set_cons_succ]
      refine tk 10 (some 15) rfl rfl ?_
      simp only [Act.put, List.setIfInBounds_toArray, List.set_cons_zero, List.set_cons_succ]
      refine tk 11 (some 16) rfl rfl ?_
      simp only [Act.put, List.setIfInBounds_toArray, List.set_cons_zero, List.set_cons_succ]
      refine wpAnyH_done (by kernel_rfl) ?_ _
      have S12 := Lib.hid held9.2.2.2.2.2.2.2.2.2.2.2.2.2.2.2.2.2.2.2.2.2.2.out
      clear held9
      go_upto_region 3 with (fail)
      cases am with
      | true =>
        cases bm with
        | true =>
          refine wp_region_held_drew (S := fun W => W.cell? ⟨w.heap.size, 0, none⟩ = some (.int .i64 a0) ∧ W.cell? ⟨w.heap.size, 1, none⟩ = some (.int .i64 a1) ∧ W.cell? ⟨w.heap.size, 2, none⟩ = some (.int .i64 a2) ∧ W.cell? ⟨w.heap.size, 3, none⟩ = some (.int .i64 a3) ∧ W.cell? ⟨w.heap.size, 4, none⟩ = some (.int .i64 a4) ∧ W.cell? ⟨w.heap.size, 5, none⟩ = some (.bool a5) ∧ W.cell? ⟨w.heap.size, 6, none⟩ = some (.bool true) ∧ W.cell? ⟨w.heap.size, 7, none⟩ = some (.string a7) ∧ W.cell? ⟨w.heap.size, 8, none⟩ = some (.string a8) ∧ W.cell? ⟨w.heap.size, 9, none⟩ = some (.string a9) ∧ W.cell? ⟨w.heap.size, 10, none⟩ = some (.string sa) ∧ W.cell? ⟨w.heap.size + 1, 0, none⟩ = some (.int .i64 b0) ∧ W.cell? ⟨w.heap.size + 1, 1, none⟩ = some (.int .i64 b1) ∧ W.cell? ⟨w.heap.size + 1, 2, none⟩ = some (.int .i64 b2) ∧ W.cell? ⟨w.heap.size + 1, 3, none⟩ = some (.int .i64 b3) ∧ W.cell? ⟨w.heap.size + 1, 4, none⟩ = some (.int .i64 b4) ∧ W.cell? ⟨w.heap.size + 1, 5, none⟩ = some (.bool b5) ∧ W.cell? ⟨w.heap.size + 1, 6, none⟩ = some (.bool true) ∧ W.cell? ⟨w.heap.size + 1, 7, none⟩ = some (.string b7) ∧ W.cell? ⟨w.heap.size + 1, 8, none⟩ = some (.string b8) ∧ W.cell? ⟨w.heap.size + 1, 9, none⟩ = some (.string b9) ∧ W.cell? ⟨w.heap.size + 1, 10, none⟩ = some (.string sb) ∧ Hid (RF16 w W (⟨a0, a1, a2, a3, a4, a5, true, a7, a8, a9⟩, sa) (⟨b0, b1, b2, b3, b4, b5, true, b7, b8, b9⟩, sb))) (by kernel_rfl) ?_ (fun hHeld => ?_)
          · first | exact RF16.all (w := w) (x := (⟨a0, a1, a2, a3, a4, a5, true, a7, a8, a9⟩, sa)) (y := (⟨b0, b1, b2, b3, b4, b5, true, b7, b8, b9⟩, sb)) S12.out.drew | exact RF16.all (w := w) (x := (⟨a0, a1, a2, a3, a4, a5, true, a7, a8, a9⟩, sa)) (y := (⟨b0, b1, b2, b3, b4, b5, true, b7, b8, b9⟩, sb)) S12.out
          clear S12
          refine tk 0 (some 17) rfl rfl ?_
          simp only [Act.put, List.setIfInBounds_toArray, List.set_cons_zero, List.set_cons_succ]
          refine tk 1 (some 18) rfl rfl ?_
          simp only [Act.put, List.setIfInBounds_toArray, List.set_cons_zero, List.set_cons_succ]
          refine tk 2 (some 19) rfl rfl ?_
          simp only [Act.put, List.setIfInBounds_toArray, List.set_cons_zero, List.set_cons_succ]
          refine tk 3 (some 20) rfl rfl ?_
          simp only [Act.put, List.setIfInBounds_toArray, List.set_cons_zero, List.set_cons_succ]
          refine tk 4 (some 21) rfl rfl ?_
          simp only [Act.put, List.setIfInBounds_toArray, List.set_cons_zero, List.set_cons_succ]
          refine tkn 5 (some 22) rfl rfl ?_
          simp only [Act.put, List.setIfInBounds_toArray, List.set_cons_zero, List.set_cons_succ]
          refine tkn 6 (some 23) rfl rfl ?_
          simp only [Act.put, List.setIfInBounds_toArray, List.set_cons_zero, List.set_cons_succ]
          refine tkn 7 (some 24) rfl rfl ?_
          simp only [Act.put, List.setIfInBounds_toArray, List.set_cons_zero, List.set_cons_succ]
          refine tkn 8 (some 25) rfl rfl ?_
          simp only [Act.put, List.setIfInBounds_toArray, List.set_cons_zero, List.set_cons_succ]
          refine tkn 9 (some 26) rfl rfl ?_
          simp only [Act.put, List.setIfInBounds_toArray, List.set_cons_zero, List.set_cons_succ]
          refine tkn 10 (some 27) rfl rfl ?_
          simp only [Act.put, List.setIfInBounds_toArray, List.set_cons_zero, List.set_cons_succ]
          refine tkn 11 (some 28) rfl rfl ?_
          simp only [Act.put, List.setIfInBounds_toArray, List.set_cons_zero, List.set_cons_succ]
          refine tkn 12 (some 29) rfl rfl ?_
          simp only [Act.put, List.setIfInBounds_toArray, List.set_cons_zero, List.set_cons_succ]
          refine tkn 13 (some 30) rfl rfl ?_
          simp only [Act.put, List.setIfInBounds_toArray, List.set_cons_zero, List.set_cons_succ]
          refine tkn 14 (some 31) rfl rfl ?_
          simp only [Act.put, List.setIfInBounds_toArray, List.set_cons_zero, List.set_cons_succ]
          refine tkn 15 (some 32) rfl rfl ?_
          simp only [Act.put, List.setIfInBounds_toArray, List.set_cons_zero, List.set_cons_succ]
          refine tk 16 (some 33) rfl rfl ?_
          simp only [Act.put, List.setIfInBounds_toArray, List.set_cons_zero, List.set_cons_succ]
          refine wpAnyH_done (by kernel_rfl) ?_ _
          have S13 := Lib.hid hHeld.2.2.2.2.2.2.2.2.2.2.2.2.2.2.2.2.2.2.2.2.2.2.out
          clear hHeld
          have hc' : C = true := by rw [hc]; simp
          clear hc
          subst hc'
          go_upto_region 5 with (fail)
          refine wp_region_held_drew (S := fun W => W.cell? ⟨w.heap.size, 0, none⟩ = some (.int .i64 a0) ∧ W.cell? ⟨w.heap.size, 1, none⟩ = some (.int .i64 a1) ∧ W.cell? ⟨w.heap.size, 2, none⟩ = some (.int .i64 a2) ∧ W.cell? ⟨w.heap.size, 3, none⟩ = some (.int .i64 a3) ∧ W.cell? ⟨w.heap.size, 4, none⟩ = some (.int .i64 a4) ∧ W.cell? ⟨w.heap.size, 5, none⟩ = some (.bool a5) ∧ W.cell? ⟨w.heap.size, 6, none⟩ = some (.bool true) ∧ W.cell? ⟨w.heap.size, 7, none⟩ = some (.string a7) ∧ W.cell? ⟨w.heap.size, 8, none⟩ = some (.string a8) ∧ W.cell? ⟨w.heap.size, 9, none⟩ = some (.string a9) ∧ W.cell? ⟨w.heap.size, 10, none⟩ = some (.string sa) ∧ W.cell? ⟨w.heap.size + 1, 0, none⟩ = some (.int .i64 b0) ∧ W.cell? ⟨w.heap.size + 1, 1, none⟩ = some (.int .i64 b1) ∧ W.cell? ⟨w.heap.size + 1, 2, none⟩ = some (.int .i64 b2) ∧ W.cell? ⟨w.heap.size + 1, 3, none⟩ = some (.int .i64 b3) ∧ W.cell? ⟨w.heap.size + 1, 4, none⟩ = some (.int .i64 b4) ∧ W.cell? ⟨w.heap.size + 1, 5, none⟩ = some (.bool b5) ∧ W.cell? ⟨w.heap.size + 1, 6, none⟩ = some (.bool true) ∧ W.cell? ⟨w.heap.size + 1, 7, none⟩ = some (.string b7) ∧ W.cell? ⟨w.heap.size + 1, 8, none⟩ = some (.string b8) ∧ W.cell? ⟨w.heap.size + 1, 9, none⟩ = some (.string b9) ∧ W.cell? ⟨w.heap.size + 1, 10, none⟩ = some (.string sb) ∧ Hid (RF16 w W (⟨a0, a1, a2, a3, a4, a5, true, a7, a8, a9⟩, sa) (⟨b0, b1, b2, b3, b4, b5, true, b7, b8, b9⟩, sb))) (by kernel_rfl) ?_ (fun hHeld => ?_)
          · first | exact RF16.all (w := w) (x := (⟨a0, a1, a2, a3, a4, a5, true, a7, a8, a9⟩, sa)) (y := (⟨b0, b1, b2, b3, b4, b5, true, b7, b8, b9⟩, sb)) S13.out.drew | exact RF16.all (w := w) (x := (⟨a0, a1, a2, a3, a4, a5, true, a7, a8, a9⟩, sa)) (y := (⟨b0, b1, b2, b3, b4, b5, true, b7, b8, b9⟩, sb)) S13.out
          clear S13
          refine tk 0 (some 34) rfl rfl ?_
          simp only [Act.put, List.setIfInBounds_toArray, List.set_cons_zero, List.set_cons_succ]
          refine tk 1 (some 35) rfl rfl ?_
          simp only [Act.put, List.setIfInBounds_toArray, List.set_cons_zero, List.set_cons_succ]
          refine tk 2 (some 36) rfl rfl ?_
          simp only [Act.put, List.setIfInBounds_toArray, List.set_cons_zero, List.set_cons_succ]
          refine tk 3 (some 37) rfl rfl ?_
          simp only [Act.put, List.setIfInBounds_toArray, List.set_cons_zero, List.set_cons_succ]
          refine tkn 4 (some 38) rfl rfl ?_
          simp only [Act.put, List.setIfInBounds_toArray, List.set_cons_zero, List.set_cons_succ]
          refine tkn 5 (some 39) rfl rfl ?_
          simp only [Act.put, List.setIfInBounds_toArray, List.set_cons_zero, List.set_cons_succ]
          refine tkn 6 (some 40) rfl rfl ?_
          simp only [Act.put, List.setIfInBounds_toArray, List.set_cons_zero, List.set_cons_succ]
          refine tkn 7 (some 41) rfl rfl ?_
          simp only [Act.put, List.setIfInBounds_toArray, List.set_cons_zero, List.set_cons_succ]
          refine tkn 8 (some 42) rfl rfl ?_
          simp only [Act.put, List.setIfInBounds_toArray, List.set_cons_zero, List.set_cons_succ]
          refine tk 9 (some 43) rfl rfl ?_
          simp only [Act.put, List.setIfInBounds_toArray, List.set_cons_zero, List.set_cons_succ]
          refine tk 10 (some 4) rfl rfl ?_
          simp only [Act.put, List.setIfInBounds_toArray, List.set_cons_zero, List.set_cons_succ]
          refine wpAnyH_done (by kernel_rfl) ?_ _
          have S14 := Lib.hid hHeld.2.2.2.2.2.2.2.2.2.2.2.2.2.2.2.2.2.2.2.2.2.2.out
          clear hHeld
          go_wp2_with fail
          go_ret
          exact ⟨rfl, S14.out.bel⟩
        | false =>
          cases c4 with
          | true =>
            refine wp_region_held_drew (S := fun W => W.cell? ⟨w.heap.size, 0, none⟩ = some (.int .i64 a0) ∧ W.cell? ⟨w.heap.size, 1, none⟩ = some (.int .i64 a1) ∧ W.cell? ⟨w.heap.size, 2, none⟩ = some (.int .i64 a2) ∧ W.cell? ⟨w.heap.size, 3, none⟩ = some (.int .i64 a3) ∧ W.cell? ⟨w.heap.size, 4, none⟩ = some (.int .i64 a4) ∧ W.cell? ⟨w.heap.size, 5, none⟩ = some (.bool a5) ∧ W.cell? ⟨w.heap.size, 6, none⟩ = some (.bool true) ∧ W.cell? ⟨w.heap.size, 7, none⟩ = some (.string a7) ∧ W.cell? ⟨w.heap.size, 8, none⟩ = some (.string a8) ∧ W.cell? ⟨w.heap.size, 9, none⟩ = some (.string a9) ∧ W.cell? ⟨w.heap.size, 10, none⟩ = some (.string sa) ∧ W.cell? ⟨w.heap.size + 1, 0, none⟩ = some (.int .i64 b0) ∧ W.cell? ⟨w.heap.size + 1, 1, none⟩ = some (.int .i64 b1) ∧ W.cell? ⟨w.heap.size + 1, 2, none⟩ = some (.int .i64 b2) ∧ W.cell? ⟨w.heap.size + 1, 3, none⟩ = some (.int .i64 b3) ∧ W.cell? ⟨w.heap.size + 1, 4, none⟩ = some (.int .i64 b4) ∧ W.cell? ⟨w.heap.size + 1, 5, none⟩ = some (.bool b5) ∧ W.cell? ⟨w.heap.size + 1, 6, none⟩ = some (.bool false) ∧ W.cell? ⟨w.heap.size + 1, 7, none⟩ = some (.string b7) ∧ W.cell? ⟨w.heap.size + 1, 8, none⟩ = some (.string b8) ∧ W.cell? ⟨w.heap.size + 1, 9, none⟩ = some (.string b9) ∧ W.cell? ⟨w.heap.size + 1, 10, none⟩ = some (.string sb) ∧ Hid (RF16 w W (⟨a0, a1, a2, a3, a4, a5, true, a7, a8, a9⟩, sa) (⟨b0, b1, b2, b3, b4, b5, false, b7, b8, b9⟩, sb))) (by kernel_rfl) ?_ (fun hHeld => ?_)
            · first | exact RF16.all (w := w) (x := (⟨a0, a1, a2, a3, a4, a5, true, a7, a8, a9⟩, sa)) (y := (⟨b0, b1, b2, b3, b4, b5, false, b7, b8, b9⟩, sb)) S12.out.drew | exact RF16.all (w := w) (x := (⟨a0, a1, a2, a3, a4, a5, true, a7, a8, a9⟩, sa)) (y := (⟨b0, b1, b2, b3, b4, b5, false, b7, b8, b9⟩, sb)) S12.out
            clear S12
            refine tk 0 (some 17) rfl rfl ?_
            simp only [Act.put, List.setIfInBounds_toArray, List.set_cons_zero, List.set_cons_succ]
            refine tk 1 (some 18) rfl rfl ?_
            simp only [Act.put, List.setIfInBounds_toArray, List.set_cons_zero, List.set_cons_succ]
            refine tk 2 (some 19) rfl rfl ?_
            simp only [Act.put, List.setIfInBounds_toArray, List.set_cons_zero, List.set_cons_succ]
            refine tk 3 (some 20) rfl rfl ?_
            simp only [Act.put, List.setIfInBounds_toArray, List.set_cons_zero, List.set_cons_succ]
            refine tk 4 (some 21) rfl rfl ?_
            simp only [Act.put, List.setIfInBounds_toArray, List.set_cons_zero, List.set_cons_succ]
            refine tkn 5 (some 22) rfl rfl ?_
            simp only [Act.put, List.setIfInBounds_toArray, List.set_cons_zero, List.set_cons_succ]
            refine tkn 6 (some 23) rfl rfl ?_
            simp only [Act.put, List.setIfInBounds_toArray, List.set_cons_zero, List.set_cons_succ]
            refine tkn 7 (some 24) rfl rfl ?_
            simp only [Act.put, List.setIfInBounds_toArray, List.set_cons_zero, List.set_cons_succ]
            refine tkn 8 (some 25) rfl rfl ?_
            simp only [Act.put, List.setIfInBounds_toArray, List.set_cons_zero, List.set_cons_succ]
            refine tkn 9 (some 26) rfl rfl ?_
            simp only [Act.put, List.setIfInBounds_toArray, List.set_cons_zero, List.set_cons_succ]
            refine tkn 10 (some 27) rfl rfl ?_
            simp only [Act.put, List.setIfInBounds_toArray, List.set_cons_zero, List.set_cons_succ]
            refine tkn 11 (some 28) rfl rfl ?_
            simp only [Act.put, List.setIfInBounds_toArray, List.set_cons_zero, List.set_cons_succ]
            refine tkn 12 (some 29) rfl rfl ?_
            simp only [Act.put, List.setIfInBounds_toArray, List.set_cons_zero, List.set_cons_succ]
            refine tkn 13 (some 30) rfl rfl ?_
            simp only [Act.put, List.setIfInBounds_toArray, List.set_cons_zero, List.set_cons_succ]
            refine tkn 14 (some 31) rfl rfl ?_
            simp only [Act.put, List.setIfInBounds_toArray, List.set_cons_zero, List.set_cons_succ]
            refine tkn 15 (some 32) rfl rfl ?_
            simp only [Act.put, List.setIfInBounds_toArray, List.set_cons_zero, List.set_cons_succ]
            refine tk 16 (some 33) rfl rfl ?_
            simp only [Act.put, List.setIfInBounds_toArray, List.set_cons_zero, List.set_cons_succ]
            refine wpAnyH_done (by kernel_rfl) ?_ _
            have S15 := Lib.hid hHeld.2.2.2.2.2.2.2.2.2.2.2.2.2.2.2.2.2.2.2.2.2.2.out
            clear hHeld
            have hc' : C = true := by rw [hc]; simp
            clear hc
            subst hc'
            go_upto_region 5 with (fail)
            refine wp_region_held_drew (S := fun W => W.cell? ⟨w.heap.size, 0, none⟩ = some (.int .i64 a0) ∧ W.cell? ⟨w.heap.size, 1, none⟩ = some (.int .i64 a1) ∧ W.cell? ⟨w.heap.size, 2, none⟩ = some (.int .i64 a2) ∧ W.cell? ⟨w.heap.size, 3, none⟩ = some (.int .i64 a3) ∧ W.cell? ⟨w.heap.size, 4, none⟩ = some (.int .i64 a4) ∧ W.cell? ⟨w.heap.size, 5, none⟩ = some (.bool a5) ∧ W.cell? ⟨w.heap.size, 6, none⟩ = some (.bool true) ∧ W.cell? ⟨w.heap.size, 7, none⟩ = some (.string a7) ∧ W.cell? ⟨w.heap.size, 8, none⟩ = some (.string a8) ∧ W.cell? ⟨w.heap.size, 9, none⟩ = some (.string a9) ∧ W.cell? ⟨w.heap.size, 10, none⟩ = some (.string sa) ∧ W.cell? ⟨w.heap.size + 1, 0, none⟩ = some (.int .i64 b0) ∧ W.cell? ⟨w.heap.size + 1, 1, none⟩ = some (.int .i64 b1) ∧ W.cell? ⟨w.heap.size + 1, 2, none⟩ = some (.int .i64 b2) ∧ W.cell? ⟨w.heap.size + 1, 3, none⟩ = some (.int .i64 b3) ∧ W.cell? ⟨w.heap.size + 1, 4, none⟩ = some (.int .i64 b4) ∧ W.cell? ⟨w.heap.size + 1, 5, none⟩ = some (.bool b5) ∧ W.cell? ⟨w.heap.size + 1, 6, none⟩ = some (.bool false) ∧ W.cell? ⟨w.heap.size + 1, 7, none⟩ = some (.string b7) ∧ W.cell? ⟨w.heap.size + 1, 8, none⟩ = some (.string b8) ∧ W.cell? ⟨w.heap.size + 1, 9, none⟩ = some (.string b9) ∧ W.cell? ⟨w.heap.size + 1, 10, none⟩ = some (.string sb) ∧ Hid (RF16 w W (⟨a0, a1, a2, a3, a4, a5, true, a7, a8, a9⟩, sa) (⟨b0, b1, b2, b3, b4, b5, false, b7, b8, b9⟩, sb))) (by kernel_rfl) ?_ (fun hHeld => ?_)
            · first | exact RF16.all (w := w) (x := (⟨a0, a1, a2, a3, a4, a5, true, a7, a8, a9⟩, sa)) (y := (⟨b0, b1, b2, b3, b4, b5, false, b7, b8, b9⟩, sb)) S15.out.drew | exact RF16.all (w := w) (x := (⟨a0, a1, a2, a3, a4, a5, true, a7, a8, a9⟩, sa)) (y := (⟨b0, b1, b2, b3, b4, b5, false, b7, b8, b9⟩, sb)) S15.out
            clear S15
            refine tk 0 (some 34) rfl rfl ?_
            simp only [Act.put, List.setIfInBounds_toArray, List.set_cons_zero, List.set_cons_succ]
            refine tk 1 (some 35) rfl rfl ?_
            simp only [Act.put, List.setIfInBounds_toArray, List.set_cons_zero, List.set_cons_succ]
            refine tk 2 (some 36) rfl rfl ?_
            simp only [Act.put, List.setIfInBounds_toArray, List.set_cons_zero, List.set_cons_succ]
            refine tk 3 (some 37) rfl rfl ?_
            simp only [Act.put, List.setIfInBounds_toArray, List.set_cons_zero, List.set_cons_succ]
            refine tk 4 (some 38) rfl rfl ?_
            simp only [Act.put, List.setIfInBounds_toArray, List.set_cons_zero, List.set_cons_succ]
            refine tk 6 (some 40) rfl rfl ?_
            simp only [Act.put, List.setIfInBounds_toArray, List.set_cons_zero, List.set_cons_succ]
            refine wpAnyH_ready (rs := [5]) (by kernel_rfl) (by simp) ?_
            refine AllReadyH.cons rfl (fun K hK => ?_) AllReadyH.nil
            go_simp
            refine (EA.out _).mono ?_
            rintro e w' ⟨rfl, hb⟩
            refine hK.out _ _ ?_ (fun held5 => ?_)
            · exact RF16.keep (w := w) (x := (⟨a0, a1, a2, a3, a4, a5, true, a7, a8, a9⟩, sa)) (y := (⟨b0, b1, b2, b3, b4, b5, false, b7, b8, b9⟩, sb)) hb hHeld
            clear hK K
            try simp only [Act.put, List.setIfInBounds_toArray, List.set_cons_zero, List.set_cons_succ]
            refine wpAnyH_ready (rs := [7]) (by kernel_rfl) (by simp) ?_
            refine AllReadyH.cons rfl (fun K hK => ?_) AllReadyH.nil
            go_simp
            refine (EB.out _).mono ?_
            rintro e w' ⟨rfl, hb⟩
            refine hK.out _ _ ?_ (fun held7 => ?_)
            · exact RF16.keep (w := w) (x := (⟨a0, a1, a2, a3, a4, a5, true, a7, a8, a9⟩, sa)) (y := (⟨b0, b1, b2, b3, b4, b5, false, b7, b8, b9⟩, sb)) hb held5
            clear hK K
            try simp only [Act.put, List.setIfInBounds_toArray, List.set_cons_zero, List.set_cons_succ]
            refine tk 8 (some 42) rfl rfl ?_
            simp only [Act.put, List.setIfInBounds_toArray, List.set_cons_zero, List.set_cons_succ]
            refine tk 9 (some 43) rfl rfl ?_
            simp only [Act.put, List.setIfInBounds_toArray, List.set_cons_zero, List.set_cons_succ]
            refine tk 10 (some 4) rfl rfl ?_
            simp only [Act.put, List.setIfInBounds_toArray, List.set_cons_zero, List.set_cons_succ]
            refine wpAnyH_done (by kernel_rfl) ?_ _
            have S16 := Lib.hid held7.2.2.2.2.2.2.2.2.2.2.2.2.2.2.2.2.2.2.2.2.2.2.out
            clear held7
            go_wp2_with fail
            go_ret
            exact ⟨rfl, S16.out.bel⟩
          | false =>
            refine wp_region_held_drew (S := fun W => W.cell? ⟨w.heap.size, 0, none⟩ = some (.int .i64 a0) ∧ W.cell? ⟨w.heap.size, 1, none⟩ = some (.int .i64 a1) ∧ W.cell? ⟨w.heap.size, 2, none⟩ = some (.int .i64 a2) ∧ W.cell? ⟨w.heap.size, 3, none⟩ = some (.int .i64 a3) ∧ W.cell? ⟨w.heap.size, 4, none⟩ = some (.int .i64 a4) ∧ W.cell? ⟨w.heap.size, 5, none⟩ = some (.bool a5) ∧ W.cell? ⟨w.heap.size, 6, none⟩ = some (.bool true) ∧ W.cell? ⟨w.heap.size, 7, none⟩ = some (.string a7) ∧ W.cell? ⟨w.heap.size, 8, none⟩ = some (.string a8) ∧ W.cell? ⟨w.heap.size, 9, none⟩ = some (.string a9) ∧ W.cell? ⟨w.heap.size, 10, none⟩ = some (.string sa) ∧ W.cell? ⟨w.heap.size + 1, 0, none⟩ = some (.int .i64 b0) ∧ W.cell? ⟨w.heap.size + 1, 1, none⟩ = some (.int .i64 b1) ∧ W.cell? ⟨w.heap.size + 1, 2, none⟩ = some (.int .i64 b2) ∧ W.cell? ⟨w.heap.size + 1, 3, none⟩ = some (.int .i64 b3) ∧ W.cell? ⟨w.heap.size + 1, 4, none⟩ = some (.int .i64 b4) ∧ W.cell? ⟨w.heap.size + 1, 5, none⟩ = some (.bool b5) ∧ W.cell? ⟨w.heap.size + 1, 6, none⟩ = some (.bool false) ∧ W.cell? ⟨w.heap.size + 1, 7, none⟩ = some (.string b7) ∧ W.cell? ⟨w.heap.size + 1, 8, none⟩ = some (.string b8) ∧ W.cell? ⟨w.heap.size + 1, 9, none⟩ = some (.string b9) ∧ W.cell? ⟨w.heap.size + 1, 10, none⟩ = some (.string sb) ∧ Hid (RF16 w W (⟨a0, a1, a2, a3, a4, a5, true, a7, a8, a9⟩, sa) (⟨b0, b1, b2, b3, b4, b5, false, b7, b8, b9⟩, sb))) (by kernel_rfl) ?_ (fun hHeld => ?_)
            · first | exact RF16.all (w := w) (x := (⟨a0, a1, a2, a3, a4, a5, true, a7, a8, a9⟩, sa)) (y := (⟨b0, b1, b2, b3, b4, b5, false, b7, b8, b9⟩, sb)) S12.out.drew | exact RF16.all (w := w) (x := (⟨a0, a1, a2, a3, a4, a5, true, a7, a8, a9⟩, sa)) (y := (⟨b0, b1, b2, b3, b4, b5, false, b7, b8, b9⟩, sb)) S12.out
            clear S12
            refine tk 0 (some 17) rfl rfl ?_
            simp only [Act.put, List.setIfInBounds_toArray, List.set_cons_zero, List.set_cons_succ]
            refine tk 1 (some 18) rfl rfl ?_
            simp only [Act.put, List.setIfInBounds_toArray, List.set_cons_zero, List.set_cons_succ]
            refine tk 2 (some 19) rfl rfl ?_
            simp only [Act.put, List.setIfInBounds_toArray, List.set_cons_zero, List.set_cons_succ]
            refine tk 3 (some 20) rfl rfl ?_
            simp only [Act.put, List.setIfInBounds_toArray, List.set_cons_zero, List.set_cons_succ]
            refine tk 4 (some 21) rfl rfl ?_
            simp only [Act.put, List.setIfInBounds_toArray, List.set_cons_zero, List.set_cons_succ]
            refine tkn 5 (some 22) rfl rfl ?_
            simp only [Act.put, List.setIfInBounds_toArray, List.set_cons_zero, List.set_cons_succ]
            refine tkn 6 (some 23) rfl rfl ?_
            simp only [Act.put, List.setIfInBounds_toArray, List.set_cons_zero, List.set_cons_succ]
            refine tkn 7 (some 24) rfl rfl ?_
            simp only [Act.put, List.setIfInBounds_toArray, List.set_cons_zero, List.set_cons_succ]
            refine tkn 8 (some 25) rfl rfl ?_
            simp only [Act.put, List.setIfInBounds_toArray, List.set_cons_zero, List.set_cons_succ]
            refine tkn 9 (some 26) rfl rfl ?_
            simp only [Act.put, List.setIfInBounds_toArray, List.set_cons_zero, List.set_cons_succ]
            refine tkn 10 (some 27) rfl rfl ?_
            simp only [Act.put, List.setIfInBounds_toArray, List.set_cons_zero, List.set_cons_succ]
            refine tkn 11 (some 28) rfl rfl ?_
            simp only [Act.put, List.setIfInBounds_toArray, List.set_cons_zero, List.set_cons_succ]
            refine tkn 12 (some 29) rfl rfl ?_
            simp only [Act.put, List.setIfInBounds_toArray, List.set_cons_zero, List.set_cons_succ]
            refine tkn 13 (some 30) rfl rfl ?_
            simp only [Act.put, List.setIfInBounds_toArray, List.set_cons_zero, List.set_cons_succ]
            refine tkn 14 (some 31) rfl rfl ?_
            simp only [Act.put, List.setIfInBounds_toArray, List.set_cons_zero, List.set_cons_succ]
            refine tkn 15 (some 32) rfl rfl ?_
            simp only [Act.put, List.setIfInBounds_toArray, List.set_cons_zero, List.set_cons_succ]
            refine tk 16 (some 33) rfl rfl ?_
            simp only [Act.put, List.setIfInBounds_toArray, List.set_cons_zero, List.set_cons_succ]
            refine wpAnyH_done (by kernel_rfl) ?_ _
            have S17 := Lib.hid hHeld.2.2.2.2.2.2.2.2.2.2.2.2.2.2.2.2.2.2.2.2.2.2.out
            clear hHeld
            have hc' : C = false := by rw [hc]; simp
            clear hc
            subst hc'
            go_upto_region 5 with (fail)
            refine wp_region_held_drew (S := fun W => W.cell? ⟨w.heap.size, 0, none⟩ = some (.int .i64 a0) ∧ W.cell? ⟨w.heap.size, 1, none⟩ = some (.int .i64 a1) ∧ W.cell? ⟨w.heap.size, 2, none⟩ = some (.int .i64 a2) ∧ W.cell? ⟨w.heap.size, 3, none⟩ = some (.int .i64 a3) ∧ W.cell? ⟨w.heap.size, 4, none⟩ = some (.int .i64 a4) ∧ W.cell? ⟨w.heap.size, 5, none⟩ = some (.bool a5) ∧ W.cell? ⟨w.heap.size, 6, none⟩ = some (.bool true) ∧ W.cell? ⟨w.heap.size, 7, none⟩ = some (.string a7) ∧ W.cell? ⟨w.heap.size, 8, none⟩ = some (.string a8) ∧ W.cell? ⟨w.heap.size, 9, none⟩ = some (.string a9) ∧ W.cell? ⟨w.heap.size, 10, none⟩ = some (.string sa) ∧ W.cell? ⟨w.heap.size + 1, 0, none⟩ = some (.int .i64 b0) ∧ W.cell? ⟨w.heap.size + 1, 1, none⟩ = some (.int .i64 b1) ∧ W.cell? ⟨w.heap.size + 1, 2, none⟩ = some (.int .i64 b2) ∧ W.cell? ⟨w.heap.size + 1, 3, none⟩ = some (.int .i64 b3) ∧ W.cell? ⟨w.heap.size + 1, 4, none⟩ = some (.int .i64 b4) ∧ W.cell? ⟨w.heap.size + 1, 5, none⟩ = some (.bool b5) ∧ W.cell? ⟨w.heap.size + 1, 6, none⟩ = some (.bool false) ∧ W.cell? ⟨w.heap.size + 1, 7, none⟩ = some (.string b7) ∧ W.cell? ⟨w.heap.size + 1, 8, none⟩ = some (.string b8) ∧ W.cell? ⟨w.heap.size + 1, 9, none⟩ = some (.string b9) ∧ W.cell? ⟨w.heap.size + 1, 10, none⟩ = some (.string sb) ∧ Hid (RF16 w W (⟨a0, a1, a2, a3, a4, a5, true, a7, a8, a9⟩, sa) (⟨b0, b1, b2, b3, b4, b5, false, b7, b8, b9⟩, sb))) (by kernel_rfl) ?_ (fun hHeld => ?_)
            · first | exact RF16.all (w := w) (x := (⟨a0, a1, a2, a3, a4, a5, true, a7, a8, a9⟩, sa)) (y := (⟨b0, b1, b2, b3, b4, b5, false, b7, b8, b9⟩, sb)) S17.out.drew | exact RF16.all (w := w) (x := (⟨a0, a1, a2, a3, a4, a5, true, a7, a8, a9⟩, sa)) (y := (⟨b0, b1, b2, b3, b4, b5, false, b7, b8, b9⟩, sb)) S17.out
            clear S17
            refine tk 0 (some 34) rfl rfl ?_
            simp only [Act.put, List.setIfInBounds_toArray, List.set_cons_zero, List.set_cons_succ]
            refine tk 1 (some 35) rfl rfl ?_
            simp only [Act.put, List.setIfInBounds_toArray, List.set_cons_zero, List.set_cons_succ]
            refine tk 2 (some 36) rfl rfl ?_
            simp only [Act.put, List.setIfInBounds_toArray, List.set_cons_zero, List.set_cons_succ]
            refine tk 3 (some 37) rfl rfl ?_
            simp only [Act.put, List.setIfInBounds_toArray, List.set_cons_zero, List.set_cons_succ]
            refine tk 4 (some 38) rfl rfl ?_
            simp only [Act.put, List.setIfInBounds_toArray, List.set_cons_zero, List.set_cons_succ]
            refine tk 6 (some 40) rfl rfl ?_
            simp only [Act.put, List.setIfInBounds_toArray, List.set_cons_zero, List.set_cons_succ]
            refine wpAnyH_ready (rs := [5]) (by kernel_rfl) (by simp) ?_
            refine AllReadyH.cons rfl (fun K hK => ?_) AllReadyH.nil
            go_simp
            refine (EA.out _).mono ?_
            rintro e w' ⟨rfl, hb⟩
            refine hK.out _ _ ?_ (fun held5 => ?_)
            · exact RF16.keep (w := w) (x := (⟨a0, a1, a2, a3, a4, a5, true, a7, a8, a9⟩, sa)) (y := (⟨b0, b1, b2, b3, b4, b5, false, b7, b8, b9⟩, sb)) hb hHeld
            clear hK K
            try simp only [Act.put, List.setIfInBounds_toArray, List.set_cons_zero, List.set_cons_succ]
            refine wpAnyH_ready (rs := [7]) (by kernel_rfl) (by simp) ?_
            refine AllReadyH.cons rfl (fun K hK => ?_) AllReadyH.nil
            go_simp
            refine (EB.out _).mono ?_
            rintro e w' ⟨rfl, hb⟩
            refine hK.out _ _ ?_ (fun held7 => ?_)
            · exact RF16.keep (w := w) (x := (⟨a0, a1, a2, a3, a4, a5, true, a7, a8, a9⟩, sa)) (y := (⟨b0, b1, b2, b3, b4, b5, false, b7, b8, b9⟩, sb)) hb held5
            clear hK K
            try simp only [Act.put, List.setIfInBounds_toArray, List.set_cons_zero, List.set_cons_succ]
            refine tk 8 (some 42) rfl rfl ?_
            simp only [Act.put, List.setIfInBounds_toArray, List.set_cons_zero, List.set_cons_succ]
            refine tk 9 (some 43) rfl rfl ?_
            simp only [Act.put, List.setIfInBounds_toArray, List.set_cons_zero, List.set_cons_succ]
            refine tk 10 (some 4) rfl rfl ?_
            simp only [Act.put, List.setIfInBounds_toArray, List.set_cons_zero, List.set_cons_succ]
            refine wpAnyH_done (by kernel_rfl) ?_ _
            have S18 := Lib.hid held7.2.2.2.2.2.2.2.2.2.2.2.2.2.2.2.2.2.2.2.2.2.2.out
            clear held7
            go_wp2_with fail
            go_ret
            exact ⟨rfl, S18.out.bel⟩
      | false =>
        cases bm with
        | true =>
          cases c3 with
          | true =>
            have hc' : C = false := by rw [hc]; simp
            clear hc
            subst hc'
            refine wp_region_held_drew (S := fun W => W.cell? ⟨w.heap.size, 0, none⟩ = some (.int .i64 a0) ∧ W.cell? ⟨w.heap.size, 1, none⟩ = some (.int .i64 a1) ∧ W.cell? ⟨w.heap.size, 2, none⟩ = some (.int .i64 a2) ∧ W.cell? ⟨w.heap.size, 3, none⟩ = some (.int .i64 a3) ∧ W.cell? ⟨w.heap.size, 4, none⟩ = some (.int .i64 a4) ∧ W.cell? ⟨w.heap.size, 5, none⟩ = some (.bool a5) ∧ W.cell? ⟨w.heap.size, 6, none⟩ = some (.bool false) ∧ W.cell? ⟨w.heap.size, 7, none⟩ = some (.string a7) ∧ W.cell? ⟨w.heap.size, 8, none⟩ = some (.string a8) ∧ W.cell? ⟨w.heap.size, 9, none⟩ = some (.string a9) ∧ W.cell? ⟨w.heap.size, 10, none⟩ = some (.string sa) ∧ W.cell? ⟨w.heap.size + 1, 0, none⟩ = some (.int .i64 b0) ∧ W.cell? ⟨w.heap.size + 1, 1, none⟩ = some (.int .i64 b1) ∧ W.cell? ⟨w.heap.size + 1, 2, none⟩ = some (.int .i64 b2) ∧ W.cell? ⟨w.heap.size + 1, 3, none⟩ = some (.int .i64 b3) ∧ W.cell? ⟨w.heap.size + 1, 4, none⟩ = some (.int .i64 b4) ∧ W.cell? ⟨w.heap.size + 1, 5, none⟩ = some (.bool b5) ∧ W.cell? ⟨w.heap.size + 1, 6, none⟩ = some (.bool true) ∧ W.cell? ⟨w.heap.size + 1, 7, none⟩ = some (.string b7) ∧ W.cell? ⟨w.heap.size + 1, 8, none⟩ = some (.string b8) ∧ W.cell? ⟨w.heap.size + 1, 9, none⟩ = some (.string b9) ∧ W.cell? ⟨w.heap.size + 1, 10, none⟩ = some (.string sb) ∧ Hid (RF16 w W (⟨a0, a1, a2, a3, a4, a5, false, a7, a8, a9⟩, sa) (⟨b0, b1, b2, b3, b4, b5, true, b7, b8, b9⟩, sb))) (by kernel_rfl) ?_ (fun hHeld => ?_)
            · first | exact RF16.all (w := w) (x := (⟨a0, a1, a2, a3, a4, a5, false, a7, a8, a9⟩, sa)) (y := (⟨b0, b1, b2, b3, b4, b5, true, b7, b8, b9⟩, sb)) S12.out.drew | exact RF16.all (w := w) (x := (⟨a0, a1, a2, a3, a4, a5, false, a7, a8, a9⟩, sa)) (y := (⟨b0, b1, b2, b3, b4, b5, true, b7, b8, b9⟩, sb)) S12.out
            clear S12
            refine tk 0 (some 17) rfl rfl ?_
            simp only [Act.put, List.setIfInBounds_toArray, List.set_cons_zero, List.set_cons_succ]
            refine tk 1 (some 18) rfl rfl ?_
            simp only [Act.put, List.setIfInBounds_toArray, List.set_cons_zero, List.set_cons_succ]
            refine tk 2 (some 19) rfl rfl ?_
            simp only [Act.put, List.setIfInBounds_toArray, List.set_cons_zero, List.set_cons_succ]
            refine tk 3 (some 20) rfl rfl ?_
            simp only [Act.put, List.setIfInBounds_toArray, List.set_cons_zero, List.set_cons_succ]
            refine tk 4 (some 21) rfl rfl ?_
            simp only [Act.put, List.setIfInBounds_toArray, List.set_cons_zero, List.set_cons_succ]
            refine tk 5 (some 22) rfl rfl ?_
            simp only [Act.put, List.setIfInBounds_toArray, List.set_cons_zero, List.set_cons_succ]
            refine tk 6 (some 23) rfl rfl ?_
            simp only [Act.put, List.setIfInBounds_toArray, List.set_cons_zero, List.set_cons_succ]
            refine tk 7 (some 24) rfl rfl ?_
            simp only [Act.put, List.setIfInBounds_toArray, List.set_cons_zero, List.set_cons_succ]
            refine tk 8 (some 25) rfl rfl ?_
            simp only [Act.put, List.setIfInBounds_toArray, List.set_cons_zero, List.set_cons_succ]
            refine tk 9 (some 26) rfl rfl ?_
            simp only [Act.put, List.setIfInBounds_toArray, List.set_cons_zero, List.set_cons_succ]
            refine tk 10 (some 27) rfl rfl ?_
            simp only [Act.put, List.setIfInBounds_toArray, List.set_cons_zero, List.set_cons_succ]
            refine tk 12 (some 29) rfl rfl ?_
            simp only [Act.put, List.setIfInBounds_toArray, List.set_cons_zero, List.set_cons_succ]
            refine wpAnyH_ready (rs := [11]) (by kernel_rfl) (by simp) ?_
            refine AllReadyH.cons rfl (fun K hK => ?_) AllReadyH.nil
            go_simp
            refine (EB.out _).mono ?_
            rintro e w' ⟨rfl, hb⟩
            refine hK.out _ _ ?_ (fun held11 => ?_)
            · exact RF16.keep (w := w) (x := (⟨a0, a1, a2, a3, a4, a5, false, a7, a8, a9⟩, sa)) (y := (⟨b0, b1, b2, b3, b4, b5, true, b7, b8, b9⟩, sb)) hb hHeld
            clear hK K
            try simp only [Act.put, List.setIfInBounds_toArray, List.set_cons_zero, List.set_cons_succ]
            refine wpAnyH_ready (rs := [13]) (by kernel_rfl) (by simp) ?_
            refine AllReadyH.cons rfl (fun K hK => ?_) AllReadyH.nil
            go_simp
            refine (EA.out _).mono ?_
            rintro e w' ⟨rfl, hb⟩
            refine hK.out _ _ ?_ (fun held13 => ?_)
            · exact RF16.keep (w := w) (x := (⟨a0, a1, a2, a3, a4, a5, false, a7, a8, a9⟩, sa)) (y := (⟨b0, b1, b2, b3, b4, b5, true, b7, b8, b9⟩, sb)) hb held11
            clear hK K
            try simp only [Act.put, List.setIfInBounds_toArray, List.set_cons_zero, List.set_cons_succ]
            refine tk 14 (some 31) rfl rfl ?_
            simp only [Act.put, List.setIfInBounds_toArray, List.set_cons_zero, List.set_cons_succ]
            refine tk 15 (some 32) rfl rfl ?_
            simp only [Act.put, List.setIfInBounds_toArray, List.set_cons_zero, List.set_cons_succ]
            refine tk 16 (some 33) rfl rfl ?_
            simp only [Act.put, List.setIfInBounds_toArray, List.set_cons_zero, List.set_cons_succ]
            refine wpAnyH_done (by kernel_rfl) ?_ _
            have S19 := Lib.hid held13.2.2.2.2.2.2.2.2.2.2.2.2.2.2.2.2.2.2.2.2.2.2.out
            clear held13
            go_wp2_with fail
            go_ret
            exact ⟨rfl, S19.out.bel⟩
          | false =>
            refine wp_region_held_drew (S := fun W => W.cell? ⟨w.heap.size, 0, none⟩ = some (.int .i64 a0) ∧ W.cell? ⟨w.heap.size, 1, none⟩ = some (.int .i64 a1) ∧ W.cell? ⟨w.heap.size, 2, none⟩ = some (.int .i64 a2) ∧ W.cell? ⟨w.heap.size, 3, none⟩ = some (.int .i64 a3) ∧ W.cell? ⟨w.heap.size, 4, none⟩ = some (.int .i64 a4) ∧ W.cell? ⟨w.heap.size, 5, none⟩ = some (.bool a5) ∧ W.cell? ⟨w.heap.size, 6, none⟩ = some (.bool false) ∧ W.cell? ⟨w.heap.size, 7, none⟩ = some (.string a7) ∧ W.cell? ⟨w.heap.size, 8, none⟩ = some (.string a8) ∧ W.cell? ⟨w.heap.size, 9, none⟩ = some (.string a9) ∧ W.cell? ⟨w.heap.size, 10, none⟩ = some (.string sa) ∧ W.cell? ⟨w.heap.size + 1, 0, none⟩ = some (.int .i64 b0) ∧ W.cell? ⟨w.heap.size + 1, 1, none⟩ = some (.int .i64 b1) ∧ W.cell? ⟨w.heap.size + 1, 2, none⟩ = some (.int .i64 b2) ∧ W.cell? ⟨w.heap.size + 1, 3, none⟩ = some (.int .i64 b3) ∧ W.cell? ⟨w.heap.size + 1, 4, none⟩ = some (.int .i64 b4) ∧ W.cell? ⟨w.heap.size + 1, 5, none⟩ = some (.bool b5) ∧ W.cell? ⟨w.heap.size + 1, 6, none⟩ = some (.bool true) ∧ W.cell? ⟨w.heap.size + 1, 7, none⟩ = some (.string b7) ∧ W.cell? ⟨w.heap.size + 1, 8, none⟩ = some (.string b8) ∧ W.cell? ⟨w.heap.size + 1, 9, none⟩ = some (.string b9) ∧ W.cell? ⟨w.heap.size + 1, 10, none⟩ = some (.string sb) ∧ Hid (RF16 w W (⟨a0, a1, a2, a3, a4, a5, false, a7, a8, a9⟩, sa) (⟨b0, b1, b2, b3, b4, b5, true, b7, b8, b9⟩, sb))) (by kernel_rfl) ?_ (fun hHeld => ?_)
            · first | exact RF16.all (w := w) (x := (⟨a0, a1, a2, a3, a4, a5, false, a7, a8, a9⟩, sa)) (y := (⟨b0, b1, b2, b3, b4, b5, true, b7, b8, b9⟩, sb)) S12.out.drew | exact RF16.all (w := w) (x := (⟨a0, a1, a2, a3, a4, a5, false, a7, a8, a9⟩, sa)) (y := (⟨b0, b1, b2, b3, b4, b5, true, b7, b8, b9⟩, sb)) S12.out
            clear S12
            refine tk 0 (some 17) rfl rfl ?_
            simp only [Act.put, List.setIfInBounds_toArray, List.set_cons_zero, List.set_cons_succ]
            refine tk 1 (some 18) rfl rfl ?_
            simp only [Act.put, List.setIfInBounds_toArray, List.set_cons_zero, List.set_cons_succ]
            refine tk 2 (some 19) rfl rfl ?_
            simp only [Act.put, List.setIfInBounds_toArray, List.set_cons_zero, List.set_cons_succ]
            refine tk 3 (some 20) rfl rfl ?_
            simp only [Act.put, List.setIfInBounds_toArray, List.set_cons_zero, List.set_cons_succ]
            refine tk 4 (some 21) rfl rfl ?_
            simp only [Act.put, List.setIfInBounds_toArray, List.set_cons_zero, List.set_cons_succ]
            refine tk 5 (some 22) rfl rfl ?_
            simp only [Act.put, List.setIfInBounds_toArray, List.set_cons_zero, List.set_cons_succ]
            refine tk 6 (some 23) rfl rfl ?_
            simp only [Act.put, List.setIfInBounds_toArray, List.set_cons_zero, List.set_cons_succ]
            refine tk 7 (some 24) rfl rfl ?_
            simp only [Act.put, List.setIfInBounds_toArray, List.set_cons_zero, List.set_cons_succ]
            refine tk 8 (some 25) rfl rfl ?_
            simp only [Act.put, List.setIfInBounds_toArray, List.set_cons_zero, List.set_cons_succ]
            refine tk 9 (some 26) rfl rfl ?_
            simp only [Act.put, List.setIfInBounds_toArray, List.set_cons_zero, List.set_cons_succ]
            refine tk 10 (some 27) rfl rfl ?_
            simp only [Act.put, List.setIfInBounds_toArray, List.set_cons_zero, List.set_cons_succ]
            refine tk 12 (some 29) rfl rfl ?_
            simp only [Act.put, List.setIfInBounds_toArray, List.set_cons_zero, List.set_cons_succ]
            refine wpAnyH_ready (rs := [11]) (by kernel_rfl) (by simp) ?_
            refine AllReadyH.cons rfl (fun K hK => ?_) AllReadyH.nil
            go_simp
            refine (EB.out _).mono ?_
            rintro e w' ⟨rfl, hb⟩
            refine hK.out _ _ ?_ (fun held11 => ?_)
            · exact RF16.keep (w := w) (x := (⟨a0, a1, a2, a3, a4, a5, false, a7, a8, a9⟩, sa)) (y := (⟨b0, b1, b2, b3, b4, b5, true, b7, b8, b9⟩, sb)) hb hHeld
            clear hK K
            try simp only [Act.put, List.setIfInBounds_toArray, List.set_cons_zero, List.set_cons_succ]
            refine wpAnyH_ready (rs := [13]) (by kernel_rfl) (by simp) ?_
            refine AllReadyH.cons rfl (fun K hK => ?_) AllReadyH.nil
            go_simp
            refine (EA.out _).mono ?_
            rintro e w' ⟨rfl, hb⟩
            refine hK.out _ _ ?_ (fun held13 => ?_)
            · exact RF16.keep (w := w) (x := (⟨a0, a1, a2, a3, a4, a5, false, a7, a8, a9⟩, sa)) (y := (⟨b0, b1, b2, b3, b4, b5, true, b7, b8, b9⟩, sb)) hb held11
            clear hK K
            try simp only [Act.put, List.setIfInBounds_toArray, List.set_cons_zero, List.set_cons_succ]
            refine tk 14 (some 31) rfl rfl ?_
            simp only [Act.put, List.setIfInBounds_toArray, List.set_cons_zero, List.set_cons_succ]
            refine tk 15 (some 32) rfl rfl ?_
            simp only [Act.put, List.setIfInBounds_toArray, List.set_cons_zero, List.set_cons_succ]
            refine tk 16 (some 33) rfl rfl ?_
            simp only [Act.put, List.setIfInBounds_toArray, List.set_cons_zero, List.set_cons_succ]
            refine wpAnyH_done (by kernel_rfl) ?_ _
            have S20 := Lib.hid held13.2.2.2.2.2.2.2.2.2.2.2.2.2.2.2.2.2.2.2.2.2.2.out
            clear held13
            have hc' : C = true := by rw [hc]; simp
            clear hc
            subst hc'
            go_upto_region 5 with (fail)
            refine wp_region_held_drew (S := fun W => W.cell? ⟨w.heap.size, 0, none⟩ = some (.int .i64 a0) ∧ W.cell? ⟨w.heap.size, 1, none⟩ = some (.int .i64 a1) ∧ W.cell? ⟨w.heap.size, 2, none⟩ = some (.int .i64 a2) ∧ W.cell? ⟨w.heap.size, 3, none⟩ = some (.int .i64 a3) ∧ W.cell? ⟨w.heap.size, 4, none⟩ = some (.int .i64 a4) ∧ W.cell? ⟨w.heap.size, 5, none⟩ = some (.bool a5) ∧ W.cell? ⟨w.heap.size, 6, none⟩ = some (.bool false) ∧ W.cell? ⟨w.heap.size, 7, none⟩ = some (.string a7) ∧ W.cell? ⟨w.heap.size, 8, none⟩ = some (.string a8) ∧ W.cell? ⟨w.heap.size, 9, none⟩ = some (.string a9) ∧ W.cell? ⟨w.heap.size, 10, none⟩ = some (.string sa) ∧ W.cell? ⟨w.heap.size + 1, 0, none⟩ = some (.int .i64 b0) ∧ W.cell? ⟨w.heap.size + 1, 1, none⟩ = some (.int .i64 b1) ∧ W.cell? ⟨w.heap.size + 1, 2, none⟩ = some (.int .i64 b2) ∧ W.cell? ⟨w.heap.size + 1, 3, none⟩ = some (.int .i64 b3) ∧ W.cell? ⟨w.heap.size + 1, 4, none⟩ = some (.int .i64 b4) ∧ W.cell? ⟨w.heap.size + 1, 5, none⟩ = some (.bool b5) ∧ W.cell? ⟨w.heap.size + 1, 6, none⟩ = some (.bool true) ∧ W.cell? ⟨w.heap.size + 1, 7, none⟩ = some (.string b7) ∧ W.cell? ⟨w.heap.size + 1, 8, none⟩ = some (.string b8) ∧ W.cell? ⟨w.heap.size + 1, 9, none⟩ = some (.string b9) ∧ W.cell? ⟨w.heap.size + 1, 10, none⟩ = some (.string sb) ∧ Hid (RF16 w W (⟨a0, a1, a2, a3, a4, a5, false, a7, a8, a9⟩, sa) (⟨b0, b1, b2, b3, b4, b5, true, b7, b8, b9⟩, sb))) (by kernel_rfl) ?_ (fun hHeld => ?_)
            · first | exact RF16.all (w := w) (x := (⟨a0, a1, a2, a3, a4, a5, false, a7, a8, a9⟩, sa)) (y := (⟨b0, b1, b2, b3, b4, b5, true, b7, b8, b9⟩, sb)) S20.out.drew | exact RF16.all (w := w) (x := (⟨a0, a1, a2, a3, a4, a5, false, a7, a8, a9⟩, sa)) (y := (⟨b0, b1, b2, b3, b4, b5, true, b7, b8, b9⟩, sb)) S20.out
            clear S20
            refine tk 0 (some 34) rfl rfl ?_
            simp only [Act.put, List.setIfInBounds_toArray, List.set_cons_zero, List.set_cons_succ]
            refine tk 1 (some 35) rfl rfl ?_
            simp only [Act.put, List.setIfInBounds_toArray, List.set_cons_zero, List.set_cons_succ]
            refine tk 2 (some 36) rfl rfl ?_
            simp only [Act.put, List.setIfInBounds_toArray, List.set_cons_zero, List.set_cons_succ]
            refine tk 3 (some 37) rfl rfl ?_
            simp only [Act.put, List.setIfInBounds_toArray, List.set_cons_zero, List.set_cons_succ]
            refine tkn 4 (some 38) rfl rfl ?_
            simp only [Act.put, List.setIfInBounds_toArray, List.set_cons_zero, List.set_cons_succ]
            refine tkn 5 (some 39) rfl rfl ?_
            simp only [Act.put, List.setIfInBounds_toArray, List.set_cons_zero, List.set_cons_succ]
            refine tkn 6 (some 40) rfl rfl ?_
            simp only [Act.put, List.setIfInBounds_toArray, List.set_cons_zero, List.set_cons_succ]
            refine tkn 7 (some 41) rfl rfl ?_
            simp only [Act.put, List.setIfInBounds_toArray, List.set_cons_zero, List.set_cons_succ]
            refine tkn 8 (some 42) rfl rfl ?_
            simp only [Act.put, List.setIfInBounds_toArray, List.set_cons_zero, List.set_cons_succ]
            refine tk 9 (some 43) rfl rfl ?_
            simp only [Act.put, List.setIfInBounds_toArray, List.set_cons_zero, List.set_cons_succ]
            refine tk 10 (some 4) rfl rfl ?_
            simp only [Act.put, List.setIfInBounds_toArray, List.set_cons_zero, List.set_cons_succ]
            refine wpAnyH_done (by kernel_rfl) ?_ _
            have S21 := Lib.hid hHeld.2.2.2.2.2.2.2.2.2.2.2.2.2.2.2.2.2.2.2.2.2.2.out
            clear hHeld
            go_wp2_with fail
            go_ret
            exact ⟨rfl, S21.out.bel⟩
        | false =>
          have hc' : C = false := by rw [hc]; simp
          clear hc
          subst hc'
          refine wp_region_held_drew (S := fun W => W.cell? ⟨w.heap.size, 0, none⟩ = some (.int .i64 a0) ∧ W.cell? ⟨w.heap.size, 1, none⟩ = some (.int .i64 a1) ∧ W.cell? ⟨w.heap.size, 2, none⟩ = some (.int .i64 a2) ∧ W.cell? ⟨w.heap.size, 3, none⟩ = some (.int .i64 a3) ∧ W.cell? ⟨w.heap.size, 4, none⟩ = some (.int .i64 a4) ∧ W.cell? ⟨w.heap.size, 5, none⟩ = some (.bool a5) ∧ W.cell? ⟨w.heap.size, 6, none⟩ = some (.bool false) ∧ W.cell? ⟨w.heap.size, 7, none⟩ = some (.string a7) ∧ W.cell? ⟨w.heap.size, 8, none⟩ = some (.string a8) ∧ W.cell? ⟨w.heap.size, 9, none⟩ = some (.string a9) ∧ W.cell? ⟨w.heap.size, 10, none⟩ = some (.string sa) ∧ W.cell? ⟨w.heap.size + 1, 0, none⟩ = some (.int .i64 b0) ∧ W.cell? ⟨w.heap.size + 1, 1, none⟩ = some (.int .i64 b1) ∧ W.cell? ⟨w.heap.size + 1, 2, none⟩ = some (.int .i64 b2) ∧ W.cell? ⟨w.heap.size + 1, 3, none⟩ = some (.int .i64 b3) ∧ W.cell? ⟨w.heap.size + 1, 4, none⟩ = some (.int .i64 b4) ∧ W.cell? ⟨w.heap.size + 1, 5, none⟩ = some (.bool b5) ∧ W.cell? ⟨w.heap.size + 1, 6, none⟩ = some (.bool false) ∧ W.cell? ⟨w.heap.size + 1, 7, none⟩ = some (.string b7) ∧ W.cell? ⟨w.heap.size + 1, 8, none⟩ = some (.string b8) ∧ W.cell? ⟨w.heap.size + 1, 9, none⟩ = some (.string b9) ∧ W.cell? ⟨w.heap.size + 1, 10, none⟩ = some (.string sb) ∧ Hid (RF16 w W (⟨a0, a1, a2, a3, a4, a5, false, a7, a8, a9⟩, sa) (⟨b0, b1, b2, b3, b4, b5, false, b7, b8, b9⟩, sb))) (by kernel_rfl) ?_ (fun hHeld => ?_)
          · first | exact RF16.all (w := w) (x := (⟨a0, a1, a2, a3, a4, a5, false, a7, a8, a9⟩, sa)) (y := (⟨b0, b1, b2, b3, b4, b5, false, b7, b8, b9⟩, sb)) S12.out.drew | exact RF16.all (w := w) (x := (⟨a0, a1, a2, a3, a4, a5, false, a7, a8, a9⟩, sa)) (y := (⟨b0, b1, b2, b3, b4, b5, false, b7, b8, b9⟩, sb)) S12.out
          clear S12
          refine tk 0 (some 17) rfl rfl ?_
          simp only [Act.put, List.setIfInBounds_toArray, List.set_cons_zero, List.set_cons_succ]
          refine tk 1 (some 18) rfl rfl ?_
          simp only [Act.put, List.setIfInBounds_toArray, List.set_cons_zero, List.set_cons_succ]
          refine tk 2 (some 19) rfl rfl ?_
          simp only [Act.put, List.setIfInBounds_toArray, List.set_cons_zero, List.set_cons_succ]
          refine tk 3 (some 20) rfl rfl ?_
          simp only [Act.put, List.setIfInBounds_toArray, List.set_cons_zero, List.set_cons_succ]
          refine tk 4 (some 21) rfl rfl ?_
          simp only [Act.put, List.setIfInBounds_toArray, List.set_cons_zero, List.set_cons_succ]
          refine tk 5 (some 22) rfl rfl ?_
          simp only [Act.put, List.setIfInBounds_toArray, List.set_cons_zero, List.set_cons_succ]
          refine tk 6 (some 23) rfl rfl ?_
          simp only [Act.put, List.setIfInBounds_toArray, List.set_cons_zero, List.set_cons_succ]
          refine tk 7 (some 24) rfl rfl ?_
          simp only [Act.put, List.setIfInBounds_toArray, List.set_cons_zero, List.set_cons_succ]
          refine tk 8 (some 25) rfl rfl ?_
          simp only [Act.put, List.setIfInBounds_toArray, List.set_cons_zero, List.set_cons_succ]
          refine tk 9 (some 26) rfl rfl ?_
          simp only [Act.put, List.setIfInBounds_toArray, List.set_cons_zero, List.set_cons_succ]
          refine tkn 10 (some 27) rfl rfl ?_
          simp only [Act.put, List.setIfInBounds_toArray, List.set_cons_zero, List.set_cons_succ]
          refine tkn 11 (some 28) rfl rfl ?_
          simp only [Act.put, List.setIfInBounds_toArray, List.set_cons_zero, List.set_cons_succ]
          refine tkn 12 (some 29) rfl rfl ?_
          simp only [Act.put, List.setIfInBounds_toArray, List.set_cons_zero, List.set_cons_succ]
          refine tkn 13 (some 30) rfl rfl ?_
          simp only [Act.put, List.setIfInBounds_toArray, List.set_cons_zero, List.set_cons_succ]
          refine tkn 14 (some 31) rfl rfl ?_
          simp only [Act.put, List.setIfInBounds_toArray, List.set_cons_zero, List.set_cons_succ]
          refine tk 15 (some 32) rfl rfl ?_
          simp only [Act.put, List.setIfInBounds_toArray, List.set_cons_zero, List.set_cons_succ]
          refine tk 16 (some 33) rfl rfl ?_
          simp only [Act.put, List.setIfInBounds_toArray, List.set_cons_zero, List.set_cons_succ]
          refine wpAnyH_done (by kernel_rfl) ?_ _
          have S22 := Lib.hid hHeld.2.2.2.2.2.2.2.2.2.2.2.2.2.2.2.2.2.2.2.2.2.2.out
          clear hHeld
          go_wp2_with fail
          go_ret
          exact ⟨rfl, S22.out.bel⟩
  | false =>
    refine wp_region_held_drew (S := fun W => W.cell? ⟨w.heap.size, 0, none⟩ = some (.int .i64 a0) ∧ W.cell? ⟨w.heap.size, 1, none⟩ = some (.int .i64 a1) ∧ W.cell? ⟨w.heap.size, 2, none⟩ = some (.int .i64 a2) ∧ W.cell? ⟨w.heap.size, 3, none⟩ = some (.int .i64 a3) ∧ W.cell? ⟨w.heap.size, 4, none⟩ = some (.int .i64 a4) ∧ W.cell? ⟨w.heap.size, 5, none⟩ = some (.bool a5) ∧ W.cell? ⟨w.heap.size, 6, none⟩ = some (.bool am) ∧ W.cell? ⟨w.heap.size, 7, none⟩ = some (.string a7) ∧ W.cell? ⟨w.heap.size, 8, none⟩ = some (.string a8) ∧ W.cell? ⟨w.heap.size, 9, none⟩ = some (.string a9) ∧ W.cell? ⟨w.heap.size, 10, none⟩ = some (.string sa) ∧ W.cell? ⟨w.heap.size + 1, 0, none⟩ = some (.int .i64 b0) ∧ W.cell? ⟨w.heap.size + 1, 1, none⟩ = some (.int .i64 b1) ∧ W.cell? ⟨w.heap.size + 1, 2, none⟩ = some (.int .i64 b2) ∧ W.cell? ⟨w.heap.size + 1, 3, none⟩ = some (.int .i64 b3) ∧ W.cell? ⟨w.heap.size + 1, 4, none⟩ = some (.int .i64 b4) ∧ W.cell? ⟨w.heap.size + 1, 5, none⟩ = some (.bool b5) ∧ W.cell? ⟨w.heap.size + 1, 6, none⟩ = some (.bool bm) ∧ W.cell? ⟨w.heap.size + 1, 7, none⟩ = some (.string b7) ∧ W.cell? ⟨w.heap.size + 1, 8, none⟩ = some (.string b8) ∧ W.cell? ⟨w.heap.size + 1, 9, none⟩ = some (.string b9) ∧ W.cell? ⟨w.heap.size + 1, 10, none⟩ = some (.string sb) ∧ Hid (RF16 w W (⟨a0, a1, a2, a3, a4, a5, am, a7, a8, a9⟩, sa) (⟨b0, b1, b2, b3, b4, b5, bm, b7, b8, b9⟩, sb))) (by kernel_rfl) ?_ (fun hHeld => ?_)
    · first | exact RF16.all (w := w) (x := (⟨a0, a1, a2, a3, a4, a5, am, a7, a8, a9⟩, sa)) (y := (⟨b0, b1, b2, b3, b4, b5, bm, b7, b8, b9⟩, sb)) S1.out.drew | exact RF16.all (w := w) (x := (⟨a0, a1, a2, a3, a4, a5, am, a7, a8, a9⟩, sa)) (y := (⟨b0, b1, b2, b3, b4, b5, bm, b7, b8, b9⟩, sb)) S1.out
    clear S1
    refine tk 0 (some 5) rfl rfl ?_
    simp only [Act.put, List.setIfInBounds_toArray, List.set_cons_zero, List.set_cons_succ]
    refine tk 2 (some 7) rfl rfl ?_
    simp only [Act.put, List.setIfInBounds_toArray, List.set_cons_zero, List.set_cons_succ]
    refine wpAnyH_ready (rs := [1]) (by kernel_rfl) (by simp) ?_
    refine AllReadyH.cons rfl (fun K hK => ?_) AllReadyH.nil
    go_simp
    refine (FA.out _).mono ?_
    rintro e w' ⟨rfl, hb⟩
    refine hK.out _ _ ?_ (fun held1 => ?_)
    · exact RF16.keep (w := w) (x := (⟨a0, a1, a2, a3, a4, a5, am, a7, a8, a9⟩, sa)) (y := (⟨b0, b1, b2, b3, b4, b5, bm, b7, b8, b9⟩, sb)) hb hHeld
    clear hK K
    try simp only [Act.put, List.setIfInBounds_toArray, List.set_cons_zero, List.set_cons_succ]
    refine wpAnyH_ready (rs := [3]) (by kernel_rfl) (by simp) ?_
    refine AllReadyH.cons rfl (fun K hK => ?_) AllReadyH.nil
    go_simp
    refine (EB.out _).mono ?_
    rintro e w' ⟨rfl, hb⟩
    refine hK.out _ _ ?_ (fun held3 => ?_)
    · exact RF16.keep (w := w) (x := (⟨a0, a1, a2, a3, a4, a5, am, a7, a8, a9⟩, sa)) (y := (⟨b0, b1, b2, b3, b4, b5, bm, b7, b8, b9⟩, sb)) hb held1
    clear hK K
    try simp only [Act.put, List.setIfInBounds_toArray, List.set_cons_zero, List.set_cons_succ]
    refine tk 4 (some 9) rfl rfl ?_
    simp only [Act.put, List.setIfInBounds_toArray, List.set_cons_zero, List.set_cons_succ]
    refine tk 5 (some 10) rfl rfl ?_
    simp only [Act.put, List.setIfInBounds_toArray, List.set_cons_zero, List.set_cons_succ]
    refine tkn 6 (some 11) rfl rfl ?_
    simp only [Act.put, List.setIfInBounds_toArray, List.set_cons_zero, List.set_cons_succ]
    refine tkn 7 (some 12) rfl rfl ?_
    simp only [Act.put, List.setIfInBounds_toArray, List.set_cons_zero, List.set_cons_succ]
    refine tkn 8 (some 13) rfl rfl ?_
    simp only [Act.put, List.setIfInBounds_toArray, List.set_cons_zero, List.set_cons_succ]
    refine tkn 9 (some 14) rfl rfl ?_
    simp only [Act.put, List.setIfInBounds_toArray, List.set_cons_zero, List.set_cons_succ]
    refine tkn 10 (some 15) rfl rfl ?_
    simp only [Act.put, List.setIfInBounds_toArray, List.set_cons_zero, List.set_cons_succ]
    refine tk 11 (some 16) rfl rfl ?_
    simp only [Act.put, List.setIfInBounds_toArray, List.set_cons_zero, List.set_cons_succ]
    refine wpAnyH_done (by kernel_rfl) ?_ _
    have S23 := Lib.hid held3.2.2.2.2.2.2.2.2.2.2.2.2.2.2.2.2.2.2.2.2.2.2.out
    clear held3
    go_upto_region 3 with (fail)
    cases am with
    | true =>
      cases bm with
      | true =>
        refine wp_region_held_drew (S := fun W => W.cell? ⟨w.heap.size, 0, none⟩ = some (.int .i64 a0) ∧ W.cell? ⟨w.heap.size, 1, none⟩ = some (.int .i64 a1) ∧ W.cell? ⟨w.heap.size, 2, none⟩ = some (.int .i64 a2) ∧ W.cell? ⟨w.heap.size, 3, none⟩ = some (.int .i64 a3) ∧ W.cell? ⟨w.heap.size, 4, none⟩ = some (.int .i64 a4) ∧ W.cell? ⟨w.heap.size, 5, none⟩ = some (.bool a5) ∧ W.cell? ⟨w.heap.size, 6, none⟩ = some (.bool true) ∧ W.cell? ⟨w.heap.size, 7, none⟩ = some (.string a7) ∧ W.cell? ⟨w.heap.size, 8, none⟩ = some (.string a8) ∧ W.cell? ⟨w.heap.size, 9, none⟩ = some (.string a9) ∧ W.cell? ⟨w.heap.size, 10, none⟩ = some (.string sa) ∧ W.cell? ⟨w.heap.size + 1, 0, none⟩ = some (.int .i64 b0) ∧ W.cell? ⟨w.heap.size + 1, 1, none⟩ = some (.int .i64 b1) ∧ W.cell? ⟨w.heap.size + 1, 2, none⟩ = some (.int .i64 b2) ∧ W.cell? ⟨w.heap.size + 1, 3, none⟩ = some (.int .i64 b3) ∧ W.cell? ⟨w.heap.size + 1, 4, none⟩ = some (.int .i64 b4) ∧ W.cell? ⟨w.heap.size + 1, 5, none⟩ = some (.bool b5) ∧ W.cell? ⟨w.heap.size + 1, 6, none⟩ = some (.bool true) ∧ W.cell? ⟨w.heap.size + 1, 7, none⟩ = some (.string b7) ∧ W.cell? ⟨w.heap.size + 1, 8, none⟩ = some (.string b8) ∧ W.cell? ⟨w.heap.size + 1, 9, none⟩ = some (.string b9) ∧ W.cell? ⟨w.heap.size + 1, 10, none⟩ = some (.string sb) ∧ Hid (RF16 w W (⟨a0, a1, a2, a3, a4, a5, true, a7, a8, a9⟩, sa) (⟨b0, b1, b2, b3, b4, b5, true, b7, b8, b9⟩, sb))) (by kernel_rfl) ?_ (fun hHeld => ?_)
        · first | exact RF16.all (w := w) (x := (⟨a0, a1, a2, a3, a4, a5, true, a7, a8, a9⟩, sa)) (y := (⟨b0, b1, b2, b3, b4, b5, true, b7, b8, b9⟩, sb)) S23.out.drew | exact RF16.all (w := w) (x := (⟨a0, a1, a2, a3, a4, a5, true, a7, a8, a9⟩, sa)) (y := (⟨b0, b1, b2, b3, b4, b5, true, b7, b8, b9⟩, sb)) S23.out
        clear S23
        refine tk 0 (some 17) rfl rfl ?_
        simp only [Act.put, List.setIfInBounds_toArray, List.set_cons_zero, List.set_cons_succ]
        refine tk 1 (some 18) rfl rfl ?_
        simp only [Act.put, List.setIfInBounds_toArray, List.set_cons_zero, List.set_cons_succ]
        refine tk 2 (some 19) rfl rfl ?_
        simp only [Act.put, List.setIfInBounds_toArray, List.set_cons_zero, List.set_cons_succ]
        refine tk 3 (some 20) rfl rfl ?_
        simp only [Act.put, List.setIfInBounds_toArray, List.set_cons_zero, List.set_cons_succ]
        refine tk 4 (some 21) rfl rfl ?_
        simp only [Act.put, List.setIfInBounds_toArray, List.set_cons_zero, List.set_cons_succ]
        refine tkn 5 (some 22) rfl rfl ?_
        simp only [Act.put, List.setIfInBounds_toArray, List.set_cons_zero, List.set_cons_succ]
        refine tkn 6 (some 23) rfl rfl ?_
        simp only [Act.put, List.setIfInBounds_toArray, List.set_cons_zero, List.set_cons_succ]
        refine tkn 7 (some 24) rfl rfl ?_
        simp only [Act.put, List.setIfInBounds_toArray, List.set_cons_zero, List.set_cons_succ]
        refine tkn 8 (some 25) rfl rfl ?_
        simp only [Act.put, List.setIfInBounds_toArray, List.set_cons_zero, List.set_cons_succ]
        refine tkn 9 (some 26) rfl rfl ?_
        simp only [Act.put, List.setIfInBounds_toArray, List.set_cons_zero, List.set_cons_succ]
        refine tkn 10 (some 27) rfl rfl ?_
        simp only [Act.put, List.setIfInBounds_toArray, List.set_cons_zero, List.set_cons_succ]
        refine tkn 11 (some 28) rfl rfl ?_
        simp only [Act.put, List.setIfInBounds_toArray, List.set_cons_zero, List.set_cons_succ]
        refine tkn 12 (some 29) rfl rfl ?_
        simp only [Act.put, List.setIfInBounds_toArray, List.set_cons_zero, List.set_cons_succ]
        refine tkn 13 (some 30) rfl rfl ?_
        simp only [Act.put, List.setIfInBounds_toArray, List.set_cons_zero, List.set_cons_succ]
        refine tkn 14 (some 31) rfl rfl ?_
        simp only [Act.put, List.setIfInBounds_toArray, List.set_cons_zero, List.set_cons_succ]
        refine tkn 15 (some 32) rfl rfl ?_
        simp only [Act.put, List.setIfInBounds_toArray, List.set_cons_zero, List.set_cons_succ]
        refine tk 16 (some 33) rfl rfl ?_
        simp only [Act.put, List.setIfInBounds_toArray, List.set_cons_zero, List.set_cons_succ]
        refine wpAnyH_done (by kernel_rfl) ?_ _
        have S24 := Lib.hid hHeld.2.2.2.2.2.2.2.2.2.2.2.2.2.2.2.2.2.2.2.2.2.2.out
        clear hHeld
        have hc' : C = true := by rw [hc]; simp
        clear hc
        subst hc'
        go_upto_region 5 with (fail)
        refine wp_region_held_drew (S := fun W => W.cell? ⟨w.heap.size, 0, none⟩ = some (.int .i64 a0) ∧ W.cell? ⟨w.heap.size, 1, none⟩ = some (.int .i64 a1) ∧ W.cell? ⟨w.heap.size, 2, none⟩ = some (.int .i64 a2) ∧ W.cell? ⟨w.heap.size, 3, none⟩ = some (.int .i64 a3) ∧ W.cell? ⟨w.heap.size, 4, none⟩ = some (.int .i64 a4) ∧ W.cell? ⟨w.heap.size, 5, none⟩ = some (.bool a5) ∧ W.cell? ⟨w.heap.size, 6, none⟩ = some (.bool true) ∧ W.cell? ⟨w.heap.size, 7, none⟩ = some (.string a7) ∧ W.cell? ⟨w.heap.size, 8, none⟩ = some (.string a8) ∧ W.cell? ⟨w.heap.size, 9, none⟩ = some (.string a9) ∧ W.cell? ⟨w.heap.size, 10, none⟩ = some (.string sa) ∧ W.cell? ⟨w.heap.size + 1, 0, none⟩ = some (.int .i64 b0) ∧ W.cell? ⟨w.heap.size + 1, 1, none⟩ = some (.int .i64 b1) ∧ W.cell? ⟨w.heap.size + 1, 2, none⟩ = some (.int .i64 b2) ∧ W.cell? ⟨w.heap.size + 1, 3, none⟩ = some (.int .i64 b3) ∧ W.cell? ⟨w.heap.size + 1, 4, none⟩ = some (.int .i64 b4) ∧ W.cell? ⟨w.heap.size + 1, 5, none⟩ = some (.bool b5) ∧ W.cell? ⟨w.heap.size + 1, 6, none⟩ = some (.bool true) ∧ W.cell? ⟨w.heap.size + 1, 7, none⟩ = some (.string b7) ∧ W.cell? ⟨w.heap.size + 1, 8, none⟩ = some (.string b8) ∧ W.cell? ⟨w.heap.size + 1, 9, none⟩ = some (.string b9) ∧ W.cell? ⟨w.heap.size + 1, 10, none⟩ = some (.string sb) ∧ Hid (RF16 w W (⟨a0, a1, a2, a3, a4, a5, true, a7, a8, a9⟩, sa) (⟨b0, b1, b2, b3, b4, b5, true, b7, b8, b9⟩, sb))) (by kernel_rfl) ?_ (fun hHeld => ?_)
        · first | exact RF16.all (w := w) (x := (⟨a0, a1, a2, a3, a4, a5, true, a7, a8, a9⟩, sa)) (y := (⟨b0, b1, b2, b3, b4, b5, true, b7, b8, b9⟩, sb)) S24.out.drew | exact RF16.all (w := w) (x := (⟨a0, a1, a2, a3, a4, a5, true, a7, a8, a9⟩, sa)) (y := (⟨b0, b1, b2, b3, b4, b5, true, b7, b8, b9⟩, sb)) S24.out
        clear S24
        refine tk 0 (some 34) rfl rfl ?_
        simp only [Act.put, List.setIfInBounds_toArray, List.set_cons_zero, List.set_cons_succ]
        refine tk 1 (some 35) rfl rfl ?_
        simp only [Act.put, List.setIfInBounds_toArray, List.set_cons_zero, List.set_cons_succ]
        refine tk 2 (some 36) rfl rfl ?_
        simp only [Act.put, List.setIfInBounds_toArray, List.set_cons_zero, List.set_cons_succ]
        refine tk 3 (some 37) rfl rfl ?_
        simp only [Act.put, List.setIfInBounds_toArray, List.set_cons_zero, List.set_cons_succ]
        refine tkn 4 (some 38) rfl rfl ?_
        simp only [Act.put, List.setIfInBounds_toArray, List.set_cons_zero, List.set_cons_succ]
        refine tkn 5 (some 39) rfl rfl ?_
        simp only [Act.put, List.setIfInBounds_toArray, List.set_cons_zero, List.set_cons_succ]
        refine tkn 6 (some 40) rfl rfl ?_
        simp only [Act.put, List.setIfInBounds_toArray, List.set_cons_zero, List.set_cons_succ]
        refine tkn 7 (some 41) rfl rfl ?_
        simp only [Act.put, List.setIfInBounds_toArray, List.set_cons_zero, List.set_cons_succ]
        refine tkn 8 (some 42) rfl rfl ?_
        simp only [Act.put, List.setIfInBounds_toArray, List.set_cons_zero, List.set_cons_succ]
        refine tk 9 (some 43) rfl rfl ?_
        simp only [Act.put, List.setIfInBounds_toArray, List.set_cons_zero, List.set_cons_succ]
        refine tk 10 (some 4) rfl rfl ?_
        simp only [Act.put, List.setIfInBounds_toArray, List.set_cons_zero, List.set_cons_succ]
        refine wpAnyH_done (by kernel_rfl) ?_ _
        have S25 := Lib.hid hHeld.2.2.2.2.2.2.2.2.2.2.2.2.2.2.2.2.2.2.2.2.2.2.out
        clear hHeld
        go_wp2_with fail
        go_ret
        exact ⟨rfl, S25.out.bel⟩
      | false =>
        cases c4 with
        | true =>
          refine wp_region_held_drew (S := fun W => W.cell? ⟨w.heap.size, 0, none⟩ = some (.int .i64 a0) ∧ W.cell? ⟨w.heap.size, 1, none⟩ = some (.int .i64 a1) ∧ W.cell? ⟨w.heap.size, 2, none⟩ = some (.int .i64 a2) ∧ W.cell? ⟨w.heap.size, 3, none⟩ = some (.int .i64 a3) ∧ W.cell? ⟨w.heap.size, 4, none⟩ = some (.int .i64 a4) ∧ W.cell? ⟨w.heap.size, 5, none⟩ = some (.bool a5) ∧ W.cell? ⟨w.heap.size, 6, none⟩ = some (.bool true) ∧ W.cell? ⟨w.heap.size, 7, none⟩ = some (.string a7) ∧ W.cell? ⟨w.heap.size, 8, none⟩ = some (.string a8) ∧ W.cell? ⟨w.heap.size, 9, none⟩ = some (.string a9) ∧ W.cell? ⟨w.heap.size, 10, none⟩ = some (.string sa) ∧ W.cell? ⟨w.heap.size + 1, 0, none⟩ = some (.int .i64 b0) ∧ W.cell? ⟨w.heap.size + 1, 1, none⟩ = some (.int .i64 b1) ∧ W.cell? ⟨w.heap.size + 1, 2, none⟩ = some (.int .i64 b2) ∧ W.cell? ⟨w.heap.size + 1, 3, none⟩ = some (.int .i64 b3) ∧ W.cell? ⟨w.heap.size + 1, 4, none⟩ = some (.int .i64 b4) ∧ W.cell? ⟨w.heap.size + 1, 5, none⟩ = some (.bool b5) ∧ W.cell? ⟨w.heap.size + 1, 6, none⟩ = some (.bool false) ∧ W.cell? ⟨w.heap.size + 1, 7, none⟩ = some (.string b7) ∧ W.cell? ⟨w.heap.size + 1, 8, none⟩ = some (.string b8) ∧ W.cell? ⟨w.heap.size + 1, 9, none⟩ = some (.string b9) ∧ W.cell? ⟨w.heap.size + 1, 10, none⟩ = some (.string sb) ∧ Hid (RF16 w W (⟨a0, a1, a2, a3, a4, a5, true, a7, a8, a9⟩, sa) (⟨b0, b1, b2, b3, b4, b5, false, b7, b8, b9⟩, sb))) (by kernel_rfl) ?_ (fun hHeld => ?_)
          · first | exact RF16.all (w := w) (x := (⟨a0, a1, a2, a3, a4, a5, true, a7, a8, a9⟩, sa)) (y := (⟨b0, b1, b2, b3, b4, b5, false, b7, b8, b9⟩, sb)) S23.out.drew | exact RF16.all (w := w) (x := (⟨a0, a1, a2, a3, a4, a5, true, a7, a8, a9⟩, sa)) (y := (⟨b0, b1, b2, b3, b4, b5, false, b7, b8, b9⟩, sb)) S23.out
          clear S23
          refine tk 0 (some 17) rfl rfl ?_
          simp only [Act.put, List.setIfInBounds_toArray, List.set_cons_zero, List.set_cons_succ]
          refine tk 1 (some 18) rfl rfl ?_
          simp only [Act.put, List.setIfInBounds_toArray, List.set_cons_zero, List.set_cons_succ]
          refine tk 2 (some 19) rfl rfl ?_
          simp only [Act.put, List.setIfInBounds_toArray, List.set_cons_zero, List.set_cons_succ]
          refine tk 3 (some 20) rfl rfl ?_
          simp only [Act.put, List.setIfInBounds_toArray, List.set_cons_zero, List.set_cons_succ]
          refine tk 4 (some 21) rfl rfl ?_
          simp only [Act.put, List.setIfInBounds_toArray, List.set_cons_zero, List.set_cons_succ]
          refine tkn 5 (some 22) rfl rfl ?_
          simp only [Act.put, List.setIfInBounds_toArray, List.set_cons_zero, List.set_cons_succ]
          refine tkn 6 (some 23) rfl rfl ?_
          simp only [Act.put, List.setIfInBounds_toArray, List.set_cons_zero, List.set_cons_succ]
          refine tkn 7 (some 24) rfl rfl ?_
          simp only [Act.put, List.setIfInBounds_toArray, List.set_cons_zero, List.set_cons_succ]
          refine tkn 8 (some 25) rfl rfl ?_
          simp only [Act.put, List.setIfInBounds_toArray, List.set_cons_zero, List.set_cons_succ]
          refine tkn 9 (some 26) rfl rfl ?_
          simp only [Act.put, List.setIfInBounds_toArray, List.set_cons_zero, List.set_cons_succ]
          refine tkn 10 (some 27) rfl rfl ?_
          simp only [Act.put, List.setIfInBounds_toArray, List.set_cons_zero, List.set_cons_succ]
          refine tkn 11 (some 28) rfl rfl ?_
          simp only [Act.put, List.setIfInBounds_toArray, List.set_cons_zero, List.set_cons_succ]
          refine tkn 12 (some 29) rfl rfl ?_
          simp only [Act.put, List.setIfInBounds_toArray, List.set_cons_zero, List.set_cons_succ]
          refine tkn 13 (some 30) rfl rfl ?_
          simp only [Act.put, List.setIfInBounds_toArray, List.set_cons_zero, List.set_cons_succ]
          refine tkn 14 (some 31) rfl rfl ?_
          simp only [Act.put, List.setIfInBounds_toArray, List.set_cons_zero, List.set_cons_succ]
          refine tkn 15 (some 32) rfl rfl ?_
          simp only [Act.put, List.setIfInBounds_toArray, List.set_cons_zero, List.set_cons_succ]
          refine tk 16 (some 33) rfl rfl ?_
          simp only [Act.put, List.setIfInBounds_toArray, List.set_cons_zero, List.set_cons_succ]
          refine wpAnyH_done (by kernel_rfl) ?_ _
          have S26 := Lib.hid hHeld.2.2.2.2.2.2.2.2.2.2.2.2.2.2.2.2.2.2.2.2.2.2.out
          clear hHeld
          have hc' : C = true := by rw [hc]; simp
          clear hc
          subst hc'
          go_upto_region 5 with (fail)
          refine wp_region_held_drew (S := fun W => W.cell? ⟨w.heap.size, 0, none⟩ = some (.int .i64 a0) ∧ W.cell? ⟨w.heap.size, 1, none⟩ = some (.int .i64 a1) ∧ W.cell? ⟨w.heap.size, 2, none⟩ = some (.int .i64 a2) ∧ W.cell? ⟨w.heap.size, 3, none⟩ = some (.int .i64 a3) ∧ W.cell? ⟨w.heap.size, 4, none⟩ = some (.int .i64 a4) ∧ W.cell? ⟨w.heap.size, 5, none⟩ = some (.bool a5) ∧ W.cell? ⟨w.heap.size, 6, none⟩ = some (.bool true) ∧ W.cell? ⟨w.heap.size, 7, none⟩ = some (.string a7) ∧ W.cell? ⟨w.heap.size, 8, none⟩ = some (.string a8) ∧ W.cell? ⟨w.heap.size, 9, none⟩ = some (.string a9) ∧ W.cell? ⟨w.heap.size, 10, none⟩ = some (.string sa) ∧ W.cell? ⟨w.heap.size + 1, 0, none⟩ = some (.int .i64 b0) ∧ W.cell? ⟨w.heap.size + 1, 1, none⟩ = some (.int .i64 b1) ∧ W.cell? ⟨w.heap.size + 1, 2, none⟩ = some (.int .i64 b2) ∧ W.cell? ⟨w.heap.size + 1, 3, none⟩ = some (.int .i64 b3) ∧ W.cell? ⟨w.heap.size + 1, 4, none⟩ = some (.int .i64 b4) ∧ W.cell? ⟨w.heap.size + 1, 5, none⟩ = some (.bool b5) ∧ W.cell? ⟨w.heap.size + 1, 6, none⟩ = some (.bool false) ∧ W.cell? ⟨w.heap.size + 1, 7, none⟩ = some (.string b7) ∧ W.cell? ⟨w.heap.size + 1, 8, none⟩ = some (.string b8) ∧ W.cell? ⟨w.heap.size + 1, 9, none⟩ = some (.string b9) ∧ W.cell? ⟨w.heap.size + 1, 10, none⟩ = some (.string sb) ∧ Hid (RF16 w W (⟨a0, a1, a2, a3, a4, a5, true, a7, a8, a9⟩, sa) (⟨b0, b1, b2, b3, b4, b5, false, b7, b8, b9⟩, sb))) (by kernel_rfl) ?_ (fun hHeld => ?_)
          · first | exact RF16.all (w := w) (x := (⟨a0, a1, a2, a3, a4, a5, true, a7, a8, a9⟩, sa)) (y := (⟨b0, b1, b2, b3, b4, b5, false, b7, b8, b9⟩, sb)) S26.out.drew | exact RF16.all (w := w) (x := (⟨a0, a1, a2, a3, a4, a5, true, a7, a8, a9⟩, sa)) (y := (⟨b0, b1, b2, b3, b4, b5, false, b7, b8, b9⟩, sb)) S26.out
          clear S26
          refine tk 0 (some 34) rfl rfl ?_
          simp only [Act.put, List.setIfInBounds_toArray, List.set_cons_zero, List.set_cons_succ]
          refine tk 1 (some 35) rfl rfl ?_
          simp only [Act.put, List.setIfInBounds_toArray, List.set_cons_zero, List.set_cons_succ]
          refine tk 2 (some 36) rfl rfl ?_
          simp only [Act.put, List.setIfInBounds_toArray, List.set_cons_zero, List.set_cons_succ]
          refine tk 3 (some 37) rfl rfl ?_
          simp only [Act.put, List.setIfInBounds_toArray, List.set_cons_zero, List.set_cons_succ]
          refine tk 4 (some 38) rfl rfl ?_
          simp only [Act.put, List.setIfInBounds_toArray, List.set_cons_zero, List.set_cons_succ]
          refine tk 6 (some 40) rfl rfl ?_
          simp only [Act.put, List.setIfInBounds_toArray, List.set_cons_zero, List.set_cons_succ]
          refine wpAnyH_ready (rs := [5]) (by kernel_rfl) (by simp) ?_
          refine AllReadyH.cons rfl (fun K hK => ?_) AllReadyH.nil
          go_simp
          refine (EA.out _).mono ?_
          rintro e w' ⟨rfl, hb⟩
          refine hK.out _ _ ?_ (fun held5 => ?_)
          · exact RF16.keep (w := w) (x := (⟨a0, a1, a2, a3, a4, a5, true, a7, a8, a9⟩, sa)) (y := (⟨b0, b1, b2, b3, b4, b5, false, b7, b8, b9⟩, sb)) hb hHeld
          clear hK K
          try simp only [Act.put, List.setIfInBounds_toArray, List.set_cons_zero, List.set_cons_succ]
          refine wpAnyH_ready (rs := [7]) (by kernel_rfl) (by simp) ?_
          refine AllReadyH.cons rfl (fun K hK => ?_) AllReadyH.nil
          go_simp
          refine (EB.out _).mono ?_
          rintro e w' ⟨rfl, hb⟩
          refine hK.out _ _ ?_ (fun held7 => ?_)
          · exact RF16.keep (w := w) (x := (⟨a0, a1, a2, a3, a4, a5, true, a7, a8, a9⟩, sa)) (y := (⟨b0, b1, b2, b3, b4, b5, false, b7, b8, b9⟩, sb)) hb held5
          clear hK K
          try simp only [Act.put, List.setIfInBounds_toArray, List.set_cons_zero, List.set_cons_succ]
          refine tk 8 (some 42) rfl rfl ?_
          simp only [Act.put, List.setIfInBounds_toArray, List.set_cons_zero, List.set_cons_succ]
          refine tk 9 (some 43) rfl rfl ?_
          simp only [Act.put, List.setIfInBounds_toArray, List.set_cons_zero, List.set_cons_succ]
          refine tk 10 (some 4) rfl rfl ?_
          simp only [Act.put, List.setIfInBounds_toArray, List.set_cons_zero, List.set_cons_succ]
          refine wpAnyH_done (by kernel_rfl) ?_ _
          have S27 := Lib.hid held7.2.2.2.2.2.2.2.2.2.2.2.2.2.2.2.2.2.2.2.2.2.2.out
          clear held7
          go_wp2_with fail
          go_ret
          exact ⟨rfl, S27.out.bel⟩
        | false =>
          refine wp_region_held_drew (S := fun W => W.cell? ⟨w.heap.size, 0, none⟩ = some (.int .i64 a0) ∧ W.cell? ⟨w.heap.size, 1, none⟩ = some (.int .i64 a1) ∧ W.cell? ⟨w.heap.size, 2, none⟩ = some (.int .i64 a2) ∧ W.cell? ⟨w.heap.size, 3, none⟩ = some (.int .i64 a3) ∧ W.cell? ⟨w.heap.size, 4, none⟩ = some (.int .i64 a4) ∧ W.cell? ⟨w.heap.size, 5, none⟩ = some (.bool a5) ∧ W.cell? ⟨w.heap.size, 6, none⟩ = some (.bool true) ∧ W.cell? ⟨w.heap.size, 7, none⟩ = some (.string a7) ∧ W.cell? ⟨w.heap.size, 8, none⟩ = some (.string a8) ∧ W.cell? ⟨w.heap.size, 9, none⟩ = some (.string a9) ∧ W.cell? ⟨w.heap.size, 10, none⟩ = some (.string sa) ∧ W.cell? ⟨w.heap.size + 1, 0, none⟩ = some (.int .i64 b0) ∧ W.cell? ⟨w.heap.size + 1, 1, none⟩ = some (.int .i64 b1) ∧ W.cell? ⟨w.heap.size + 1, 2, none⟩ = some (.int .i64 b2) ∧ W.cell? ⟨w.heap.size + 1, 3, none⟩ = some (.int .i64 b3) ∧ W.cell? ⟨w.heap.size + 1, 4, none⟩ = some (.int .i64 b4) ∧ W.cell? ⟨w.heap.size + 1, 5, none⟩ = some (.bool b5) ∧ W.cell? ⟨w.heap.size + 1, 6, none⟩ = some (.bool false) ∧ W.cell? ⟨w.heap.size + 1, 7, none⟩ = some (.string b7) ∧ W.cell? ⟨w.heap.size + 1, 8, none⟩ = some (.string b8) ∧ W.cell? ⟨w.heap.size + 1, 9, none⟩ = some (.string b9) ∧ W.cell? ⟨w.heap.size + 1, 10, none⟩ = some (.string sb) ∧ Hid (RF16 w W (⟨a0, a1, a2, a3, a4, a5, true, a7, a8, a9⟩, sa) (⟨b0, b1, b2, b3, b4, b5, false, b7, b8, b9⟩, sb))) (by kernel_rfl) ?_ (fun hHeld => ?_)
          · first | exact RF16.all (w := w) (x := (⟨a0, a1, a2, a3, a4, a5, true, a7, a8, a9⟩, sa)) (y := (⟨b0, b1, b2, b3, b4, b5, false, b7, b8, b9⟩, sb)) S23.out.drew | exact RF16.all (w := w) (x := (⟨a0, a1, a2, a3, a4, a5, true, a7, a8, a9⟩, sa)) (y := (⟨b0, b1, b2, b3, b4, b5, false, b7, b8, b9⟩, sb)) S23.out
          clear S23
          refine tk 0 (some 17) rfl rfl ?_
          simp only [Act.put, List.setIfInBounds_toArray, List.set_cons_zero, List.set_cons_succ]
          refine tk 1 (some 18) rfl rfl ?_
          simp only [Act.put, List.setIfInBounds_toArray, List.set_cons_zero, List.set_cons_succ]
          refine tk 2 (some 19) rfl rfl ?_
          simp only [Act.put, List.setIfInBounds_toArray, List.set_cons_zero, List.set_cons_succ]
          refine tk 3 (some 20) rfl rfl ?_
          simp only [Act.put, List.setIfInBounds_toArray, List.set_cons_zero, List.set_cons_succ]
          refine tk 4 (some 21) rfl rfl ?_
          simp only [Act.put, List.setIfInBounds_toArray, List.set_cons_zero, List.set_cons_succ]
          refine tkn 5 (some 22) rfl rfl ?_
          simp only [Act.put, List.setIfInBounds_toArray, List.set_cons_zero, List.set_cons_succ]
          refine tkn 6 (some 23) rfl rfl ?_
          simp only [Act.put, List.setIfInBounds_toArray, List.set_cons_zero, List.set_cons_succ]
          refine tkn 7 (some 24) rfl rfl ?_
          simp only [Act.put, List.setIfInBounds_toArray, List.set_cons_zero, List.set_cons_succ]
          refine tkn 8 (some 25) rfl rfl ?_
          simp only [Act.put, List.setIfInBounds_toArray, List.set_cons_zero, List.set_cons_succ]
          refine tkn 9 (some 26) rfl rfl ?_
          simp only [Act.put, List.setIfInBounds_toArray, List.set_cons_zero, List.set_cons_succ]
          refine tkn 10 (some 27) rfl rfl ?_
          simp only [Act.put, List.setIfInBounds_toArray, List.set_cons_zero, List.set_cons_succ]
          refine tkn 11 (some 28) rfl rfl ?_
          simp only [Act.put, List.setIfInBounds_toArray, List.set_cons_zero, List.set_cons_succ]
          refine tkn 12 (some 29) rfl rfl ?_
          simp only [Act.put, List.setIfInBounds_toArray, List.set_cons_zero, List.set_cons_succ]
          refine tkn 13 (some 30) rfl rfl ?_
          simp only [Act.put, List.setIfInBounds_toArray, List.set_cons_zero, List.set_cons_succ]
          refine tkn 14 (some 31) rfl rfl ?_
          simp only [Act.put, List.setIfInBounds_toArray, List.set_cons_zero, List.set_cons_succ]
          refine tkn 15 (some 32) rfl rfl ?_
          simp only [Act.put, List.setIfInBounds_toArray, List.set_cons_zero, List.set_cons_succ]
          refine tk 16 (some 33) rfl rfl ?_
          simp only [Act.put, List.setIfInBounds_toArray, List.set_cons_zero, List.set_cons_succ]
          refine wpAnyH_done (by kernel_rfl) ?_ _
          have S28 := Lib.hid hHeld.2.2.2.2.2.2.2.2.2.2.2.2.2.2.2.2.2.2.2.2.2.2.out
          clear hHeld
          have hc' : C = false := by rw [hc]; simp
          clear hc
          subst hc'
          go_upto_region 5 with (fail)
          refine wp_region_held_drew (S := fun W => W.cell? ⟨w.heap.size, 0, none⟩ = some (.int .i64 a0) ∧ W.cell? ⟨w.heap.size, 1, none⟩ = some (.int .i64 a1) ∧ W.cell? ⟨w.heap.size, 2, none⟩ = some (.int .i64 a2) ∧ W.cell? ⟨w.heap.size, 3, none⟩ = some (.int .i64 a3) ∧ W.cell? ⟨w.heap.size, 4, none⟩ = some (.int .i64 a4) ∧ W.cell? ⟨w.heap.size, 5, none⟩ = some (.bool a5) ∧ W.cell? ⟨w.heap.size, 6, none⟩ = some (.bool true) ∧ W.cell? ⟨w.heap.size, 7, none⟩ = some (.string a7) ∧ W.cell? ⟨w.heap.size, 8, none⟩ = some (.string a8) ∧ W.cell? ⟨w.heap.size, 9, none⟩ = some (.string a9) ∧ W.cell? ⟨w.heap.size, 10, none⟩ = some (.string sa) ∧ W.cell? ⟨w.heap.size + 1, 0, none⟩ = some (.int .i64 b0) ∧ W.cell? ⟨w.heap.size + 1, 1, none⟩ = some (.int .i64 b1) ∧ W.cell? ⟨w.heap.size + 1, 2, none⟩ = some (.int .i64 b2) ∧ W.cell? ⟨w.heap.size + 1, 3, none⟩ = some (.int .i64 b3) ∧ W.cell? ⟨w.heap.size + 1, 4, none⟩ = some (.int .i64 b4) ∧ W.cell? ⟨w.heap.size + 1, 5, none⟩ = some (.bool b5) ∧ W.cell? ⟨w.heap.size + 1, 6, none⟩ = some (.bool false) ∧ W.cell? ⟨w.heap.size + 1, 7, none⟩ = some (.string b7) ∧ W.cell? ⟨w.heap.size + 1, 8, none⟩ = some (.string b8) ∧ W.cell? ⟨w.heap.size + 1, 9, none⟩ = some (.string b9) ∧ W.cell? ⟨w.heap.size + 1, 10, none⟩ = some (.string sb) ∧ Hid (RF16 w W (⟨a0, a1, a2, a3, a4, a5, true, a7, a8, a9⟩, sa) (⟨b0, b1, b2, b3, b4, b5, false, b7, b8, b9⟩, sb))) (by kernel_rfl) ?_ (fun hHeld => ?_)
          · first | exact RF16.all (w := w) (x := (⟨a0, a1, a2, a3, a4, a5, true, a7, a8, a9⟩, sa)) (y := (⟨b0, b1, b2, b3, b4, b5, false, b7, b8, b9⟩, sb)) S28.out.drew | exact RF16.all (w := w) (x := (⟨a0, a1, a2, a3, a4, a5, true, a7, a8, a9⟩, sa)) (y := (⟨b0, b1, b2, b3, b4, b5, false, b7, b8, b9⟩, sb)) S28.out
          clear S28
          refine tk 0 (some 34) rfl rfl ?_
          simp only [Act.put, List.setIfInBounds_toArray, List.set_cons_zero, List.set_cons_succ]
          refine tk 1 (some 35) rfl rfl ?_
          simp only [Act.put, List.setIfInBounds_toArray, List.set_cons_zero, List.set_cons_succ]
          refine tk 2 (some 36) rfl rfl ?_
          simp only [Act.put, List.setIfInBounds_toArray, List.set_cons_zero, List.set_cons_succ]
          refine tk 3 (some 37) rfl rfl ?_
          simp only [Act.put, List.setIfInBounds_toArray, List.set_cons_zero, List.set_cons_succ]
          refine tk 4 (some 38) rfl rfl ?_
          simp only [Act.put, List.setIfInBounds_toArray, List.set_cons_zero, List.set_cons_succ]
          refine tk 6 (some 40) rfl rfl ?_
          simp only [Act.put, List.setIfInBounds_toArray, List.set_cons_zero, List.set_cons_succ]
          refine wpAnyH_ready (rs := [5]) (by kernel_rfl) (by simp) ?_
          refine AllReadyH.cons rfl (fun K hK => ?_) AllReadyH.nil
          go_simp
          refine (EA.out _).mono ?_
          rintro e w' ⟨rfl, hb⟩
          refine hK.out _ _ ?_ (fun held5 => ?_)
          · exact RF16.keep (w := w) (x := (⟨a0, a1, a2, a3, a4, a5, true, a7, a8, a9⟩, sa)) (y := (⟨b0, b1, b2, b3, b4, b5, false, b7, b8, b9⟩, sb)) hb hHeld
          clear hK K
          try simp only [Act.put, List.setIfInBounds_toArray, List.set_cons_zero, List.set_cons_succ]
          refine wpAnyH_ready (rs := [7]) (by kernel_rfl) (by simp) ?_
          refine AllReadyH.cons rfl (fun K hK => ?_) AllReadyH.nil
          go_simp
          refine (EB.out _).mono ?_
          rintro e w' ⟨rfl, hb⟩
          refine hK.out _ _ ?_ (fun held7 => ?_)
          · exact RF16.keep (w := w) (x := (⟨a0, a1, a2, a3, a4, a5, true, a7, a8, a9⟩, sa)) (y := (⟨b0, b1, b2, b3, b4, b5, false, b7, b8, b9⟩, sb)) hb held5
          clear hK K
          try simp only [Act.put, List.setIfInBounds_toArray, List.set_cons_zero, List.set_cons_succ]
          refine tk 8 (some 42) rfl rfl ?_
          simp only [Act.put, List.setIfInBounds_toArray, List.set_cons_zero, List.set_cons_succ]
          refine tk 9 (some 43) rfl rfl ?_
          simp only [Act.put, List.setIfInBounds_toArray, List.set_cons_zero, List.set_cons_succ]
          refine tk 10 (some 4) rfl rfl ?_
          simp only [Act.put, List.setIfInBounds_toArray, List.set_cons_zero, List.set_cons_succ]
          refine wpAnyH_done (by kernel_rfl) ?_ _
          have S29 := Lib.hid held7.2.2.2.2.2.2.2.2.2.2.2.2.2.2.2.2.2.2.2.2.2.2.out
          clear held7
          go_wp2_with fail
          go_ret
          exact ⟨rfl, S29.out.bel⟩
    | false =>
      cases bm with
      | true =>
        cases c3 with
        | true =>
          have hc' : C = false := by rw [hc]; simp
          clear hc
          subst hc'
          refine wp_region_held_drew (S := fun W => W.cell? ⟨w.heap.size, 0, none⟩ = some (.int .i64 a0) ∧ W.cell? ⟨w.heap.size, 1, none⟩ = some (.int .i64 a1) ∧ W.cell? ⟨w.heap.size, 2, none⟩ = some (.int .i64 a2) ∧ W.cell? ⟨w.heap.size, 3, none⟩ = some (.int .i64 a3) ∧ W.cell? ⟨w.heap.size, 4, none⟩ = some (.int .i64 a4) ∧ W.cell? ⟨w.heap.size, 5, none⟩ = some (.bool a5) ∧ W.cell? ⟨w.heap.size, 6, none⟩ = some (.bool false) ∧ W.cell? ⟨w.heap.size, 7, none⟩ = some (.string a7) ∧ W.cell? ⟨w.heap.size, 8, none⟩ = some (.string a8) ∧ W.cell? ⟨w.heap.size, 9, none⟩ = some (.string a9) ∧ W.cell? ⟨w.heap.size, 10, none⟩ = some (.string sa) ∧ W.cell? ⟨w.heap.size + 1, 0, none⟩ = some (.int .i64 b0) ∧ W.cell? ⟨w.heap.size + 1, 1, none⟩ = some (.int .i64 b1) ∧ W.cell? ⟨w.heap.size + 1, 2, none⟩ = some (.int .i64 b2) ∧ W.cell? ⟨w.heap.size + 1, 3, none⟩ = some (.int .i64 b3) ∧ W.cell? ⟨w.heap.size + 1, 4, none⟩ = some (.int .i64 b4) ∧ W.cell? ⟨w.heap.size + 1, 5, none⟩ = some (.bool b5) ∧ W.cell? ⟨w.heap.size + 1, 6, none⟩ = some (.bool true) ∧ W.cell? ⟨w.heap.size + 1, 7, none⟩ = some (.string b7) ∧ W.cell? ⟨w.heap.size + 1, 8, none⟩ = some (.string b8) ∧ W.cell? ⟨w.heap.size + 1, 9, none⟩ = some (.string b9) ∧ W.cell? ⟨w.heap.size + 1, 10, none⟩ = some (.string sb) ∧ Hid (RF16 w W (⟨a0, a1, a2, a3, a4, a5, false, a7, a8, a9⟩, sa) (⟨b0, b1, b2, b3, b4, b5, true, b7, b8, b9⟩, sb))) (by kernel_rfl) ?_ (fun hHeld => ?_)
          · first | exact RF16.all (w := w) (x := (⟨a0, a1, a2, a3, a4, a5, false, a7, a8, a9⟩, sa)) (y := (⟨b0, b1, b2, b3, b4, b5, true, b7, b8, b9⟩, sb)) S23.out.drew | exact RF16.all (w := w) (x := (⟨a0, a1, a2, a3, a4, a5, false, a7, a8, a9⟩, sa)) (y := (⟨b0, b1, b2, b3, b4, b5, true, b7, b8, b9⟩, sb)) S23.out
          clear S23
          refine tk 0 (some 17) rfl rfl ?_
          simp only [Act.put, List.setIfInBounds_toArray, List.set_cons_zero, List.set_cons_succ]
          refine tk 1 (some 18) rfl rfl ?_
          simp only [Act.put, List.setIfInBounds_toArray, List.set_cons_zero, List.set_cons_succ]
          refine tk 2 (some 19) rfl rfl ?_
          simp only [Act.put, List.setIfInBounds_toArray, List.set_cons_zero, List.set_cons_succ]
          refine tk 3 (some 20) rfl rfl ?_
          simp only [Act.put, List.setIfInBounds_toArray, List.set_cons_zero, List.set_cons_succ]
          refine tk 4 (some 21) rfl rfl ?_
          simp only [Act.put, List.setIfInBounds_toArray, List.set_cons_zero, List.set_cons_succ]
          refine tk 5 (some 22) rfl rfl ?_
          simp only [Act.put, List.setIfInBounds_toArray, List.set_cons_zero, List.set_cons_succ]
          refine tk 6 (some 23) rfl rfl ?_
          simp only [Act.put, List.setIfInBounds_toArray, List.set_cons_zero, List.set_cons_succ]
          refine tk 7 (some 24) rfl rfl ?_
          simp only [Act.put, List.setIfInBounds_toArray, List.set_cons_zero, List.set_cons_succ]
          refine tk 8 (some 25) rfl rfl ?_
          simp only [Act.put, List.setIfInBounds_toArray, List.set_cons_zero, List.set_cons_succ]
          refine tk 9 (some 26) rfl rfl ?_
          simp only [Act.put, List.setIfInBounds_toArray, List.set_cons_zero, List.set_cons_succ]
          refine tk 10 (some 27) rfl rfl ?_
          simp only [Act.put, List.setIfInBounds_toArray, List.set_cons_zero, List.set_cons_succ]
          refine tk 12 (some 29) rfl rfl ?_
          simp only [Act.put, List.setIfInBounds_toArray, List.set_cons_zero, List.set_cons_succ]
          refine wpAnyH_ready (rs := [11]) (by kernel_rfl) (by simp) ?_
          refine AllReadyH.cons rfl (fun K hK => ?_) AllReadyH.nil
          go_simp
          refine (EB.out _).mono ?_
          rintro e w' ⟨rfl, hb⟩
          refine hK.out _ _ ?_ (fun held11 => ?_)
          · exact RF16.keep (w := w) (x := (⟨a0, a1, a2, a3, a4, a5, false, a7, a8, a9⟩, sa)) (y := (⟨b0, b1, b2, b3, b4, b5, true, b7, b8, b9⟩, sb)) hb hHeld
          clear hK K
          try simp only [Act.put, List.setIfInBounds_toArray, List.set_cons_zero, List.set_cons_succ]
          refine wpAnyH_ready (rs := [13]) (by kernel_rfl) (by simp) ?_
          refine AllReadyH.cons rfl (fun K hK => ?_) AllReadyH.nil
          go_simp
          refine (EA.out _).mono ?_
          rintro e w' ⟨rfl, hb⟩
          refine hK.out _ _ ?_ (fun held13 => ?_)
          · exact RF16.keep (w := w) (x := (⟨a0, a1, a2, a3, a4, a5, false, a7, a8, a9⟩, sa)) (y := (⟨b0, b1, b2, b3, b4, b5, true, b7, b8, b9⟩, sb)) hb held11
          clear hK K
          try simp only [Act.put, List.setIfInBounds_toArray, List.set_cons_zero, List.set_cons_succ]
          refine tk 14 (some 31) rfl rfl ?_
          simp only [Act.put, List.setIfInBounds_toArray, List.set_cons_zero, List.set_cons_succ]
          refine tk 15 (some 32) rfl rfl ?_
          simp only [Act.put, List.setIfInBounds_toArray, List.set_cons_zero, List.set_cons_succ]
          refine tk 16 (some 33) rfl rfl ?_
          simp only [Act.put, List.setIfInBounds_toArray, List.set_cons_zero, List.set_cons_succ]
          refine wpAnyH_done (by kernel_rfl) ?_ _
          have S30 := Lib.hid held13.2.2.2.2.2.2.2.2.2.2.2.2.2.2.2.2.2.2.2.2.2.2.out
          clear held13
          go_wp2_with fail
          go_ret
          exact ⟨rfl, S30.out.bel⟩
        | false =>
          refine wp_region_held_drew (S := fun W => W.cell? ⟨w.heap.size, 0, none⟩ = some (.int .i64 a0) ∧ W.cell? ⟨w.heap.size, 1, none⟩ = some (.int .i64 a1) ∧ W.cell? ⟨w.heap.size, 2, none⟩ = some (.int .i64 a2) ∧ W.cell? ⟨w.heap.size, 3, none⟩ = some (.int .i64 a3) ∧ W.cell? ⟨w.heap.size, 4, none⟩ = some (.int .i64 a4) ∧ W.cell? ⟨w.heap.size, 5, none⟩ = some (.bool a5) ∧ W.cell? ⟨w.heap.size, 6, none⟩ = some (.bool false) ∧ W.cell? ⟨w.heap.size, 7, none⟩ = some (.string a7) ∧ W.cell? ⟨w.heap.size, 8, none⟩ = some (.string a8) ∧ W.cell? ⟨w.heap.size, 9, none⟩ = some (.string a9) ∧ W.cell? ⟨w.heap.size, 10, none⟩ = some (.string sa) ∧ W.cell? ⟨w.heap.size + 1, 0, none⟩ = some (.int .i64 b0) ∧ W.cell? ⟨w.heap.size + 1, 1, none⟩ = some (.int .i64 b1) ∧ W.cell? ⟨w.heap.size + 1, 2, none⟩ = some (.int .i64 b2) ∧ W.cell? ⟨w.heap.size + 1, 3, none⟩ = some (.int .i64 b3) ∧ W.cell? ⟨w.heap.size + 1, 4, none⟩ = some (.int .i64 b4) ∧ W.cell? ⟨w.heap.size + 1, 5, none⟩ = some (.bool b5) ∧ W.cell? ⟨w.heap.size + 1, 6, none⟩ = some (.bool true) ∧ W.cell? ⟨w.heap.size + 1, 7, none⟩ = some (.string b7) ∧ W.cell? ⟨w.heap.size + 1, 8, none⟩ = some (.string b8) ∧ W.cell? ⟨w.heap.size + 1, 9, none⟩ = some (.string b9) ∧ W.cell? ⟨w.heap.size + 1, 10, none⟩ = some (.string sb) ∧ Hid (RF16 w W (⟨a0, a1, a2, a3, a4, a5, false, a7, a8, a9⟩, sa) (⟨b0, b1, b2, b3, b4, b5, true, b7, b8, b9⟩, sb))) (by kernel_rfl) ?_ (fun hHeld => ?_)
          · first | exact RF16.all (w := w) (x := (⟨a0, a1, a2, a3, a4, a5, false, a7, a8, a9⟩, sa)) (y := (⟨b0, b1, b2, b3, b4, b5, true, b7, b8, b9⟩, sb)) S23.out.drew | exact RF16.all (w := w) (x := (⟨a0, a1, a2, a3, a4, a5, false, a7, a8, a9⟩, sa)) (y := (⟨b0, b1, b2, b3, b4, b5, true, b7, b8, b9⟩, sb)) S23.out
          clear S23
          refine tk 0 (some 17) rfl rfl ?_
          simp only [Act.put, List.setIfInBounds_toArray, List.set_cons_zero, List.set_cons_succ]
          refine tk 1 (some 18) rfl rfl ?_
          simp only [Act.put, List.setIfInBounds_toArray, List.set_cons_zero, List.set_cons_succ]
          refine tk 2 (some 19) rfl rfl ?_
          simp only [Act.put, List.setIfInBounds_toArray, List.set_cons_zero, List.set_cons_succ]
          refine tk 3 (some 20) rfl rfl ?_
          simp only [Act.put, List.setIfInBounds_toArray, List.set_cons_zero, List.set_cons_succ]
          refine tk 4 (some 21) rfl rfl ?_
          simp only [Act.put, List.setIfInBounds_toArray, List.set_cons_zero, List.set_cons_succ]
          refine tk 5 (some 22) rfl rfl ?_
          simp only [Act.put, List.setIfInBounds_toArray, List.set_cons_zero, List.set_cons_succ]
          refine tk 6 (some 23) rfl rfl ?_
          simp only [Act.put, List.setIfInBounds_toArray, List.set_cons_zero, List.set_cons_succ]
          refine tk 7 (some 24) rfl rfl ?_
          simp only [Act.put, List.setIfInBounds_toArray, List.set_cons_zero, List.set_cons_succ]
          refine tk 8 (some 25) rfl rfl ?_
          simp only [Act.put, List.setIfInBounds_toArray, List.set_cons_zero, List.set_cons_succ]
          refine tk 9 (some 26) rfl rfl ?_
          simp only [Act.put, List.setIfInBounds_toArray, List.set_cons_zero, List.set_cons_succ]
          refine tk 10 (some 27) rfl rfl ?_
          simp only [Act.put, List.setIfInBounds_toArray, List.set_cons_zero, List.set_cons_succ]
          refine tk 12 (some 29) rfl rfl ?_
          simp only [Act.put, List.setIfInBounds_toArray, List.set_cons_zero, List.set_cons_succ]
          refine wpAnyH_ready (rs := [11]) (by kernel_rfl) (by simp) ?_
          refine AllReadyH.cons rfl (fun K hK => ?_) AllReadyH.nil
          go_simp
          refine (EB.out _).mono ?_
          rintro e w' ⟨rfl, hb⟩
          refine hK.out _ _ ?_ (fun held11 => ?_)
          · exact RF16.keep (w := w) (x := (⟨a0, a1, a2, a3, a4, a5, false, a7, a8, a9⟩, sa)) (y := (⟨b0, b1, b2, b3, b4, b5, true, b7, b8, b9⟩, sb)) hb hHeld
          clear hK K
          try simp only [Act.put, List.setIfInBounds_toArray, List.set_cons_zero, List.set_cons_succ]
          refine wpAnyH_ready (rs := [13]) (by kernel_rfl) (by simp) ?_
          refine AllReadyH.cons rfl (fun K hK => ?_) AllReadyH.nil
          go_simp
          refine (EA.out _).mono ?_
          rintro e w' ⟨rfl, hb⟩
          refine hK.out _ _ ?_ (fun held13 => ?_)
          · exact RF16.keep (w := w) (x := (⟨a0, a1, a2, a3, a4, a5, false, a7, a8, a9⟩, sa)) (y := (⟨b0, b1, b2, b3, b4, b5, true, b7, b8, b9⟩, sb)) hb held11
          clear hK K
          try simp only [Act.put, List.setIfInBounds_toArray, List.set_cons_zero, List.set_cons_succ]
          refine tk 14 (some 31) rfl rfl ?_
          simp only [Act.put, List.setIfInBounds_toArray, List.set_cons_zero, List.set_cons_succ]
          refine tk 15 (some 32) rfl rfl ?_
          simp only [Act.put, List.setIfInBounds_toArray, List.set_cons_zero, List.set_cons_succ]
          refine tk 16 (some 33) rfl rfl ?_
          simp only [Act.put, List.setIfInBounds_toArray, List.set_cons_zero, List.set_cons_succ]
          refine wpAnyH_done (by kernel_rfl) ?_ _
          have S31 := Lib.hid held13.2.2.2.2.2.2.2.2.2.2.2.2.2.2.2.2.2.2.2.2.2.2.out
          clear held13
          have hc' : C = true := by rw [hc]; simp
          clear hc
          subst hc'
          go_upto_region 5 with (fail)
          refine wp_region_held_drew (S := fun W => W.cell? ⟨w.heap.size, 0, none⟩ = some (.int .i64 a0) ∧ W.cell? ⟨w.heap.size, 1, none⟩ = some (.int .i64 a1) ∧ W.cell? ⟨w.heap.size, 2, none⟩ = some (.int .i64 a2) ∧ W.cell? ⟨w.heap.size, 3, none⟩ = some (.int .i64 a3) ∧ W.cell? ⟨w.heap.size, 4, none⟩ = some (.int .i64 a4) ∧ W.cell? ⟨w.heap.size, 5, none⟩ = some (.bool a5) ∧ W.cell? ⟨w.heap.size, 6, none⟩ = some (.bool false) ∧ W.cell? ⟨w.heap.size, 7, none⟩ = some (.string a7) ∧ W.cell? ⟨w.heap.size, 8, none⟩ = some (.string a8) ∧ W.cell? ⟨w.heap.size, 9, none⟩ = some (.string a9) ∧ W.cell? ⟨w.heap.size, 10, none⟩ = some (.string sa) ∧ W.cell? ⟨w.heap.size + 1, 0, none⟩ = some (.int .i64 b0) ∧ W.cell? ⟨w.heap.size + 1, 1, none⟩ = some (.int .i64 b1) ∧ W.cell? ⟨w.heap.size + 1, 2, none⟩ = some (.int .i64 b2) ∧ W.cell? ⟨w.heap.size + 1, 3, none⟩ = some (.int .i64 b3) ∧ W.cell? ⟨w.heap.size + 1, 4, none⟩ = some (.int .i64 b4) ∧ W.cell? ⟨w.heap.size + 1, 5, none⟩ = some (.bool b5) ∧ W.cell? ⟨w.heap.size + 1, 6, none⟩ = some (.bool true) ∧ W.cell? ⟨w.heap.size + 1, 7, none⟩ = some (.string b7) ∧ W.cell? ⟨w.heap.size + 1, 8, none⟩ = some (.string b8) ∧ W.cell? ⟨w.heap.size + 1, 9, none⟩ = some (.string b9) ∧ W.cell? ⟨w.heap.size + 1, 10, none⟩ = some (.string sb) ∧ Hid (RF16 w W (⟨a0, a1, a2, a3, a4, a5, false, a7, a8, a9⟩, sa) (⟨b0, b1, b2, b3, b4, b5, true, b7, b8, b9⟩, sb))) (by kernel_rfl) ?_ (fun hHeld => ?_)
          · first | exact RF16.all (w := w) (x := (⟨a0, a1, a2, a3, a4, a5, false, a7, a8, a9⟩, sa)) (y := (⟨b0, b1, b2, b3, b4, b5, true, b7, b8, b9⟩, sb)) S31.out.drew | exact RF16.all (w := w) (x := (⟨a0, a1, a2, a3, a4, a5, false, a7, a8, a9⟩, sa)) (y := (⟨b0, b1, b2, b3, b4, b5, true, b7, b8, b9⟩, sb)) S31.out
          clear S31
          refine tk 0 (some 34) rfl rfl ?_
          simp only [Act.put, List.setIfInBounds_toArray, List.set_cons_zero, List.set_cons_succ]
          refine tk 1 (some 35) rfl rfl ?_
          simp only [Act.put, List.setIfInBounds_toArray, List.set_cons_zero, List.set_cons_succ]
          refine tk 2 (some 36) rfl rfl ?_
          simp only [Act.put, List.setIfInBounds_toArray, List.set_cons_zero, List.set_cons_succ]
          refine tk 3 (some 37) rfl rfl ?_
          simp only [Act.put, List.setIfInBounds_toArray, List.set_cons_zero, List.set_cons_succ]
          refine tkn 4 (some 38) rfl rfl ?_
          simp only [Act.put, List.setIfInBounds_toArray, List.set_cons_zero, List.set_cons_succ]
          refine tkn 5 (some 39) rfl rfl ?_
          simp only [Act.put, List.setIfInBounds_toArray, List.set_cons_zero, List.set_cons_succ]
          refine tkn 6 (some 40) rfl rfl ?_
          simp only [Act.put, List.setIfInBounds_toArray, List.set_cons_zero, List.set_cons_succ]
          refine tkn 7 (some 41) rfl rfl ?_
          simp only [Act.put, List.setIfInBounds_toArray, List.set_cons_zero, List.set_cons_succ]
          refine tkn 8 (some 42) rfl rfl ?_
          simp only [Act.put, List.setIfInBounds_toArray, List.set_cons_zero, List.set_cons_succ]
          refine tk 9 (some 43) rfl rfl ?_
          simp only [Act.put, List.setIfInBounds_toArray, List.set_cons_zero, List.set_cons_succ]
          refine tk 10 (some 4) rfl rfl ?_
          simp only [Act.put, List.setIfInBounds_toArray, List.set_cons_zero, List.set_cons_succ]
          refine wpAnyH_done (by kernel_rfl) ?_ _
          have S32 := Lib.hid hHeld.2.2.2.2.2.2.2.2.2.2.2.2.2.2.2.2.2.2.2.2.2.2.out
          clear hHeld
          go_wp2_with fail
          go_ret
          exact ⟨rfl, S32.out.bel⟩
      | false =>
        have hc' : C = false := by rw [hc]; simp
        clear hc
        subst hc'
        refine wp_region_held_drew (S := fun W => W.cell? ⟨w.heap.size, 0, none⟩ = some (.int .i64 a0) ∧ W.cell? ⟨w.heap.size, 1, none⟩ = some (.int .i64 a1) ∧ W.cell? ⟨w.heap.size, 2, none⟩ = some (.int .i64 a2) ∧ W.cell? ⟨w.heap.size, 3, none⟩ = some (.int .i64 a3) ∧ W.cell? ⟨w.heap.size, 4, none⟩ = some (.int .i64 a4) ∧ W.cell? ⟨w.heap.size, 5, none⟩ = some (.bool a5) ∧ W.cell? ⟨w.heap.size, 6, none⟩ = some (.bool false) ∧ W.cell? ⟨w.heap.size, 7, none⟩ = some (.string a7) ∧ W.cell? ⟨w.heap.size, 8, none⟩ = some (.string a8) ∧ W.cell? ⟨w.heap.size, 9, none⟩ = some (.string a9) ∧ W.cell? ⟨w.heap.size, 10, none⟩ = some (.string sa) ∧ W.cell? ⟨w.heap.size + 1, 0, none⟩ = some (.int .i64 b0) ∧ W.cell? ⟨w.heap.size + 1, 1, none⟩ = some (.int .i64 b1) ∧ W.cell? ⟨w.heap.size + 1, 2, none⟩ = some (.int .i64 b2) ∧ W.cell? ⟨w.heap.size + 1, 3, none⟩ = some (.int .i64 b3) ∧ W.cell? ⟨w.heap.size + 1, 4, none⟩ = some (.int .i64 b4) ∧ W.cell? ⟨w.heap.size + 1, 5, none⟩ = some (.bool b5) ∧ W.cell? ⟨w.heap.size + 1, 6, none⟩ = some (.bool false) ∧ W.cell? ⟨w.heap.size + 1, 7, none⟩ = some (.string b7) ∧ W.cell? ⟨w.heap.size + 1, 8, none⟩ = some (.string b8) ∧ W.cell? ⟨w.heap.size + 1, 9, none⟩ = some (.string b9) ∧ W.cell? ⟨w.heap.size + 1, 10, none⟩ = some (.string sb) ∧ Hid (RF16 w W (⟨a0, a1, a2, a3, a4, a5, false, a7, a8, a9⟩, sa) (⟨b0, b1, b2, b3, b4, b5, false, b7, b8, b9⟩, sb))) (by kernel_rfl) ?_ (fun hHeld => ?_)
        · first | exact RF16.all (w := w) (x := (⟨a0, a1, a2, a3, a4, a5, false, a7, a8, a9⟩, sa)) (y := (⟨b0, b1, b2, b3, b4, b5, false, b7, b8, b9⟩, sb)) S23.out.drew | exact RF16.all (w := w) (x := (⟨a0, a1, a2, a3, a4, a5, false, a7, a8, a9⟩, sa)) (y := (⟨b0, b1, b2, b3, b4, b5, false, b7, b8, b9⟩, sb)) S23.out
        clear S23
        refine tk 0 (some 17) rfl rfl ?_
        simp only [Act.put, List.setIfInBounds_toArray, List.set_cons_zero, List.set_cons_succ]
        refine tk 1 (some 18) rfl rfl ?_
        simp only [Act.put, List.setIfInBounds_toArray, List.set_cons_zero, List.set_cons_succ]
        refine tk 2 (some 19) rfl rfl ?_
        simp only [Act.put, List.setIfInBounds_toArray, List.set_cons_zero, List.set_cons_succ]
        refine tk 3 (some 20) rfl rfl ?_
        simp only [Act.put, List.setIfInBounds_toArray, List.set_cons_zero, List.set_cons_succ]
        refine tk 4 (some 21) rfl rfl ?_
        simp only [Act.put, List.setIfInBounds_toArray, List.set_cons_zero, List.set_cons_succ]
        refine tk 5 (some 22) rfl rfl ?_
        simp only [Act.put, List.setIfInBounds_toArray, List.set_cons_zero, List.set_cons_succ]
        refine tk 6 (some 23) rfl rfl ?_
        simp only [Act.put, List.setIfInBounds_toArray, List.set_cons_zero, List.set_cons_succ]
        refine tk 7 (some 24) rfl rfl ?_
        simp only [Act.put, List.setIfInBounds_toArray, List.set_cons_zero, List.set_cons_succ]
        refine tk 8 (some 25) rfl rfl ?_
        simp only [Act.put, List.setIfInBounds_toArray, List.set_cons_zero, List.set_cons_succ]
        refine tk 9 (some 26) rfl rfl ?_
        simp only [Act.put, List.setIfInBounds_toArray, List.set_cons_zero, List.set_cons_succ]
        refine tkn 10 (some 27) rfl rfl ?_
        simp only [Act.put, List.setIfInBounds_toArray, List.set_cons_zero, List.set_cons_succ]
        refine tkn 11 (some 28) rfl rfl ?_
        simp only [Act.put, List.setIfInBounds_toArray, List.set_cons_zero, List.set_cons_succ]
        refine tkn 12 (some 29) rfl rfl ?_
        simp only [Act.put, List.setIfInBounds_toArray, List.set_cons_zero, List.set_cons_succ]
        refine tkn 13 (some 30) rfl rfl ?_
        simp only [Act.put, List.setIfInBounds_toArray, List.set_cons_zero, List.set_cons_succ]
        refine tkn 14 (some 31) rfl rfl ?_
        simp only [Act.put, List.setIfInBounds_toArray, List.set_cons_zero, List.set_cons_succ]
        refine tk 15 (some 32) rfl rfl ?_
        simp only [Act.put, List.setIfInBounds_toArray, List.set_cons_zero, List.set_cons_succ]
        refine tk 16 (some 33) rfl rfl ?_
        simp only [Act.put, List.setIfInBounds_toArray, List.set_cons_zero, List.set_cons_succ]
        refine wpAnyH_done (by kernel_rfl) ?_ _
        have S33 := Lib.hid hHeld.2.2.2.2.2.2.2.2.2.2.2.2.2.2.2.2.2.2.2.2.2.2.out
        clear hHeld
        go_wp2_with fail
        go_ret
        exact ⟨rfl, S33.out.bel⟩

end Go.Proofs.Ytoijomdgcgbpbaa
