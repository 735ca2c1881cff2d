/-
  ReasmOnce returns true at every input.
-/
import Derived.Test.YtoijomdgcgbpbaaReasmM
import Derived.Test.YtoijomdgcgbpbaaReasmRun
import Derived.Test.YtoijomdgcgbpbaaOpenU16s
import Derived.Deep.QuietTactic
import Derived.BigQuiet
namespace Go.Proofs.Ytoijomdgcgbpbaa
open Go.RowKit Go.Shelf
set_option linter.unusedVariables false

/-- A header without its offset and without MF. -/
def H4.half16 (h : H4) : H4 := { h with off := 0, mf := false }
theorem Held.half16 {w W : World} {h : H4} (r : Held w W h) : Held w ((W.setCell ⟨w.heap.size, 2, none⟩ (.int .i64 0)).setCell ⟨w.heap.size, 6, none⟩ (.bool false)) h.half16 :=
  ⟨(r.b.set 2 (.int .i64 0)).set 6 (.bool false), (r.bel.setCell (p := ⟨w.heap.size, 2, none⟩) (Nat.le_refl _) _).setCell (p := ⟨w.heap.size, 6, none⟩) (Nat.le_refl _) _, by have := r.lt; simpa using this⟩

/-- The law's run: the table, the three blocks of its closure, the pieces. -/
structure Onc16 (w w4 : World) (tb vb tB mB pB : Nat) (T : List ByteArray) (P : ByteArray) (W : World) (n : Int) (l : List E16) : Prop where
  tab : TbL16 (fun i => (w4.heap.size ≤ i ∧ i ≠ tB) ∧ i ≠ mB) W tb 64 1048576 64 l
  bel : Below w.heap.size w W
  size : w4.heap.size ≤ W.heap.size
  cell : ∀ (i : Nat) (h : i < T.length), W.cell? ⟨vb, i, none⟩ = some (.string (T[i]'h))
  base : w.heap.size ≤ w4.heap.size
  vlt : vb < w4.heap.size
  bt : Blk W tB #[.pointer (some ⟨tb, 0, none⟩)] 27
  bm : Blk W mB #[.int .i64 n] 3
  bp : Blk W pB #[.string P] 9
  plt : pB < w4.heap.size
  at_ : w4.heap.size ≤ tB ∧ w4.heap.size ≤ mB ∧ tB ≠ mB
theorem Onc16.below {w w4 : World} {tb vb tB mB pB : Nat} {T : List ByteArray} {P : ByteArray} {W W' : World} {n : Int} {l : List E16} (h : Onc16 w w4 tb vb tB mB pB T P W n l) (b : Below W.heap.size W W') : Onc16 w w4 tb vb tB mB pB T P W' n l :=
  ⟨h.tab.below b, h.bel.trans (b.mono h.bel.size), Nat.le_trans h.size b.size, fun i hi => (b.cell (p := ⟨vb, i, none⟩) (Nat.lt_of_lt_of_le h.vlt h.size)).trans (h.cell i hi), h.base, h.vlt, (b.block _ h.bt.lt).trans h.bt, (b.block _ h.bm.lt).trans h.bm, (b.block _ h.bp.lt).trans h.bp, h.plt, h.at_⟩
theorem Onc16.add {w w4 : World} {tb vb tB mB pB : Nat} {T : List ByteArray} {P : ByteArray} {W W' : World} {n : Int} {l l' : List E16} (h : Onc16 w w4 tb vb tB mB pB T P W n l) (t : TbL16 (fun i => (w4.heap.size ≤ i ∧ i ≠ tB) ∧ i ≠ mB) W' tb 64 1048576 64 l') (k : Kb (fun i => (w4.heap.size ≤ i ∧ i ≠ tB) ∧ i ≠ mB) W W') : Onc16 w w4 tb vb tB mB pB T P W' n l' :=
  have k' := k.mono (T := fun i => w4.heap.size ≤ i) (fun _ _ e => e.1.1)
  ⟨t, h.bel.trans ((k'.below h.size).mono h.base), Nat.le_trans h.size k.size, fun i hi => (k'.cellK (p := ⟨vb, i, none⟩) (Nat.lt_of_lt_of_le h.vlt h.size) (Nat.not_le.2 h.vlt)).trans (h.cell i hi), h.base, h.vlt,
    (k.block _ h.bt.lt (fun e => e.1.2 rfl)).trans h.bt, (k.block _ h.bm.lt (fun e => e.2 rfl)).trans h.bm, (k.block _ h.bp.lt (fun e => by have := e.1.1; have := h.plt; omega)).trans h.bp, h.plt, h.at_⟩
theorem Onc16.set {w w4 : World} {tb vb tB mB pB : Nat} {T : List ByteArray} {P : ByteArray} {W : World} {n : Int} {l : List E16} (h : Onc16 w w4 tb vb tB mB pB T P W n l) (n' : Int) : Onc16 w w4 tb vb tB mB pB T P (W.setCell ⟨mB, 0, none⟩ (.int .i64 n')) n' l :=
  have k : Kb (fun i => i = mB) W (W.setCell ⟨mB, 0, none⟩ (.int .i64 n')) := Kb.setCell (S := fun i => i = mB) (Kb.refl _ _) (p := ⟨mB, 0, none⟩) (fun _ => rfl) _
  have hm := h.at_.2.1
  ⟨h.tab.kb k (fun i hi e => hi.2 e), h.bel.setCell (p := ⟨mB, 0, none⟩) (Nat.le_trans h.base hm) _, by simpa [World.setCell] using h.size, fun i hi => (k.cellK (p := ⟨vb, i, none⟩) (Nat.lt_of_lt_of_le h.vlt h.size) (fun e => by have := h.vlt; have e2 : vb = mB := e; omega)).trans (h.cell i hi), h.base, h.vlt,
    Blk.set_other h.bt (p := ⟨mB, 0, none⟩) h.at_.2.2 _, h.bm.set 0 _, Blk.set_other h.bp (p := ⟨mB, 0, none⟩) (fun e => by have := h.plt; have e2 : pB = mB := e; omega) _, h.plt, h.at_⟩

/-- How often the packet was made. -/
def made1 (d : Bool) : Int := if d = true then 1 else 0
set_option maxRecDepth 100000 in
set_option maxHeartbeats 1000000 in
theorem once1_any {w w4 : World} {tb vb tB mB pB : Nat} {T : List ByteArray} {P : ByteArray} {d d' : Bool} {l l' : List E16} (x q : ByteArray) (f : Nat) (hx : x.size ≤ 65535) (hadd : add16 64 1048576 l x = ((q, f), l')) (hc : (f = 10 ∧ d = false ∧ d' = false) ∨ (f = 0 ∧ q = P ∧ d = false ∧ d' = true) ∨ (f = 12 ∧ d = true ∧ d' = true)) (W : World) (h : Onc16 w w4 tb vb tB mB pB T P W (made1 d) l) :
    Calls Try.prog 25 #[.string x, .pointer (some ⟨tB, 0, none⟩), .pointer (some ⟨mB, 0, none⟩), .pointer (some ⟨pB, 0, none⟩)] W fun r W' => r = .returned (.bool true) ∧ Onc16 w w4 tb vb tB mB pB T P W' (made1 d') l' := by
  have HADD := Lib.hid (addL16 x (by omega) W h.tab)
  rw [hadd] at HADD
  dsimp only at HADD
  have HH := Lib.hid h
  have HC := Lib.hid hc
  clear h hadd hc hx
  have c0 := HH.out.bt.cell 0
  simp only [List.getElem?_toArray, List.getElem?_cons_zero] at c0
  go_enter Try.func25, Try.ntmps25
  go_wp2_with fail
  refine HADD.out.mono ?_
  rintro e w1 ⟨rfl, ht, hk1⟩
  have H1 := Lib.hid (HH.out.add ht hk1)
  clear ht hk1 HADD HH c0
  have c1 := H1.out.bm.cell 0
  have c2 := H1.out.bp.cell 0
  have f1 := H1.out.bm.frozen 0
  simp only [List.getElem?_toArray, List.getElem?_cons_zero] at c1 c2
  rcases HC.out with ⟨rfl, rfl, rfl⟩ | ⟨rfl, rfl, rfl, rfl⟩ | ⟨rfl, rfl, rfl⟩
  · clear HC
    go_wp2_with fail
    go_ret
    exact ⟨rfl, H1.out⟩
  · have H2 := Lib.hid (H1.out.set 1)
    have d2 := H2.out.bp.cell 0
    have d1 := H2.out.bm.cell 0
    simp only [List.getElem?_toArray, List.getElem?_cons_zero] at d1 d2
    have s1 := str_eq q
    unfold made1 at c1
    clear HC
    go_wp2_with fail
    go_ret
    exact ⟨rfl, H2.out⟩
  · clear HC
    unfold made1 at c1
    go_wp2_with fail
    go_ret
    exact ⟨rfl, H1.out⟩

end Go.Proofs.Ytoijomdgcgbpbaa
