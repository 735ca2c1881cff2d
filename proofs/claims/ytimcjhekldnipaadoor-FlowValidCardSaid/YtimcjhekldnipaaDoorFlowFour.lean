/-
  The four arguments' blocks of the law FlowValid.
-/
import Derived.Test.YtimcjhekldnipaaDoorFlowTwo
import Derived.Test.YtimcjhekldnipaaDoorFlowMade
import Derived.Test.YtimcjhekldnipaaDoorTcpRefPut
import Derived.Test.YtimcjhekldnipaaDoorUdpB
import Derived.Test.YtimcjhekldnipaaDoorTcpD
namespace Go.Proofs.YtimcjhekldnipaaDoor
open Go.RowKit
set_option linter.unusedVariables false

structure Four9 (w W : World) (h : H4) (k : H6) (s : S7) (d : D8) : Prop where
  b4 : Blk W w.heap.size h.cells 23
  b6 : Blk W (w.heap.size + 1) k.cells 25
  b7 : Blk W (w.heap.size + 1 + 1) s.cells 39
  b8 : Blk W (w.heap.size + 1 + 1 + 1) d.cells 41
  bel : Below w.heap.size w W
  pl : Places W
theorem Four9.below {w W W' : World} {h : H4} {k : H6} {s : S7} {d : D8} (r : Four9 w W h k s d) (hb : Below W.heap.size W W') : Four9 w W' h k s d :=
  ⟨(hb.block _ r.b4.lt).trans r.b4, (hb.block _ r.b6.lt).trans r.b6, (hb.block _ r.b7.lt).trans r.b7, (hb.block _ r.b8.lt).trans r.b8, r.bel.trans (hb.mono r.bel.size), r.pl.below hb r.pl.lt⟩
theorem Four9.drewN {w W : World} {h : H4} {k : H6} {s : S7} {d : D8} (r : Four9 w W h k s d) (n : Nat) : Four9 w (W.drewN n) h k s d :=
  ⟨r.b4.drewN n, r.b6.drewN n, r.b7.drewN n, r.b8.drewN n, below_drewN r.bel n, ⟨r.pl.at0⟩⟩
theorem Four9.alloc {w W : World} {h : H4} {k : H6} {s : S7} {d : D8} (r : Four9 w W h k s d) (o : Obj) : Four9 w (W.alloc o) h k s d :=
  r.below ((Below.refl _ _).alloc (Nat.le_refl _) o)
theorem Four9.new (w : World) (h : H4) (k : H6) (s : S7) (d : D8) (hg : Places w) : Four9 w ((((w.alloc (.cells h.cells 23)).alloc (.cells k.cells 25)).alloc (.cells s.cells 39)).alloc (.cells d.cells 41)) h k s d := by
  have e1 := Blk.new w h.cells 23
  have b1 : Below w.heap.size w (w.alloc (.cells h.cells 23)) := (Below.refl _ _).alloc (Nat.le_refl _) _
  have s1 : (w.alloc (.cells h.cells 23)).heap.size = w.heap.size + 1 := by simp
  generalize w.alloc (.cells h.cells 23) = w1 at *
  have e2 := Blk.new w1 k.cells 25
  have b2 : Below w.heap.size w (w1.alloc (.cells k.cells 25)) := b1.alloc (by omega) _
  have s2 : (w1.alloc (.cells k.cells 25)).heap.size = w.heap.size + 1 + 1 := by simp; omega
  have e1' := e1.alloc (.cells k.cells 25)
  rw [s1] at e2
  generalize w1.alloc (.cells k.cells 25) = w2 at *
  have e3 := Blk.new w2 s.cells 39
  have b3 : Below w.heap.size w (w2.alloc (.cells s.cells 39)) := b2.alloc (by omega) _
  have s3 : (w2.alloc (.cells s.cells 39)).heap.size = w.heap.size + 1 + 1 + 1 := by simp; omega
  have e1'' := e1'.alloc (.cells s.cells 39)
  have e2'' := e2.alloc (.cells s.cells 39)
  rw [s2] at e3
  generalize w2.alloc (.cells s.cells 39) = w3 at *
  have e4 := Blk.new w3 d.cells 41
  rw [s3] at e4
  have b4 : Below w.heap.size w (w3.alloc (.cells d.cells 41)) := b3.alloc (by omega) _
  exact ⟨e1''.alloc _, e2''.alloc _, e3.alloc _, e4, b4, hg.below b4 hg.lt⟩
/-- A header with another protocol; no piece. -/
def H4.of (h : H4) (n : Int) : H4 := ⟨h.tos, h.id, h.off, h.ttl, n, h.df, h.mf, h.src, h.dst, h.opt⟩
def H6.of (h : H6) (n : Int) : H6 := ⟨h.cls, h.lab, n, h.hops, h.src, h.dst⟩
def H4.whole (h : H4) : H4 := ⟨h.tos, h.id, 0, h.ttl, h.proto, h.df, false, h.src, h.dst, h.opt⟩
theorem Four9.of {w W : World} {h : H4} {k : H6} {s : S7} {d : D8} (r : Four9 w W h k s d) (n : Int) : Four9 w ((W.setCell ⟨w.heap.size, 4, none⟩ (.int .i64 n)).setCell ⟨w.heap.size + 1, 2, none⟩ (.int .i64 n)) (h.of n) (k.of n) s d := by
  have K : Kb (fun k => w.heap.size ≤ k) w ((W.setCell ⟨w.heap.size, 4, none⟩ (.int .i64 n)).setCell ⟨w.heap.size + 1, 2, none⟩ (.int .i64 n)) :=
    (Kb.setCell (S := fun k => w.heap.size ≤ k) (Kb.setCell (S := fun k => w.heap.size ≤ k) ⟨r.bel.os, r.bel.tape, r.bel.output, r.bel.size, fun k hk _ => r.bel.block k hk⟩ (p := ⟨w.heap.size, 4, none⟩) (fun _ => Nat.le_refl _) _) (p := ⟨w.heap.size + 1, 2, none⟩) (fun _ => Nat.le_succ _) _)
  have L := K.below (Nat.le_refl _)
  have p0 := r.pl
  have hw : 0 < w.heap.size ∨ w.heap.size = 0 := by omega
  refine ⟨(r.b4.set 4 (.int .i64 n)).set_other (p := ⟨w.heap.size + 1, 2, none⟩) (by dsimp only; omega) _, (r.b6.set_other (p := ⟨w.heap.size, 4, none⟩) (by dsimp only; omega) _).set 2 (.int .i64 n), (r.b7.set_other (p := ⟨w.heap.size, 4, none⟩) (by dsimp only; omega) _).set_other (p := ⟨w.heap.size + 1, 2, none⟩) (by dsimp only; omega) _, (r.b8.set_other (p := ⟨w.heap.size, 4, none⟩) (by dsimp only; omega) _).set_other (p := ⟨w.heap.size + 1, 2, none⟩) (by dsimp only; omega) _, L, ?_⟩
  obtain ⟨T, fr, h0⟩ := p0.at0
  rcases hw with hw | hw
  · exact ⟨T, fr, (L.block 0 hw).trans ((r.bel.block 0 hw).symm.trans h0)⟩
  · have b := r.b4
    unfold Blk at b
    rw [hw, h0] at b
    simp at b
    exact absurd b.1 (by unfold places8 H4.cells; simp)
theorem Four9.unpieced {w W : World} {h : H4} {k : H6} {s : S7} {d : D8} (r : Four9 w W h k s d) : Four9 w ((W.setCell ⟨w.heap.size, 2, none⟩ (.int .i64 0)).setCell ⟨w.heap.size, 6, none⟩ (.bool false)) h.whole k s d := by
  have K : Kb (fun k => w.heap.size ≤ k) w ((W.setCell ⟨w.heap.size, 2, none⟩ (.int .i64 0)).setCell ⟨w.heap.size, 6, none⟩ (.bool false)) :=
    (Kb.setCell (S := fun k => w.heap.size ≤ k) (Kb.setCell (S := fun k => w.heap.size ≤ k) ⟨r.bel.os, r.bel.tape, r.bel.output, r.bel.size, fun k hk _ => r.bel.block k hk⟩ (p := ⟨w.heap.size, 2, none⟩) (fun _ => Nat.le_refl _) _) (p := ⟨w.heap.size, 6, none⟩) (fun _ => Nat.le_refl _) _)
  have L := K.below (Nat.le_refl _)
  have p0 := r.pl
  have hw : 0 < w.heap.size ∨ w.heap.size = 0 := by omega
  refine ⟨(r.b4.set 2 (.int .i64 0)).set 6 (.bool false), (r.b6.set_other (p := ⟨w.heap.size, 2, none⟩) (by dsimp only; omega) _).set_other (p := ⟨w.heap.size, 6, none⟩) (by dsimp only; omega) _, (r.b7.set_other (p := ⟨w.heap.size, 2, none⟩) (by dsimp only; omega) _).set_other (p := ⟨w.heap.size, 6, none⟩) (by dsimp only; omega) _, (r.b8.set_other (p := ⟨w.heap.size, 2, none⟩) (by dsimp only; omega) _).set_other (p := ⟨w.heap.size, 6, none⟩) (by dsimp only; omega) _, L, ?_⟩
  obtain ⟨T, fr, h0⟩ := p0.at0
  rcases hw with hw | hw
  · exact ⟨T, fr, (L.block 0 hw).trans ((r.bel.block 0 hw).symm.trans h0)⟩
  · have b := r.b4
    unfold Blk at b
    rw [hw, h0] at b
    simp at b
    exact absurd b.1 (by unfold places8 H4.cells; simp)

end Go.Proofs.YtimcjhekldnipaaDoor
