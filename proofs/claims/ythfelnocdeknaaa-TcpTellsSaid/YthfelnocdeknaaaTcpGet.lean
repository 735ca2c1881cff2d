/-
  Get: what bytes say as a segment.
-/
import Derived.Test.YthfelnocdeknaaaTcpRead
import Derived.RegionTactic
import Derived.BigRegion
namespace Go.Proofs.Ythfelnocdeknaaa
open Go.RowKit
set_option linter.unusedVariables false

/-- What the closure leaves. -/
def Got7At (p : ByteArray) (H Y : Nat) (k : Int) (u : World) : Prop := k = (get7E p : Nat) ∧ Blk u H (get7H p).cells 24 ∧ Blk u Y #[.int .i64 (get7N p : Nat)] 3

set_option maxHeartbeats 1000000 in
theorem get71_any (R X H Y : Nat) (p : ByteArray) (u : World) (hs : p.size ≤ 1000000) (hr : Rd u R p 0) (hX : Blk u X #[.string p] 9) (hH : Blk u H S7.zero.cells 24) (hY : Blk u Y #[.int .i64 0] 3) (h1 : R ≠ H) (h2 : R ≠ Y) (h3 : H ≠ Y) :
    Calls Try.prog 29 #[.pointer (some ⟨R, 0, none⟩), .pointer (some ⟨X, 0, none⟩), .pointer (some ⟨H, 0, none⟩), .pointer (some ⟨Y, 0, none⟩)] u (DoKb (fun k => k = H ∨ k = Y) R u (Got7At p H Y)) := by
  have HR := Lib.hid (readSegment_any R p u hr hs)
  have cX := hX.cell 0
  simp at cX
  have N1 := Lib.hid h1
  have N2 := Lib.hid h2
  have N3 := Lib.hid h3
  have HH := Lib.hid hH
  have HY := Lib.hid hY
  clear hr h1 h2 h3 hH hY hX
  go_enter Try.func29, Try.ntmps29
  go_wp2_with fail
  refine HR.out.mono ?_
  rintro e u1 ⟨k1, ⟨g0, rfl⟩ | ⟨g0, rfl⟩⟩
  · have H1 := Lib.hid (HH.out.kb k1 (fun e => N1.out e.symm))
    have Y1 := Lib.hid (HY.out.kb k1 (fun e => N2.out e.symm))
    have K1 := Lib.hid k1
    have G0 := Lib.hid g0
    have GG := Lib.hid (get7_ok g0)
    clear HR HH HY k1 g0 cX
    have ⟨z0, z1, z2, z3, z4, z5, z6, z7, z8⟩ := Hc7.of H1.out
    simp only [S7.zero] at z0 z1 z2 z3 z4 z5 z6 z7 z8
    have f0 := H1.out.frozen 0
    have f1 := H1.out.frozen 1
    have f2 := H1.out.frozen 2
    have f3 := H1.out.frozen 3
    have f4 := H1.out.frozen 4
    have f5 := H1.out.frozen 5
    have f6 := H1.out.frozen 6
    have f7 := H1.out.frozen 7
    have f8 := H1.out.frozen 8
    have cY := Y1.out.cell 0
    have fY := Y1.out.frozen 0
    simp at cY
    have N3s : Y ≠ H := fun e => N3.out e.symm
    generalize seg7 p = h at *
    generalize numOf p 16 2 = n at *
    unfold S7.cells
    go_wp2_with fail
    go_end0
    have B2 := put7c_blk H1.out h
    have K2 := put7c_kb (S := (· = H)) (N := H) (Kb.refl _ u1) (fun _ => rfl) h
    have Y2 := Y1.out.kb K2 N3s
    have KA := (K1.out.mono (T := fun k => (k = H ∨ k = Y) ∨ k = R) (fun k _ e => Or.inr e)).trans (K2.mono (fun k _ e => Or.inl (Or.inl e)))
    unfold put7c at B2 Y2 KA
    refine ⟨Or.inl ⟨rfl, by rw [G0.out]; rfl, ?_, ?_⟩, ?_⟩
    · rw [GG.out.1]; exact B2.set_other (p := ⟨Y, 0, none⟩) N3.out _
    · rw [GG.out.2]; exact Y2.set 0 _
    · exact Kb.setCell (S := fun k => (k = H ∨ k = Y) ∨ k = R) KA (p := ⟨Y, 0, none⟩) (fun _ => Or.inl (Or.inr rfl)) _
  · have GG := get7_err g0
    refine ⟨rfl, Or.inr ⟨_, rfl, rfl, ?_, ?_⟩, k1.mono (fun k _ e => Or.inr e)⟩
    · rw [GG.1]; exact HH.out.kb k1 (fun e => N1.out e.symm)
    · rw [GG.2]; exact HY.out.kb k1 (fun e => N2.out e.symm)

theorem call7get (args : Array Value) (u : World) : (callFunc 29 args).run Try.prog u = .ok (.enter 29 args) u := by kernel_rfl

/-- Get's end. -/
def Get7End (p : ByteArray) (w : World) (e : Ending) (w' : World) : Prop := e = .returned (.tuple #[.agg (get7H p).cells, .int .i64 (get7N p : Nat), .int .i64 (get7E p : Nat)]) ∧ Below w.heap.size w w'

/-- Get's own blocks. -/
structure Get7Blks (p : ByteArray) (w u : World) : Prop where
  x : Blk u w.heap.size #[.string p] 9
  z : Blk u (w.heap.size + 1) S7.zero.cells 24
  h : Blk u (w.heap.size + 1 + 1) S7.zero.cells 24
  y : Blk u (w.heap.size + 1 + 1 + 1) #[.int .i64 0] 3
  bel : Below w.heap.size w u
  size : u.heap.size = w.heap.size + 4
theorem Get7Blks.new (p : ByteArray) (w : World) : Get7Blks p w ((((w.alloc (.cells #[.string p] 9)).alloc (.cells S7.zero.cells 24)).alloc (.cells S7.zero.cells 24)).alloc (.cells #[.int .i64 0] 3)) := by
  have e1 := Blk.new w #[.string p] 9
  have b1 : Below w.heap.size w (w.alloc (.cells #[.string p] 9)) := (Below.refl _ _).alloc (Nat.le_refl _) _
  have s1 : (w.alloc (.cells #[.string p] 9)).heap.size = w.heap.size + 1 := by simp
  generalize w.alloc (.cells #[.string p] 9) = w1 at *
  have e2 := Blk.new w1 S7.zero.cells 24
  have b2 : Below w.heap.size w (w1.alloc (.cells S7.zero.cells 24)) := b1.alloc (by omega) _
  have s2 : (w1.alloc (.cells S7.zero.cells 24)).heap.size = w.heap.size + 1 + 1 := by simp; omega
  have e1' := e1.alloc (.cells S7.zero.cells 24)
  generalize w1.alloc (.cells S7.zero.cells 24) = w2 at *
  have e3 := Blk.new w2 S7.zero.cells 24
  have b3 : Below w.heap.size w (w2.alloc (.cells S7.zero.cells 24)) := b2.alloc (by omega) _
  have s3 : (w2.alloc (.cells S7.zero.cells 24)).heap.size = w.heap.size + 1 + 1 + 1 := by simp; omega
  have e1'' := e1'.alloc (.cells S7.zero.cells 24)
  have e2' := e2.alloc (.cells S7.zero.cells 24)
  generalize w2.alloc (.cells S7.zero.cells 24) = w3 at *
  have e4 := Blk.new w3 #[.int .i64 0] 3
  rw [s1] at e2'
  rw [s2] at e3
  rw [s3] at e4
  exact ⟨e1''.alloc _, e2'.alloc _, e3.alloc _, e4, b3.alloc (by omega) _, by simp; omega⟩

set_option maxRecDepth 100000 in
set_option maxHeartbeats 2000000 in
theorem get7_any (p : ByteArray) (w : World) (hs : p.size ≤ 1000000) :
    Calls Try.prog 12 #[.string p] w (Get7End p w) := by
  have hmf : ∀ (fn : Fn) (first cap : Array Value) (w : World), (Instr.makeFunc fn first cap).run Try.prog w = .ok (.func fn first cap) w := fun _ _ _ _ => rfl
  have G := Lib.hid (Get7Blks.new p w)
  have HP : Hid (p.size ≤ 1000000) := hs
  clear hs
  go_enter Try.func12, Try.ntmps12
  go_wp2_with fail
  simp only [show #[Value.int IntKind.i64 0, Value.int IntKind.i64 0, Value.int IntKind.u32 0, Value.int IntKind.u32 0, Value.int IntKind.i64 0, Value.int IntKind.i64 0, Value.int IntKind.i64 0, Value.string { data := #[] }, Value.string { data := #[] }] = S7.zero.cells from rfl]
  generalize (((w.alloc (.cells #[.string p] 9)).alloc (.cells S7.zero.cells 24)).alloc (.cells S7.zero.cells 24)).alloc (.cells #[.int .i64 0] 3) = u0 at *
  have hH : w.heap.size + 1 + 1 ≠ w.heap.size + 1 + 1 + 1 := by omega
  have RD := read_kb p 29 #[.pointer (some ⟨w.heap.size, 0, none⟩), .pointer (some ⟨w.heap.size + 1 + 1, 0, none⟩), .pointer (some ⟨w.heap.size + 1 + 1 + 1, 0, none⟩)] u0 (fun k => k = w.heap.size + 1 + 1 ∨ k = w.heap.size + 1 + 1 + 1) (Got7At p (w.heap.size + 1 + 1) (w.heap.size + 1 + 1 + 1))
    (fun k hk => by have := G.out.size; omega) (fun args u => call7get args u) (fun R u hr hR hk => get71_any R w.heap.size (w.heap.size + 1 + 1) (w.heap.size + 1 + 1 + 1) p u HP.out hr (G.out.x.kb hk (fun f => f)) (G.out.h.kb hk (fun f => f)) (G.out.y.kb hk (fun f => f)) (by have := G.out.size; omega) (by have := G.out.size; omega) hH)
  refine RD.mono ?_
  rintro e w2 ⟨k, w1, rfl, ⟨rfl, hb1, hy1⟩, hk1, hk2⟩
  have HS := G.out.size
  have B2 := Lib.hid (hb1.kb hk2 (by omega))
  have Y2 := Lib.hid (hy1.kb hk2 (by omega))
  have Z2 := Lib.hid ((G.out.z.kb hk1 (by omega)).kb hk2 (by omega))
  have L2 : Hid (Below w.heap.size w w2) := by
    show Below w.heap.size w w2
    have hb := G.out.bel
    exact ⟨hk2.os.trans (hk1.os.trans hb.os), hk2.tape.trans (hk1.tape.trans hb.tape), hk2.output.trans (hk1.output.trans hb.output), Nat.le_trans hb.size (Nat.le_trans hk1.size hk2.size), fun k hk =>
      (hk2.block k (by have := hk1.size; omega) (by omega)).trans ((hk1.block k (by omega) (by omega)).trans (hb.block k hk))⟩
  clear hb1 hy1 hk1 hk2 RD G HS hH hmf
  have ⟨c0, c1, c2, c3, c4, c5, c6, c7, c8⟩ := Hc7.of B2.out
  have cY := Y2.out.cell 0
  simp at cY
  have ⟨z0, z1, z2, z3, z4, z5, z6, z7, z8⟩ := Hc7.of Z2.out
  simp only [S7.zero] at z0 z1 z2 z3 z4 z5 z6 z7 z8
  have f0 := Z2.out.frozen 0
  have f1 := Z2.out.frozen 1
  have f2 := Z2.out.frozen 2
  have f3 := Z2.out.frozen 3
  have f4 := Z2.out.frozen 4
  have f5 := Z2.out.frozen 5
  have f6 := Z2.out.frozen 6
  have f7 := Z2.out.frozen 7
  have f8 := Z2.out.frozen 8
  generalize hgh : get7H p = h at *
  have HGH := Lib.hid hgh
  clear hgh
  go_wp2_with fail
  go_region
  clear c0 c1 c2 c3 c4 c5 c6 c7 c8 cY z0 z1 z2 z3 z4 z5 z6 z7 z8 f0 f1 f2 f3 f4 f5 f6 f7 f8
  go_wp2_with fail
  have B3 := (put7c_blk Z2.out h).drew
  have K3 := put7c_kb (S := fun k => w.heap.size ≤ k) (u := w) (N := w.heap.size + 1) ⟨L2.out.os, L2.out.tape, L2.out.output, L2.out.size, fun k hk _ => L2.out.block k hk⟩ (fun _ => by omega) h
  have L3 := K3.drew.below (Nat.le_refl _)
  clear K3 Z2 Y2 B2 L2
  unfold put7c at B3 L3
  generalize (((((((((w2.setCell ⟨w.heap.size + 1, 0, none⟩ (.int .i64 h.src)).setCell ⟨w.heap.size + 1, 1, none⟩ (.int .i64 h.dst)).setCell ⟨w.heap.size + 1, 2, none⟩ (.int .u32 h.seq)).setCell ⟨w.heap.size + 1, 3, none⟩ (.int .u32 h.ack)).setCell ⟨w.heap.size + 1, 4, none⟩ (.int .i64 h.flg)).setCell ⟨w.heap.size + 1, 5, none⟩ (.int .i64 h.win)).setCell ⟨w.heap.size + 1, 6, none⟩ (.int .i64 h.urg)).setCell ⟨w.heap.size + 1, 7, none⟩ (.string h.opt)).setCell ⟨w.heap.size + 1, 8, none⟩ (.string h.pay)).drew = W at *
  have ⟨c0, c1, c2, c3, c4, c5, c6, c7, c8⟩ := Hc7.of B3
  refine ⟨rfl, .tuple #[.agg (get7H p).cells, .int .i64 (get7N p : Nat), .int .i64 (get7E p : Nat)], ?_, rfl, L3⟩
  rw [HGH.out]
  unfold S7.cells
  simp [results, Try.results12, go_sem, c0, c1, c2, c3, c4, c5, c6, c7, c8]

end Go.Proofs.Ythfelnocdeknaaa
