/-
  Get: the closure, and the call itself.
-/
import Derived.Test.YtnlpbnipfglhhaaDoorGreGet
namespace Go.Proofs.YtnlpbnipfglhhaaDoor
open Go.RowKit
set_option linter.unusedVariables false

/-- What the closure leaves. -/
def Got12At (b : ByteArray) (H Y : Nat) (k : Int) (u : World) : Prop := k = (get12E b : Nat) ∧ Blk u H (get12H b).cells 28 ∧ Blk u Y #[.string (get12S b)] 9

set_option maxHeartbeats 1000000 in
theorem get121_any (R X H Y : Nat) (b : ByteArray) (u : World) (hs : b.size ≤ 1000000) (hg : Vers u) (hr : Rd u R b 0) (hX : Blk u X #[.string b] 9) (hH : Blk u H H12.zero.cells 28) (hY : Blk u Y #[.string ⟨#[]⟩] 9) (h0 : 0 ≠ R) (h1 : R ≠ H) (h2 : R ≠ Y) (h3 : H ≠ Y) :
    Calls Tryd.prog 20 #[.pointer (some ⟨R, 0, none⟩), .pointer (some ⟨X, 0, none⟩), .pointer (some ⟨H, 0, none⟩), .pointer (some ⟨Y, 0, none⟩)] u (DoKb (fun k => k = H ∨ k = Y) R u (Got12At b H Y)) := by
  have HR := Lib.hid (read12_any R b u hr hs hg h0)
  have N1 := Lib.hid h1
  have N2 := Lib.hid h2
  have N3 := Lib.hid h3
  have cX := hX.cell 0
  simp at cX
  clear hr h0 h1 h2 h3 hX hg hs
  have HH := Lib.hid hH
  have HY := Lib.hid hY
  clear hH hY
  unfold Read12End at HR
  go_enter Tryd.func20, Tryd.ntmps20
  go_wp2_with fail
  refine HR.out.mono ?_
  rintro e u1 ⟨k1, ⟨g0, rfl⟩ | ⟨g0, rfl⟩⟩
  case inr =>
    have HGH : get12H b = H12.zero := by unfold get12H; rw [if_neg g0]
    have HGS : get12S b = ⟨#[]⟩ := by unfold get12S; rw [if_neg g0]
    refine ⟨rfl, Or.inr ⟨_, rfl, rfl, ?_, ?_⟩, k1.mono (fun k _ e => Or.inr e)⟩
    · rw [HGH]; exact HH.out.kb k1 (fun e => N1.out e.symm)
    · rw [HGS]; exact HY.out.kb k1 (fun e => N2.out e.symm)
  have H1 := Lib.hid (HH.out.kb k1 (fun e => N1.out e.symm))
  have Y1 := Lib.hid (HY.out.kb k1 (fun e => N2.out e.symm))
  have K1 := Lib.hid k1
  have G0 := Lib.hid g0
  have HGH : Hid (get12H b = hd12 b) := by show get12H b = _; unfold get12H; rw [if_pos g0]
  have HGS : Hid (get12S b = in12 b) := by show get12S b = _; unfold get12S; rw [if_pos g0]
  clear HR HH HY k1 g0 cX
  have ⟨z0, z1, z2⟩ := Hc12s.of H1.out
  simp only [H12.zero] at z0 z1 z2
  have f0 := H1.out.frozen 0
  have f1 := H1.out.frozen 1
  have f2 := H1.out.frozen 2
  have B2 := put12c_blk H1.out (hd12 b)
  have K2 := put12c_kb (S := (· = H)) (N := H) (Kb.refl _ u1) (fun _ => rfl) (hd12 b)
  have Y2 := Y1.out.kb K2 (fun e => N3.out e.symm)
  have KA := (K1.out.mono (T := fun k => (k = H ∨ k = Y) ∨ k = R) (fun k _ e => Or.inr e)).trans (K2.mono (fun k _ e => Or.inl (Or.inl e)))
  have cY := Y2.cell 0
  have fY := Y2.frozen 0
  simp at cY
  have BB := Lib.hid B2
  have YY := Lib.hid Y2
  have KK := Lib.hid KA
  clear B2 K2 Y2 KA H1 Y1 K1
  generalize hd12 b = h at *
  generalize in12 b = s at *
  unfold put12c at cY fY BB YY KK
  unfold H12.cells
  go_wp2_with fail
  go_end0
  refine ⟨Or.inl ⟨rfl, by rw [G0.out]; rfl, ?_, ?_⟩, ?_⟩
  · rw [HGH.out]; exact BB.out.set_other (p := ⟨Y, 0, none⟩) N3.out _
  · rw [HGS.out]; exact YY.out.set 0 _
  · exact Kb.setCell (S := fun k => (k = H ∨ k = Y) ∨ k = R) KK.out (p := ⟨Y, 0, none⟩) (fun _ => Or.inl (Or.inr rfl)) _

theorem call12get (args : Array Value) (u : World) : (callFunc 20 args).run Tryd.prog u = .ok (.enter 20 args) u := by kernel_rfl

/-- Get's own blocks. -/
structure Get12Blks (b : ByteArray) (w u : World) : Prop where
  x : Blk u w.heap.size #[.string b] 9
  z : Blk u (w.heap.size + 1) H12.zero.cells 28
  h : Blk u (w.heap.size + 1 + 1) H12.zero.cells 28
  y : Blk u (w.heap.size + 1 + 1 + 1) #[.string ⟨#[]⟩] 9
  bel : Below w.heap.size w u
  size : u.heap.size = w.heap.size + 4
theorem Get12Blks.new (b : ByteArray) (w : World) : Get12Blks b w ((((w.alloc (.cells #[.string b] 9)).alloc (.cells H12.zero.cells 28)).alloc (.cells H12.zero.cells 28)).alloc (.cells #[.string ⟨#[]⟩] 9)) := by
  have e1 := Blk.new w #[.string b] 9
  have b1 : Below w.heap.size w (w.alloc (.cells #[.string b] 9)) := (Below.refl _ _).alloc (Nat.le_refl _) _
  have s1 : (w.alloc (.cells #[.string b] 9)).heap.size = w.heap.size + 1 := by simp
  generalize w.alloc (.cells #[.string b] 9) = w1 at *
  have e2 := Blk.new w1 H12.zero.cells 28
  have b2 : Below w.heap.size w (w1.alloc (.cells H12.zero.cells 28)) := b1.alloc (by omega) _
  have s2 : (w1.alloc (.cells H12.zero.cells 28)).heap.size = w.heap.size + 1 + 1 := by simp; omega
  have e1' := e1.alloc (.cells H12.zero.cells 28)
  generalize w1.alloc (.cells H12.zero.cells 28) = w2 at *
  have e3 := Blk.new w2 H12.zero.cells 28
  have b3 : Below w.heap.size w (w2.alloc (.cells H12.zero.cells 28)) := b2.alloc (by omega) _
  have s3 : (w2.alloc (.cells H12.zero.cells 28)).heap.size = w.heap.size + 1 + 1 + 1 := by simp; omega
  have e1'' := e1'.alloc (.cells H12.zero.cells 28)
  have e2' := e2.alloc (.cells H12.zero.cells 28)
  generalize w2.alloc (.cells H12.zero.cells 28) = w3 at *
  have e4 := Blk.new w3 #[.string ⟨#[]⟩] 9
  rw [s1] at e2'
  rw [s2] at e3
  rw [s3] at e4
  exact ⟨e1''.alloc _, e2'.alloc _, e3.alloc _, e4, b3.alloc (by omega) _, by simp; omega⟩

set_option maxRecDepth 100000 in
set_option maxHeartbeats 2000000 in
theorem get12_any (b : ByteArray) (w : World) (hg : Vers w) (hs : b.size ≤ 1000000) :
    Calls Tryd.prog 10 #[.string b] w (Tells (.tuple #[.agg (get12H b).cells, .string (get12S b), .int .i64 (get12E b : Nat)]) w) := by
  have hmf : ∀ (fn : Fn) (first cap : Array Value) (w : World), (Instr.makeFunc fn first cap).run Tryd.prog w = .ok (.func fn first cap) w := fun _ _ _ _ => rfl
  have G := Lib.hid (Get12Blks.new b w)
  have HG := Lib.hid (hg.on G.out.bel)
  have HGL := Lib.hid hg.lt
  have HP : Hid (b.size ≤ 1000000) := hs
  clear hs hg
  go_enter Tryd.func10, Tryd.ntmps10
  go_wp2_with fail
  simp only [show #[Value.bool false, Value.bool false, Value.int IntKind.u32 0] = H12.zero.cells from rfl]
  generalize (((w.alloc (.cells #[.string b] 9)).alloc (.cells H12.zero.cells 28)).alloc (.cells H12.zero.cells 28)).alloc (.cells #[.string ⟨#[]⟩] 9) = u0 at *
  have hH : w.heap.size + 1 + 1 ≠ w.heap.size + 1 + 1 + 1 := by omega
  have RD := read_kb b 20 #[.pointer (some ⟨w.heap.size, 0, none⟩), .pointer (some ⟨w.heap.size + 1 + 1, 0, none⟩), .pointer (some ⟨w.heap.size + 1 + 1 + 1, 0, none⟩)] u0 (fun k => k = w.heap.size + 1 + 1 ∨ k = w.heap.size + 1 + 1 + 1) (Got12At b (w.heap.size + 1 + 1) (w.heap.size + 1 + 1 + 1))
    (fun k hk => by have := G.out.size; omega) (fun args u => call12get args u) (fun R u hr hR hk => get121_any R w.heap.size (w.heap.size + 1 + 1) (w.heap.size + 1 + 1 + 1) b u HP.out (HG.out.kb hk (fun f => f)) hr (G.out.x.kb hk (fun f => f)) (G.out.h.kb hk (fun f => f)) (G.out.y.kb hk (fun f => f)) (by have := G.out.size; have := HGL.out; omega) (by have := G.out.size; omega) (by have := G.out.size; omega) hH)
  refine RD.mono ?_
  rintro e w2 ⟨k, w1, rfl, ⟨rfl, hb1, hy1⟩, hk1, hk2⟩
  have HS := G.out.size
  have B2 := Lib.hid (hb1.kb hk2 (by omega))
  have Y2 := Lib.hid (hy1.kb hk2 (by omega))
  have Z2 := Lib.hid ((G.out.z.kb hk1 (by omega)).kb hk2 (by omega))
  have L2 : Hid (Below w.heap.size w w2) := by
    show Below w.heap.size w w2
    have hb := G.out.bel
    exact ⟨hk2.os.trans (hk1.os.trans hb.os), hk2.tape.trans (hk1.tape.trans hb.tape), hk2.output.trans (hk1.output.trans hb.output), Nat.le_trans hb.size (Nat.le_trans hk1.size hk2.size), fun k hk =>
      (hk2.block k (by have := hk1.size; omega) (by omega)).trans ((hk1.block k (by omega) (by omega)).trans (hb.block k hk))⟩
  clear hb1 hy1 hk1 hk2 RD G HS hH hmf HG HGL
  have ⟨c0, c1, c2⟩ := Hc12s.of B2.out
  have cY := Y2.out.cell 0
  simp at cY
  have ⟨z0, z1, z2⟩ := Hc12s.of Z2.out
  simp only [H12.zero] at z0 z1 z2
  have f0 := Z2.out.frozen 0
  have f1 := Z2.out.frozen 1
  have f2 := Z2.out.frozen 2
  generalize hgh : get12H b = h at *
  have HGH := Lib.hid hgh
  clear hgh
  go_wp2_with fail
  go_region
  clear c0 c1 c2 cY z0 z1 z2 f0 f1 f2
  go_wp2_with fail
  have B3 := (put12c_blk Z2.out h).drew
  have K3 := put12c_kb (S := fun k => w.heap.size ≤ k) (u := w) (N := w.heap.size + 1) ⟨L2.out.os, L2.out.tape, L2.out.output, L2.out.size, fun k hk _ => L2.out.block k hk⟩ (fun _ => by omega) h
  have L3 := K3.drew.below (Nat.le_refl _)
  clear K3 Z2 Y2 B2 L2
  unfold put12c at B3 L3
  generalize (((w2.setCell ⟨w.heap.size + 1, 0, none⟩ (.bool h.sum)).setCell ⟨w.heap.size + 1, 1, none⟩ (.bool h.key)).setCell ⟨w.heap.size + 1, 2, none⟩ (.int .u32 (h.v : Nat))).drew = W at *
  have ⟨c0, c1, c2⟩ := Hc12s.of B3
  refine ⟨rfl, .tuple #[.agg h.cells, .string (get12S b), .int .i64 (get12E b : Nat)], ?_, rfl, L3⟩
  unfold H12.cells
  simp [results, Tryd.results10, go_sem, c0, c1, c2]

end Go.Proofs.YtnlpbnipfglhhaaDoor
