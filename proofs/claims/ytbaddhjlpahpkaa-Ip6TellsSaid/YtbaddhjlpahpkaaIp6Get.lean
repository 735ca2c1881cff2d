/-
  Get: what bytes say as a packet.
-/
import Derived.Test.YtbaddhjlpahpkaaIp6Read
import Derived.RegionTactic
import Derived.BigRegion
namespace Go.Proofs.Ytbaddhjlpahpkaa
open Go.RowKit
set_option linter.unusedVariables false

/-- What the closure leaves. -/
def Got6At (p : ByteArray) (H Y : Nat) (k : Int) (u : World) : Prop := k = (get6E p : Nat) ∧ Blk u H (get6H p).cells 23 ∧ Blk u Y #[.string (get6S p)] 9

set_option maxHeartbeats 1000000 in
theorem get61_any (R H Y : Nat) (p : ByteArray) (u : World) (hs : p.size ≤ 1000000) (hr : Rd u R p 0) (hH : Blk u H H6.zero.cells 23) (hY : Blk u Y #[.string ⟨#[]⟩] 9) (h1 : R ≠ H) (h2 : R ≠ Y) (h3 : H ≠ Y) :
    Calls Try.prog 21 #[.pointer (some ⟨R, 0, none⟩), .pointer (some ⟨H, 0, none⟩), .pointer (some ⟨Y, 0, none⟩)] u (DoKb (fun k => k = H ∨ k = Y) R u (Got6At p H Y)) := by
  have HR := Lib.hid (readHeader6_any R p u hr hs)
  have N1 := Lib.hid h1
  have N2 := Lib.hid h2
  have N3 := Lib.hid h3
  clear hr h1 h2 h3
  have HH := Lib.hid hH
  have HY := Lib.hid hY
  clear hH hY
  go_enter Try.func21, Try.ntmps21
  go_wp2_with fail
  refine HR.out.mono ?_
  rintro e u1 ⟨k1, ⟨g0, rfl, rd1⟩ | ⟨g0, rfl⟩⟩
  · have H1 := Lib.hid (HH.out.kb k1 (fun e => N1.out e.symm))
    have Y1 := Lib.hid (HY.out.kb k1 (fun e => N2.out e.symm))
    have K1 := Lib.hid k1
    have D1 := Lib.hid rd1
    have G0 := Lib.hid g0
    clear HR HH HY k1 rd1 g0
    have ⟨z0, z1, z2, z3, z4, z5⟩ := Hc6.of H1.out
    simp only [H6.zero] at z0 z1 z2 z3 z4 z5
    have f0 := H1.out.frozen 0
    have f1 := H1.out.frozen 1
    have f2 := H1.out.frozen 2
    have f3 := H1.out.frozen 3
    have f4 := H1.out.frozen 4
    have f5 := H1.out.frozen 5
    have HGH : Hid (get6H p = hdr6 p) := by
      show get6H p = hdr6 p
      unfold get6H; rw [if_pos G0.out]
    have HGS : Hid (get6S p = p.extract 40 p.size) := by
      show get6S p = _
      unfold get6S; rw [if_pos G0.out]
    have GG := Lib.hid (get6E_zero.1 G0.out)
    generalize hdr6 p = h at *
    unfold H6.cells
    go_wp2_with fail
    have B2 := Lib.hid (put6c_blk H1.out h)
    have K2 := put6c_kb (S := (· = H)) (N := H) (Kb.refl _ u1) (fun _ => rfl) h
    have Y2 := Lib.hid (Y1.out.kb K2 (fun e => N3.out e.symm))
    have D2 : Hid (Rd _ R p 40) := D1.out.kb K2 (fun e => N1.out e)
    have KA := Lib.hid ((K1.out.mono (T := fun k => (k = H ∨ k = Y) ∨ k = R) (fun k _ e => Or.inr e)).trans (K2.mono (fun k _ e => Or.inl (Or.inl e))))
    clear K2 z0 z1 z2 z3 z4 z5 f0 f1 f2 f3 f4 f5 H1 Y1 D1 K1
    unfold put6c at B2 Y2 D2 KA
    generalize (((((u1.setCell ⟨H, 0, none⟩ (.int .i64 h.cls)).setCell ⟨H, 1, none⟩ (.int .i64 h.lab)).setCell ⟨H, 2, none⟩ (.int .i64 h.nxt)).setCell ⟨H, 3, none⟩ (.int .i64 h.hops)).setCell ⟨H, 4, none⟩ (.string h.src)).setCell ⟨H, 5, none⟩ (.string h.dst) = u2 at *
    refine (rest_any R p 40 u2 D2.out GG.out.short (by unfold maxLen; omega)).mono ?_
    rintro e u3 ⟨rfl, n, rfl⟩
    have K3 := Kb.setCell (S := (· = R)) ((Kb.refl (· = R) u2).drewN n) (p := ⟨R, 1, none⟩) (fun _ => rfl) (.int .i64 (p.size : Int))
    have B3 := Lib.hid (B2.out.kb K3 (fun e => N1.out e.symm))
    have Y3 := Lib.hid (Y2.out.kb K3 (fun e => N2.out e.symm))
    have KB := Lib.hid (KA.out.trans (K3.mono (T := fun k => (k = H ∨ k = Y) ∨ k = R) (fun k _ e => Or.inr e)))
    clear K3 B2 Y2 D2 KA
    generalize (u2.drewN n).setCell ⟨R, 1, none⟩ (.int .i64 (p.size : Int)) = u3 at *
    have cY := Y3.out.cell 0
    have fY := Y3.out.frozen 0
    simp at cY
    generalize p.extract 40 p.size = pay at *
    go_wp2_with fail
    go_end0
    refine ⟨Or.inl ⟨rfl, by rw [G0.out]; rfl, ?_, ?_⟩, ?_⟩
    · rw [HGH.out]; exact B3.out.set_other (p := ⟨Y, 0, none⟩) N3.out _
    · rw [HGS.out]; exact Y3.out.set 0 _
    · exact Kb.setCell (S := fun k => (k = H ∨ k = Y) ∨ k = R) KB.out (p := ⟨Y, 0, none⟩) (fun _ => Or.inl (Or.inr rfl)) _
  · have HGH : get6H p = H6.zero := by unfold get6H; rw [if_neg g0]
    have HGS : get6S p = ⟨#[]⟩ := by unfold get6S; rw [if_neg g0]
    refine ⟨rfl, Or.inr ⟨_, rfl, rfl, ?_, ?_⟩, k1.mono (fun k _ e => Or.inr e)⟩
    · rw [HGH]; exact HH.out.kb k1 (fun e => N1.out e.symm)
    · rw [HGS]; exact HY.out.kb k1 (fun e => N2.out e.symm)

theorem call6get (args : Array Value) (u : World) : (callFunc 21 args).run Try.prog u = .ok (.enter 21 args) u := by kernel_rfl

/-- Get's end. -/
def Get6End (p : ByteArray) (w : World) (e : Ending) (w' : World) : Prop := e = .returned (.tuple #[.agg (get6H p).cells, .string (get6S p), .int .i64 (get6E p : Nat)]) ∧ Below w.heap.size w w'

/-- Get's own blocks. -/
structure Get6Blks (w u : World) : Prop where
  z : Blk u w.heap.size H6.zero.cells 23
  h : Blk u (w.heap.size + 1) H6.zero.cells 23
  y : Blk u (w.heap.size + 1 + 1) #[.string ⟨#[]⟩] 9
  bel : Below w.heap.size w u
  size : u.heap.size = w.heap.size + 3
theorem Get6Blks.new (w : World) : Get6Blks w (((w.alloc (.cells H6.zero.cells 23)).alloc (.cells H6.zero.cells 23)).alloc (.cells #[.string ⟨#[]⟩] 9)) := by
  have e1 := Blk.new w H6.zero.cells 23
  generalize hw1 : w.alloc (.cells H6.zero.cells 23) = w1 at *
  have s1 : w1.heap.size = w.heap.size + 1 := by rw [← hw1]; simp
  have b1 : Below w.heap.size w w1 := by rw [← hw1]; exact (Below.refl _ _).alloc (Nat.le_refl _) _
  have e2 := Blk.new w1 H6.zero.cells 23
  have e1' : Blk (w1.alloc (.cells H6.zero.cells 23)) w.heap.size H6.zero.cells 23 := e1.alloc _
  generalize hw2 : w1.alloc (.cells H6.zero.cells 23) = w2 at *
  have s2 : w2.heap.size = w.heap.size + 2 := by rw [← hw2]; simp; omega
  have b2 : Below w.heap.size w w2 := by rw [← hw2]; exact b1.alloc (by omega) _
  have e3 := Blk.new w2 #[.string ⟨#[]⟩] 9
  rw [s1] at e2
  rw [s2] at e3
  exact ⟨e1'.alloc _, e2.alloc _, e3, b2.alloc (by omega) _, by simp; omega⟩

set_option maxHeartbeats 1000000 in
theorem get6_any (p : ByteArray) (w : World) (hs : p.size ≤ 1000000) :
    Calls Try.prog 10 #[.string p] w (Get6End p w) := by
  have hmf : ∀ (fn : Fn) (first cap : Array Value) (w : World), (Instr.makeFunc fn first cap).run Try.prog w = .ok (.func fn first cap) w := fun _ _ _ _ => rfl
  have G := Lib.hid (Get6Blks.new w)
  have HP : Hid (p.size ≤ 1000000) := hs
  clear hs
  go_enter Try.func10, Try.ntmps10
  go_wp2_with fail
  simp only [show #[Value.int IntKind.i64 0, Value.int IntKind.i64 0, Value.int IntKind.i64 0, Value.int IntKind.i64 0, Value.string { data := #[] }, Value.string { data := #[] }] = H6.zero.cells from rfl]
  generalize (((w.alloc (.cells H6.zero.cells 23)).alloc (.cells H6.zero.cells 23)).alloc (.cells #[.string ⟨#[]⟩] 9)) = u0 at *
  have hH : w.heap.size + 1 ≠ w.heap.size + 1 + 1 := by omega
  have RD := read_kb p 21 #[.pointer (some ⟨w.heap.size + 1, 0, none⟩), .pointer (some ⟨w.heap.size + 1 + 1, 0, none⟩)] u0 (fun k => k = w.heap.size + 1 ∨ k = w.heap.size + 1 + 1) (Got6At p (w.heap.size + 1) (w.heap.size + 1 + 1))
    (fun k hk => by have := G.out.size; omega) (fun args u => call6get args u) (fun R u hr hR hk => get61_any R (w.heap.size + 1) (w.heap.size + 1 + 1) p u HP.out hr (G.out.h.kb hk (fun f => f)) (G.out.y.kb hk (fun f => f)) (by have := G.out.size; omega) (by have := G.out.size; omega) hH)
  refine RD.mono ?_
  rintro e w2 ⟨k, w1, rfl, ⟨rfl, hb1, hy1⟩, hk1, hk2⟩
  have HS := G.out.size
  have B2 := Lib.hid (hb1.kb hk2 (by omega))
  have Y2 := Lib.hid (hy1.kb hk2 (by omega))
  have Z2 := Lib.hid ((G.out.z.kb hk1 (by omega)).kb hk2 (by omega))
  have L2 : Hid (Below w.heap.size w w2) := by
    show Below w.heap.size w w2
    have hb := G.out.bel
    exact ⟨hk2.os.trans (hk1.os.trans hb.os), hk2.tape.trans (hk1.tape.trans hb.tape), hk2.output.trans (hk1.output.trans hb.output), Nat.le_trans hb.size (Nat.le_trans hk1.size hk2.size), fun k hk =>
      (hk2.block k (by have := hk1.size; omega) (by omega)).trans ((hk1.block k (by omega) (by omega)).trans (hb.block k hk))⟩
  clear hb1 hy1 hk1 hk2 RD G HS hH hmf
  have ⟨c0, c1, c2, c3, c4, c5⟩ := Hc6.of B2.out
  have cY := Y2.out.cell 0
  simp at cY
  have ⟨z0, z1, z2, z3, z4, z5⟩ := Hc6.of Z2.out
  simp only [H6.zero] at z0 z1 z2 z3 z4 z5
  have f0 := Z2.out.frozen 0
  have f1 := Z2.out.frozen 1
  have f2 := Z2.out.frozen 2
  have f3 := Z2.out.frozen 3
  have f4 := Z2.out.frozen 4
  have f5 := Z2.out.frozen 5
  generalize hgh : get6H p = h at *
  have HGH := Lib.hid hgh
  clear hgh
  go_wp2_with fail
  go_region
  clear c0 c1 c2 c3 c4 c5 cY z0 z1 z2 z3 z4 z5 f0 f1 f2 f3 f4 f5
  go_wp2_with fail
  have B3 := (put6c_blk Z2.out h).drew
  have K3 := put6c_kb (S := fun k => w.heap.size ≤ k) (u := w) (N := w.heap.size) ⟨L2.out.os, L2.out.tape, L2.out.output, L2.out.size, fun k hk _ => L2.out.block k hk⟩ (fun _ => Nat.le_refl _) h
  have L3 := K3.drew.below (Nat.le_refl _)
  clear K3 Z2 Y2 B2 L2
  unfold put6c at B3 L3
  generalize ((((((w2.setCell ⟨w.heap.size, 0, none⟩ (.int .i64 h.cls)).setCell ⟨w.heap.size, 1, none⟩ (.int .i64 h.lab)).setCell ⟨w.heap.size, 2, none⟩ (.int .i64 h.nxt)).setCell ⟨w.heap.size, 3, none⟩ (.int .i64 h.hops)).setCell ⟨w.heap.size, 4, none⟩ (.string h.src)).setCell ⟨w.heap.size, 5, none⟩ (.string h.dst)).drew = W at *
  have ⟨c0, c1, c2, c3, c4, c5⟩ := Hc6.of B3
  refine ⟨rfl, .tuple #[.agg (get6H p).cells, .string (get6S p), .int .i64 (get6E p : Nat)], ?_, rfl, L3⟩
  rw [HGH.out]
  unfold H6.cells
  simp [results, Try.results10, go_sem, c0, c1, c2, c3, c4, c5]

end Go.Proofs.Ytbaddhjlpahpkaa
