/-
  Get: what bytes say as a packet.
-/
import Derived.Test.YtdljioacbpabbaaIp4Read
import Derived.RegionTactic
import Derived.BigRegion
namespace Go.Proofs.Ytdljioacbpabbaa
open Go.RowKit
set_option linter.unusedVariables false

/-- What the closure leaves. -/
def GotAt (p : ByteArray) (H Y : Nat) (k : Int) (u : World) : Prop := k = (getE p : Nat) ∧ Blk u H (getH p).cells 23 ∧ Blk u Y #[.string (getS p)] 9

set_option maxHeartbeats 1000000 in
theorem get1_any (R P H Y : Nat) (p : ByteArray) (u : World) (hs : p.size ≤ 1000000) (hr : Rd u R p 0) (hP : Blk u P #[.string p] 9) (hH : Blk u H H4.zero.cells 23) (hY : Blk u Y #[.string ⟨#[]⟩] 9) (h1 : R ≠ H) (h2 : R ≠ Y) (h3 : H ≠ Y) :
    Calls Try.prog 26 #[.pointer (some ⟨R, 0, none⟩), .pointer (some ⟨P, 0, none⟩), .pointer (some ⟨H, 0, none⟩), .pointer (some ⟨Y, 0, none⟩)] u (DoKb (fun k => k = H ∨ k = Y) R u (GotAt p H Y)) := by
  have cP := hP.cell 0
  simp at cP
  have HR := Lib.hid (readHeader_any R p u hr hs)
  have N1 := Lib.hid h1
  have N2 := Lib.hid h2
  have N3 := Lib.hid h3
  clear hr hP h1 h2 h3
  have HH := Lib.hid hH
  have HY := Lib.hid hY
  clear hH hY
  go_enter Try.func26, Try.ntmps26
  go_wp2_with fail
  refine HR.out.mono ?_
  rintro e u1 ⟨k1, ⟨g0, rfl, rd1⟩ | ⟨g0, rfl⟩⟩
  · have H1 := Lib.hid (HH.out.kb k1 (fun e => N1.out e.symm))
    have Y1 := Lib.hid (HY.out.kb k1 (fun e => N2.out e.symm))
    have K1 := Lib.hid k1
    have D1 := Lib.hid rd1
    have G0 := Lib.hid g0
    clear HR HH HY k1 rd1 g0 cP
    have ⟨z0, z1, z2, z3, z4, z5, z6, z7, z8, z9⟩ := Hc.of H1.out
    simp only [H4.zero] at z0 z1 z2 z3 z4 z5 z6 z7 z8 z9
    have f0 := H1.out.frozen 0
    have f1 := H1.out.frozen 1
    have f2 := H1.out.frozen 2
    have f3 := H1.out.frozen 3
    have f4 := H1.out.frozen 4
    have f5 := H1.out.frozen 5
    have f6 := H1.out.frozen 6
    have f7 := H1.out.frozen 7
    have f8 := H1.out.frozen 8
    have f9 := H1.out.frozen 9
    have HGH : Hid (getH p = hdr p) := by
      show getH p = hdr p
      unfold getH; rw [if_pos G0.out]
    have HGS : Hid (getS p = p.extract (hsz p) p.size) := by
      show getS p = _
      unfold getS; rw [if_pos G0.out]
    have GG := Lib.hid (getE_zero.1 G0.out)
    generalize hdr p = h at *
    unfold H4.cells
    go_wp2_with fail
    have B2 := Lib.hid (put10_blk H1.out h)
    have K2 := put10_kb (S := (· = H)) (N := H) (Kb.refl _ u1) (fun _ => rfl) h
    have Y2 := Lib.hid (Y1.out.kb K2 (fun e => N3.out e.symm))
    have D2 : Hid (Rd _ R p (hsz p)) := D1.out.kb K2 (fun e => N1.out e)
    have KA := Lib.hid ((K1.out.mono (T := fun k => (k = H ∨ k = Y) ∨ k = R) (fun k _ e => Or.inr e)).trans (K2.mono (fun k _ e => Or.inl (Or.inl e))))
    clear K2 z0 z1 z2 z3 z4 z5 z6 z7 z8 z9 f0 f1 f2 f3 f4 f5 f6 f7 f8 f9 H1 Y1 D1 K1
    unfold put10 at B2 Y2 D2 KA
    generalize (((((((((u1.setCell ⟨H, 0, none⟩ (.int .i64 h.tos)).setCell ⟨H, 1, none⟩ (.int .i64 h.id)).setCell ⟨H, 2, none⟩ (.int .i64 h.off)).setCell ⟨H, 3, none⟩ (.int .i64 h.ttl)).setCell ⟨H, 4, none⟩ (.int .i64 h.proto)).setCell ⟨H, 5, none⟩ (.bool h.df)).setCell ⟨H, 6, none⟩ (.bool h.mf)).setCell ⟨H, 7, none⟩ (.string h.src)).setCell ⟨H, 8, none⟩ (.string h.dst)).setCell ⟨H, 9, none⟩ (.string h.opt) = u2 at *
    refine (rest_any R p (hsz p) u2 D2.out GG.out.len.2 (by unfold maxLen; omega)).mono ?_
    rintro e u3 ⟨rfl, n, rfl⟩
    have K3 := Kb.setCell (S := (· = R)) ((Kb.refl (· = R) u2).drewN n) (p := ⟨R, 1, none⟩) (fun _ => rfl) (.int .i64 (p.size : Int))
    have B3 := Lib.hid (B2.out.kb K3 (fun e => N1.out e.symm))
    have Y3 := Lib.hid (Y2.out.kb K3 (fun e => N2.out e.symm))
    have KB := Lib.hid (KA.out.trans (K3.mono (T := fun k => (k = H ∨ k = Y) ∨ k = R) (fun k _ e => Or.inr e)))
    clear K3 B2 Y2 D2 KA
    generalize (u2.drewN n).setCell ⟨R, 1, none⟩ (.int .i64 (p.size : Int)) = u3 at *
    have cY := Y3.out.cell 0
    have fY := Y3.out.frozen 0
    simp at cY
    generalize p.extract (hsz p) p.size = pay at *
    go_wp2_with fail
    go_end0
    refine ⟨Or.inl ⟨rfl, by rw [G0.out]; rfl, ?_, ?_⟩, ?_⟩
    · rw [HGH.out]; exact B3.out.set_other (p := ⟨Y, 0, none⟩) N3.out _
    · rw [HGS.out]; exact Y3.out.set 0 _
    · exact Kb.setCell (S := fun k => (k = H ∨ k = Y) ∨ k = R) KB.out (p := ⟨Y, 0, none⟩) (fun _ => Or.inl (Or.inr rfl)) _
  · have HGH : getH p = H4.zero := by unfold getH; rw [if_neg g0]
    have HGS : getS p = ⟨#[]⟩ := by unfold getS; rw [if_neg g0]
    refine ⟨rfl, Or.inr ⟨_, rfl, rfl, ?_, ?_⟩, k1.mono (fun k _ e => Or.inr e)⟩
    · rw [HGH]; exact HH.out.kb k1 (fun e => N1.out e.symm)
    · rw [HGS]; exact HY.out.kb k1 (fun e => N2.out e.symm)

theorem call26 (args : Array Value) (u : World) : (callFunc 26 args).run Try.prog u = .ok (.enter 26 args) u := by kernel_rfl

/-- Get's end. -/
def GetEnd (p : ByteArray) (w : World) (e : Ending) (w' : World) : Prop := e = .returned (.tuple #[.agg (getH p).cells, .string (getS p), .int .i64 (getE p : Nat)]) ∧ Below w.heap.size w w'
/-- Get's own blocks. -/
structure GetBlks (w u : World) (p : ByteArray) : Prop where
  p' : Blk u w.heap.size #[.string p] 9
  z : Blk u (w.heap.size + 1) H4.zero.cells 23
  h : Blk u (w.heap.size + 2) H4.zero.cells 23
  y : Blk u (w.heap.size + 3) #[.string ⟨#[]⟩] 9
  bel : Below w.heap.size w u
  size : u.heap.size = w.heap.size + 4
theorem GetBlks.new (w : World) (p : ByteArray) : GetBlks w ((((w.alloc (.cells #[.string p] 9)).alloc (.cells H4.zero.cells 23)).alloc (.cells H4.zero.cells 23)).alloc (.cells #[.string ⟨#[]⟩] 9)) p := by
  have e1 := Blk.new w #[.string p] 9
  generalize hw1 : w.alloc (.cells #[.string p] 9) = w1 at *
  have s1 : w1.heap.size = w.heap.size + 1 := by rw [← hw1]; simp
  have b1 : Below w.heap.size w w1 := by rw [← hw1]; exact (Below.refl _ _).alloc (Nat.le_refl _) _
  have e2 := Blk.new w1 H4.zero.cells 23
  generalize hw2 : w1.alloc (.cells H4.zero.cells 23) = w2 at *
  have s2 : w2.heap.size = w.heap.size + 2 := by rw [← hw2]; simp; omega
  have b2 : Below w.heap.size w w2 := by rw [← hw2]; exact b1.alloc (by omega) _
  have e1' : Blk w2 w.heap.size #[.string p] 9 := by rw [← hw2]; exact e1.alloc _
  have e3 := Blk.new w2 H4.zero.cells 23
  have e2' : Blk (w2.alloc (.cells H4.zero.cells 23)) w1.heap.size H4.zero.cells 23 := e2.alloc _
  generalize hw3 : w2.alloc (.cells H4.zero.cells 23) = w3 at *
  have s3 : w3.heap.size = w.heap.size + 3 := by rw [← hw3]; simp; omega
  have b3 : Below w.heap.size w w3 := by rw [← hw3]; exact b2.alloc (by omega) _
  have e1'' : Blk w3 w.heap.size #[.string p] 9 := by rw [← hw3]; exact e1'.alloc _
  have e4 := Blk.new w3 #[.string ⟨#[]⟩] 9
  rw [s1] at e2'
  rw [s2] at e3
  rw [s3] at e4
  exact ⟨e1''.alloc _, e2'.alloc _, e3.alloc _, e4, b3.alloc (by omega) _, by simp; omega⟩

set_option maxHeartbeats 1000000 in
theorem get_any (p : ByteArray) (w : World) (hs : p.size ≤ 1000000) :
    Calls Try.prog 14 #[.string p] w (GetEnd p w) := by
  have hmf : ∀ (fn : Fn) (first cap : Array Value) (w : World), (Instr.makeFunc fn first cap).run Try.prog w = .ok (.func fn first cap) w := fun _ _ _ _ => rfl
  have G := Lib.hid (GetBlks.new w p)
  have HP : Hid (p.size ≤ 1000000) := hs
  clear hs
  go_enter Try.func14, Try.ntmps14
  go_wp2_with fail
  simp only [show #[Value.int IntKind.i64 0, Value.int IntKind.i64 0, Value.int IntKind.i64 0, Value.int IntKind.i64 0, Value.int IntKind.i64 0, Value.bool false, Value.bool false, Value.string { data := #[] }, Value.string { data := #[] }, Value.string { data := #[] }] = H4.zero.cells from rfl]
  generalize ((((w.alloc (.cells #[.string p] 9)).alloc (.cells H4.zero.cells 23)).alloc (.cells H4.zero.cells 23)).alloc (.cells #[.string ⟨#[]⟩] 9)) = u0 at *
  have hH : w.heap.size + 2 ≠ w.heap.size + 3 := by omega
  have RD := read_kb p 26 #[.pointer (some ⟨w.heap.size, 0, none⟩), .pointer (some ⟨w.heap.size + 2, 0, none⟩), .pointer (some ⟨w.heap.size + 3, 0, none⟩)] u0 (fun k => k = w.heap.size + 2 ∨ k = w.heap.size + 3) (GotAt p (w.heap.size + 2) (w.heap.size + 3))
    (fun k hk => by have := G.out.size; omega) (fun args u => call26 args u) (fun R u hr hR hk => get1_any R w.heap.size (w.heap.size + 2) (w.heap.size + 3) p u HP.out hr (G.out.p'.kb hk (fun f => f)) (G.out.h.kb hk (fun f => f)) (G.out.y.kb hk (fun f => f)) (by have := G.out.size; omega) (by have := G.out.size; omega) hH)
  refine RD.mono ?_
  rintro e w2 ⟨k, w1, rfl, ⟨rfl, hb1, hy1⟩, hk1, hk2⟩
  have HS := G.out.size
  have B2 := Lib.hid (hb1.kb hk2 (by omega))
  have Y2 := Lib.hid (hy1.kb hk2 (by omega))
  have Z2 := Lib.hid ((G.out.z.kb hk1 (by omega)).kb hk2 (by omega))
  have L2 : Hid (Below w.heap.size w w2) := by
    show Below w.heap.size w w2
    have hb := G.out.bel
    exact ⟨hk2.os.trans (hk1.os.trans hb.os), hk2.tape.trans (hk1.tape.trans hb.tape), hk2.output.trans (hk1.output.trans hb.output), Nat.le_trans hb.size (Nat.le_trans hk1.size hk2.size), fun k hk =>
      (hk2.block k (by have := hk1.size; omega) (by omega)).trans ((hk1.block k (by omega) (by omega)).trans (hb.block k hk))⟩
  clear hb1 hy1 hk1 hk2 RD G HS hH hmf
  have ⟨c0, c1, c2, c3, c4, c5, c6, c7, c8, c9⟩ := Hc.of B2.out
  have cY := Y2.out.cell 0
  simp at cY
  have ⟨z0, z1, z2, z3, z4, z5, z6, z7, z8, z9⟩ := Hc.of Z2.out
  simp only [H4.zero] at z0 z1 z2 z3 z4 z5 z6 z7 z8 z9
  have f0 := Z2.out.frozen 0
  have f1 := Z2.out.frozen 1
  have f2 := Z2.out.frozen 2
  have f3 := Z2.out.frozen 3
  have f4 := Z2.out.frozen 4
  have f5 := Z2.out.frozen 5
  have f6 := Z2.out.frozen 6
  have f7 := Z2.out.frozen 7
  have f8 := Z2.out.frozen 8
  have f9 := Z2.out.frozen 9
  generalize hgh : getH p = h at *
  have HGH := Lib.hid hgh
  clear hgh
  go_wp2_with fail
  go_region
  clear c0 c1 c2 c3 c4 c5 c6 c7 c8 c9 cY z0 z1 z2 z3 z4 z5 z6 z7 z8 z9 f0 f1 f2 f3 f4 f5 f6 f7 f8 f9
  go_wp2_with fail
  have B3 := (put10_blk Z2.out h).drew
  have K3 := put10_kb (S := fun k => w.heap.size ≤ k) (u := w) (N := w.heap.size + 1) ⟨L2.out.os, L2.out.tape, L2.out.output, L2.out.size, fun k hk _ => L2.out.block k hk⟩ (fun _ => by omega) h
  have L3 := K3.drew.below (Nat.le_refl _)
  clear K3 Z2 Y2 B2 L2
  unfold put10 at B3 L3
  generalize ((((((((((w2.setCell ⟨w.heap.size + 1, 0, none⟩ (.int .i64 h.tos)).setCell ⟨w.heap.size + 1, 1, none⟩ (.int .i64 h.id)).setCell ⟨w.heap.size + 1, 2, none⟩ (.int .i64 h.off)).setCell ⟨w.heap.size + 1, 3, none⟩ (.int .i64 h.ttl)).setCell ⟨w.heap.size + 1, 4, none⟩ (.int .i64 h.proto)).setCell ⟨w.heap.size + 1, 5, none⟩ (.bool h.df)).setCell ⟨w.heap.size + 1, 6, none⟩ (.bool h.mf)).setCell ⟨w.heap.size + 1, 7, none⟩ (.string h.src)).setCell ⟨w.heap.size + 1, 8, none⟩ (.string h.dst)).setCell ⟨w.heap.size + 1, 9, none⟩ (.string h.opt)).drew = W at *
  have ⟨c0, c1, c2, c3, c4, c5, c6, c7, c8, c9⟩ := Hc.of B3
  refine ⟨rfl, .tuple #[.agg (getH p).cells, .string (getS p), .int .i64 (getE p : Nat)], ?_, rfl, L3⟩
  rw [HGH.out]
  unfold H4.cells
  simp [results, Try.results14, go_sem, c0, c1, c2, c3, c4, c5, c6, c7, c8, c9]

end Go.Proofs.Ytdljioacbpabbaa
