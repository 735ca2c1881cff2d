/-
  The document's own Get. (Written by wip/tools/genrefget12.py.)
-/
import Derived.Test.YtnlpbnipfglhhaaDoorGreRead
import Derived.Test.YtnlpbnipfglhhaaDoorIpipRef
import Derived.Test.YtnlpbnipfglhhaaDoorSums
import Derived.Test.YtnlpbnipfglhhaaDoorReading
import Derived.RegionTactic
import Derived.BigRegion
import Derived.IntWalk
namespace Go.Proofs.YtnlpbnipfglhhaaDoor
open Go.RowKit
set_option linter.unusedVariables false
set_option linter.unusedSimpArgs false

/-- The answer's block, and the empty header's. -/
structure Ga12 (w u : World) : Prop where
  zb : Blk u w.heap.size H12.zero.cells 31
  nb : Blk u (w.heap.size + 1) H12.zero.cells 31
  bel : Below w.heap.size w u
theorem Ga12.below {w u u' : World} (g : Ga12 w u) (hb : Below u.heap.size u u') : Ga12 w u' :=
  ⟨(hb.block _ g.zb.lt).trans g.zb, (hb.block _ g.nb.lt).trans g.nb, g.bel.trans (hb.mono g.bel.size)⟩
theorem Ga12.new (w : World) : Ga12 w ((w.alloc (.cells H12.zero.cells 31)).alloc (.cells H12.zero.cells 31)) := by
  have e2 := Blk.new (w.alloc (.cells H12.zero.cells 31)) H12.zero.cells 31
  rw [World.size_alloc] at e2
  exact ⟨(Blk.new w _ _).alloc _, e2, ((Below.refl _ _).alloc (Nat.le_refl _) _).alloc (by simp) _⟩
/-- With a header's block besides. -/
structure Gb12 (w u : World) (H : Nat) (h : H12) : Prop where
  a : Ga12 w u
  hb : Blk u H h.cells 31
  lt : w.heap.size + 1 < H
theorem Gb12.below {w u u' : World} {H : Nat} {h : H12} (g : Gb12 w u H h) (hb : Below u.heap.size u u') : Gb12 w u' H h :=
  ⟨g.a.below hb, (hb.block _ g.hb.lt).trans g.hb, g.lt⟩
theorem Gb12.new {w u : World} (h : H12) (g : Ga12 w u) : Gb12 w (u.alloc (.cells h.cells 31)).drew u.heap.size h :=
  ⟨(g.below ((Below.refl _ _).alloc (Nat.le_refl _) _)).below (below_drewN (Below.refl _ _) 1), (Blk.new u _ _).drew, g.nb.lt⟩
theorem Gb12.key {w u : World} {H : Nat} {h : H12} (g : Gb12 w u H h) (n : Nat) : Gb12 w (u.setCell ⟨H, 2, none⟩ (.int .u32 (n : Nat))) H ⟨h.sum, h.key, n⟩ := by
  have lt := g.lt
  refine ⟨⟨g.a.zb.set_other (by simp; omega) _, g.a.nb.set_other (by simp; omega) _, ?_⟩, g.hb.set 2 _, lt⟩
  have hb := g.a.bel
  exact ⟨hb.os, hb.tape, hb.output, by simpa [World.setCell] using hb.size, fun k hk => (Below.heap_setCell u _ _ k (by simp; omega)).trans (hb.block k hk)⟩
theorem refget12_ret {w W : World} {tmps : Array Value} {s : ByteArray} {k : Int} {h : H12} (t2 : tmps.getD 2 undef = .pointer (some ⟨w.heap.size, 0, none⟩)) (hB : Blk W w.heap.size h.cells 31) (t3 : tmps.getD 3 undef = .string s) (t4 : tmps.getD 4 undef = .int .i64 k) :
    (results Tryd.f11 tmps).run Tryd.prog W = .ok (.tuple #[.agg h.cells, .string s, .int .i64 k]) W := by
  have ⟨c0, c1, c2⟩ := Hc12s.of hB
  unfold H12.cells
  simp at t2 t3 t4
  simp [results, Tryd.results11, go_sem, t2, t3, t4, c0, c1, c2]
def Ref12End (b : ByteArray) (w : World) (e : Ending) (w' : World) : Prop := e = .returned (.tuple #[.agg (get12H b).cells, .string (get12S b), .int .i64 (get12E b : Nat)]) ∧ Below w.heap.size w w'
theorem get12_err {b : ByteArray} (h : get12E b ≠ 0) : get12H b = H12.zero ∧ get12S b = ⟨#[]⟩ := by
  unfold get12H get12S
  rw [if_neg h, if_neg h]
  exact ⟨rfl, rfl⟩
theorem get12_ok {b : ByteArray} (h : get12E b = 0) : get12H b = hd12 b ∧ get12S b = in12 b := by
  unfold get12H get12S
  rw [if_pos h, if_pos h]
  exact ⟨rfl, rfl⟩
theorem Ga12.put {w u : World} (g : Ga12 w u) (h : H12) : Blk (put12c u w.heap.size h) w.heap.size h.cells 31 ∧ Below w.heap.size w (put12c u w.heap.size h) := by
  refine ⟨put12c_blk g.zb h, ?_⟩
  have K := put12c_kb (S := fun k => w.heap.size ≤ k) (u := w) (N := w.heap.size) ⟨g.bel.os, g.bel.tape, g.bel.output, g.bel.size, fun k hk _ => g.bel.block k hk⟩ (fun _ => Nat.le_refl _) h
  exact K.below (Nat.le_refl _)
theorem refget12_stop {w u : World} {b : ByteArray} {tmps : Array Value} {k : Nat} (g : Ga12 w u) (he : get12E b = k) (h0 : k ≠ 0) (t2 : tmps.getD 2 undef = .pointer (some ⟨w.heap.size, 0, none⟩)) (t3 : tmps.getD 3 undef = .string ⟨#[]⟩) (t4 : tmps.getD 4 undef = .int .i64 (k : Nat)) :
    bodyPost Tryd.prog Tryd.f11 (Ref12End b w) Exit.ret { tmps := tmps, defers := [] } (((u.setCell ⟨w.heap.size, 0, none⟩ (.bool false)).setCell ⟨w.heap.size, 1, none⟩ (.bool false)).setCell ⟨w.heap.size, 2, none⟩ (.int .u32 0)) := by
  have hg := get12_err (b := b) (by omega)
  have p := g.put H12.zero
  refine ⟨rfl, _, refget12_ret (h := H12.zero) t2 p.1 t3 t4, ?_, p.2⟩
  rw [hg.1, hg.2, he]
theorem refget12_done {w u : World} {b s : ByteArray} {tmps : Array Value} {h : H12} (g : Ga12 w u) (he : get12E b = 0) (hh : hd12 b = h) (hs : in12 b = s) (t2 : tmps.getD 2 undef = .pointer (some ⟨w.heap.size, 0, none⟩)) (t3 : tmps.getD 3 undef = .string s) (t4 : tmps.getD 4 undef = .int .i64 0) :
    bodyPost Tryd.prog Tryd.f11 (Ref12End b w) Exit.ret { tmps := tmps, defers := [] } (put12c u w.heap.size h).drew := by
  have hg := get12_ok (b := b) he
  have p := g.put h
  refine ⟨rfl, _, refget12_ret (h := h) t2 p.1.drew t3 t4, ?_, below_drewN p.2 1⟩
  rw [hg.1, hg.2, he, hh, hs]
  rfl

set_option maxRecDepth 100000 in
set_option maxHeartbeats 2000000 in
theorem refget12_two (b : ByteArray) (w : World) (h : b.size < 4) (he : get12E b = 2) : Calls Tryd.prog 11 #[.string b] w (Ref12End b w) := by
  have t0 : decide ((b.size : Int) < 4) = true := by simp; omega
  have HE := Lib.hid he
  clear h he
  have GA := Lib.hid (Ga12.new w)
  go_enter Tryd.func11, Tryd.ntmps11
  go_upto_if 14 with (fail)
  simp only [show #[Value.bool false, Value.bool false, Value.int IntKind.u32 0] = H12.zero.cells from rfl]
  generalize (w.alloc (.cells H12.zero.cells 31)).alloc (.cells H12.zero.cells 31) = u0 at *
  have ⟨z0, z1, z2⟩ := Hc12s.of GA.out.zb
  have ⟨n0, n1, n2⟩ := Hc12s.of GA.out.nb
  have f0 := GA.out.zb.frozen 0
  have f1 := GA.out.zb.frozen 1
  have f2 := GA.out.zb.frozen 2
  simp only [H12.zero, show ((0 : Nat) : Int) = 0 from rfl] at z0 z1 z2 n0 n1 n2
  go_wp2_with fail
  exact refget12_stop (k := 2) GA.out HE.out (by decide) rfl rfl rfl

set_option maxRecDepth 100000 in
set_option maxHeartbeats 2000000 in
theorem refget12_three (b : ByteArray) (w : World) (y : Nat) (h : 4 ≤ b.size) (hy : (b[1]'(by omega)).toNat = y) (h8 : y % 8 ≠ 0) (he : get12E b = 3) : Calls Tryd.prog 11 #[.string b] w (Ref12End b w) := by
  have t0 : decide ((b.size : Int) < 4) = false := by simp; omega
  have b1 : (1 : Int) < (b.size : Int) := by omega
  have t1 : (((y : Int) % 8) != 0) = true := by simp; omega
  have HE := Lib.hid he
  clear h8 he
  have GA := Lib.hid (Ga12.new w)
  go_enter Tryd.func11, Tryd.ntmps11
  go_upto_if 14 with (fail)
  simp only [show #[Value.bool false, Value.bool false, Value.int IntKind.u32 0] = H12.zero.cells from rfl]
  generalize (w.alloc (.cells H12.zero.cells 31)).alloc (.cells H12.zero.cells 31) = u0 at *
  have ⟨z0, z1, z2⟩ := Hc12s.of GA.out.zb
  have ⟨n0, n1, n2⟩ := Hc12s.of GA.out.nb
  have f0 := GA.out.zb.frozen 0
  have f1 := GA.out.zb.frozen 1
  have f2 := GA.out.zb.frozen 2
  simp only [H12.zero, show ((0 : Nat) : Int) = 0 from rfl] at z0 z1 z2 n0 n1 n2
  go_wp2_with fail
  exact refget12_stop (k := 3) GA.out HE.out (by decide) rfl rfl rfl

set_option maxRecDepth 100000 in
set_option maxHeartbeats 2000000 in
theorem refget12_nine (b : ByteArray) (w : World) (x y : Nat) (h : 4 ≤ b.size) (hx : (b[0]'(by omega)).toNat = x) (hy : (b[1]'(by omega)).toNat = y) (h8 : y % 8 = 0) (hn : y ≠ 0 ∨ (x ≠ 0 ∧ x ≠ 32 ∧ x ≠ 128 ∧ x ≠ 160)) (he : get12E b = 9) : Calls Tryd.prog 11 #[.string b] w (Ref12End b w) := by
  have t0 : decide ((b.size : Int) < 4) = false := by simp; omega
  have b1 : (1 : Int) < (b.size : Int) := by omega
  have b0 : (0 : Int) < (b.size : Int) := by omega
  have t1 : (((y : Int) % 8) != 0) = false := by simp; omega
  have HE := Lib.hid he
  by_cases h0 : y = 0
  case neg =>
    have t2 : ((y : Int) != 0) = true := by simp; omega
    clear h8 he hn h0
    have GA := Lib.hid (Ga12.new w)
    go_enter Tryd.func11, Tryd.ntmps11
    go_upto_if 14 with (fail)
    simp only [show #[Value.bool false, Value.bool false, Value.int IntKind.u32 0] = H12.zero.cells from rfl]
    generalize (w.alloc (.cells H12.zero.cells 31)).alloc (.cells H12.zero.cells 31) = u0 at *
    have ⟨z0, z1, z2⟩ := Hc12s.of GA.out.zb
    have ⟨n0, n1, n2⟩ := Hc12s.of GA.out.nb
    have f0 := GA.out.zb.frozen 0
    have f1 := GA.out.zb.frozen 1
    have f2 := GA.out.zb.frozen 2
    simp only [H12.zero, show ((0 : Nat) : Int) = 0 from rfl] at z0 z1 z2 n0 n1 n2
    go_wp2_with fail
    exact refget12_stop (k := 9) GA.out HE.out (by decide) rfl rfl rfl
  have hn' : x ≠ 0 ∧ x ≠ 32 ∧ x ≠ 128 ∧ x ≠ 160 := by omega
  have t2 : ((y : Int) != 0) = false := by simp; omega
  have t3 : ((x : Int) != 0) = true := by simp; omega
  have t4 : ((x : Int) != 32) = true := by simp; omega
  have t5 : ((x : Int) != 128) = true := by simp; omega
  have t6 : ((x : Int) != 160) = true := by simp; omega
  clear h8 he hn h0 hn' 
  have GA := Lib.hid (Ga12.new w)
  go_enter Tryd.func11, Tryd.ntmps11
  go_upto_if 14 with (fail)
  simp only [show #[Value.bool false, Value.bool false, Value.int IntKind.u32 0] = H12.zero.cells from rfl]
  generalize (w.alloc (.cells H12.zero.cells 31)).alloc (.cells H12.zero.cells 31) = u0 at *
  have ⟨z0, z1, z2⟩ := Hc12s.of GA.out.zb
  have ⟨n0, n1, n2⟩ := Hc12s.of GA.out.nb
  have f0 := GA.out.zb.frozen 0
  have f1 := GA.out.zb.frozen 1
  have f2 := GA.out.zb.frozen 2
  simp only [H12.zero, show ((0 : Nat) : Int) = 0 from rfl] at z0 z1 z2 n0 n1 n2
  go_wp2_with fail
  exact refget12_stop (k := 9) GA.out HE.out (by decide) rfl rfl rfl

set_option maxRecDepth 100000 in
set_option maxHeartbeats 4000000 in
theorem refget12_tt (b : ByteArray) (w : World) (h : 4 ≤ b.size) (hs : b.size ≤ 900000) (hx : (b[0]'(by omega)).toNat = 160) (hy : (b[1]'(by omega)).toNat = 0) (hok : f12 b = .ok true true) : Calls Tryd.prog 11 #[.string b] w (Ref12End b w) := by
  have t0 : decide ((b.size : Int) < 4) = false := by simp; omega
  have b1 : (1 : Int) < (b.size : Int) := by omega
  have b0 : (0 : Int) < (b.size : Int) := by omega
  have hE : get12E b = rest12 true true b := by unfold get12E; rw [hok]
  have HH : Hid (hd12 b = ⟨true, true, key12 true true b⟩) := by show hd12 b = _; unfold hd12; rw [hok]
  have HI : Hid (in12 b = b.extract 12 b.size) := by show in12 b = _; unfold in12; rw [hok]; rfl
  have HRE : Hid (get12E b = if b.size < 12 then 2 else if sm12 true b ≠ 0 then sm12 true b else pk12 (numOf b 2 2) (v11 (b.extract 12 b.size))) := by
    show get12E b = _
    rw [hE]
    rfl
  clear hok hE
  have GA := Lib.hid (Ga12.new w)
  go_enter Tryd.func11, Tryd.ntmps11
  go_upto_if 14 with (fail)
  simp only [show #[Value.bool false, Value.bool false, Value.int IntKind.u32 0] = H12.zero.cells from rfl]
  generalize (w.alloc (.cells H12.zero.cells 31)).alloc (.cells H12.zero.cells 31) = u0 at *
  have ⟨z0, z1, z2⟩ := Hc12s.of GA.out.zb
  have ⟨n0, n1, n2⟩ := Hc12s.of GA.out.nb
  have f0 := GA.out.zb.frozen 0
  have f1 := GA.out.zb.frozen 1
  have f2 := GA.out.zb.frozen 2
  simp only [H12.zero, show ((0 : Nat) : Int) = 0 from rfl] at z0 z1 z2 n0 n1 n2
  go_wp2_with fail
  go_region
  clear z0 z1 z2 n0 n1 n2 f0 f1 f2
  have GB := Lib.hid (Gb12.new ⟨true, true, 0⟩ GA.out)
  clear GA
  unfold H12.cells at GB
  simp only [show ((0 : Nat) : Int) = 0 from rfl] at GB
  generalize (u0.alloc (.cells #[.bool true, .bool true, .int .u32 0] 31)).drew = u1 at *
  generalize u0.heap.size = H at *
  have ⟨z0, z1, z2⟩ := Hc12s.of GB.out.a.zb
  have ⟨n0, n1, n2⟩ := Hc12s.of GB.out.a.nb
  have f0 := GB.out.a.zb.frozen 0
  have f1 := GB.out.a.zb.frozen 1
  have f2 := GB.out.a.zb.frozen 2
  simp only [H12.zero, show ((0 : Nat) : Int) = 0 from rfl] at z0 z1 z2 n0 n1 n2
  have ⟨m0, m1, m2⟩ := Hc12s.of GB.out.hb
  simp only [show ((0 : Nat) : Int) = 0 from rfl] at m0 m1 m2
  by_cases hl : b.size < 12
  case pos =>
    have tl : decide ((b.size : Int) < 12) = true := by simp; omega
    have HE : Hid (get12E b = 2) := by show get12E b = 2; rw [HRE.out, if_pos hl]
    clear hl
    go_wp2_with fail
    exact refget12_stop (k := 2) GB.out.a HE.out (by decide) rfl rfl rfl
  have HR2 : Hid (get12E b = if sm12 true b ≠ 0 then sm12 true b else pk12 (numOf b 2 2) (v11 (b.extract 12 b.size))) := by
    show get12E b = _
    rw [HRE.out, if_neg hl]
  have tl : decide ((b.size : Int) < 12) = false := by simp; omega
  have HLZ : Hid (12 ≤ b.size) := by show 12 ≤ b.size; omega
  clear HRE
  have b6 : (6 : Int) < (b.size : Int) := by omega
  have b7 : (7 : Int) < (b.size : Int) := by omega
  have hn := num_2 b 6 (by omega)
  have hsm : sm12 true b = if numOf b 6 2 ≠ 0 then 9 else if sumD b.data.toList ≠ 0 then 5 else 0 := rfl
  rw [hn] at hsm
  have HSM := Lib.hid hsm
  clear hn hsm
  have hb6 : 6 < b.size := by omega
  have hb7 : 6 + 1 < b.size := by omega
  obtain ⟨p6, h6⟩ : ∃ n, (b[6]'hb6).toNat = n := ⟨_, rfl⟩
  obtain ⟨p7, h7⟩ : ∃ n, (b[6 + 1]'hb7).toNat = n := ⟨_, rfl⟩
  rw [h6, h7] at HSM
  simp only [Nat.reduceAdd] at h7
  by_cases e6 : p6 = 0
  case neg =>
    have t1 : ((p6 : Int) != 0) = true := by simp; omega
    have HE : Hid (get12E b = 9) := by
      have hq : sm12 true b = 9 := by rw [HSM.out, if_pos (by omega)]
      show get12E b = 9
      rw [HR2.out, hq]; rfl
    clear hl e6
    go_wp2_with fail
    exact refget12_stop (k := 9) GB.out.a HE.out (by decide) rfl rfl rfl
  have t1 : ((p6 : Int) != 0) = false := by simp; omega
  by_cases e7 : p7 = 0
  case neg =>
    have t2 : ((p7 : Int) != 0) = true := by simp; omega
    have HE : Hid (get12E b = 9) := by
      have hq : sm12 true b = 9 := by rw [HSM.out, if_pos (by omega)]
      show get12E b = 9
      rw [HR2.out, hq]; rfl
    clear hl e6 e7
    go_wp2_with fail
    exact refget12_stop (k := 9) GB.out.a HE.out (by decide) rfl rfl rfl
  have t2 : ((p7 : Int) != 0) = false := by simp; omega
  have HS6 : Hid (sm12 true b = if sumD b.data.toList ≠ 0 then 5 else 0) := by
    show sm12 true b = _
    rw [HSM.out, if_neg (by omega)]
  have HSU := Lib.hid (fun W => refsum_any b W (by omega))
  unfold SumEnd at HSU
  clear HSM e6 e7
  generalize sumD b.data.toList = N at *
  go_wp2_with fail
  refine (HSU.out _).mono ?_
  rintro e u2 ⟨rfl, hb⟩
  replace GB := Lib.hid (GB.out.below hb)
  clear hb HSU t1 t2 h6 h7 b6 b7 z0 z1 z2 n0 n1 n2 f0 f1 f2 m0 m1 m2
  have ⟨z0, z1, z2⟩ := Hc12s.of GB.out.a.zb
  have ⟨n0, n1, n2⟩ := Hc12s.of GB.out.a.nb
  have f0 := GB.out.a.zb.frozen 0
  have f1 := GB.out.a.zb.frozen 1
  have f2 := GB.out.a.zb.frozen 2
  simp only [H12.zero, show ((0 : Nat) : Int) = 0 from rfl] at z0 z1 z2 n0 n1 n2
  have ⟨m0, m1, m2⟩ := Hc12s.of GB.out.hb
  simp only [show ((0 : Nat) : Int) = 0 from rfl] at m0 m1 m2
  by_cases eN : N = 0
  case neg =>
    have t1 : ((N : Int) != 0) = true := by simp; omega
    have HE : Hid (get12E b = 5) := by
      have hq : sm12 true b = 5 := by rw [HS6.out, if_pos eN]
      show get12E b = 5
      rw [HR2.out, hq]; rfl
    clear hl eN
    go_wp2_with fail
    exact refget12_stop (k := 5) GB.out.a HE.out (by decide) rfl rfl rfl
  have t1 : ((N : Int) != 0) = false := by simp; omega
  have HP : Hid (get12E b = pk12 (numOf b 2 2) (v11 (b.extract 12 b.size))) := by
    have hq : sm12 true b = 0 := by rw [HS6.out, if_neg (by omega)]
    show get12E b = _
    rw [HR2.out, hq]; rfl
  clear HR2 HS6 eN
  have bk0 : (8 : Int) ≤ (b.size : Int) := by omega
  have bk1 : (12 : Int) ≤ (b.size : Int) := by omega
  have VK := Lib.hid (fun W => value_num b 8 4 W (by omega) (by decide))
  simp only [Nat.reduceAdd] at VK
  have hk4 := numOf_lt b 8 4 (by omega)
  have wk : IntKind.u32.wrap (numOf b 8 4 : Int) = (numOf b 8 4 : Int) := by rw [wrap_u32, Nat.mod_eq_of_lt (show numOf b 8 4 < 4294967296 from hk4)]
  have HKY : Hid (key12 true true b = numOf b 8 4) := rfl
  clear hk4
  generalize numOf b 8 4 = ky at *
  have fh := GB.out.hb.frozen 2
  go_wp2_with fail
  refine (VK.out _).mono ?_
  rintro e u2' ⟨rfl, rfl⟩
  go_upto_region 23 with (fail)
  replace GB := Lib.hid (GB.out.key ky)
  simp only at GB
  clear VK wk fh bk0 bk1 z0 z1 z2 n0 n1 n2 f0 f1 f2 m0 m1 m2
  generalize u2.setCell ⟨H, 2, none⟩ (.int .u32 (ky : Nat)) = u3 at *
  have ⟨z0, z1, z2⟩ := Hc12s.of GB.out.a.zb
  have ⟨n0, n1, n2⟩ := Hc12s.of GB.out.a.nb
  have f0 := GB.out.a.zb.frozen 0
  have f1 := GB.out.a.zb.frozen 1
  have f2 := GB.out.a.zb.frozen 2
  simp only [H12.zero, show ((0 : Nat) : Int) = 0 from rfl] at z0 z1 z2 n0 n1 n2
  have ⟨m0, m1, m2⟩ := Hc12s.of GB.out.hb
  simp only [show ((0 : Nat) : Int) = 0 from rfl] at m0 m1 m2
  have b2 : (2 : Int) ≤ (b.size : Int) := by omega
  have b4 : (4 : Int) ≤ (b.size : Int) := by omega
  have bz : (12 : Int) ≤ (b.size : Int) := by omega
  have V2 := Lib.hid (fun W => value_num b 2 2 W (by omega) (by decide))
  simp only [Nat.reduceAdd] at V2
  have l2 := numOf_lt b 2 2 (by omega)
  have wk2 : IntKind.i64.wrap (numOf b 2 2 : Int) = (numOf b 2 2 : Int) := IntWalk.i64_in _ (by have := l2; omega)
  have HPK : Hid (pk12 (numOf b 2 2) (v11 (b.extract 12 b.size)) = if numOf b 2 2 ≠ 2048 ∧ numOf b 2 2 ≠ 34525 then 6 else if (v11 (b.extract 12 b.size)).en ≠ 0 then (v11 (b.extract 12 b.size)).en else if (v11 (b.extract 12 b.size)).kn ≠ numOf b 2 2 then 3 else 0) := rfl
  have HKD := Lib.hid (fun W => refkind11_any (b.extract 12 b.size) W)
  unfold Tells at HKD
  rw [V11.kind_kn, V11.err_en] at HKD
  clear l2
  generalize pk12 (numOf b 2 2) (v11 (b.extract 12 b.size)) = Q at *
  generalize (v11 (b.extract 12 b.size)).kn = q at *
  generalize (v11 (b.extract 12 b.size)).en = E at *
  generalize numOf b 2 2 = kd at *
  go_wp2_with fail
  refine (V2.out _).mono ?_
  rintro e u4 ⟨rfl, rfl⟩
  clear V2
  by_cases hkd : kd = 2048 ∨ kd = 34525
  case neg =>
    have t2 : ((kd : Int) != 2048) = true := by simp; omega
    have t3 : ((kd : Int) != 34525) = true := by simp; omega
    have HE : Hid (get12E b = 6) := by show get12E b = 6; rw [HP.out, HPK.out, if_pos (by omega)]
    clear hkd hl
    go_wp2_with fail
    exact refget12_stop (k := 6) GB.out.a HE.out (by decide) rfl rfl rfl
  have HE : Hid (get12E b = if E ≠ 0 then E else if q ≠ kd then 3 else 0) := by
    show get12E b = _
    rw [HP.out, HPK.out, if_neg (by omega)]
  clear HP HPK
  rcases hkd with rfl | rfl
  · go_wp2_with fail
    refine (HKD.out _).mono ?_
    rintro e u5 ⟨rfl, hb⟩
    replace GB := Lib.hid (GB.out.below hb)
    clear hb HKD z0 z1 z2 n0 n1 n2 f0 f1 f2 m0 m1 m2
    have ⟨z0, z1, z2⟩ := Hc12s.of GB.out.a.zb
    have ⟨n0, n1, n2⟩ := Hc12s.of GB.out.a.nb
    have f0 := GB.out.a.zb.frozen 0
    have f1 := GB.out.a.zb.frozen 1
    have f2 := GB.out.a.zb.frozen 2
    simp only [H12.zero, show ((0 : Nat) : Int) = 0 from rfl] at z0 z1 z2 n0 n1 n2
    have ⟨m0, m1, m2⟩ := Hc12s.of GB.out.hb
    simp only [show ((0 : Nat) : Int) = 0 from rfl] at m0 m1 m2
    by_cases eE : E = 0
    case neg =>
      have t2 : ((E : Int) != 0) = true := by simp; omega
      have HEE : Hid (get12E b = E) := by show get12E b = E; rw [HE.out, if_pos eE]
      have HNE := Lib.hid eE
      clear eE hl
      go_wp2_with fail
      exact refget12_stop (k := E) GB.out.a HEE.out HNE.out rfl rfl rfl
    have t2 : ((E : Int) != 0) = false := by simp; omega
    by_cases eq : q = 2048
    case neg =>
      have t3 : ((q : Int) != 2048) = true := by simp; omega
      have HEE : Hid (get12E b = 3) := by show get12E b = 3; rw [HE.out, if_neg (by omega), if_pos eq]
      clear eE eq hl
      go_wp2_with fail
      exact refget12_stop (k := 3) GB.out.a HEE.out (by decide) rfl rfl rfl
    have t3 : ((q : Int) != 2048) = false := by simp; omega
    have HEE : Hid (get12E b = 0) := by show get12E b = 0; rw [HE.out, if_neg (by omega), if_neg (by omega)]
    clear eE eq hl HE
    go_wp2_with fail
    go_region
    go_wp2_with fail
    exact refget12_done (h := ⟨true, true, ky⟩) GB.out.a HEE.out (HH.out.trans (by rw [HKY.out])) HI.out rfl rfl rfl
  · go_wp2_with fail
    refine (HKD.out _).mono ?_
    rintro e u5 ⟨rfl, hb⟩
    replace GB := Lib.hid (GB.out.below hb)
    clear hb HKD z0 z1 z2 n0 n1 n2 f0 f1 f2 m0 m1 m2
    have ⟨z0, z1, z2⟩ := Hc12s.of GB.out.a.zb
    have ⟨n0, n1, n2⟩ := Hc12s.of GB.out.a.nb
    have f0 := GB.out.a.zb.frozen 0
    have f1 := GB.out.a.zb.frozen 1
    have f2 := GB.out.a.zb.frozen 2
    simp only [H12.zero, show ((0 : Nat) : Int) = 0 from rfl] at z0 z1 z2 n0 n1 n2
    have ⟨m0, m1, m2⟩ := Hc12s.of GB.out.hb
    simp only [show ((0 : Nat) : Int) = 0 from rfl] at m0 m1 m2
    by_cases eE : E = 0
    case neg =>
      have t2 : ((E : Int) != 0) = true := by simp; omega
      have HEE : Hid (get12E b = E) := by show get12E b = E; rw [HE.out, if_pos eE]
      have HNE := Lib.hid eE
      clear eE hl
      go_wp2_with fail
      exact refget12_stop (k := E) GB.out.a HEE.out HNE.out rfl rfl rfl
    have t2 : ((E : Int) != 0) = false := by simp; omega
    by_cases eq : q = 34525
    case neg =>
      have t3 : ((q : Int) != 34525) = true := by simp; omega
      have HEE : Hid (get12E b = 3) := by show get12E b = 3; rw [HE.out, if_neg (by omega), if_pos eq]
      clear eE eq hl
      go_wp2_with fail
      exact refget12_stop (k := 3) GB.out.a HEE.out (by decide) rfl rfl rfl
    have t3 : ((q : Int) != 34525) = false := by simp; omega
    have HEE : Hid (get12E b = 0) := by show get12E b = 0; rw [HE.out, if_neg (by omega), if_neg (by omega)]
    clear eE eq hl HE
    go_wp2_with fail
    go_region
    go_wp2_with fail
    exact refget12_done (h := ⟨true, true, ky⟩) GB.out.a HEE.out (HH.out.trans (by rw [HKY.out])) HI.out rfl rfl rfl

set_option maxRecDepth 100000 in
set_option maxHeartbeats 4000000 in
theorem refget12_tf (b : ByteArray) (w : World) (h : 4 ≤ b.size) (hs : b.size ≤ 900000) (hx : (b[0]'(by omega)).toNat = 128) (hy : (b[1]'(by omega)).toNat = 0) (hok : f12 b = .ok true false) : Calls Tryd.prog 11 #[.string b] w (Ref12End b w) := by
  have t0 : decide ((b.size : Int) < 4) = false := by simp; omega
  have b1 : (1 : Int) < (b.size : Int) := by omega
  have b0 : (0 : Int) < (b.size : Int) := by omega
  have hE : get12E b = rest12 true false b := by unfold get12E; rw [hok]
  have HH : Hid (hd12 b = ⟨true, false, key12 true false b⟩) := by show hd12 b = _; unfold hd12; rw [hok]
  have HI : Hid (in12 b = b.extract 8 b.size) := by show in12 b = _; unfold in12; rw [hok]; rfl
  have HRE : Hid (get12E b = if b.size < 8 then 2 else if sm12 true b ≠ 0 then sm12 true b else pk12 (numOf b 2 2) (v11 (b.extract 8 b.size))) := by
    show get12E b = _
    rw [hE]
    rfl
  clear hok hE
  have GA := Lib.hid (Ga12.new w)
  go_enter Tryd.func11, Tryd.ntmps11
  go_upto_if 14 with (fail)
  simp only [show #[Value.bool false, Value.bool false, Value.int IntKind.u32 0] = H12.zero.cells from rfl]
  generalize (w.alloc (.cells H12.zero.cells 31)).alloc (.cells H12.zero.cells 31) = u0 at *
  have ⟨z0, z1, z2⟩ := Hc12s.of GA.out.zb
  have ⟨n0, n1, n2⟩ := Hc12s.of GA.out.nb
  have f0 := GA.out.zb.frozen 0
  have f1 := GA.out.zb.frozen 1
  have f2 := GA.out.zb.frozen 2
  simp only [H12.zero, show ((0 : Nat) : Int) = 0 from rfl] at z0 z1 z2 n0 n1 n2
  go_wp2_with fail
  go_region
  clear z0 z1 z2 n0 n1 n2 f0 f1 f2
  have GB := Lib.hid (Gb12.new ⟨true, false, 0⟩ GA.out)
  clear GA
  unfold H12.cells at GB
  simp only [show ((0 : Nat) : Int) = 0 from rfl] at GB
  generalize (u0.alloc (.cells #[.bool true, .bool false, .int .u32 0] 31)).drew = u1 at *
  generalize u0.heap.size = H at *
  have ⟨z0, z1, z2⟩ := Hc12s.of GB.out.a.zb
  have ⟨n0, n1, n2⟩ := Hc12s.of GB.out.a.nb
  have f0 := GB.out.a.zb.frozen 0
  have f1 := GB.out.a.zb.frozen 1
  have f2 := GB.out.a.zb.frozen 2
  simp only [H12.zero, show ((0 : Nat) : Int) = 0 from rfl] at z0 z1 z2 n0 n1 n2
  have ⟨m0, m1, m2⟩ := Hc12s.of GB.out.hb
  simp only [show ((0 : Nat) : Int) = 0 from rfl] at m0 m1 m2
  by_cases hl : b.size < 8
  case pos =>
    have tl : decide ((b.size : Int) < 8) = true := by simp; omega
    have HE : Hid (get12E b = 2) := by show get12E b = 2; rw [HRE.out, if_pos hl]
    clear hl
    go_wp2_with fail
    exact refget12_stop (k := 2) GB.out.a HE.out (by decide) rfl rfl rfl
  have HR2 : Hid (get12E b = if sm12 true b ≠ 0 then sm12 true b else pk12 (numOf b 2 2) (v11 (b.extract 8 b.size))) := by
    show get12E b = _
    rw [HRE.out, if_neg hl]
  have tl : decide ((b.size : Int) < 8) = false := by simp; omega
  have HLZ : Hid (8 ≤ b.size) := by show 8 ≤ b.size; omega
  clear HRE
  have b6 : (6 : Int) < (b.size : Int) := by omega
  have b7 : (7 : Int) < (b.size : Int) := by omega
  have hn := num_2 b 6 (by omega)
  have hsm : sm12 true b = if numOf b 6 2 ≠ 0 then 9 else if sumD b.data.toList ≠ 0 then 5 else 0 := rfl
  rw [hn] at hsm
  have HSM := Lib.hid hsm
  clear hn hsm
  have hb6 : 6 < b.size := by omega
  have hb7 : 6 + 1 < b.size := by omega
  obtain ⟨p6, h6⟩ : ∃ n, (b[6]'hb6).toNat = n := ⟨_, rfl⟩
  obtain ⟨p7, h7⟩ : ∃ n, (b[6 + 1]'hb7).toNat = n := ⟨_, rfl⟩
  rw [h6, h7] at HSM
  simp only [Nat.reduceAdd] at h7
  by_cases e6 : p6 = 0
  case neg =>
    have t1 : ((p6 : Int) != 0) = true := by simp; omega
    have HE : Hid (get12E b = 9) := by
      have hq : sm12 true b = 9 := by rw [HSM.out, if_pos (by omega)]
      show get12E b = 9
      rw [HR2.out, hq]; rfl
    clear hl e6
    go_wp2_with fail
    exact refget12_stop (k := 9) GB.out.a HE.out (by decide) rfl rfl rfl
  have t1 : ((p6 : Int) != 0) = false := by simp; omega
  by_cases e7 : p7 = 0
  case neg =>
    have t2 : ((p7 : Int) != 0) = true := by simp; omega
    have HE : Hid (get12E b = 9) := by
      have hq : sm12 true b = 9 := by rw [HSM.out, if_pos (by omega)]
      show get12E b = 9
      rw [HR2.out, hq]; rfl
    clear hl e6 e7
    go_wp2_with fail
    exact refget12_stop (k := 9) GB.out.a HE.out (by decide) rfl rfl rfl
  have t2 : ((p7 : Int) != 0) = false := by simp; omega
  have HS6 : Hid (sm12 true b = if sumD b.data.toList ≠ 0 then 5 else 0) := by
    show sm12 true b = _
    rw [HSM.out, if_neg (by omega)]
  have HSU := Lib.hid (fun W => refsum_any b W (by omega))
  unfold SumEnd at HSU
  clear HSM e6 e7
  generalize sumD b.data.toList = N at *
  go_wp2_with fail
  refine (HSU.out _).mono ?_
  rintro e u2 ⟨rfl, hb⟩
  replace GB := Lib.hid (GB.out.below hb)
  clear hb HSU t1 t2 h6 h7 b6 b7 z0 z1 z2 n0 n1 n2 f0 f1 f2 m0 m1 m2
  have ⟨z0, z1, z2⟩ := Hc12s.of GB.out.a.zb
  have ⟨n0, n1, n2⟩ := Hc12s.of GB.out.a.nb
  have f0 := GB.out.a.zb.frozen 0
  have f1 := GB.out.a.zb.frozen 1
  have f2 := GB.out.a.zb.frozen 2
  simp only [H12.zero, show ((0 : Nat) : Int) = 0 from rfl] at z0 z1 z2 n0 n1 n2
  have ⟨m0, m1, m2⟩ := Hc12s.of GB.out.hb
  simp only [show ((0 : Nat) : Int) = 0 from rfl] at m0 m1 m2
  by_cases eN : N = 0
  case neg =>
    have t1 : ((N : Int) != 0) = true := by simp; omega
    have HE : Hid (get12E b = 5) := by
      have hq : sm12 true b = 5 := by rw [HS6.out, if_pos eN]
      show get12E b = 5
      rw [HR2.out, hq]; rfl
    clear hl eN
    go_wp2_with fail
    exact refget12_stop (k := 5) GB.out.a HE.out (by decide) rfl rfl rfl
  have t1 : ((N : Int) != 0) = false := by simp; omega
  have HP : Hid (get12E b = pk12 (numOf b 2 2) (v11 (b.extract 8 b.size))) := by
    have hq : sm12 true b = 0 := by rw [HS6.out, if_neg (by omega)]
    show get12E b = _
    rw [HR2.out, hq]; rfl
  clear HR2 HS6 eN
  have HKY : Hid (key12 true false b = 0) := rfl
  have b2 : (2 : Int) ≤ (b.size : Int) := by omega
  have b4 : (4 : Int) ≤ (b.size : Int) := by omega
  have bz : (8 : Int) ≤ (b.size : Int) := by omega
  have V2 := Lib.hid (fun W => value_num b 2 2 W (by omega) (by decide))
  simp only [Nat.reduceAdd] at V2
  have l2 := numOf_lt b 2 2 (by omega)
  have wk2 : IntKind.i64.wrap (numOf b 2 2 : Int) = (numOf b 2 2 : Int) := IntWalk.i64_in _ (by have := l2; omega)
  have HPK : Hid (pk12 (numOf b 2 2) (v11 (b.extract 8 b.size)) = if numOf b 2 2 ≠ 2048 ∧ numOf b 2 2 ≠ 34525 then 6 else if (v11 (b.extract 8 b.size)).en ≠ 0 then (v11 (b.extract 8 b.size)).en else if (v11 (b.extract 8 b.size)).kn ≠ numOf b 2 2 then 3 else 0) := rfl
  have HKD := Lib.hid (fun W => refkind11_any (b.extract 8 b.size) W)
  unfold Tells at HKD
  rw [V11.kind_kn, V11.err_en] at HKD
  clear l2
  generalize pk12 (numOf b 2 2) (v11 (b.extract 8 b.size)) = Q at *
  generalize (v11 (b.extract 8 b.size)).kn = q at *
  generalize (v11 (b.extract 8 b.size)).en = E at *
  generalize numOf b 2 2 = kd at *
  go_wp2_with fail
  refine (V2.out _).mono ?_
  rintro e u4 ⟨rfl, rfl⟩
  clear V2
  by_cases hkd : kd = 2048 ∨ kd = 34525
  case neg =>
    have t2 : ((kd : Int) != 2048) = true := by simp; omega
    have t3 : ((kd : Int) != 34525) = true := by simp; omega
    have HE : Hid (get12E b = 6) := by show get12E b = 6; rw [HP.out, HPK.out, if_pos (by omega)]
    clear hkd hl
    go_wp2_with fail
    exact refget12_stop (k := 6) GB.out.a HE.out (by decide) rfl rfl rfl
  have HE : Hid (get12E b = if E ≠ 0 then E else if q ≠ kd then 3 else 0) := by
    show get12E b = _
    rw [HP.out, HPK.out, if_neg (by omega)]
  clear HP HPK
  rcases hkd with rfl | rfl
  · go_wp2_with fail
    refine (HKD.out _).mono ?_
    rintro e u5 ⟨rfl, hb⟩
    replace GB := Lib.hid (GB.out.below hb)
    clear hb HKD z0 z1 z2 n0 n1 n2 f0 f1 f2 m0 m1 m2
    have ⟨z0, z1, z2⟩ := Hc12s.of GB.out.a.zb
    have ⟨n0, n1, n2⟩ := Hc12s.of GB.out.a.nb
    have f0 := GB.out.a.zb.frozen 0
    have f1 := GB.out.a.zb.frozen 1
    have f2 := GB.out.a.zb.frozen 2
    simp only [H12.zero, show ((0 : Nat) : Int) = 0 from rfl] at z0 z1 z2 n0 n1 n2
    have ⟨m0, m1, m2⟩ := Hc12s.of GB.out.hb
    simp only [show ((0 : Nat) : Int) = 0 from rfl] at m0 m1 m2
    by_cases eE : E = 0
    case neg =>
      have t2 : ((E : Int) != 0) = true := by simp; omega
      have HEE : Hid (get12E b = E) := by show get12E b = E; rw [HE.out, if_pos eE]
      have HNE := Lib.hid eE
      clear eE hl
      go_wp2_with fail
      exact refget12_stop (k := E) GB.out.a HEE.out HNE.out rfl rfl rfl
    have t2 : ((E : Int) != 0) = false := by simp; omega
    by_cases eq : q = 2048
    case neg =>
      have t3 : ((q : Int) != 2048) = true := by simp; omega
      have HEE : Hid (get12E b = 3) := by show get12E b = 3; rw [HE.out, if_neg (by omega), if_pos eq]
      clear eE eq hl
      go_wp2_with fail
      exact refget12_stop (k := 3) GB.out.a HEE.out (by decide) rfl rfl rfl
    have t3 : ((q : Int) != 2048) = false := by simp; omega
    have HEE : Hid (get12E b = 0) := by show get12E b = 0; rw [HE.out, if_neg (by omega), if_neg (by omega)]
    clear eE eq hl HE
    go_wp2_with fail
    go_region
    go_wp2_with fail
    exact refget12_done (h := ⟨true, false, 0⟩) GB.out.a HEE.out (HH.out.trans (by rw [HKY.out])) HI.out rfl rfl rfl
  · go_wp2_with fail
    refine (HKD.out _).mono ?_
    rintro e u5 ⟨rfl, hb⟩
    replace GB := Lib.hid (GB.out.below hb)
    clear hb HKD z0 z1 z2 n0 n1 n2 f0 f1 f2 m0 m1 m2
    have ⟨z0, z1, z2⟩ := Hc12s.of GB.out.a.zb
    have ⟨n0, n1, n2⟩ := Hc12s.of GB.out.a.nb
    have f0 := GB.out.a.zb.frozen 0
    have f1 := GB.out.a.zb.frozen 1
    have f2 := GB.out.a.zb.frozen 2
    simp only [H12.zero, show ((0 : Nat) : Int) = 0 from rfl] at z0 z1 z2 n0 n1 n2
    have ⟨m0, m1, m2⟩ := Hc12s.of GB.out.hb
    simp only [show ((0 : Nat) : Int) = 0 from rfl] at m0 m1 m2
    by_cases eE : E = 0
    case neg =>
      have t2 : ((E : Int) != 0) = true := by simp; omega
      have HEE : Hid (get12E b = E) := by show get12E b = E; rw [HE.out, if_pos eE]
      have HNE := Lib.hid eE
      clear eE hl
      go_wp2_with fail
      exact refget12_stop (k := E) GB.out.a HEE.out HNE.out rfl rfl rfl
    have t2 : ((E : Int) != 0) = false := by simp; omega
    by_cases eq : q = 34525
    case neg =>
      have t3 : ((q : Int) != 34525) = true := by simp; omega
      have HEE : Hid (get12E b = 3) := by show get12E b = 3; rw [HE.out, if_neg (by omega), if_pos eq]
      clear eE eq hl
      go_wp2_with fail
      exact refget12_stop (k := 3) GB.out.a HEE.out (by decide) rfl rfl rfl
    have t3 : ((q : Int) != 34525) = false := by simp; omega
    have HEE : Hid (get12E b = 0) := by show get12E b = 0; rw [HE.out, if_neg (by omega), if_neg (by omega)]
    clear eE eq hl HE
    go_wp2_with fail
    go_region
    go_wp2_with fail
    exact refget12_done (h := ⟨true, false, 0⟩) GB.out.a HEE.out (HH.out.trans (by rw [HKY.out])) HI.out rfl rfl rfl

set_option maxRecDepth 100000 in
set_option maxHeartbeats 4000000 in
theorem refget12_ft (b : ByteArray) (w : World) (h : 4 ≤ b.size) (hs : b.size ≤ 900000) (hx : (b[0]'(by omega)).toNat = 32) (hy : (b[1]'(by omega)).toNat = 0) (hok : f12 b = .ok false true) : Calls Tryd.prog 11 #[.string b] w (Ref12End b w) := by
  have t0 : decide ((b.size : Int) < 4) = false := by simp; omega
  have b1 : (1 : Int) < (b.size : Int) := by omega
  have b0 : (0 : Int) < (b.size : Int) := by omega
  have hE : get12E b = rest12 false true b := by unfold get12E; rw [hok]
  have HH : Hid (hd12 b = ⟨false, true, key12 false true b⟩) := by show hd12 b = _; unfold hd12; rw [hok]
  have HI : Hid (in12 b = b.extract 8 b.size) := by show in12 b = _; unfold in12; rw [hok]; rfl
  have HRE : Hid (get12E b = if b.size < 8 then 2 else if sm12 false b ≠ 0 then sm12 false b else pk12 (numOf b 2 2) (v11 (b.extract 8 b.size))) := by
    show get12E b = _
    rw [hE]
    rfl
  clear hok hE
  have GA := Lib.hid (Ga12.new w)
  go_enter Tryd.func11, Tryd.ntmps11
  go_upto_if 14 with (fail)
  simp only [show #[Value.bool false, Value.bool false, Value.int IntKind.u32 0] = H12.zero.cells from rfl]
  generalize (w.alloc (.cells H12.zero.cells 31)).alloc (.cells H12.zero.cells 31) = u0 at *
  have ⟨z0, z1, z2⟩ := Hc12s.of GA.out.zb
  have ⟨n0, n1, n2⟩ := Hc12s.of GA.out.nb
  have f0 := GA.out.zb.frozen 0
  have f1 := GA.out.zb.frozen 1
  have f2 := GA.out.zb.frozen 2
  simp only [H12.zero, show ((0 : Nat) : Int) = 0 from rfl] at z0 z1 z2 n0 n1 n2
  go_wp2_with fail
  go_region
  clear z0 z1 z2 n0 n1 n2 f0 f1 f2
  have GB := Lib.hid (Gb12.new ⟨false, true, 0⟩ GA.out)
  clear GA
  unfold H12.cells at GB
  simp only [show ((0 : Nat) : Int) = 0 from rfl] at GB
  generalize (u0.alloc (.cells #[.bool false, .bool true, .int .u32 0] 31)).drew = u1 at *
  generalize u0.heap.size = H at *
  have ⟨z0, z1, z2⟩ := Hc12s.of GB.out.a.zb
  have ⟨n0, n1, n2⟩ := Hc12s.of GB.out.a.nb
  have f0 := GB.out.a.zb.frozen 0
  have f1 := GB.out.a.zb.frozen 1
  have f2 := GB.out.a.zb.frozen 2
  simp only [H12.zero, show ((0 : Nat) : Int) = 0 from rfl] at z0 z1 z2 n0 n1 n2
  have ⟨m0, m1, m2⟩ := Hc12s.of GB.out.hb
  simp only [show ((0 : Nat) : Int) = 0 from rfl] at m0 m1 m2
  by_cases hl : b.size < 8
  case pos =>
    have tl : decide ((b.size : Int) < 8) = true := by simp; omega
    have HE : Hid (get12E b = 2) := by show get12E b = 2; rw [HRE.out, if_pos hl]
    clear hl
    go_wp2_with fail
    exact refget12_stop (k := 2) GB.out.a HE.out (by decide) rfl rfl rfl
  have HR2 : Hid (get12E b = if sm12 false b ≠ 0 then sm12 false b else pk12 (numOf b 2 2) (v11 (b.extract 8 b.size))) := by
    show get12E b = _
    rw [HRE.out, if_neg hl]
  have tl : decide ((b.size : Int) < 8) = false := by simp; omega
  have HLZ : Hid (8 ≤ b.size) := by show 8 ≤ b.size; omega
  clear HRE
  have HP : Hid (get12E b = pk12 (numOf b 2 2) (v11 (b.extract 8 b.size))) := HR2.out
  clear HR2
  have bk0 : (4 : Int) ≤ (b.size : Int) := by omega
  have bk1 : (8 : Int) ≤ (b.size : Int) := by omega
  have VK := Lib.hid (fun W => value_num b 4 4 W (by omega) (by decide))
  simp only [Nat.reduceAdd] at VK
  have hk4 := numOf_lt b 4 4 (by omega)
  have wk : IntKind.u32.wrap (numOf b 4 4 : Int) = (numOf b 4 4 : Int) := by rw [wrap_u32, Nat.mod_eq_of_lt (show numOf b 4 4 < 4294967296 from hk4)]
  have HKY : Hid (key12 false true b = numOf b 4 4) := rfl
  clear hk4
  generalize numOf b 4 4 = ky at *
  have fh := GB.out.hb.frozen 2
  go_wp2_with fail
  refine (VK.out _).mono ?_
  rintro e u2' ⟨rfl, rfl⟩
  go_upto_region 23 with (fail)
  replace GB := Lib.hid (GB.out.key ky)
  simp only at GB
  clear VK wk fh bk0 bk1 z0 z1 z2 n0 n1 n2 f0 f1 f2 m0 m1 m2
  generalize u1.setCell ⟨H, 2, none⟩ (.int .u32 (ky : Nat)) = u3 at *
  have ⟨z0, z1, z2⟩ := Hc12s.of GB.out.a.zb
  have ⟨n0, n1, n2⟩ := Hc12s.of GB.out.a.nb
  have f0 := GB.out.a.zb.frozen 0
  have f1 := GB.out.a.zb.frozen 1
  have f2 := GB.out.a.zb.frozen 2
  simp only [H12.zero, show ((0 : Nat) : Int) = 0 from rfl] at z0 z1 z2 n0 n1 n2
  have ⟨m0, m1, m2⟩ := Hc12s.of GB.out.hb
  simp only [show ((0 : Nat) : Int) = 0 from rfl] at m0 m1 m2
  have b2 : (2 : Int) ≤ (b.size : Int) := by omega
  have b4 : (4 : Int) ≤ (b.size : Int) := by omega
  have bz : (8 : Int) ≤ (b.size : Int) := by omega
  have V2 := Lib.hid (fun W => value_num b 2 2 W (by omega) (by decide))
  simp only [Nat.reduceAdd] at V2
  have l2 := numOf_lt b 2 2 (by omega)
  have wk2 : IntKind.i64.wrap (numOf b 2 2 : Int) = (numOf b 2 2 : Int) := IntWalk.i64_in _ (by have := l2; omega)
  have HPK : Hid (pk12 (numOf b 2 2) (v11 (b.extract 8 b.size)) = if numOf b 2 2 ≠ 2048 ∧ numOf b 2 2 ≠ 34525 then 6 else if (v11 (b.extract 8 b.size)).en ≠ 0 then (v11 (b.extract 8 b.size)).en else if (v11 (b.extract 8 b.size)).kn ≠ numOf b 2 2 then 3 else 0) := rfl
  have HKD := Lib.hid (fun W => refkind11_any (b.extract 8 b.size) W)
  unfold Tells at HKD
  rw [V11.kind_kn, V11.err_en] at HKD
  clear l2
  generalize pk12 (numOf b 2 2) (v11 (b.extract 8 b.size)) = Q at *
  generalize (v11 (b.extract 8 b.size)).kn = q at *
  generalize (v11 (b.extract 8 b.size)).en = E at *
  generalize numOf b 2 2 = kd at *
  go_wp2_with fail
  refine (V2.out _).mono ?_
  rintro e u4 ⟨rfl, rfl⟩
  clear V2
  by_cases hkd : kd = 2048 ∨ kd = 34525
  case neg =>
    have t2 : ((kd : Int) != 2048) = true := by simp; omega
    have t3 : ((kd : Int) != 34525) = true := by simp; omega
    have HE : Hid (get12E b = 6) := by show get12E b = 6; rw [HP.out, HPK.out, if_pos (by omega)]
    clear hkd hl
    go_wp2_with fail
    exact refget12_stop (k := 6) GB.out.a HE.out (by decide) rfl rfl rfl
  have HE : Hid (get12E b = if E ≠ 0 then E else if q ≠ kd then 3 else 0) := by
    show get12E b = _
    rw [HP.out, HPK.out, if_neg (by omega)]
  clear HP HPK
  rcases hkd with rfl | rfl
  · go_wp2_with fail
    refine (HKD.out _).mono ?_
    rintro e u5 ⟨rfl, hb⟩
    replace GB := Lib.hid (GB.out.below hb)
    clear hb HKD z0 z1 z2 n0 n1 n2 f0 f1 f2 m0 m1 m2
    have ⟨z0, z1, z2⟩ := Hc12s.of GB.out.a.zb
    have ⟨n0, n1, n2⟩ := Hc12s.of GB.out.a.nb
    have f0 := GB.out.a.zb.frozen 0
    have f1 := GB.out.a.zb.frozen 1
    have f2 := GB.out.a.zb.frozen 2
    simp only [H12.zero, show ((0 : Nat) : Int) = 0 from rfl] at z0 z1 z2 n0 n1 n2
    have ⟨m0, m1, m2⟩ := Hc12s.of GB.out.hb
    simp only [show ((0 : Nat) : Int) = 0 from rfl] at m0 m1 m2
    by_cases eE : E = 0
    case neg =>
      have t2 : ((E : Int) != 0) = true := by simp; omega
      have HEE : Hid (get12E b = E) := by show get12E b = E; rw [HE.out, if_pos eE]
      have HNE := Lib.hid eE
      clear eE hl
      go_wp2_with fail
      exact refget12_stop (k := E) GB.out.a HEE.out HNE.out rfl rfl rfl
    have t2 : ((E : Int) != 0) = false := by simp; omega
    by_cases eq : q = 2048
    case neg =>
      have t3 : ((q : Int) != 2048) = true := by simp; omega
      have HEE : Hid (get12E b = 3) := by show get12E b = 3; rw [HE.out, if_neg (by omega), if_pos eq]
      clear eE eq hl
      go_wp2_with fail
      exact refget12_stop (k := 3) GB.out.a HEE.out (by decide) rfl rfl rfl
    have t3 : ((q : Int) != 2048) = false := by simp; omega
    have HEE : Hid (get12E b = 0) := by show get12E b = 0; rw [HE.out, if_neg (by omega), if_neg (by omega)]
    clear eE eq hl HE
    go_wp2_with fail
    go_region
    go_wp2_with fail
    exact refget12_done (h := ⟨false, true, ky⟩) GB.out.a HEE.out (HH.out.trans (by rw [HKY.out])) HI.out rfl rfl rfl
  · go_wp2_with fail
    refine (HKD.out _).mono ?_
    rintro e u5 ⟨rfl, hb⟩
    replace GB := Lib.hid (GB.out.below hb)
    clear hb HKD z0 z1 z2 n0 n1 n2 f0 f1 f2 m0 m1 m2
    have ⟨z0, z1, z2⟩ := Hc12s.of GB.out.a.zb
    have ⟨n0, n1, n2⟩ := Hc12s.of GB.out.a.nb
    have f0 := GB.out.a.zb.frozen 0
    have f1 := GB.out.a.zb.frozen 1
    have f2 := GB.out.a.zb.frozen 2
    simp only [H12.zero, show ((0 : Nat) : Int) = 0 from rfl] at z0 z1 z2 n0 n1 n2
    have ⟨m0, m1, m2⟩ := Hc12s.of GB.out.hb
    simp only [show ((0 : Nat) : Int) = 0 from rfl] at m0 m1 m2
    by_cases eE : E = 0
    case neg =>
      have t2 : ((E : Int) != 0) = true := by simp; omega
      have HEE : Hid (get12E b = E) := by show get12E b = E; rw [HE.out, if_pos eE]
      have HNE := Lib.hid eE
      clear eE hl
      go_wp2_with fail
      exact refget12_stop (k := E) GB.out.a HEE.out HNE.out rfl rfl rfl
    have t2 : ((E : Int) != 0) = false := by simp; omega
    by_cases eq : q = 34525
    case neg =>
      have t3 : ((q : Int) != 34525) = true := by simp; omega
      have HEE : Hid (get12E b = 3) := by show get12E b = 3; rw [HE.out, if_neg (by omega), if_pos eq]
      clear eE eq hl
      go_wp2_with fail
      exact refget12_stop (k := 3) GB.out.a HEE.out (by decide) rfl rfl rfl
    have t3 : ((q : Int) != 34525) = false := by simp; omega
    have HEE : Hid (get12E b = 0) := by show get12E b = 0; rw [HE.out, if_neg (by omega), if_neg (by omega)]
    clear eE eq hl HE
    go_wp2_with fail
    go_region
    go_wp2_with fail
    exact refget12_done (h := ⟨false, true, ky⟩) GB.out.a HEE.out (HH.out.trans (by rw [HKY.out])) HI.out rfl rfl rfl

set_option maxRecDepth 100000 in
set_option maxHeartbeats 4000000 in
theorem refget12_ff (b : ByteArray) (w : World) (h : 4 ≤ b.size) (hs : b.size ≤ 900000) (hx : (b[0]'(by omega)).toNat = 0) (hy : (b[1]'(by omega)).toNat = 0) (hok : f12 b = .ok false false) : Calls Tryd.prog 11 #[.string b] w (Ref12End b w) := by
  have t0 : decide ((b.size : Int) < 4) = false := by simp; omega
  have b1 : (1 : Int) < (b.size : Int) := by omega
  have b0 : (0 : Int) < (b.size : Int) := by omega
  have hE : get12E b = rest12 false false b := by unfold get12E; rw [hok]
  have HH : Hid (hd12 b = ⟨false, false, key12 false false b⟩) := by show hd12 b = _; unfold hd12; rw [hok]
  have HI : Hid (in12 b = b.extract 4 b.size) := by show in12 b = _; unfold in12; rw [hok]; rfl
  have HRE : Hid (get12E b = if b.size < 4 then 2 else if sm12 false b ≠ 0 then sm12 false b else pk12 (numOf b 2 2) (v11 (b.extract 4 b.size))) := by
    show get12E b = _
    rw [hE]
    rfl
  clear hok hE
  have GA := Lib.hid (Ga12.new w)
  go_enter Tryd.func11, Tryd.ntmps11
  go_upto_if 14 with (fail)
  simp only [show #[Value.bool false, Value.bool false, Value.int IntKind.u32 0] = H12.zero.cells from rfl]
  generalize (w.alloc (.cells H12.zero.cells 31)).alloc (.cells H12.zero.cells 31) = u0 at *
  have ⟨z0, z1, z2⟩ := Hc12s.of GA.out.zb
  have ⟨n0, n1, n2⟩ := Hc12s.of GA.out.nb
  have f0 := GA.out.zb.frozen 0
  have f1 := GA.out.zb.frozen 1
  have f2 := GA.out.zb.frozen 2
  simp only [H12.zero, show ((0 : Nat) : Int) = 0 from rfl] at z0 z1 z2 n0 n1 n2
  go_wp2_with fail
  go_region
  clear z0 z1 z2 n0 n1 n2 f0 f1 f2
  have GB := Lib.hid (Gb12.new ⟨false, false, 0⟩ GA.out)
  clear GA
  unfold H12.cells at GB
  simp only [show ((0 : Nat) : Int) = 0 from rfl] at GB
  generalize (u0.alloc (.cells #[.bool false, .bool false, .int .u32 0] 31)).drew = u1 at *
  generalize u0.heap.size = H at *
  have ⟨z0, z1, z2⟩ := Hc12s.of GB.out.a.zb
  have ⟨n0, n1, n2⟩ := Hc12s.of GB.out.a.nb
  have f0 := GB.out.a.zb.frozen 0
  have f1 := GB.out.a.zb.frozen 1
  have f2 := GB.out.a.zb.frozen 2
  simp only [H12.zero, show ((0 : Nat) : Int) = 0 from rfl] at z0 z1 z2 n0 n1 n2
  have ⟨m0, m1, m2⟩ := Hc12s.of GB.out.hb
  simp only [show ((0 : Nat) : Int) = 0 from rfl] at m0 m1 m2
  have hl : ¬ b.size < 4 := by omega
  have HR2 : Hid (get12E b = if sm12 false b ≠ 0 then sm12 false b else pk12 (numOf b 2 2) (v11 (b.extract 4 b.size))) := by
    show get12E b = _
    rw [HRE.out, if_neg hl]
  have tl : decide ((b.size : Int) < 4) = false := by simp; omega
  have HLZ : Hid (4 ≤ b.size) := by show 4 ≤ b.size; omega
  clear HRE
  have HP : Hid (get12E b = pk12 (numOf b 2 2) (v11 (b.extract 4 b.size))) := HR2.out
  clear HR2
  have HKY : Hid (key12 false false b = 0) := rfl
  have b2 : (2 : Int) ≤ (b.size : Int) := by omega
  have b4 : (4 : Int) ≤ (b.size : Int) := by omega
  have bz : (4 : Int) ≤ (b.size : Int) := by omega
  have V2 := Lib.hid (fun W => value_num b 2 2 W (by omega) (by decide))
  simp only [Nat.reduceAdd] at V2
  have l2 := numOf_lt b 2 2 (by omega)
  have wk2 : IntKind.i64.wrap (numOf b 2 2 : Int) = (numOf b 2 2 : Int) := IntWalk.i64_in _ (by have := l2; omega)
  have HPK : Hid (pk12 (numOf b 2 2) (v11 (b.extract 4 b.size)) = if numOf b 2 2 ≠ 2048 ∧ numOf b 2 2 ≠ 34525 then 6 else if (v11 (b.extract 4 b.size)).en ≠ 0 then (v11 (b.extract 4 b.size)).en else if (v11 (b.extract 4 b.size)).kn ≠ numOf b 2 2 then 3 else 0) := rfl
  have HKD := Lib.hid (fun W => refkind11_any (b.extract 4 b.size) W)
  unfold Tells at HKD
  rw [V11.kind_kn, V11.err_en] at HKD
  clear l2
  generalize pk12 (numOf b 2 2) (v11 (b.extract 4 b.size)) = Q at *
  generalize (v11 (b.extract 4 b.size)).kn = q at *
  generalize (v11 (b.extract 4 b.size)).en = E at *
  generalize numOf b 2 2 = kd at *
  go_wp2_with fail
  refine (V2.out _).mono ?_
  rintro e u4 ⟨rfl, rfl⟩
  clear V2
  by_cases hkd : kd = 2048 ∨ kd = 34525
  case neg =>
    have t2 : ((kd : Int) != 2048) = true := by simp; omega
    have t3 : ((kd : Int) != 34525) = true := by simp; omega
    have HE : Hid (get12E b = 6) := by show get12E b = 6; rw [HP.out, HPK.out, if_pos (by omega)]
    clear hkd hl
    go_wp2_with fail
    exact refget12_stop (k := 6) GB.out.a HE.out (by decide) rfl rfl rfl
  have HE : Hid (get12E b = if E ≠ 0 then E else if q ≠ kd then 3 else 0) := by
    show get12E b = _
    rw [HP.out, HPK.out, if_neg (by omega)]
  clear HP HPK
  rcases hkd with rfl | rfl
  · go_wp2_with fail
    refine (HKD.out _).mono ?_
    rintro e u5 ⟨rfl, hb⟩
    replace GB := Lib.hid (GB.out.below hb)
    clear hb HKD z0 z1 z2 n0 n1 n2 f0 f1 f2 m0 m1 m2
    have ⟨z0, z1, z2⟩ := Hc12s.of GB.out.a.zb
    have ⟨n0, n1, n2⟩ := Hc12s.of GB.out.a.nb
    have f0 := GB.out.a.zb.frozen 0
    have f1 := GB.out.a.zb.frozen 1
    have f2 := GB.out.a.zb.frozen 2
    simp only [H12.zero, show ((0 : Nat) : Int) = 0 from rfl] at z0 z1 z2 n0 n1 n2
    have ⟨m0, m1, m2⟩ := Hc12s.of GB.out.hb
    simp only [show ((0 : Nat) : Int) = 0 from rfl] at m0 m1 m2
    by_cases eE : E = 0
    case neg =>
      have t2 : ((E : Int) != 0) = true := by simp; omega
      have HEE : Hid (get12E b = E) := by show get12E b = E; rw [HE.out, if_pos eE]
      have HNE := Lib.hid eE
      clear eE hl
      go_wp2_with fail
      exact refget12_stop (k := E) GB.out.a HEE.out HNE.out rfl rfl rfl
    have t2 : ((E : Int) != 0) = false := by simp; omega
    by_cases eq : q = 2048
    case neg =>
      have t3 : ((q : Int) != 2048) = true := by simp; omega
      have HEE : Hid (get12E b = 3) := by show get12E b = 3; rw [HE.out, if_neg (by omega), if_pos eq]
      clear eE eq hl
      go_wp2_with fail
      exact refget12_stop (k := 3) GB.out.a HEE.out (by decide) rfl rfl rfl
    have t3 : ((q : Int) != 2048) = false := by simp; omega
    have HEE : Hid (get12E b = 0) := by show get12E b = 0; rw [HE.out, if_neg (by omega), if_neg (by omega)]
    clear eE eq hl HE
    go_wp2_with fail
    go_region
    go_wp2_with fail
    exact refget12_done (h := ⟨false, false, 0⟩) GB.out.a HEE.out (HH.out.trans (by rw [HKY.out])) HI.out rfl rfl rfl
  · go_wp2_with fail
    refine (HKD.out _).mono ?_
    rintro e u5 ⟨rfl, hb⟩
    replace GB := Lib.hid (GB.out.below hb)
    clear hb HKD z0 z1 z2 n0 n1 n2 f0 f1 f2 m0 m1 m2
    have ⟨z0, z1, z2⟩ := Hc12s.of GB.out.a.zb
    have ⟨n0, n1, n2⟩ := Hc12s.of GB.out.a.nb
    have f0 := GB.out.a.zb.frozen 0
    have f1 := GB.out.a.zb.frozen 1
    have f2 := GB.out.a.zb.frozen 2
    simp only [H12.zero, show ((0 : Nat) : Int) = 0 from rfl] at z0 z1 z2 n0 n1 n2
    have ⟨m0, m1, m2⟩ := Hc12s.of GB.out.hb
    simp only [show ((0 : Nat) : Int) = 0 from rfl] at m0 m1 m2
    by_cases eE : E = 0
    case neg =>
      have t2 : ((E : Int) != 0) = true := by simp; omega
      have HEE : Hid (get12E b = E) := by show get12E b = E; rw [HE.out, if_pos eE]
      have HNE := Lib.hid eE
      clear eE hl
      go_wp2_with fail
      exact refget12_stop (k := E) GB.out.a HEE.out HNE.out rfl rfl rfl
    have t2 : ((E : Int) != 0) = false := by simp; omega
    by_cases eq : q = 34525
    case neg =>
      have t3 : ((q : Int) != 34525) = true := by simp; omega
      have HEE : Hid (get12E b = 3) := by show get12E b = 3; rw [HE.out, if_neg (by omega), if_pos eq]
      clear eE eq hl
      go_wp2_with fail
      exact refget12_stop (k := 3) GB.out.a HEE.out (by decide) rfl rfl rfl
    have t3 : ((q : Int) != 34525) = false := by simp; omega
    have HEE : Hid (get12E b = 0) := by show get12E b = 0; rw [HE.out, if_neg (by omega), if_neg (by omega)]
    clear eE eq hl HE
    go_wp2_with fail
    go_region
    go_wp2_with fail
    exact refget12_done (h := ⟨false, false, 0⟩) GB.out.a HEE.out (HH.out.trans (by rw [HKY.out])) HI.out rfl rfl rfl

end Go.Proofs.YtnlpbnipfglhhaaDoor
