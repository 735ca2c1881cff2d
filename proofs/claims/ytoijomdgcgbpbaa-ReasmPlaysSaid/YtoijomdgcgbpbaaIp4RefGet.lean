/-
  The document's own Get.
-/
import Derived.Test.YtoijomdgcgbpbaaIp4B
import Derived.Test.YtoijomdgcgbpbaaIp4A
import Derived.StillTailTactics
import Derived.Deep.CutBlock
import Derived.Deep.DeepCutAuto
import Derived.IntWalk
import Derived.Deep.RegionWith
import Derived.Deep.RegionHeld3
import Derived.BigRegion
import Derived.Test.YtoijomdgcgbpbaaReading
namespace Go.Proofs.Ytoijomdgcgbpbaa
open Go.RowKit
set_option linter.unusedVariables false


/-- The answer's block, and the empty header's. -/
structure Gz (w W : World) : Prop where
  z : Blk W w.heap.size H4.zero.cells 43
  n : Blk W (w.heap.size + 1) H4.zero.cells 43
  bel : Below w.heap.size w W
theorem Gz.new (w : World) : Gz w ((w.alloc (.cells H4.zero.cells 43)).alloc (.cells H4.zero.cells 43)) := by
  have := Blk.new (w.alloc (.cells H4.zero.cells 43)) H4.zero.cells 43
  rw [show (w.alloc (.cells H4.zero.cells 43)).heap.size = w.heap.size + 1 from by simp] at this
  exact ⟨(Blk.new w _ _).alloc _, this, ((Below.refl _ _).alloc (Nat.le_refl _) _).alloc (by simp) _⟩
theorem Gz.below {w W W' : World} (g : Gz w W) (hb : Below W.heap.size W W') : Gz w W' :=
  ⟨(hb.block _ g.z.lt).trans g.z, (hb.block _ g.n.lt).trans g.n, g.bel.trans (hb.mono g.bel.size)⟩
theorem Gz.drew {w W : World} (g : Gz w W) : Gz w W.drew := ⟨g.z.drew, g.n.drew, ⟨g.bel.os, g.bel.tape, g.bel.output, g.bel.size, g.bel.block⟩⟩
theorem Gz.put {w W : World} (g : Gz w W) (h : H4) : Blk (put10 W w.heap.size h) w.heap.size h.cells 43 ∧ Below w.heap.size w (put10 W w.heap.size h) := by
  refine ⟨put10_blk g.z h, ?_⟩
  have K := put10_kb (S := fun k => w.heap.size ≤ k) (u := w) (N := w.heap.size) ⟨g.bel.os, g.bel.tape, g.bel.output, g.bel.size, fun k hk _ => g.bel.block k hk⟩ (fun _ => Nat.le_refl _) h
  exact K.below (Nat.le_refl _)
/-- The cells, as facts of a walk. -/
structure Gc (w W : World) : Prop where
  z : Hc W w.heap.size H4.zero
  n : Hc W (w.heap.size + 1) H4.zero
  f : ∀ i, W.frozen? ⟨w.heap.size, i, none⟩ = false
theorem Gz.cells {w W : World} (g : Gz w W) : Gc w W := ⟨Hc.of g.z, Hc.of g.n, fun i => g.z.frozen i⟩

/-- The document's Get's end. -/
def RefGot (p : ByteArray) (w : World) (e : Ending) (w' : World) : Prop := e = .returned (.tuple #[.agg (getH p).cells, .string (getS p), .int .i64 (getE p : Nat)]) ∧ Below w.heap.size w w'
theorem refget_ret {W : World} {tmps : Array Value} {k : Int} {s : ByteArray} {h : H4} {N : Nat} (hB : Blk W N h.cells 43) (t2 : tmps.getD 2 undef = .pointer (some ⟨N, 0, none⟩)) (t3 : tmps.getD 3 undef = .string s) (t4 : tmps.getD 4 undef = .int .i64 k) :
    (results Try.f26 tmps).run Try.prog W = .ok (.tuple #[.agg h.cells, .string s, .int .i64 k]) W := by
  have ⟨c0, c1, c2, c3, c4, c5, c6, c7, c8, c9⟩ := Hc.of hB
  unfold H4.cells
  simp at t2 t3 t4
  simp [results, Try.results26, go_sem, t2, t3, t4, c0, c1, c2, c3, c4, c5, c6, c7, c8, c9]
theorem refget_stop {w u : World} {p : ByteArray} {tmps : Array Value} {k : Nat} (g : Gz w u) (he : getE p = k) (h0 : k ≠ 0) (t2 : tmps.getD 2 undef = .pointer (some ⟨w.heap.size, 0, none⟩)) (t3 : tmps.getD 3 undef = .string ⟨#[]⟩) (t4 : tmps.getD 4 undef = .int .i64 (k : Nat)) :
    bodyPost Try.prog Try.f26 (RefGot p w) Exit.ret { tmps := tmps, defers := [] } (put10 u w.heap.size H4.zero) := by
  have HGH : getH p = H4.zero := by unfold getH; rw [if_neg (by omega)]
  have HGS : getS p = ⟨#[]⟩ := by unfold getS; rw [if_neg (by omega)]
  have gp := g.put H4.zero
  refine ⟨rfl, _, refget_ret gp.1 t2 t3 t4, ?_, gp.2⟩
  rw [HGH, HGS, he]

theorem refget_done {w u : World} {p : ByteArray} {tmps : Array Value} {h' : H4} {z : Nat} (g : Gz w u) (he : getE p = 0) (hz : hsz p = z) (hh : h' = hdr p) (t2 : tmps.getD 2 undef = .pointer (some ⟨w.heap.size, 0, none⟩)) (t3 : tmps.getD 3 undef = .string (p.extract z p.size)) (t4 : tmps.getD 4 undef = .int .i64 0) :
    bodyPost Try.prog Try.f26 (RefGot p w) Exit.ret { tmps := tmps, defers := [] } (put10 u w.heap.size h').drew := by
  have HGH : getH p = hdr p := by unfold getH; rw [if_pos he]
  have HGS : getS p = p.extract z p.size := by unfold getS; rw [if_pos he, hz]
  have gp := g.put h'
  refine ⟨rfl, _, refget_ret gp.1.drew t2 t3 t4, ?_, below_drewN gp.2 1⟩
  rw [HGH, HGS, he, ← hh]
  rfl
theorem refget_done' {w u : World} {p : ByteArray} {tmps : Array Value} {a0 a1 a2 a3 a4 : Int} {a5 a6 : Bool} {a7 a8 a9 : ByteArray} {z : Nat} (g : Gz w u) (he : getE p = 0) (hz : hsz p = z) (hh : (⟨a0, a1, a2, a3, a4, a5, a6, a7, a8, a9⟩ : H4) = hdr p) (t2 : tmps.getD 2 undef = .pointer (some ⟨w.heap.size, 0, none⟩)) (t3 : tmps.getD 3 undef = .string (p.extract z p.size)) (t4 : tmps.getD 4 undef = .int .i64 0) :
    bodyPost Try.prog Try.f26 (RefGot p w) Exit.ret { tmps := tmps, defers := [] } ((((((((((u.setCell ⟨w.heap.size, 0, none⟩ (.int .i64 a0)).setCell ⟨w.heap.size, 1, none⟩ (.int .i64 a1)).setCell ⟨w.heap.size, 2, none⟩ (.int .i64 a2)).setCell ⟨w.heap.size, 3, none⟩ (.int .i64 a3)).setCell ⟨w.heap.size, 4, none⟩ (.int .i64 a4)).setCell ⟨w.heap.size, 5, none⟩ (.bool a5)).setCell ⟨w.heap.size, 6, none⟩ (.bool a6)).setCell ⟨w.heap.size, 7, none⟩ (.string a7)).setCell ⟨w.heap.size, 8, none⟩ (.string a8)).setCell ⟨w.heap.size, 9, none⟩ (.string a9)).drew :=
  refget_done (h' := ⟨a0, a1, a2, a3, a4, a5, a6, a7, a8, a9⟩) g he hz hh t2 t3 t4
theorem made_hdr (p : ByteArray) (h20 : 20 ≤ p.size) (h1 : 1 < p.size) (h8 : 8 < p.size) (h9 : 9 < p.size) (hf : numOf p 6 2 < 32768) :
    (⟨IntKind.i64.wrap (p[1].toNat : Int), (numOf p 4 2 : Nat), (numOf p 6 2 : Int).tmod 8192, IntKind.i64.wrap (p[8].toNat : Int), IntKind.i64.wrap (p[9].toNat : Int), IntKind.i64.wrap ((numOf p 6 2 : Int) / 16384) == 1, (IntKind.i64.wrap ((numOf p 6 2 : Int) / 8192)).tmod 2 == 1, p.extract 12 16, p.extract 16 20, p.extract 20 (hsz p)⟩ : H4) = hdr p := by
  have l1 := p[1].toNat_lt
  have l8 := p[8].toNat_lt
  have l9 := p[9].toNat_lt
  unfold hdr
  rw [numOf_one p 1 h1, numOf_one p 8 h8, numOf_one p 9 h9, IntWalk.i64_in _ (by omega), IntWalk.i64_in _ (by omega), IntWalk.i64_in _ (by omega), IntWalk.i64_in _ (by omega), IntWalk.i64_in _ (by omega)]
  generalize numOf p 6 2 = fl at *
  have e1 : (fl : Int).tmod 8192 = ((fl % 8192 : Nat) : Int) := by rw [Int.tmod_eq_emod_of_nonneg (by omega)]; omega
  have e2 : ((fl : Int) / 16384 == 1) = decide (fl / 16384 % 2 = 1) := by rw [Bool.eq_iff_iff]; simp; omega
  have e3 : (((fl : Int) / 8192).tmod 2 == 1) = decide (fl / 8192 % 2 = 1) := by rw [Int.tmod_eq_emod_of_nonneg (by omega), Bool.eq_iff_iff]; simp; omega
  rw [e1, e2, e3]

set_option maxRecDepth 100000 in
set_option maxHeartbeats 1000000 in
theorem refget_any (p : ByteArray) (w : World) (hs : p.size ≤ 1000000) :
    Calls Try.prog 26 #[.string p] w (RefGot p w) := by
  have G := Lib.hid (Gz.new w)
  go_enter Try.func26, Try.ntmps26
  go_upto_region 2 with (fail)
  simp only [show #[Value.int IntKind.i64 0, Value.int IntKind.i64 0, Value.int IntKind.i64 0, Value.int IntKind.i64 0, Value.int IntKind.i64 0, Value.bool false, Value.bool false, Value.string { data := #[] }, Value.string { data := #[] }, Value.string { data := #[] }] = H4.zero.cells from rfl]
  generalize (w.alloc (.cells H4.zero.cells 43)).alloc (.cells H4.zero.cells 43) = u0 at *
  have ⟨⟨z0, z1, z2, z3, z4, z5, z6, z7, z8, z9⟩, ⟨n0, n1, n2, n3, n4, n5, n6, n7, n8, n9⟩, hf⟩ := G.out.cells
  simp only [H4.zero] at z0 z1 z2 z3 z4 z5 z6 z7 z8 z9 n0 n1 n2 n3 n4 n5 n6 n7 n8 n9
  have f0 := hf 0
  have f1 := hf 1
  have f2 := hf 2
  have f3 := hf 3
  have f4 := hf 4
  have f5 := hf 5
  have f6 := hf 6
  have f7 := hf 7
  have f8 := hf 8
  have f9 := hf 9
  clear hf
  by_cases hp : 20 ≤ p.size
  case neg =>
    go_wp2_with fail
    exact refget_stop (k := 2) G.out (getE_short (by omega)) (by decide) rfl rfl rfl
  have E3 := Lib.hid (getE_ver hp)
  have E4 := Lib.hid (getE_len hp)
  have E4b := Lib.hid (getE_all hp)
  have E5 := Lib.hid (getE_sum hp)
  have E9 := Lib.hid (getE_form hp)
  have E0 := Lib.hid (getE_ok hp)
  have HZ : Hid (hsz p = 4 * (numOf p 0 1 % 16)) := rfl
  have hp0 : 0 < p.size := by omega
  have HA := Lib.hid (numOf_one p 0 hp0)
  rw [numOf_one p 0 hp0] at E3 E4 E4b E5 E9 E0 HZ
  have hal := p[0].toNat_lt
  by_cases hv : p[0].toNat / 16 = 4
  case neg =>
    have t1 : ((p[0].toNat : Int) / 16 != 4) = true := by simp; omega
    go_wp2_with fail
    exact refget_stop (k := 3) G.out (E3.out hv) (by decide) rfl rfl rfl
  have t1 : ((p[0].toNat : Int) / 16 != 4) = false := by simp; omega
  have HV := Lib.hid hv
  have hz0 := HZ.out
  generalize hzp : hsz p = z at *
  have HZP := Lib.hid hzp
  have hz1 : (p[0].toNat : Int) % 16 * 4 = (z : Int) := by omega
  have hz2 : z ≤ 60 := by omega
  clear hv hz0 E3 hzp
  by_cases hq : 20 ≤ z ∧ z ≤ p.size
  case neg =>
    by_cases hq1 : 20 ≤ z
    · go_wp2_with fail
      exact refget_stop (k := 4) G.out (E4.out HV.out hq) (by decide) rfl rfl rfl
    · go_wp2_with fail
      exact refget_stop (k := 4) G.out (E4.out HV.out hq) (by decide) rfl rfl rfl
  have HQ := Lib.hid hq
  obtain ⟨hq1, hq2⟩ := hq
  go_wp2_with fail
  refine (at_num p 2 _ (by omega) (by omega) hs).mono ?_
  rintro e w' ⟨rfl, rfl⟩
  by_cases hl : numOf p 2 2 = p.size
  case neg =>
    have t2 : ((numOf p 2 2 : Int) != (p.size : Int)) = true := by simp; omega
    go_wp2_with fail
    exact refget_stop (k := 4) G.out (E4b.out HV.out HQ.out hl) (by decide) rfl rfl rfl
  have t2 : ((numOf p 2 2 : Int) != (p.size : Int)) = false := by simp; omega
  have HL := Lib.hid hl
  clear hl
  go_wp2_with fail
  refine (refsum_any (p.extract 0 z) _ (by rw [ByteArray.size_extract]; omega)).mono ?_
  rintro e u1 ⟨rfl, hb1⟩
  have G1 := Lib.hid (G.out.below hb1)
  clear hb1 G z0 z1 z2 z3 z4 z5 z6 z7 z8 z9 n0 n1 n2 n3 n4 n5 n6 n7 n8 n9 f0 f1 f2 f3 f4 f5 f6 f7 f8 f9 t1 t2
  have ⟨⟨z0, z1, z2, z3, z4, z5, z6, z7, z8, z9⟩, ⟨n0, n1, n2, n3, n4, n5, n6, n7, n8, n9⟩, hf⟩ := G1.out.cells
  simp only [H4.zero] at z0 z1 z2 z3 z4 z5 z6 z7 z8 z9 n0 n1 n2 n3 n4 n5 n6 n7 n8 n9
  have f0 := hf 0
  have f1 := hf 1
  have f2 := hf 2
  have f3 := hf 3
  have f4 := hf 4
  have f5 := hf 5
  have f6 := hf 6
  have f7 := hf 7
  have f8 := hf 8
  have f9 := hf 9
  clear hf
  generalize sumD (p.extract 0 z).data.toList = sm at *
  by_cases hsum : sm = 0
  case neg =>
    have t3 : ((sm : Int) != 0) = true := by simp; omega
    go_wp2_with fail
    exact refget_stop (k := 5) G1.out (E5.out HV.out HQ.out HL.out hsum) (by decide) rfl rfl rfl
  have t3 : ((sm : Int) != 0) = false := by simp; omega
  have HS := Lib.hid hsum
  clear hsum
  go_wp2_with fail
  refine (at_num p 6 _ (by omega) (by omega) hs).mono ?_
  rintro e w' ⟨rfl, rfl⟩
  clear t3
  have hfl := numOf_lt p 6 2 (by omega)
  by_cases hfo : numOf p 6 2 < 32768
  case neg =>
    have t4 : decide ((32768 : Int) ≤ (numOf p 6 2 : Int)) = true := by simp; omega
    go_wp2_with fail
    exact refget_stop (k := 9) G1.out (E9.out HV.out HQ.out HL.out HS.out (by omega)) (by decide) rfl rfl rfl
  have t4 : decide ((32768 : Int) ≤ (numOf p 6 2 : Int)) = false := by simp; omega
  have G0 := Lib.hid (E0.out HV.out HQ.out HL.out HS.out hfo)
  clear E0 E9 E5 E4b E4 HV HQ HL HS n0 n1 n2 n3 n4 n5 n6 n7 n8 n9
  go_upto_if 48 with (fail)
  go_cut [3] (fun v wx => v = .string ⟨#[]⟩ ∧ u1 = wx)
  case first =>
    go_wp2_with fail
    go_meet
    exact ⟨rfl, rfl⟩
  case rest =>
  obtain ⟨rfl, rfl⟩ := hcut
  go_upto_region 14 with (fail)
  have m4 : IntKind.i64.wrap ((numOf p 6 2 : Int) / 16384) = (numOf p 6 2 : Int) / 16384 := IntWalk.i64_in _ (by omega)
  have b1 : (1 : Int) < (p.size : Int) := by omega
  have b8 : (8 : Int) < (p.size : Int) := by omega
  have b9 : (9 : Int) < (p.size : Int) := by omega
  have b16 : (16 : Int) ≤ (p.size : Int) := by omega
  have b20 : (20 : Int) ≤ (p.size : Int) := by omega
  have bz0 : (0 : Int) ≤ (z : Int) := by omega
  have bz1 : (20 : Int) ≤ (z : Int) := by omega
  have bz2 : (z : Int) ≤ (p.size : Int) := by omega
  have A4 := Lib.hid (fun W => at_x p 4 4 rfl W (by omega) (by omega) hs)
  have HM := made_hdr p hp (by omega) (by omega) (by omega) hfo
  rw [HZP.out] at HM
  have HH := Lib.hid HM
  clear HM hz1 hz2 hal t4 hq1 hq2 HZ HA m4 hfo
  generalize numOf p 6 2 = fl at *
  refine wp_region_any (by kernel_rfl) ?_
  change wpAny _ _ _ _ _ _ _ (World.drew _)
  refine wpAny_take (i := 0) (v := ?v0) rfl (by kernel_rfl) (by kernel_rfl) (by kernel_rfl) (fun _ _ _ h => h) (Or.inl ⟨by rfl, ?y0⟩) ?_
  case y0 => (intro w; go_simp <;> with_reducible rfl)
  simp only [Act.put]
  refine wpAny_take (i := 1) (v := ?v1) rfl (by kernel_rfl) (by kernel_rfl) (by kernel_rfl) (fun _ _ _ h => h) (Or.inl ⟨by rfl, ?y1⟩) ?_
  case y1 => (intro w; go_simp <;> with_reducible rfl)
  simp only [Act.put]
  refine wpAny_take (i := 2) (v := ?v2) rfl (by kernel_rfl) (by kernel_rfl) (by kernel_rfl) (fun _ _ _ h => h) (Or.inl ⟨by rfl, ?y2⟩) ?_
  case y2 => (intro w; go_simp <;> with_reducible rfl)
  simp only [Act.put]
  refine wpAny_take (i := 3) (v := ?v3) rfl (by kernel_rfl) (by kernel_rfl) (by kernel_rfl) (fun _ _ _ h => h) (Or.inl ⟨by rfl, ?y3⟩) ?_
  case y3 => (intro w; go_simp <;> with_reducible rfl)
  simp only [Act.put]
  refine wpAny_take (i := 5) (v := ?v5) rfl (by kernel_rfl) (by kernel_rfl) (by kernel_rfl) (fun _ _ _ h => h) (Or.inl ⟨by rfl, ?y5⟩) ?_
  case y5 => (intro w; go_simp <;> with_reducible rfl)
  simp only [Act.put]
  refine wpAny_take (i := 6) (v := ?v6) rfl (by kernel_rfl) (by kernel_rfl) (by kernel_rfl) (fun _ _ _ h => h) (Or.inl ⟨by rfl, ?y6⟩) ?_
  case y6 => (intro w; go_simp <;> with_reducible rfl)
  simp only [Act.put]
  refine wpAny_take (i := 7) (v := ?v7) rfl (by kernel_rfl) (by kernel_rfl) (by kernel_rfl) (fun _ _ _ h => h) (Or.inl ⟨by rfl, ?y7⟩) ?_
  case y7 => (intro w; go_simp <;> with_reducible rfl)
  simp only [Act.put]
  refine wpAny_take (i := 8) (v := ?v8) rfl (by kernel_rfl) (by kernel_rfl) (by kernel_rfl) (fun _ _ _ h => h) (Or.inl ⟨by rfl, ?y8⟩) ?_
  case y8 => (intro w; go_simp <;> with_reducible rfl)
  simp only [Act.put]
  refine wpAny_take (i := 9) (v := ?v9) rfl (by kernel_rfl) (by kernel_rfl) (by kernel_rfl) (fun _ _ _ h => h) (Or.inl ⟨by rfl, ?y9⟩) ?_
  case y9 => (intro w; go_simp <;> with_reducible rfl)
  simp only [Act.put]
  refine wpAny_take (i := 10) (v := ?v10) rfl (by kernel_rfl) (by kernel_rfl) (by kernel_rfl) (fun _ _ _ h => h) (Or.inl ⟨by rfl, ?y10⟩) ?_
  case y10 => (intro w; go_simp <;> with_reducible rfl)
  simp only [Act.put]
  refine wpAny_take (i := 11) (v := ?v11) rfl (by kernel_rfl) (by kernel_rfl) (by kernel_rfl) (fun _ _ _ h => h) (Or.inl ⟨by rfl, ?y11⟩) ?_
  case y11 => (intro w; go_simp <;> with_reducible rfl)
  simp only [Act.put]
  refine wpAny_take (i := 12) (v := ?v12) rfl (by kernel_rfl) (by kernel_rfl) (by kernel_rfl) (fun _ _ _ h => h) (Or.inl ⟨by rfl, ?y12⟩) ?_
  case y12 => (intro w; go_simp <;> with_reducible rfl)
  simp only [Act.put]
  refine wpAny_take (i := 13) (v := ?v13) rfl (by kernel_rfl) (by kernel_rfl) (by kernel_rfl) (fun _ _ _ h => h) (Or.inl ⟨by rfl, ?y13⟩) ?_
  case y13 => (intro w; go_simp <;> with_reducible rfl)
  simp only [Act.put]
  refine wpAny_take (i := 14) (v := ?v14) rfl (by kernel_rfl) (by kernel_rfl) (by kernel_rfl) (fun _ _ _ h => h) (Or.inl ⟨by rfl, ?y14⟩) ?_
  case y14 => (intro w; go_simp <;> with_reducible rfl)
  simp only [Act.put]
  refine wpAny_take (i := 15) (v := ?v15) rfl (by kernel_rfl) (by kernel_rfl) (by kernel_rfl) (fun _ _ _ h => h) (Or.inl ⟨by rfl, ?y15⟩) ?_
  case y15 => (intro w; go_simp <;> with_reducible rfl)
  simp only [Act.put]
  refine wpAny_take (i := 16) (v := ?v16) rfl (by kernel_rfl) (by kernel_rfl) (by kernel_rfl) (fun _ _ _ h => h) (Or.inl ⟨by rfl, ?y16⟩) ?_
  case y16 => (intro w; go_simp <;> with_reducible rfl)
  simp only [Act.put]
  refine wpAny_take (i := 17) (v := ?v17) rfl (by kernel_rfl) (by kernel_rfl) (by kernel_rfl) (fun _ _ _ h => h) (Or.inl ⟨by rfl, ?y17⟩) ?_
  case y17 => (intro w; go_simp <;> with_reducible rfl)
  simp only [Act.put]
  refine wpAny_take (i := 18) (v := ?v18) rfl (by kernel_rfl) (by kernel_rfl) (by kernel_rfl) (fun _ _ _ h => h) (Or.inl ⟨by rfl, ?y18⟩) ?_
  case y18 => (intro w; go_simp <;> with_reducible rfl)
  simp only [Act.put]
  refine wpAny_take (i := 19) (v := ?v19) rfl (by kernel_rfl) (by kernel_rfl) (by kernel_rfl) (fun _ _ _ h => h) (Or.inl ⟨by rfl, ?y19⟩) ?_
  case y19 => (intro w; go_simp <;> with_reducible rfl)
  simp only [Act.put]
  refine wpAny_take (i := 20) (v := ?v20) rfl (by kernel_rfl) (by kernel_rfl) (by kernel_rfl) (fun _ _ _ h => h) (Or.inl ⟨by rfl, ?y20⟩) ?_
  case y20 => (intro w; go_simp <;> with_reducible rfl)
  simp only [Act.put]
  refine wpAny_take (i := 21) (v := ?v21) rfl (by kernel_rfl) (by kernel_rfl) (by kernel_rfl) (fun _ _ _ h => h) (Or.inl ⟨by rfl, ?y21⟩) ?_
  case y21 => (intro w; go_simp <;> with_reducible rfl)
  simp only [Act.put]
  refine wpAny_take (i := 22) (v := ?v22) rfl (by kernel_rfl) (by kernel_rfl) (by kernel_rfl) (fun _ _ _ h => h) (Or.inl ⟨by rfl, ?y22⟩) ?_
  case y22 => (intro w; go_simp <;> with_reducible rfl)
  simp only [Act.put]
  refine wpAny_take (i := 23) (v := ?v23) rfl (by kernel_rfl) (by kernel_rfl) (by kernel_rfl) (fun _ _ _ h => h) (Or.inl ⟨by rfl, ?y23⟩) ?_
  case y23 => (intro w; go_simp <;> with_reducible rfl)
  simp only [Act.put]
  refine wpAny_take (i := 24) (v := ?v24) rfl (by kernel_rfl) (by kernel_rfl) (by kernel_rfl) (fun _ _ _ h => h) (Or.inl ⟨by rfl, ?y24⟩) ?_
  case y24 => (intro w; go_simp <;> with_reducible rfl)
  simp only [Act.put]
  refine wpAny_take (i := 25) (v := ?v25) rfl (by kernel_rfl) (by kernel_rfl) (by kernel_rfl) (fun _ _ _ h => h) (Or.inl ⟨by rfl, ?y25⟩) ?_
  case y25 => (intro w; go_simp <;> with_reducible rfl)
  simp only [Act.put]
  refine wpAny_take (i := 26) (v := ?v26) rfl (by kernel_rfl) (by kernel_rfl) (by kernel_rfl) (fun _ _ _ h => h) (Or.inl ⟨by rfl, ?y26⟩) ?_
  case y26 => (intro w; go_simp <;> with_reducible rfl)
  simp only [Act.put]
  refine wpAny_take (i := 28) (v := ?v28) rfl (by kernel_rfl) (by kernel_rfl) (by kernel_rfl) (fun _ _ _ h => h) (Or.inl ⟨by rfl, ?y28⟩) ?_
  case y28 => (intro w; go_simp <;> with_reducible rfl)
  simp only [Act.put]
  refine wpAny_take (i := 29) (v := ?v29) rfl (by kernel_rfl) (by kernel_rfl) (by kernel_rfl) (fun _ _ _ h => h) (Or.inl ⟨by rfl, ?y29⟩) ?_
  case y29 => (intro w; go_simp <;> with_reducible rfl)
  simp only [Act.put]
  refine wpAny_take (i := 30) (v := ?v30) rfl (by kernel_rfl) (by kernel_rfl) (by kernel_rfl) (fun _ _ _ h => h) (Or.inl ⟨by rfl, ?y30⟩) ?_
  case y30 => (intro w; go_simp <;> with_reducible rfl)
  simp only [Act.put]
  refine wpAny_ready (rs := [4]) (by kernel_rfl) (by simp) ?_
  refine AllReady.cons rfl (fun K hK => ?_) AllReady.nil
  go_simp
  refine (A4.out _).mono ?_
  rintro e w' ⟨rfl, rfl⟩
  refine hK _ _ ?_
  clear hK K
  refine wpAny_ready (rs := [27]) (by kernel_rfl) (by simp) ?_
  refine AllReady.cons rfl (fun K hK => ?_) AllReady.nil
  go_simp
  refine hK _ _ ?_
  clear hK K
  refine wpAny_ready (rs := [31]) (by kernel_rfl) (by simp) ?_
  refine AllReady.cons rfl (fun K hK => ?_) AllReady.nil
  go_simp
  refine hK _ _ ?_
  clear hK K
  refine wpAny_ready (rs := [32]) (by kernel_rfl) (by simp) ?_
  refine AllReady.cons rfl (fun K hK => ?_) AllReady.nil
  go_simp
  refine hK _ _ ?_
  clear hK K
  refine wpAny_ready (rs := [33]) (by kernel_rfl) (by simp) ?_
  refine AllReady.cons rfl (fun K hK => ?_) AllReady.nil
  go_simp
  refine hK _ _ ?_
  clear hK K
  refine wpAny_done (by kernel_rfl) ?_ _
  go_wp2_with fail
  refine refget_done' G1.out G0.out HZP.out HH.out ?_ ?_ ?_
  · rfl
  · rfl
  · rfl

end Go.Proofs.Ytoijomdgcgbpbaa
