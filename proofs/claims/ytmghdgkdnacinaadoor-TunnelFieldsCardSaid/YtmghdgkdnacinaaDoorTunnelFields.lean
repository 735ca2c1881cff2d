/-
  TunnelFields returns true at every input.
-/
import Derived.Test.YtmghdgkdnacinaaDoorTunnelBits
import Derived.Deep.CutBlock
import Derived.Deep.DeepCutAuto
namespace Go.Proofs.YtmghdgkdnacinaaDoor
open Go.RowKit
set_option linter.unusedVariables false
set_option linter.unusedSimpArgs false

/-- The way's block besides: M. -/
structure Lf14 (w W : World) (t : T14) (M : Nat) (y : W14) : Prop where
  lt : Lt14 w W t
  yb : Blk W M y.cells 32
  le : w.heap.size < M
  hv : Vers w
  hp : Places w
theorem Lf14.below {w W W' : World} {t : T14} {M : Nat} {y : W14} (r : Lf14 w W t M y) (hb : Below W.heap.size W W') : Lf14 w W' t M y :=
  ⟨r.lt.below hb, (hb.block _ r.yb.lt).trans r.yb, r.le, r.hv, r.hp⟩
theorem Lf14.new {w W : World} {t : T14} (r : Lt14 w W t) (y : W14) (hv : Vers w) (hp : Places w) : Lf14 w (W.alloc (.cells y.cells 32)) t W.heap.size y :=
  ⟨r.alloc _, Blk.new _ _ _, r.tb.lt, hv, hp⟩
theorem Lf14.alloc {w W : World} {t : T14} {M : Nat} {y : W14} (r : Lf14 w W t M y) (o : Obj) : Lf14 w (W.alloc o) t M y := r.below ((Below.refl _ _).alloc (Nat.le_refl _) o)
/-- The tunnel's fields, written. -/
theorem Lf14.put {w W : World} {n : Int} {sum key : Bool} {v : Nat} {df : Bool} {ttl tos : Int} {M : Nat} {y : W14} (r : Lf14 w W ⟨n, sum, key, v, df, ttl, tos⟩ M y) (ttl' tos' : Int) (df' : Bool) :
    Lf14 w (((W.setCell ⟨w.heap.size, 5, none⟩ (.int .i64 ttl')).setCell ⟨w.heap.size, 6, none⟩ (.int .i64 tos')).setCell ⟨w.heap.size, 4, none⟩ (.bool df')) ⟨n, sum, key, v, df', ttl', tos'⟩ M y :=
  ⟨⟨((r.lt.tb.set 5 (.int .i64 ttl')).set 6 (.int .i64 tos')).set 4 (.bool df'), ((r.lt.gl.setCell r.hv r.hp (p := ⟨w.heap.size, 5, none⟩) (Nat.le_refl _) _).setCell r.hv r.hp (p := ⟨w.heap.size, 6, none⟩) (Nat.le_refl _) _).setCell r.hv r.hp (p := ⟨w.heap.size, 4, none⟩) (Nat.le_refl _) _⟩,
    ((r.yb.set_other (p := ⟨w.heap.size, 5, none⟩) (by have := r.le; show M ≠ w.heap.size; omega) _).set_other (p := ⟨w.heap.size, 6, none⟩) (by have := r.le; show M ≠ w.heap.size; omega) _).set_other (p := ⟨w.heap.size, 4, none⟩) (by have := r.le; show M ≠ w.heap.size; omega) _, r.le, r.hv, r.hp⟩
theorem Lf14.id {w W : World} {t : T14} {M : Nat} {src dst : ByteArray} {i port : Int} (r : Lf14 w W t M ⟨src, dst, i, port⟩) (i' : Int) : Lf14 w (W.setCell ⟨M, 2, none⟩ (.int .i64 i')) t M ⟨src, dst, i', port⟩ :=
  ⟨⟨r.lt.tb.set_other (p := ⟨M, 2, none⟩) (Nat.ne_of_lt r.le) _, r.lt.gl.setCell r.hv r.hp (p := ⟨M, 2, none⟩) (Nat.le_of_lt r.le) _⟩, r.yb.set 2 _, r.le, r.hv, r.hp⟩

set_option maxRecDepth 100000 in
set_option maxHeartbeats 4000000 in
theorem tunnelFields_any (t : T14) (ttl' tos' : Int) (df' : Bool) (id' : Int) (inner : ByteArray) (w : World) (hg : Vers w ∧ Places w) (hv : t.v < 4294967296) (f1 : 0 ≤ ttl' ∧ ttl' ≤ 255) (f2 : 0 ≤ tos' ∧ tos' ≤ 255) (f3 : 0 ≤ id' ∧ id' ≤ 65535) :
    Calls Tryd.prog 4 #[.agg t.cells, .int .u8 ttl', .int .u8 tos', .bool df', .int .u16 id', .string inner] w (AwakeEnd w) := by
  have HA := Lib.hid (fun W => awake14_any W)
  have S0 := Lib.hid (Lt14.new w t hg.1 hg.2)
  have HV := Lib.hid hv
  have HG := Lib.hid hg
  clear hg hv
  by_cases h1 : inner.size ≤ 3000
  case neg =>
    have t1 : decide ((3000 : Int) < (inner.size : Int)) = true := by simp; omega
    obtain ⟨n, sum, key, v, df, ttl, tos⟩ := t
    unfold T14.cells at S0 ⊢
    simp only at S0 ⊢
    clear HV HG h1 f1 f2 f3
    go_enter Tryd.func4, Tryd.ntmps4
    go_wp2_with fail
    refine (HA.out _).mono ?_
    rintro e w1 ⟨rfl, hb⟩
    have S1 := Lib.hid (S0.out.below hb)
    clear hb S0 HA
    go_wp2_with fail
    go_ret
    exact ⟨rfl, S1.out.gl.bel⟩
  have t1 : decide ((3000 : Int) < (inner.size : Int)) = false := by simp; omega
  have HW := Lib.hid (fun W hv1 hp => wrap14_any t way14 inner W hv1 hp HV.out (by omega))
  have HC := Lib.hid (wrap14_cases t way14 inner)
  have HSZ : Hid (∀ t y X, Wrapped14 t y inner X → X.size ≤ 3100 ∧ 20 ≤ X.size) := by
    intro t y X r
    have h := r.sent.size
    have hz := putM14_size (m14 t.mode) t y inner
    have e : (outer14 t y ((m14 t.mode).proto inner)).size = 20 := rfl
    rw [e] at h
    omega
  generalize wrap14S t way14 inner = X at *
  generalize wrap14E t way14 inner = E at *
  unfold Tells at HW
  obtain ⟨n, sum, key, v, df, ttl, tos⟩ := t
  have HW2 := Lib.hid (fun W hv1 hp => wrap14_any ⟨n, sum, key, v, df', ttl', tos'⟩ ⟨⟨#[97, 98, 99, 100]⟩, ⟨#[101, 102, 103, 104]⟩, id', 50000⟩ inner W hv1 hp HV.out (by omega))
  have HO := Lib.hid (fun (r : Wrapped14 ⟨n, sum, key, v, df, ttl, tos⟩ ⟨⟨#[97, 98, 99, 100]⟩, ⟨#[101, 102, 103, 104]⟩, 0, 50000⟩ inner X) => r.other (df' := df') f1 f2 f3)
  have HGT := Lib.hid (fun X (r : Wrapped14 ⟨n, sum, key, v, df', ttl', tos'⟩ ⟨⟨#[97, 98, 99, 100]⟩, ⟨#[101, 102, 103, 104]⟩, id', 50000⟩ inner X) => r.got HV.out)
  unfold Tells at HW2
  have c1 : IntKind.i64.wrap ttl' = ttl' := IntWalk.i64_in _ (by omega)
  have c2 : IntKind.i64.wrap tos' = tos' := IntWalk.i64_in _ (by omega)
  have c3 : IntKind.i64.wrap id' = id' := IntWalk.i64_in _ (by omega)
  clear h1 f1 f2 f3 HV
  unfold way14 W14.cells at HW
  unfold W14.cells at HW2
  unfold T14.cells at S0 HW HW2 ⊢
  simp only at S0 HW HW2 ⊢
  generalize wrap14S ⟨n, sum, key, v, df', ttl', tos'⟩ ⟨⟨#[97, 98, 99, 100]⟩, ⟨#[101, 102, 103, 104]⟩, id', 50000⟩ inner = Y at *
  generalize wrap14E ⟨n, sum, key, v, df', ttl', tos'⟩ ⟨⟨#[97, 98, 99, 100]⟩, ⟨#[101, 102, 103, 104]⟩, id', 50000⟩ inner = E2 at *
  go_enter Tryd.func4, Tryd.ntmps4
  go_wp2_with fail
  refine (HA.out _).mono ?_
  rintro e w1 ⟨rfl, hb⟩
  have S1 := Lib.hid (S0.out.below hb)
  clear hb S0 HA
  have ⟨k0, k1, k2, k3, k4, k5, k6⟩ := Tc.of S1.out.tb
  simp only at k0 k1 k2 k3 k4 k5 k6
  have ne0 := Nat.ne_of_lt S1.out.tb.lt
  have S2 : Hid (Lf14 w (w1.alloc (.cells #[.string ⟨#[97, 98, 99, 100]⟩, .string ⟨#[101, 102, 103, 104]⟩, .int .i64 0, .int .i64 50000] 32)) ⟨n, sum, key, v, df, ttl, tos⟩ w1.heap.size way14) := Lib.hid (Lf14.new S1.out way14 HG.out.1 HG.out.2)
  clear k0 k1 k2 k3 k4 k5 k6
  have ⟨k0, k1, k2, k3, k4, k5, k6⟩ := Tc.of S2.out.lt.tb
  simp only at k0 k1 k2 k3 k4 k5 k6
  go_wp2_with fail
  clear ne0
  refine (HW.out _ S2.out.lt.gl.vs S2.out.lt.gl.ps).mono ?_
  rintro e w3 ⟨rfl, hb⟩
  have S3 : Hid (Lf14 w w3 ⟨n, sum, key, v, df, ttl, tos⟩ w1.heap.size ⟨⟨#[97, 98, 99, 100]⟩, ⟨#[101, 102, 103, 104]⟩, 0, 50000⟩) := Lib.hid (S2.out.below hb)
  clear hb S1 S2 HW k0 k1 k2 k3 k4 k5 k6 t1 HG
  generalize w1.heap.size = M at *
  rcases HC.out with ⟨rfl, hwr⟩ | ⟨hE, rfl⟩
  case inr =>
    have tE : ((E : Int) != 0) = true := by simp; omega
    clear HC hE HSZ HO HGT HW2 c1 c2 c3
    go_wp2_with fail
    go_ret
    exact ⟨rfl, S3.out.lt.gl.bel⟩
  have ⟨o1, o2, o3⟩ := HO.out hwr
  subst o1
  have ⟨zx1, zx2⟩ := HSZ.out _ _ _ hwr
  have ⟨zy1, zy2⟩ := HSZ.out _ _ _ o2
  have hgot := HGT.out _ o2
  have HLK := Lib.hid o3
  have HU := Lib.hid (fun W hv1 hp => unwrap14_any Y W hv1 hp (by omega))
  rw [hgot.err, hgot.t_, hgot.w_, hgot.s_] at HU
  unfold Tells T14.cells W14.cells at HU
  simp only at HU
  generalize (m14 n).port ⟨⟨#[97, 98, 99, 100]⟩, ⟨#[101, 102, 103, 104]⟩, id', 50000⟩ = pq at *
  clear hgot o2 o3 HGT HSZ HO HC hwr
  have ⟨k0, k1, k2, k3, k4, k5, k6⟩ := Tc.of S3.out.lt.tb
  have ⟨y0, y1, y2, y3⟩ := Wc.of S3.out.yb
  simp only at k0 k1 k2 k3 k4 k5 k6 y0 y1 y2 y3
  have g4 := S3.out.lt.tb.frozen 4
  have g5 := S3.out.lt.tb.frozen 5
  have g6 := S3.out.lt.tb.frozen 6
  have g2 := S3.out.yb.frozen 2
  have ne := Nat.ne_of_lt S3.out.le
  have ne2 := ne.symm
  have S4 := Lib.hid ((S3.out.put ttl' tos' df').id id')
  simp only [show ((0 : Nat) : Int) = 0 from rfl] at HW2
  go_wp2_with fail
  refine (HW2.out _ S4.out.lt.gl.vs S4.out.lt.gl.ps).mono ?_
  rintro e w5 ⟨rfl, hb⟩
  have S5 := Lib.hid (S4.out.below hb)
  clear hb S3 S4 HW2 k0 k1 k2 k3 k4 k5 k6 y0 y1 y2 y3 g2 g4 g5 g6 ne ne2 c1 c2
  obtain ⟨R, hR⟩ : ∃ R, R = Y.extract 20 Y.size := ⟨_, rfl⟩
  obtain ⟨R1, hR1⟩ : ∃ R, R = Y.extract 12 20 := ⟨_, rfl⟩
  obtain ⟨R2, hR2⟩ : ∃ R, R = Y.extract 0 1 := ⟨_, rfl⟩
  obtain ⟨R3, hR3⟩ : ∃ R, R = Y.extract 2 4 := ⟨_, rfl⟩
  obtain ⟨R4, hR4⟩ : ∃ R, R = Y.extract 9 10 := ⟨_, rfl⟩
  have x0 : X.extract 20 X.size = R := HLK.out.rest.trans hR.symm
  have x1 : X.extract 12 20 = R1 := HLK.out.addr.trans hR1.symm
  have x2 : X.extract 0 1 = R2 := HLK.out.first.trans hR2.symm
  have x3 : X.extract 2 4 = R3 := HLK.out.len.trans hR3.symm
  have x4 : X.extract 9 10 = R4 := HLK.out.proto.trans hR4.symm
  have v0 := hR.symm
  have v1 := hR1.symm
  have v2 := hR2.symm
  have v3 := hR3.symm
  have v4 := hR4.symm
  have tz : ((X.size : Int) != (Y.size : Int)) = false := by rw [HLK.out.size]; simp
  have q0 := str_ne R
  have q1 := str_ne R1
  have q2 := str_ne R2
  have q3 := str_ne R3
  have q4 := str_ne R4
  have b0 : (20 : Int) ≤ (X.size : Int) := by omega
  have b1 : (20 : Int) ≤ (Y.size : Int) := by omega
  have b2 : (1 : Int) ≤ (X.size : Int) := by omega
  have b3 : (1 : Int) ≤ (Y.size : Int) := by omega
  have b4 : (4 : Int) ≤ (X.size : Int) := by omega
  have b5 : (4 : Int) ≤ (Y.size : Int) := by omega
  have b6 : (10 : Int) ≤ (X.size : Int) := by omega
  have b7 : (10 : Int) ≤ (Y.size : Int) := by omega
  clear hR hR1 hR2 hR3 hR4 zx1 zx2 zy1 zy2
  go_wp2_with fail
  go_quiet (fail)
  have S6 := Lib.hid (S5.out.below (below_drewN (Below.refl _ _) nq))
  clear S5 x0 x1 x2 x3 x4 v0 v1 v2 v3 v4 tz q0 q1 q2 q3 q4 b0 b1 b2 b3 b4 b5 b6 b7
  generalize w5.drewN nq = w6 at *
  go_wp2_with fail
  refine (HU.out _ S6.out.lt.gl.vs S6.out.lt.gl.ps).mono ?_
  rintro e w7 ⟨rfl, hb⟩
  have S7 := Lib.hid (S6.out.below hb)
  clear hb S6 HU
  have S8 := Lib.hid ((S7.out.alloc (.cells #[.int .i64 n, .bool sum, .bool key, .int .u32 (v : Nat), .bool df', .int .i64 ttl', .int .i64 tos'] 24)).alloc (.cells #[.string ⟨#[97, 98, 99, 100]⟩, .string ⟨#[101, 102, 103, 104]⟩, .int .i64 id', .int .i64 pq] 32))
  have ⟨k0, k1, k2, k3, k4, k5, k6⟩ := Tc.of S8.out.lt.tb
  simp only at k0 k1 k2 k3 k4 k5 k6
  have st := str_eq inner
  go_wp2_with fail
  go_ret
  exact ⟨rfl, S8.out.lt.gl.bel⟩

end Go.Proofs.YtmghdgkdnacinaaDoor
