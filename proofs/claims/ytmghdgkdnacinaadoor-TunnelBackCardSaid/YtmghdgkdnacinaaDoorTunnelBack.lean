/-
  TunnelBack returns true at every input.
-/
import Derived.Test.YtmghdgkdnacinaaDoorTunnelAwake
import Derived.Deep.CutBlock
import Derived.Deep.DeepCutAuto
namespace Go.Proofs.YtmghdgkdnacinaaDoor
open Go.RowKit
set_option linter.unusedVariables false
set_option linter.unusedSimpArgs false

/-- The two arguments' blocks, and the tables. -/
structure Lw14 (w W : World) (t : T14) (y : W14) : Prop where
  tb : Blk W w.heap.size t.cells 24
  yb : Blk W (w.heap.size + 1) y.cells 26
  gl : Gl13 w W
  hv : Vers w
  hp : Places w
theorem Lw14.below {w W W' : World} {t : T14} {y : W14} (r : Lw14 w W t y) (hb : Below W.heap.size W W') : Lw14 w W' t y :=
  ⟨(hb.block _ r.tb.lt).trans r.tb, (hb.block _ r.yb.lt).trans r.yb, r.gl.below hb, r.hv, r.hp⟩
theorem Lw14.new (w : World) (t : T14) (y : W14) (hv : Vers w) (hp : Places w) : Lw14 w ((w.alloc (.cells t.cells 24)).alloc (.cells y.cells 26)) t y :=
  ⟨(Blk.new _ _ _).alloc _, bare14 _ _ _ _ _, ((Gl13.new hv hp).alloc _).alloc _, hv, hp⟩
theorem Lw14.alloc {w W : World} {t : T14} {y : W14} (r : Lw14 w W t y) (o : Obj) : Lw14 w (W.alloc o) t y := r.below ((Below.refl _ _).alloc (Nat.le_refl _) o)
theorem Lw14.port {w W : World} {t : T14} {y : W14} (r : Lw14 w W t y) : Lw14 w (W.setCell ⟨w.heap.size + 1, 3, none⟩ (.int .i64 0)) t ⟨y.src, y.dst, y.id, 0⟩ :=
  ⟨r.tb.set_other (p := ⟨w.heap.size + 1, 3, none⟩) (by show _ ≠ w.heap.size + 1; omega) _, r.yb.set 3 _, r.gl.setCell r.hv r.hp (p := ⟨w.heap.size + 1, 3, none⟩) (Nat.le_succ _) _, r.hv, r.hp⟩
theorem port14 (n : Int) (y : W14) : (n = 3 → (m14 n).port y = y.port) ∧ (n ≠ 3 → (m14 n).port y = 0) := by
  refine ⟨fun h => by subst h; rfl, fun h => ?_⟩
  unfold m14
  split
  · rfl
  · split
    · rfl
    · first | rfl | (rw [if_neg h]; rfl)
/-- The answers' blocks besides. -/
structure L4 (w W : World) (M : Nat) (t : T14) (y : W14) : Prop where
  lw : Lw14 w W t y
  ub : Blk W M t.cells 24
  vb : Blk W (M + 1) y.cells 32
theorem L4.below {w W W' : World} {M : Nat} {t : T14} {y : W14} (r : L4 w W M t y) (hb : Below W.heap.size W W') : L4 w W' M t y :=
  ⟨r.lw.below hb, (hb.block _ r.ub.lt).trans r.ub, (hb.block _ r.vb.lt).trans r.vb⟩
theorem L4.drew {w W : World} {M : Nat} {t : T14} {y : W14} (r : L4 w W M t y) : L4 w W.drew M t y := r.below (below_drewN (Below.refl _ _) 1)
theorem L4.new {w W : World} {t : T14} {y : W14} (r : Lw14 w W t y) : L4 w ((W.alloc (.cells t.cells 24)).alloc (.cells y.cells 32)) W.heap.size t y :=
  ⟨(r.alloc _).alloc _, (Blk.new _ _ _).alloc _, bare14 _ _ _ _ _⟩
theorem L4.all {w W : World} {M : Nat} {n : Int} {sum key : Bool} {v : Nat} {df : Bool} {ttl tos : Int} {src dst : ByteArray} {id q : Int} (r : L4 w W M ⟨n, sum, key, v, df, ttl, tos⟩ ⟨src, dst, id, q⟩) :
    W.cell? ⟨w.heap.size, 0, none⟩ = some (.int .i64 n) ∧ W.cell? ⟨w.heap.size, 1, none⟩ = some (.bool sum) ∧ W.cell? ⟨w.heap.size, 2, none⟩ = some (.bool key) ∧ W.cell? ⟨w.heap.size, 3, none⟩ = some (.int .u32 (v : Nat)) ∧ W.cell? ⟨w.heap.size, 4, none⟩ = some (.bool df) ∧ W.cell? ⟨w.heap.size, 5, none⟩ = some (.int .i64 ttl) ∧ W.cell? ⟨w.heap.size, 6, none⟩ = some (.int .i64 tos) ∧ W.cell? ⟨w.heap.size + 1, 0, none⟩ = some (.string src) ∧ W.cell? ⟨w.heap.size + 1, 1, none⟩ = some (.string dst) ∧ W.cell? ⟨w.heap.size + 1, 2, none⟩ = some (.int .i64 id) ∧ W.cell? ⟨w.heap.size + 1, 3, none⟩ = some (.int .i64 q) ∧ W.cell? ⟨M, 0, none⟩ = some (.int .i64 n) ∧ W.cell? ⟨M, 1, none⟩ = some (.bool sum) ∧ W.cell? ⟨M, 2, none⟩ = some (.bool key) ∧ W.cell? ⟨M, 3, none⟩ = some (.int .u32 (v : Nat)) ∧ W.cell? ⟨M, 4, none⟩ = some (.bool df) ∧ W.cell? ⟨M, 5, none⟩ = some (.int .i64 ttl) ∧ W.cell? ⟨M, 6, none⟩ = some (.int .i64 tos) ∧ W.cell? ⟨M + 1, 0, none⟩ = some (.string src) ∧ W.cell? ⟨M + 1, 1, none⟩ = some (.string dst) ∧ W.cell? ⟨M + 1, 2, none⟩ = some (.int .i64 id) ∧ W.cell? ⟨M + 1, 3, none⟩ = some (.int .i64 q) ∧ Hid (L4 w W M ⟨n, sum, key, v, df, ttl, tos⟩ ⟨src, dst, id, q⟩) :=
  ⟨r.lw.tb.cell 0, r.lw.tb.cell 1, r.lw.tb.cell 2, r.lw.tb.cell 3, r.lw.tb.cell 4, r.lw.tb.cell 5, r.lw.tb.cell 6, r.lw.yb.cell 0, r.lw.yb.cell 1, r.lw.yb.cell 2, r.lw.yb.cell 3,
    r.ub.cell 0, r.ub.cell 1, r.ub.cell 2, r.ub.cell 3, r.ub.cell 4, r.ub.cell 5, r.ub.cell 6, r.vb.cell 0, r.vb.cell 1, r.vb.cell 2, r.vb.cell 3, Lib.hid r⟩
theorem keepL4 {w W W' : World} {M : Nat} {n : Int} {sum key : Bool} {v : Nat} {df : Bool} {ttl tos : Int} {src dst : ByteArray} {id q : Int} (hb : Below W.heap.size W W')
    (r : W.cell? ⟨w.heap.size, 0, none⟩ = some (.int .i64 n) ∧ W.cell? ⟨w.heap.size, 1, none⟩ = some (.bool sum) ∧ W.cell? ⟨w.heap.size, 2, none⟩ = some (.bool key) ∧ W.cell? ⟨w.heap.size, 3, none⟩ = some (.int .u32 (v : Nat)) ∧ W.cell? ⟨w.heap.size, 4, none⟩ = some (.bool df) ∧ W.cell? ⟨w.heap.size, 5, none⟩ = some (.int .i64 ttl) ∧ W.cell? ⟨w.heap.size, 6, none⟩ = some (.int .i64 tos) ∧ W.cell? ⟨w.heap.size + 1, 0, none⟩ = some (.string src) ∧ W.cell? ⟨w.heap.size + 1, 1, none⟩ = some (.string dst) ∧ W.cell? ⟨w.heap.size + 1, 2, none⟩ = some (.int .i64 id) ∧ W.cell? ⟨w.heap.size + 1, 3, none⟩ = some (.int .i64 q) ∧ W.cell? ⟨M, 0, none⟩ = some (.int .i64 n) ∧ W.cell? ⟨M, 1, none⟩ = some (.bool sum) ∧ W.cell? ⟨M, 2, none⟩ = some (.bool key) ∧ W.cell? ⟨M, 3, none⟩ = some (.int .u32 (v : Nat)) ∧ W.cell? ⟨M, 4, none⟩ = some (.bool df) ∧ W.cell? ⟨M, 5, none⟩ = some (.int .i64 ttl) ∧ W.cell? ⟨M, 6, none⟩ = some (.int .i64 tos) ∧ W.cell? ⟨M + 1, 0, none⟩ = some (.string src) ∧ W.cell? ⟨M + 1, 1, none⟩ = some (.string dst) ∧ W.cell? ⟨M + 1, 2, none⟩ = some (.int .i64 id) ∧ W.cell? ⟨M + 1, 3, none⟩ = some (.int .i64 q) ∧ Hid (L4 w W M ⟨n, sum, key, v, df, ttl, tos⟩ ⟨src, dst, id, q⟩)) : W'.cell? ⟨w.heap.size, 0, none⟩ = some (.int .i64 n) ∧ W'.cell? ⟨w.heap.size, 1, none⟩ = some (.bool sum) ∧ W'.cell? ⟨w.heap.size, 2, none⟩ = some (.bool key) ∧ W'.cell? ⟨w.heap.size, 3, none⟩ = some (.int .u32 (v : Nat)) ∧ W'.cell? ⟨w.heap.size, 4, none⟩ = some (.bool df) ∧ W'.cell? ⟨w.heap.size, 5, none⟩ = some (.int .i64 ttl) ∧ W'.cell? ⟨w.heap.size, 6, none⟩ = some (.int .i64 tos) ∧ W'.cell? ⟨w.heap.size + 1, 0, none⟩ = some (.string src) ∧ W'.cell? ⟨w.heap.size + 1, 1, none⟩ = some (.string dst) ∧ W'.cell? ⟨w.heap.size + 1, 2, none⟩ = some (.int .i64 id) ∧ W'.cell? ⟨w.heap.size + 1, 3, none⟩ = some (.int .i64 q) ∧ W'.cell? ⟨M, 0, none⟩ = some (.int .i64 n) ∧ W'.cell? ⟨M, 1, none⟩ = some (.bool sum) ∧ W'.cell? ⟨M, 2, none⟩ = some (.bool key) ∧ W'.cell? ⟨M, 3, none⟩ = some (.int .u32 (v : Nat)) ∧ W'.cell? ⟨M, 4, none⟩ = some (.bool df) ∧ W'.cell? ⟨M, 5, none⟩ = some (.int .i64 ttl) ∧ W'.cell? ⟨M, 6, none⟩ = some (.int .i64 tos) ∧ W'.cell? ⟨M + 1, 0, none⟩ = some (.string src) ∧ W'.cell? ⟨M + 1, 1, none⟩ = some (.string dst) ∧ W'.cell? ⟨M + 1, 2, none⟩ = some (.int .i64 id) ∧ W'.cell? ⟨M + 1, 3, none⟩ = some (.int .i64 q) ∧ Hid (L4 w W' M ⟨n, sum, key, v, df, ttl, tos⟩ ⟨src, dst, id, q⟩) :=
  (r.2.2.2.2.2.2.2.2.2.2.2.2.2.2.2.2.2.2.2.2.2.2.out.below hb).all

set_option maxRecDepth 100000 in
set_option maxHeartbeats 4000000 in
theorem tunnelBack_any (t : T14) (y : W14) (s : ByteArray) (w : World) (hg : Vers w ∧ Places w) (hv : t.v < 4294967296) :
    Calls Tryd.prog 3 #[.agg t.cells, .agg y.cells, .string s] w (AwakeEnd w) := by
  have HA := Lib.hid (fun W => awake14_any W)
  have S0 := Lib.hid (Lw14.new w t y hg.1 hg.2)
  have HF := Lib.hid (fun W => few14_any y s ⟨#[]⟩ W)
  have HB := Lib.hid (few14_iff y s ⟨#[]⟩)
  have HW := Lib.hid (fun W hv1 hp hs => wrap14_any t y s W hv1 hp hv hs)
  have HC := Lib.hid (wrap14_cases t y s)
  have HG := Lib.hid (fun X (r : Wrapped14 t y s X) => r.got hv)
  have HU := Lib.hid (fun X W hv1 hp hz => unwrap14_any X W hv1 hp hz)
  have HS := Lib.hid (fun W => size14_any t W)
  have HSZ : Hid (size14 t ≤ 32) := by
    show size14 t ≤ 32
    unfold size14
    split
    · have : (m14 t.mode).size t ≤ 12 := by
        cases m14 t.mode <;> simp only [M14.size]
        · omega
        · omega
        · exact (size12_le _ _).1
        · omega
      omega
    · omega
  unfold Tells at HF HW HU HS
  clear hg hv
  generalize few14 y s ⟨#[]⟩ = fw at *
  generalize wrap14S t y s = X at *
  generalize wrap14E t y s = E at *
  obtain ⟨n, sum, key, v, df, ttl, tos⟩ := t
  obtain ⟨src, dst, id, port⟩ := y
  unfold T14.cells W14.cells at S0 HW ⊢
  unfold T14.cells at HS
  unfold W14.cells at HF
  simp only at S0 HW HF HS HB HG ⊢
  go_enter Tryd.func3, Tryd.ntmps3
  go_wp2_with fail
  refine (HA.out _).mono ?_
  rintro e w1 ⟨rfl, hb⟩
  have S1 := Lib.hid (S0.out.below hb)
  clear hb S0 HA
  have ⟨y0, y1, y2, y3⟩ := Wc.of S1.out.yb
  simp only at y0 y1 y2 y3
  go_wp2_with fail
  refine (HF.out _).mono ?_
  rintro e w2 ⟨rfl, hb⟩
  have S2 := Lib.hid (S1.out.below hb)
  clear hb S1 HF y0 y1 y2 y3
  cases fw with
  | false =>
    go_wp2_with fail
    go_ret
    exact ⟨rfl, S2.out.gl.bel⟩
  | true =>
  have ⟨f1, f2, f3, f4⟩ := HB.out.1 rfl
  have HZ := Lib.hid f3
  have HW1 := Lib.hid (fun W hv1 hp => HW.out W hv1 hp (by omega))
  clear f1 f2 f3 f4 HB HW
  have ⟨y0, y1, y2, y3⟩ := Wc.of S2.out.yb
  have ⟨k0, k1, k2, k3, k4, k5, k6⟩ := Tc.of S2.out.tb
  simp only at y0 y1 y2 y3 k0 k1 k2 k3 k4 k5 k6
  go_wp2_with fail
  refine (HW1.out _ S2.out.gl.vs S2.out.gl.ps).mono ?_
  rintro e w3 ⟨rfl, hb⟩
  have S3 := Lib.hid (S2.out.below hb)
  clear hb S2 HW1 y0 y1 y2 y3 k0 k1 k2 k3 k4 k5 k6
  rcases HC.out with ⟨rfl, hwr⟩ | ⟨hE, rfl⟩
  case inr =>
    have tE : ((E : Int) != 0) = true := by simp; omega
    clear hE HC
    go_wp2_with fail
    go_ret
    exact ⟨rfl, S3.out.gl.bel⟩
  have hgot := HG.out X hwr
  have hxz := hgot.size
  have HXZ := Lib.hid hxz
  have hl : IntKind.i64.wrap ((s.size : Int) + (size14 ⟨n, sum, key, v, df, ttl, tos⟩ : Nat)) = (X.size : Int) := by
    have := HZ.out
    have := HSZ.out
    rw [IntWalk.i64_in _ (by omega)]
    omega
  have HU1 := Lib.hid (fun W hv1 hp => HU.out X W hv1 hp (by have := HZ.out; have := HSZ.out; omega))
  rw [hgot.err, hgot.t_, hgot.w_, hgot.s_] at HU1
  have ⟨hp1, hp2⟩ := port14 n ⟨src, dst, id, port⟩
  simp only at HU1 hp1
  clear hgot hwr HC HG HU hxz
  generalize size14 ⟨n, sum, key, v, df, ttl, tos⟩ = z at *
  generalize (m14 n).port ⟨src, dst, id, port⟩ = q at *
  have HP1 := Lib.hid hp1
  have HP2 := Lib.hid hp2
  have HL := Lib.hid hl
  clear hp1 hp2 hl
  unfold T14.cells W14.cells at HU1
  simp only at HU1
  have ⟨k0, k1, k2, k3, k4, k5, k6⟩ := Tc.of S3.out.tb
  simp only at k0 k1 k2 k3 k4 k5 k6
  go_upto_if 40 with (fail)
  clear k0 k1 k2 k3 k4 k5 k6
  go_cut [7] (fun v7 wx => v7 = .string X ∧ Hid (Lw14 w wx ⟨n, sum, key, v, df, ttl, tos⟩ ⟨src, dst, id, q⟩))
  case first =>
    by_cases hm : n = 3
    · have tm : (n != 3) = false := by simp [hm]
      have e := HP1.out hm
      clear hm
      go_wp2_with fail
      go_meet
      exact ⟨rfl, by rw [e]; exact S3⟩
    · have tm : (n != 3) = true := by simpa using hm
      have e := HP2.out hm
      clear hm
      have y3 := S3.out.yb.cell 3
      have g3 := S3.out.yb.frozen 3
      simp only [W14.cells, List.getElem?_toArray, List.getElem?_cons_zero, List.getElem?_cons_succ] at y3
      go_wp2_with fail
      go_meet
      exact ⟨rfl, by rw [e]; exact Lib.hid S3.out.port⟩
  case rest =>
    obtain ⟨rfl, S4⟩ := hcut
    clear S3 HP1 HP2
    go_wp2_with fail
    refine (HU1.out _ S4.out.gl.vs S4.out.gl.ps).mono ?_
    rintro e w6 ⟨rfl, hb⟩
    have S6 := Lib.hid (L4.new (S4.out.below hb))
    clear hb S4 HU1
    go_wp2_with fail
    unfold T14.cells W14.cells at S6
    simp only at S6
    have S7 := Lib.hid S6.out.drew
    clear S6
    generalize hu : w6.heap.size = M at *
    have HWY := Lib.hid (fun W => way14_any ⟨src, dst, id, q⟩ W)
    unfold Tells W14.cells at HWY
    simp only at HWY
    have hl := HL.out
    have st : (s.toList == s.toList) = true := by simp
    go_region_held3 (fun W => W.cell? ⟨w.heap.size, 0, none⟩ = some (.int .i64 n) ∧ W.cell? ⟨w.heap.size, 1, none⟩ = some (.bool sum) ∧ W.cell? ⟨w.heap.size, 2, none⟩ = some (.bool key) ∧ W.cell? ⟨w.heap.size, 3, none⟩ = some (.int .u32 (v : Nat)) ∧ W.cell? ⟨w.heap.size, 4, none⟩ = some (.bool df) ∧ W.cell? ⟨w.heap.size, 5, none⟩ = some (.int .i64 ttl) ∧ W.cell? ⟨w.heap.size, 6, none⟩ = some (.int .i64 tos) ∧ W.cell? ⟨w.heap.size + 1, 0, none⟩ = some (.string src) ∧ W.cell? ⟨w.heap.size + 1, 1, none⟩ = some (.string dst) ∧ W.cell? ⟨w.heap.size + 1, 2, none⟩ = some (.int .i64 id) ∧ W.cell? ⟨w.heap.size + 1, 3, none⟩ = some (.int .i64 q) ∧ W.cell? ⟨M, 0, none⟩ = some (.int .i64 n) ∧ W.cell? ⟨M, 1, none⟩ = some (.bool sum) ∧ W.cell? ⟨M, 2, none⟩ = some (.bool key) ∧ W.cell? ⟨M, 3, none⟩ = some (.int .u32 (v : Nat)) ∧ W.cell? ⟨M, 4, none⟩ = some (.bool df) ∧ W.cell? ⟨M, 5, none⟩ = some (.int .i64 ttl) ∧ W.cell? ⟨M, 6, none⟩ = some (.int .i64 tos) ∧ W.cell? ⟨M + 1, 0, none⟩ = some (.string src) ∧ W.cell? ⟨M + 1, 1, none⟩ = some (.string dst) ∧ W.cell? ⟨M + 1, 2, none⟩ = some (.int .i64 id) ∧ W.cell? ⟨M + 1, 3, none⟩ = some (.int .i64 q) ∧ Hid (L4 w W M ⟨n, sum, key, v, df, ttl, tos⟩ ⟨src, dst, id, q⟩))
      (first | exact S7.out.all | exact keepL4 (by assumption) (by assumption))
      (first
        | (go_at_call 10; ((with_reducible refine (HWY.out _).mono ?_); rintro e w' ⟨rfl, hb⟩))
        | (go_at_call 11; ((with_reducible refine (HS.out _).mono ?_); rintro e w' ⟨rfl, hb⟩)))
    rename_i held
    have S8 := Lib.hid (held.2.2.2.2.2.2.2.2.2.2.2.2.2.2.2.2.2.2.2.2.2.2.out)
    clear held S7 HWY HS hl st
    go_wp2_with fail
    go_ret
    exact ⟨rfl, S8.out.lw.gl.bel⟩

end Go.Proofs.YtmghdgkdnacinaaDoor
