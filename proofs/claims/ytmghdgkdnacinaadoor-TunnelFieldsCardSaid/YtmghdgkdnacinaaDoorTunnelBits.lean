/-
  TunnelBits returns true at every input.
-/
import Derived.Test.YtmghdgkdnacinaaDoorTunnelBack
import Derived.Test.YtmghdgkdnacinaaDoorGround
import Derived.RegionTactic
import Derived.BigRegion
namespace Go.Proofs.YtmghdgkdnacinaaDoor
open Go.RowKit
set_option linter.unusedVariables false

theorem wrap_bit14 (r : Nat) (h : r < 8) : IntKind.u8.wrap ((2 : Int) ^ r) = ((UInt8.ofNat (2 ^ r)).toNat : Int) := by
  have : r = 0 ∨ r = 1 ∨ r = 2 ∨ r = 3 ∨ r = 4 ∨ r = 5 ∨ r = 6 ∨ r = 7 := by omega
  rcases this with rfl | rfl | rfl | rfl | rfl | rfl | rfl | rfl <;> decide
/-- The way of the laws. -/
def way14 : W14 := ⟨⟨#[97, 98, 99, 100]⟩, ⟨#[101, 102, 103, 104]⟩, 0, 50000⟩
/-- The tunnel's block, and the tables. -/
structure Lt14 (w W : World) (t : T14) : Prop where
  tb : Blk W w.heap.size t.cells 24
  gl : Gl13 w W
theorem Lt14.below {w W W' : World} {t : T14} (r : Lt14 w W t) (hb : Below W.heap.size W W') : Lt14 w W' t :=
  ⟨(hb.block _ r.tb.lt).trans r.tb, r.gl.below hb⟩
theorem Lt14.new (w : World) (t : T14) (hv : Vers w) (hp : Places w) : Lt14 w (w.alloc (.cells t.cells 24)) t :=
  ⟨Blk.new _ _ _, (Gl13.new hv hp).alloc _⟩
theorem Lt14.alloc {w W : World} {t : T14} (r : Lt14 w W t) (o : Obj) : Lt14 w (W.alloc o) t := r.below ((Below.refl _ _).alloc (Nat.le_refl _) o)

set_option maxRecDepth 100000 in
set_option maxHeartbeats 4000000 in
theorem tunnelBits_any (t : T14) (inner : ByteArray) (bit : Int) (w : World) (hg : Vers w ∧ Places w) (hv : t.v < 4294967296) :
    Calls Tryd.prog 5 #[.agg t.cells, .string inner, .int .i64 bit] w (AwakeEnd w) := by
  have HA := Lib.hid (fun W => awake14_any W)
  have S0 := Lib.hid (Lt14.new w t hg.1 hg.2)
  have HV := Lib.hid hv
  clear hg hv
  by_cases h1 : inner.size ≤ 3000
  case neg =>
    have t1 : decide ((3000 : Int) < (inner.size : Int)) = true := by simp; omega
    obtain ⟨n, sum, key, v, df, ttl, tos⟩ := t
    unfold T14.cells at S0 ⊢
    simp only at S0 ⊢
    clear HV h1
    go_enter Tryd.func5, Tryd.ntmps5
    go_wp2_with fail
    refine (HA.out _).mono ?_
    rintro e w1 ⟨rfl, hb⟩
    have S1 := Lib.hid (S0.out.below hb)
    clear hb S0 HA
    go_wp2_with fail
    go_ret
    exact ⟨rfl, S1.out.gl.bel⟩
  have t1 : decide ((3000 : Int) < (inner.size : Int)) = false := by simp; omega
  have HW := Lib.hid (fun W hv1 hp => wrap14_any t way14 inner W hv1 hp HV.out (by omega))
  have HC := Lib.hid (wrap14_cases t way14 inner)
  have HSZ : Hid (∀ X, Wrapped14 t way14 inner X → X.size ≤ 3100 ∧ 20 ≤ X.size) := by
    intro X r
    have h := r.sent.size
    have hz := putM14_size (m14 t.mode) t way14 inner
    have e : (outer14 t way14 ((m14 t.mode).proto inner)).size = 20 := rfl
    rw [e] at h
    omega
  have HFL := Lib.hid (fun X (r : Wrapped14 t way14 inner X) q i j hi hip hj hij hq => r.flip (q := q) i j hi hip hj hij hq)
  generalize wrap14S t way14 inner = X at *
  generalize wrap14E t way14 inner = E at *
  unfold Tells way14 W14.cells at HW
  have HC2 : Hid ((E = 0 ∧ Wrapped14 t way14 inner X) ∨ (E ≠ 0 ∧ X = ⟨#[]⟩)) := HC
  clear HC HV h1
  generalize hW : Wrapped14 t way14 inner = WR at *
  clear hW
  obtain ⟨n, sum, key, v, df, ttl, tos⟩ := t
  unfold T14.cells at S0 HW ⊢
  simp only at S0 HW ⊢
  go_enter Tryd.func5, Tryd.ntmps5
  go_wp2_with fail
  refine (HA.out _).mono ?_
  rintro e w1 ⟨rfl, hb⟩
  have S1 := Lib.hid (S0.out.below hb)
  clear hb S0 HA
  have ⟨k0, k1, k2, k3, k4, k5, k6⟩ := Tc.of S1.out.tb
  simp only at k0 k1 k2 k3 k4 k5 k6
  go_wp2_with fail
  refine (HW.out _ S1.out.gl.vs S1.out.gl.ps).mono ?_
  rintro e w3 ⟨rfl, hb⟩
  have S3 := Lib.hid (S1.out.below hb)
  clear hb S1 HW k0 k1 k2 k3 k4 k5 k6 t1
  rcases HC2.out with ⟨rfl, hwr⟩ | ⟨hE, rfl⟩
  case inr =>
    have tE : ((E : Int) != 0) = true := by simp; omega
    have tE2 : ((E : Int) == 0) = false := by simp; omega
    clear HC2 hE HSZ HFL
    go_wp2_with fail
    go_ret
    exact ⟨rfl, S3.out.gl.bel⟩
  have ⟨hPb, hP8⟩ := HSZ.out X hwr
  have HFX := Lib.hid (HFL.out X hwr)
  clear HC2 hwr HSZ HFL
  by_cases b0 : bit < 4
  · have t0 : decide (bit < 4) = true := decide_eq_true b0
    clear b0 hP8
    go_wp2_with fail
    go_ret
    exact ⟨rfl, S3.out.gl.bel⟩
  obtain ⟨k, rfl⟩ := Int.eq_ofNat_of_zero_le (show 0 ≤ bit by omega)
  have t0 : decide ((k : Int) < 4) = false := decide_eq_false (by omega)
  by_cases b1 : 160 ≤ k
  · have t1 : decide ((160 : Int) ≤ (k : Int)) = true := decide_eq_true (by omega)
    clear b0 hP8
    go_wp2_with fail
    go_ret
    exact ⟨rfl, S3.out.gl.bel⟩
  have t1 : decide ((160 : Int) ≤ (k : Int)) = false := decide_eq_false (by omega)
  have hkP : k / 8 < X.size := by omega
  have KH := Lib.hid (show k / 8 < 20 by omega)
  have KJ := Lib.hid (show 1 ≤ k / 8 ∨ 4 ≤ k % 8 by omega)
  obtain ⟨cap, w5, hcv, hby, hkb, hz5⟩ := bytes_conv w3 X
  have HBY := Lib.hid hby
  have HKB := Lib.hid hkb
  have hz3 := S3.out.gl.bel.size
  clear hby hkb b0
  go_wp2_with fail
  clear hcv t1 t0
  have c0 := HBY.out.cell (k / 8) (by simpa using hkP)
  have f0 := HBY.out.frozen (k / 8) (by simpa using hkP)
  have e1 : IntKind.i64.wrap ((k : Int) / 8) = ((k / 8 : Nat) : Int) := (IntWalk.i64_in _ (by omega)).trans (by omega)
  have e2 : IntKind.i64.wrap ((k : Int) % 8) = ((k % 8 : Nat) : Int) := (IntWalk.i64_in _ (by omega)).trans (by omega)
  have e3 : ((k : Int) % 8) = ((k % 8 : Nat) : Int) := by omega
  have hr8 : k % 8 < 8 := by omega
  have hk8 : k / 8 < X.data.toList.length := by simpa using hkP
  have e7 : ((k : Int).tmod 8) = ((k % 8 : Nat) : Int) := by rw [Int.tmod_eq_emod_of_nonneg (by omega)]; exact e3
  have e8 : IntKind.i64.wrap ((k : Int).tdiv 8) = ((k / 8 : Nat) : Int) := by rw [Int.tdiv_eq_ediv_of_nonneg (by omega)]; exact e1
  generalize k / 8 = q at *
  generalize k % 8 = r at *
  have hsh := wrap_bit14 r hr8
  obtain ⟨bv, hbv⟩ : ∃ bv : UInt8, bv = UInt8.ofNat (2 ^ r) := ⟨_, rfl⟩
  rw [← hbv] at hsh
  have HBV := Lib.hid hbv
  clear hbv
  have hxo := xor_u8 X.data.toList[q] bv
  obtain ⟨cx, hcx⟩ : ∃ cx : UInt8, cx = X.data.toList[q] ^^^ bv := ⟨_, rfl⟩
  rw [← hcx] at hxo
  have HCX := Lib.hid hcx
  clear hcx
  generalize hcy : X.data.toList[q] = cy at *
  have HCY := Lib.hid hcy
  clear hcy
  have e4 : (0 : Int) ≤ q := by omega
  have e5 : (q : Int) < X.size := by omega
  have e6 : (0 : Int) ≤ r := by omega
  go_region
  have HN := Lib.hid (((HBY.out.set q cx _ rfl).drew))
  have HL2 := Lib.hid (show (X.data.toList.set q cx).length = X.size by simp)
  have hcv2 := HN.out.text (cap := cap) HL2.out.symm
  obtain ⟨Y, hY⟩ : ∃ Y : ByteArray, Y = ⟨(X.data.toList.set q cx).toArray⟩ := ⟨_, rfl⟩
  rw [← hY] at hcv2
  have hYl : Y.data.toList = X.data.toList.set q cx := by rw [hY]
  have hYs : Y.size ≤ 6000 := by rw [hY, list_size, HL2.out]; omega
  have ⟨hE, hE2⟩ := HFX.out Y q r KH.out hkP hr8 KJ.out (by rw [hYl, HCX.out, HBV.out, ← HCY.out]; rfl)
  have G1 := Lib.hid (fun W hv1 hp => unwrap14_any Y W hv1 hp (by omega))
  have ⟨u1, u2, u3⟩ := unw14_err hE
  rw [u1, u2, u3] at G1
  have tg : ((unw14E Y : Int) != 0) = true := by simpa using hE
  unfold Tells at G1
  generalize unw14E Y = E2 at *
  have HBW : Hid (Lt14 w ((w5.setCell ⟨w3.heap.size, q, none⟩ (.int .u8 (cx.toNat : Int))).drew) ⟨n, sum, key, v, df, ttl, tos⟩) := by
    have h1 := S3.out.below ((HKB.out.mono (T := fun k => w3.heap.size ≤ k) (fun _ _ h => h.elim)).below (Nat.le_refl _))
    have h2 : Below w3.heap.size w5 ((w5.setCell ⟨w3.heap.size, q, none⟩ (.int .u8 (cx.toNat : Int))).drew) := ((Below.refl w3.heap.size w5).setCell (p := ⟨w3.heap.size, q, none⟩) (Nat.le_refl _) _).drew
    exact ⟨(h2.block _ S3.out.tb.lt).trans h1.tb, h1.gl.bel.trans (h2.mono hz3), h1.gl.vs.below h2 S3.out.gl.vs.lt, h1.gl.ps.below h2 S3.out.gl.ps.lt⟩
  clear hE hE2 hY hYl e1 e2 e3 e4 e5 e6 e7 e8 hsh hxo HN c0 f0 HBY HKB HCX HBV HCY hk8 hkP hr8 u1 u2 u3 HFX
  generalize (w5.setCell ⟨w3.heap.size, q, none⟩ (.int .u8 (cx.toNat : Int))).drew = w6 at *
  unfold T14.zero W14.zero T14.cells W14.cells at G1
  simp only [show ((0 : Nat) : Int) = 0 from rfl] at G1
  go_wp2_with fail
  refine (G1.out _ HBW.out.gl.vs HBW.out.gl.ps).mono ?_
  rintro e w7 ⟨rfl, hb⟩
  have L7 := Lib.hid (((HBW.out.below hb).alloc (.cells #[.int .i64 0, .bool false, .bool false, .int .u32 0, .bool false, .int .i64 0, .int .i64 0] 24)).alloc (.cells #[.string ⟨#[]⟩, .string ⟨#[]⟩, .int .i64 0, .int .i64 0] 32))
  clear hb
  go_wp2_with fail
  go_ret
  exact ⟨rfl, L7.out.gl.bel⟩

end Go.Proofs.YtmghdgkdnacinaaDoor
