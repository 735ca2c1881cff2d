/-
  The document's example: the laws' 'awake'; and the document's Build4.
-/
import Derived.Test.YtppobficnjpdiaaClampDo
import Derived.Test.YtppobficnjpdiaaFlowRefSeal
import Derived.Test.YtppobficnjpdiaaTcpRefPut
import Derived.Test.YtppobficnjpdiaaTcpAwake
import Derived.Test.YtppobficnjpdiaaIp4B
import Derived.Deep.RegionHeld3
namespace Go.Proofs.Ytppobficnjpdiaa
open Go.RowKit
set_option linter.unusedVariables false

/-- A header's block. -/
structure Rb (w W : World) (h : H4) : Prop where
  b : Blk W w.heap.size h.cells 52
  bel : Below w.heap.size w W
theorem Rb.below {w W W' : World} {h : H4} (r : Rb w W h) (hb : Below W.heap.size W W') : Rb w W' h :=
  ⟨(hb.block _ r.b.lt).trans r.b, r.bel.trans (hb.mono r.bel.size)⟩
theorem Rb.drew {w W : World} {h : H4} (r : Rb w W h) : Rb w W.drew h := ⟨r.b.drew, below_drewN r.bel 1⟩
theorem Rb.new (w : World) (h : H4) : Rb w (w.alloc (.cells h.cells 52)) h := ⟨Blk.new _ _ _, (Below.refl _ _).alloc (Nat.le_refl _) _⟩
theorem Rb.keep {w W W' : World} {h : H4} (hb : Below W.heap.size W W')
    (r : W.cell? ⟨w.heap.size, 0, none⟩ = some (.int .i64 h.tos) ∧ W.cell? ⟨w.heap.size, 1, none⟩ = some (.int .i64 h.id) ∧ W.cell? ⟨w.heap.size, 2, none⟩ = some (.int .i64 h.off) ∧ W.cell? ⟨w.heap.size, 3, none⟩ = some (.int .i64 h.ttl) ∧ W.cell? ⟨w.heap.size, 4, none⟩ = some (.int .i64 h.proto) ∧ W.cell? ⟨w.heap.size, 5, none⟩ = some (.bool h.df) ∧ W.cell? ⟨w.heap.size, 6, none⟩ = some (.bool h.mf) ∧ W.cell? ⟨w.heap.size, 7, none⟩ = some (.string h.src) ∧ W.cell? ⟨w.heap.size, 8, none⟩ = some (.string h.dst) ∧ W.cell? ⟨w.heap.size, 9, none⟩ = some (.string h.opt) ∧ Hid (Rb w W h)) :
    W'.cell? ⟨w.heap.size, 0, none⟩ = some (.int .i64 h.tos) ∧ W'.cell? ⟨w.heap.size, 1, none⟩ = some (.int .i64 h.id) ∧ W'.cell? ⟨w.heap.size, 2, none⟩ = some (.int .i64 h.off) ∧ W'.cell? ⟨w.heap.size, 3, none⟩ = some (.int .i64 h.ttl) ∧ W'.cell? ⟨w.heap.size, 4, none⟩ = some (.int .i64 h.proto) ∧ W'.cell? ⟨w.heap.size, 5, none⟩ = some (.bool h.df) ∧ W'.cell? ⟨w.heap.size, 6, none⟩ = some (.bool h.mf) ∧ W'.cell? ⟨w.heap.size, 7, none⟩ = some (.string h.src) ∧ W'.cell? ⟨w.heap.size, 8, none⟩ = some (.string h.dst) ∧ W'.cell? ⟨w.heap.size, 9, none⟩ = some (.string h.opt) ∧ Hid (Rb w W' h) := by
  have r2 := r.2.2.2.2.2.2.2.2.2.2.out.below hb
  have c := Hc.of r2.b
  exact ⟨c.c0, c.c1, c.c2, c.c3, c.c4, c.c5, c.c6, c.c7, c.c8, c.c9, Lib.hid r2⟩

set_option maxRecDepth 100000 in
set_option maxHeartbeats 1000000 in
theorem rbuild4_any (h : H4) (s : ByteArray) (w : World) (hs : h.src.size ≤ 100000) (hd : h.dst.size ≤ 100000) (hz : s.size ≤ 600000) (hX : (seal9 h.proto h.src h.dst s).size ≤ 600000) :
    Calls Try.prog 21 #[.agg h.cells, .string s] w fun e w' => e = .returned (.tuple #[.string (putS h (seal9 h.proto h.src h.dst s)), .int .i64 (putE h (seal9 h.proto h.src h.dst s) : Nat)]) ∧ Below w.heap.size w w' := by
  have S1 := Lib.hid (Rb.new w h)
  have HSE := Lib.hid (fun W => refseal_any h.proto h.src h.dst s W hs hd hz)
  have HPT := Lib.hid (fun W => refput_any h (seal9 h.proto h.src h.dst s) W (by omega))
  generalize seal9 h.proto h.src h.dst s = X at *
  generalize putS h X = PS at *
  generalize putE h X = PE at *
  have ⟨c0, c1, c2, c3, c4, c5, c6, c7, c8, c9⟩ := Hc.of S1.out.drew.b
  clear hs hd hz hX
  unfold H4.cells at HPT S1 c0 c1 c2 c3 c4 c5 c6 c7 c8 c9 ⊢
  go_enter Try.func21, Try.ntmps21
  go_upto_region 1 with (fail)
  generalize w.alloc (.cells #[.int .i64 h.tos, .int .i64 h.id, .int .i64 h.off, .int .i64 h.ttl, .int .i64 h.proto, .bool h.df, .bool h.mf, .string h.src, .string h.dst, .string h.opt] 52) = u0 at *
  go_region_held3 (fun W => W.cell? ⟨w.heap.size, 0, none⟩ = some (.int .i64 h.tos) ∧ W.cell? ⟨w.heap.size, 1, none⟩ = some (.int .i64 h.id) ∧ W.cell? ⟨w.heap.size, 2, none⟩ = some (.int .i64 h.off) ∧ W.cell? ⟨w.heap.size, 3, none⟩ = some (.int .i64 h.ttl) ∧ W.cell? ⟨w.heap.size, 4, none⟩ = some (.int .i64 h.proto) ∧ W.cell? ⟨w.heap.size, 5, none⟩ = some (.bool h.df) ∧ W.cell? ⟨w.heap.size, 6, none⟩ = some (.bool h.mf) ∧ W.cell? ⟨w.heap.size, 7, none⟩ = some (.string h.src) ∧ W.cell? ⟨w.heap.size, 8, none⟩ = some (.string h.dst) ∧ W.cell? ⟨w.heap.size, 9, none⟩ = some (.string h.opt) ∧ Hid (Rb w W h))
    (first | exact ⟨c0, c1, c2, c3, c4, c5, c6, c7, c8, c9, Lib.hid S1.out.drew⟩ | exact Rb.keep (by assumption) (by assumption))
    (first
      | (go_at_call 18; ((with_reducible refine (HSE.out _).mono ?_); rintro e w' ⟨rfl, hb⟩))
      | (go_at_call 50; ((with_reducible refine (HPT.out _).mono ?_); rintro e w' ⟨rfl, hb⟩)))
  rename_i held
  have S3 := held.2.2.2.2.2.2.2.2.2.2
  clear held
  go_wp2_with fail
  go_ret2
  exact ⟨rfl, S3.out.bel⟩

/-- The example: its segment, its header and its packet. -/
def exS : S7 := ⟨0, 0, 0, 0, 2, 0, 0, ⟨#[2, 4, 5, 180]⟩, ⟨#[]⟩⟩
def exB : ByteArray := ⟨#[0, 0, 0, 0, 0, 0, 0, 0, 0, 0, 0, 0, 96, 2, 0, 0, 0, 0, 0, 0, 2, 4, 5, 180]⟩
def exH : H4 := ⟨0, 0, 0, 0, 6, false, false, ⟨#[97, 98, 99, 100]⟩, ⟨#[101, 102, 103, 104]⟩, ⟨#[]⟩⟩
def exX : ByteArray := ⟨#[0, 0, 0, 0, 0, 0, 0, 0, 0, 0, 0, 0, 96, 2, 0, 0, 6, 146, 0, 0, 2, 4, 5, 180]⟩
def exP : ByteArray := ⟨#[69, 0, 0, 44, 0, 0, 0, 0, 0, 6, 41, 56, 97, 98, 99, 100, 101, 102, 103, 104, 0, 0, 0, 0, 0, 0, 0, 0, 0, 0, 0, 0, 96, 2, 0, 0, 6, 146, 0, 0, 2, 4, 5, 180]⟩
theorem exB_is : put7S exS 0 = exB := by decide +kernel
theorem exB_e : put7E exS 0 = 0 := by decide +kernel
theorem exX_is : seal9 6 ⟨#[97, 98, 99, 100]⟩ ⟨#[101, 102, 103, 104]⟩ exB = exX := by decide +kernel
theorem exP_is : putS exH exX = exP := by decide +kernel
theorem exP_e : putE exH exX = 0 := by decide +kernel
theorem exP_pay : pay9 exP = exX := by decide +kernel
theorem exP_opt : (exX.extract 20 (off7 exX)).data.toList = [2, 4, 5, 180] := by decide +kernel
theorem exP_has : HasK exP 1460 2 := by
  have hr : rightL [2, 4, 5, 180] = true := by unfold rightL; rw [example7_o]; rfl
  have h7 : get7E exX = 0 := get7E_ok (by decide) (by decide +kernel) (by decide +kernel) (by rw [exP_opt]; exact hr)
  have hpr : (any9 exP).proto = 6 := by decide +kernel
  have hn : own9 6 exX = 1682 := by
    show get7N exX = _
    rw [(get7_ok h7).2]
    decide +kernel
  refine ⟨⟨by decide +kernel, by decide +kernel, by decide +kernel, by rw [hpr]; rfl, ?_, ?_⟩, hpr, ?_, ?_⟩
  · rw [hpr, exP_pay]; exact h7
  · rw [exP_pay, hpr, hn]; decide +kernel
  · rw [exP_pay]; decide +kernel
  · unfold mssOf; rw [exP_pay, exP_opt]; exact example7

set_option maxRecDepth 100000 in
set_option maxHeartbeats 1000000 in
theorem awakeK_any (w : World) : Calls Try.prog 8 #[] w (AwakeEnd w) := by
  have h1 := fun W => refput7_any exS 0 W ⟨by decide, by decide⟩ (by decide)
  rw [exB_is, exB_e] at h1
  have h2 := fun W => rbuild4_any exH exB W (by decide) (by decide) (by decide) (by show (seal9 6 ⟨#[97, 98, 99, 100]⟩ ⟨#[101, 102, 103, 104]⟩ exB).size ≤ _; rw [exX_is]; decide)
  have hx : seal9 exH.proto exH.src exH.dst exB = exX := exX_is
  rw [hx, exP_is, exP_e] at h2
  have h3 := fun W => clamp_any exP 1400 W (by decide)
  have h4 := fun W => mss_any' (clampK exP 1400) W (by rw [clampK_size _ _ (by omega)]; decide)
  have h5 := fun W => clamp_any exP 1500 W (by decide)
  have K := kept exP 1400 (by omega)
  rw [show nearK 1400 = 1400 from rfl] at h3
  rw [show nearK 1500 = 1500 from rfl, exP_has.clamp 1500, if_neg (by omega)] at h5
  rw [K.has, exP_has.has, K.mss exP_has.has, exP_has.tells, show min (1460 : Nat) 1400 = 1400 from rfl] at h4
  clear K
  unfold Tells at h3 h4 h5
  have H1 := Lib.hid h1
  have H2 := Lib.hid h2
  have H3 := Lib.hid h3
  have H4' := Lib.hid h4
  have H5 := Lib.hid h5
  clear h1 h2 h3 h4 h5 hx
  generalize clampK exP 1400 = Q at *
  generalize exP = P at *
  generalize exB = B at *
  unfold exS S7.cells at H1
  unfold exH H4.cells at H2
  simp only at H1 H2
  go_enter Try.func8, Try.ntmps8
  go_wp2_with fail
  refine (H1.out _).mono ?_
  rintro e w1 ⟨rfl, hb1⟩
  have HB1 := Lib.hid hb1
  clear hb1 H1
  go_wp2_with fail
  refine (H2.out _).mono ?_
  rintro e w2 ⟨rfl, hb2⟩
  have HB2 := Lib.hid (HB1.out.trans (hb2.mono HB1.out.size))
  clear hb2 H2 HB1
  go_wp2_with fail
  refine (H3.out _).mono ?_
  rintro e w3 ⟨rfl, hb3⟩
  have HB3 := Lib.hid (HB2.out.trans (hb3.mono HB2.out.size))
  clear hb3 H3 HB2
  go_wp2_with fail
  refine (H4'.out _).mono ?_
  rintro e w4 ⟨rfl, hb4⟩
  have HB4 := Lib.hid (HB3.out.trans (hb4.mono HB3.out.size))
  clear hb4 H4' HB3
  go_wp2_with fail
  refine (H5.out _).mono ?_
  rintro e w5 ⟨rfl, hb5⟩
  have HB5 := Lib.hid (HB4.out.trans (hb5.mono HB4.out.size))
  clear hb5 H5 HB4
  go_wp2_with fail
  go_ret
  exact ⟨rfl, HB5.out⟩

end Go.Proofs.Ytppobficnjpdiaa
