/-
  Build4, Build6: packets, whose payloads are sealed; by the code and by the document.
-/
import Derived.Test.YtimcjhekldnipaaDoorFlowRefSeal
import Derived.Test.YtimcjhekldnipaaDoorIp4W
import Derived.Test.YtimcjhekldnipaaDoorIp6Put
import Derived.Test.YtimcjhekldnipaaDoorIp4B
import Derived.Test.YtimcjhekldnipaaDoorIp6B
import Derived.Deep.RegionHeld3
namespace Go.Proofs.YtimcjhekldnipaaDoor
open Go.RowKit
set_option linter.unusedVariables false

theorem seal9_size (proto : Int) (src dst s : ByteArray) : (seal9 proto src dst s).size = s.size := by
  unfold seal9
  by_cases h : pl9 proto s.size = 0
  · rw [if_pos h]
  · rw [if_neg h]; exact with9_size _ _ _ (pl9_long h)

/-- A header's block, and the program's places. -/
structure Pl4 (w W : World) (h : H4) : Prop where
  b : Blk W w.heap.size h.cells 23
  bel : Below w.heap.size w W
  pl : Places W
theorem Pl4.below {w W W' : World} {h : H4} (r : Pl4 w W h) (hb : Below W.heap.size W W') : Pl4 w W' h :=
  ⟨(hb.block _ r.b.lt).trans r.b, r.bel.trans (hb.mono r.bel.size), r.pl.below hb r.pl.lt⟩
theorem Pl4.drew {w W : World} {h : H4} (r : Pl4 w W h) : Pl4 w W.drew h := ⟨r.b.drew, below_drewN r.bel 1, ⟨r.pl.at0⟩⟩
theorem Pl4.new (w : World) (h : H4) (hg : Places w) : Pl4 w (w.alloc (.cells h.cells 23)) h :=
  ⟨Blk.new _ _ _, (Below.refl _ _).alloc (Nat.le_refl _) _, hg.below ((Below.refl w.heap.size w).alloc (Nat.le_refl _) _) hg.lt⟩
theorem Pl4.keep {w W W' : World} {h : H4} (hb : Below W.heap.size W W')
    (r : W.cell? ⟨w.heap.size, 0, none⟩ = some (.int .i64 h.tos) ∧ W.cell? ⟨w.heap.size, 1, none⟩ = some (.int .i64 h.id) ∧ W.cell? ⟨w.heap.size, 2, none⟩ = some (.int .i64 h.off) ∧ W.cell? ⟨w.heap.size, 3, none⟩ = some (.int .i64 h.ttl) ∧ W.cell? ⟨w.heap.size, 4, none⟩ = some (.int .i64 h.proto) ∧ W.cell? ⟨w.heap.size, 5, none⟩ = some (.bool h.df) ∧ W.cell? ⟨w.heap.size, 6, none⟩ = some (.bool h.mf) ∧ W.cell? ⟨w.heap.size, 7, none⟩ = some (.string h.src) ∧ W.cell? ⟨w.heap.size, 8, none⟩ = some (.string h.dst) ∧ W.cell? ⟨w.heap.size, 9, none⟩ = some (.string h.opt) ∧ Hid (Pl4 w W h)) :
    W'.cell? ⟨w.heap.size, 0, none⟩ = some (.int .i64 h.tos) ∧ W'.cell? ⟨w.heap.size, 1, none⟩ = some (.int .i64 h.id) ∧ W'.cell? ⟨w.heap.size, 2, none⟩ = some (.int .i64 h.off) ∧ W'.cell? ⟨w.heap.size, 3, none⟩ = some (.int .i64 h.ttl) ∧ W'.cell? ⟨w.heap.size, 4, none⟩ = some (.int .i64 h.proto) ∧ W'.cell? ⟨w.heap.size, 5, none⟩ = some (.bool h.df) ∧ W'.cell? ⟨w.heap.size, 6, none⟩ = some (.bool h.mf) ∧ W'.cell? ⟨w.heap.size, 7, none⟩ = some (.string h.src) ∧ W'.cell? ⟨w.heap.size, 8, none⟩ = some (.string h.dst) ∧ W'.cell? ⟨w.heap.size, 9, none⟩ = some (.string h.opt) ∧ Hid (Pl4 w W' h) := by
  have r2 := r.2.2.2.2.2.2.2.2.2.2.out.below hb
  have c := Hc.of r2.b
  exact ⟨c.c0, c.c1, c.c2, c.c3, c.c4, c.c5, c.c6, c.c7, c.c8, c.c9, Lib.hid r2⟩
theorem Pl4.of {w W : World} {h : H4} (r : W.cell? ⟨w.heap.size, 0, none⟩ = some (.int .i64 h.tos) ∧ W.cell? ⟨w.heap.size, 1, none⟩ = some (.int .i64 h.id) ∧ W.cell? ⟨w.heap.size, 2, none⟩ = some (.int .i64 h.off) ∧ W.cell? ⟨w.heap.size, 3, none⟩ = some (.int .i64 h.ttl) ∧ W.cell? ⟨w.heap.size, 4, none⟩ = some (.int .i64 h.proto) ∧ W.cell? ⟨w.heap.size, 5, none⟩ = some (.bool h.df) ∧ W.cell? ⟨w.heap.size, 6, none⟩ = some (.bool h.mf) ∧ W.cell? ⟨w.heap.size, 7, none⟩ = some (.string h.src) ∧ W.cell? ⟨w.heap.size, 8, none⟩ = some (.string h.dst) ∧ W.cell? ⟨w.heap.size, 9, none⟩ = some (.string h.opt) ∧ Hid (Pl4 w W h)) : Places W := r.2.2.2.2.2.2.2.2.2.2.out.pl

set_option maxRecDepth 100000 in
set_option maxHeartbeats 1000000 in
theorem build4_any (h : H4) (s : ByteArray) (w : World) (hg : Places w) (hs : h.src.size ≤ 100000) (hd : h.dst.size ≤ 100000) (hz : s.size ≤ 600000) :
    Calls Tryd.prog 8 #[.agg h.cells, .string s] w fun e w' => e = .returned (.tuple #[.string (putS h (seal9 h.proto h.src h.dst s)), .int .i64 (putE h (seal9 h.proto h.src h.dst s) : Nat)]) ∧ Below w.heap.size w w' := by
  have S1 := Lib.hid (Pl4.new w h hg)
  have HSE := Lib.hid (fun W (hp : Places W) => seal_any h.proto h.src h.dst s W hp hs hd (by omega))
  have HPT := Lib.hid (fun W => put_any h (seal9 h.proto h.src h.dst s) W (by rw [seal9_size]; omega))
  unfold PutEnd at HPT
  generalize seal9 h.proto h.src h.dst s = X at *
  generalize putS h X = PS at *
  generalize putE h X = PE at *
  have ⟨c0, c1, c2, c3, c4, c5, c6, c7, c8, c9⟩ := Hc.of S1.out.drew.b
  clear hg hs hd hz
  unfold H4.cells at HPT S1 c0 c1 c2 c3 c4 c5 c6 c7 c8 c9 ⊢
  go_enter Tryd.func8, Tryd.ntmps8
  go_upto_region 1 with (fail)
  generalize w.alloc (.cells #[.int .i64 h.tos, .int .i64 h.id, .int .i64 h.off, .int .i64 h.ttl, .int .i64 h.proto, .bool h.df, .bool h.mf, .string h.src, .string h.dst, .string h.opt] 23) = u0 at *
  go_region_held3 (fun W => W.cell? ⟨w.heap.size, 0, none⟩ = some (.int .i64 h.tos) ∧ W.cell? ⟨w.heap.size, 1, none⟩ = some (.int .i64 h.id) ∧ W.cell? ⟨w.heap.size, 2, none⟩ = some (.int .i64 h.off) ∧ W.cell? ⟨w.heap.size, 3, none⟩ = some (.int .i64 h.ttl) ∧ W.cell? ⟨w.heap.size, 4, none⟩ = some (.int .i64 h.proto) ∧ W.cell? ⟨w.heap.size, 5, none⟩ = some (.bool h.df) ∧ W.cell? ⟨w.heap.size, 6, none⟩ = some (.bool h.mf) ∧ W.cell? ⟨w.heap.size, 7, none⟩ = some (.string h.src) ∧ W.cell? ⟨w.heap.size, 8, none⟩ = some (.string h.dst) ∧ W.cell? ⟨w.heap.size, 9, none⟩ = some (.string h.opt) ∧ Hid (Pl4 w W h))
    (first | exact ⟨c0, c1, c2, c3, c4, c5, c6, c7, c8, c9, Lib.hid S1.out.drew⟩ | exact Pl4.keep (by assumption) (by assumption))
    (first
      | (go_at_call 12; ((with_reducible refine (HSE.out _ (Pl4.of (by assumption))).mono ?_); rintro e w' ⟨rfl, hb⟩))
      | (go_at_call 20; ((with_reducible refine (HPT.out _).mono ?_); rintro e w' ⟨rfl, hb⟩)))
  rename_i held
  have S3 := held.2.2.2.2.2.2.2.2.2.2
  clear held
  go_wp2_with fail
  go_ret2
  exact ⟨rfl, S3.out.bel⟩

set_option maxRecDepth 100000 in
set_option maxHeartbeats 1000000 in
theorem refbuild4_any (h : H4) (s : ByteArray) (w : World) (hg : Places w) (hs : h.src.size ≤ 100000) (hd : h.dst.size ≤ 100000) (hz : s.size ≤ 600000) :
    Calls Tryd.prog 9 #[.agg h.cells, .string s] w fun e w' => e = .returned (.tuple #[.string (putS h (seal9 h.proto h.src h.dst s)), .int .i64 (putE h (seal9 h.proto h.src h.dst s) : Nat)]) ∧ Below w.heap.size w w' := by
  have S1 := Lib.hid (Pl4.new w h hg)
  have HSE := Lib.hid (fun W (hp : Places W) => refseal_any h.proto h.src h.dst s W hs hd hz)
  have HPT := Lib.hid (fun W => refput_any h (seal9 h.proto h.src h.dst s) W (by rw [seal9_size]; omega))
  generalize seal9 h.proto h.src h.dst s = X at *
  generalize putS h X = PS at *
  generalize putE h X = PE at *
  have ⟨c0, c1, c2, c3, c4, c5, c6, c7, c8, c9⟩ := Hc.of S1.out.drew.b
  clear hg hs hd hz
  unfold H4.cells at HPT S1 c0 c1 c2 c3 c4 c5 c6 c7 c8 c9 ⊢
  go_enter Tryd.func9, Tryd.ntmps9
  go_upto_region 1 with (fail)
  generalize w.alloc (.cells #[.int .i64 h.tos, .int .i64 h.id, .int .i64 h.off, .int .i64 h.ttl, .int .i64 h.proto, .bool h.df, .bool h.mf, .string h.src, .string h.dst, .string h.opt] 23) = u0 at *
  go_region_held3 (fun W => W.cell? ⟨w.heap.size, 0, none⟩ = some (.int .i64 h.tos) ∧ W.cell? ⟨w.heap.size, 1, none⟩ = some (.int .i64 h.id) ∧ W.cell? ⟨w.heap.size, 2, none⟩ = some (.int .i64 h.off) ∧ W.cell? ⟨w.heap.size, 3, none⟩ = some (.int .i64 h.ttl) ∧ W.cell? ⟨w.heap.size, 4, none⟩ = some (.int .i64 h.proto) ∧ W.cell? ⟨w.heap.size, 5, none⟩ = some (.bool h.df) ∧ W.cell? ⟨w.heap.size, 6, none⟩ = some (.bool h.mf) ∧ W.cell? ⟨w.heap.size, 7, none⟩ = some (.string h.src) ∧ W.cell? ⟨w.heap.size, 8, none⟩ = some (.string h.dst) ∧ W.cell? ⟨w.heap.size, 9, none⟩ = some (.string h.opt) ∧ Hid (Pl4 w W h))
    (first | exact ⟨c0, c1, c2, c3, c4, c5, c6, c7, c8, c9, Lib.hid S1.out.drew⟩ | exact Pl4.keep (by assumption) (by assumption))
    (first
      | (go_at_call 13; ((with_reducible refine (HSE.out _ (Pl4.of (by assumption))).mono ?_); rintro e w' ⟨rfl, hb⟩))
      | (go_at_call 18; ((with_reducible refine (HPT.out _).mono ?_); rintro e w' ⟨rfl, hb⟩)))
  rename_i held
  have S3 := held.2.2.2.2.2.2.2.2.2.2
  clear held
  go_wp2_with fail
  go_ret2
  exact ⟨rfl, S3.out.bel⟩

/-- A header's block, and the program's places. -/
structure Pl6 (w W : World) (h : H6) : Prop where
  b : Blk W w.heap.size h.cells 25
  bel : Below w.heap.size w W
  pl : Places W
theorem Pl6.below {w W W' : World} {h : H6} (r : Pl6 w W h) (hb : Below W.heap.size W W') : Pl6 w W' h :=
  ⟨(hb.block _ r.b.lt).trans r.b, r.bel.trans (hb.mono r.bel.size), r.pl.below hb r.pl.lt⟩
theorem Pl6.drew {w W : World} {h : H6} (r : Pl6 w W h) : Pl6 w W.drew h := ⟨r.b.drew, below_drewN r.bel 1, ⟨r.pl.at0⟩⟩
theorem Pl6.new (w : World) (h : H6) (hg : Places w) : Pl6 w (w.alloc (.cells h.cells 25)) h :=
  ⟨Blk.new _ _ _, (Below.refl _ _).alloc (Nat.le_refl _) _, hg.below ((Below.refl w.heap.size w).alloc (Nat.le_refl _) _) hg.lt⟩
theorem Pl6.keep {w W W' : World} {h : H6} (hb : Below W.heap.size W W')
    (r : W.cell? ⟨w.heap.size, 0, none⟩ = some (.int .i64 h.cls) ∧ W.cell? ⟨w.heap.size, 1, none⟩ = some (.int .i64 h.lab) ∧ W.cell? ⟨w.heap.size, 2, none⟩ = some (.int .i64 h.nxt) ∧ W.cell? ⟨w.heap.size, 3, none⟩ = some (.int .i64 h.hops) ∧ W.cell? ⟨w.heap.size, 4, none⟩ = some (.string h.src) ∧ W.cell? ⟨w.heap.size, 5, none⟩ = some (.string h.dst) ∧ Hid (Pl6 w W h)) :
    W'.cell? ⟨w.heap.size, 0, none⟩ = some (.int .i64 h.cls) ∧ W'.cell? ⟨w.heap.size, 1, none⟩ = some (.int .i64 h.lab) ∧ W'.cell? ⟨w.heap.size, 2, none⟩ = some (.int .i64 h.nxt) ∧ W'.cell? ⟨w.heap.size, 3, none⟩ = some (.int .i64 h.hops) ∧ W'.cell? ⟨w.heap.size, 4, none⟩ = some (.string h.src) ∧ W'.cell? ⟨w.heap.size, 5, none⟩ = some (.string h.dst) ∧ Hid (Pl6 w W' h) := by
  have r2 := r.2.2.2.2.2.2.out.below hb
  have c := Hc6.of r2.b
  exact ⟨c.c0, c.c1, c.c2, c.c3, c.c4, c.c5, Lib.hid r2⟩
theorem Pl6.of {w W : World} {h : H6} (r : W.cell? ⟨w.heap.size, 0, none⟩ = some (.int .i64 h.cls) ∧ W.cell? ⟨w.heap.size, 1, none⟩ = some (.int .i64 h.lab) ∧ W.cell? ⟨w.heap.size, 2, none⟩ = some (.int .i64 h.nxt) ∧ W.cell? ⟨w.heap.size, 3, none⟩ = some (.int .i64 h.hops) ∧ W.cell? ⟨w.heap.size, 4, none⟩ = some (.string h.src) ∧ W.cell? ⟨w.heap.size, 5, none⟩ = some (.string h.dst) ∧ Hid (Pl6 w W h)) : Places W := r.2.2.2.2.2.2.out.pl

set_option maxRecDepth 100000 in
set_option maxHeartbeats 1000000 in
theorem build6_any (h : H6) (s : ByteArray) (w : World) (hg : Places w) (hs : h.src.size ≤ 100000) (hd : h.dst.size ≤ 100000) (hz : s.size ≤ 600000) :
    Calls Tryd.prog 10 #[.agg h.cells, .string s] w fun e w' => e = .returned (.tuple #[.string (put6S h (seal9 h.nxt h.src h.dst s)), .int .i64 (put6E h (seal9 h.nxt h.src h.dst s) : Nat)]) ∧ Below w.heap.size w w' := by
  have S1 := Lib.hid (Pl6.new w h hg)
  have HSE := Lib.hid (fun W (hp : Places W) => seal_any h.nxt h.src h.dst s W hp hs hd (by omega))
  have HPT := Lib.hid (fun W => put6_any h (seal9 h.nxt h.src h.dst s) W)
  unfold Put6End at HPT
  generalize seal9 h.nxt h.src h.dst s = X at *
  generalize put6S h X = PS at *
  generalize put6E h X = PE at *
  have ⟨c0, c1, c2, c3, c4, c5⟩ := Hc6.of S1.out.drew.b
  clear hg hs hd hz
  unfold H6.cells at HPT S1 c0 c1 c2 c3 c4 c5 ⊢
  go_enter Tryd.func10, Tryd.ntmps10
  go_upto_region 1 with (fail)
  generalize w.alloc (.cells #[.int .i64 h.cls, .int .i64 h.lab, .int .i64 h.nxt, .int .i64 h.hops, .string h.src, .string h.dst] 25) = u0 at *
  go_region_held3 (fun W => W.cell? ⟨w.heap.size, 0, none⟩ = some (.int .i64 h.cls) ∧ W.cell? ⟨w.heap.size, 1, none⟩ = some (.int .i64 h.lab) ∧ W.cell? ⟨w.heap.size, 2, none⟩ = some (.int .i64 h.nxt) ∧ W.cell? ⟨w.heap.size, 3, none⟩ = some (.int .i64 h.hops) ∧ W.cell? ⟨w.heap.size, 4, none⟩ = some (.string h.src) ∧ W.cell? ⟨w.heap.size, 5, none⟩ = some (.string h.dst) ∧ Hid (Pl6 w W h))
    (first | exact ⟨c0, c1, c2, c3, c4, c5, Lib.hid S1.out.drew⟩ | exact Pl6.keep (by assumption) (by assumption))
    (first
      | (go_at_call 12; ((with_reducible refine (HSE.out _ (Pl6.of (by assumption))).mono ?_); rintro e w' ⟨rfl, hb⟩))
      | (go_at_call 21; ((with_reducible refine (HPT.out _).mono ?_); rintro e w' ⟨rfl, hb⟩)))
  rename_i held
  have S3 := held.2.2.2.2.2.2
  clear held
  go_wp2_with fail
  go_ret2
  exact ⟨rfl, S3.out.bel⟩

set_option maxRecDepth 100000 in
set_option maxHeartbeats 1000000 in
theorem refbuild6_any (h : H6) (s : ByteArray) (w : World) (hg : Places w) (hs : h.src.size ≤ 100000) (hd : h.dst.size ≤ 100000) (hz : s.size ≤ 600000) :
    Calls Tryd.prog 11 #[.agg h.cells, .string s] w fun e w' => e = .returned (.tuple #[.string (put6S h (seal9 h.nxt h.src h.dst s)), .int .i64 (put6E h (seal9 h.nxt h.src h.dst s) : Nat)]) ∧ Below w.heap.size w w' := by
  have S1 := Lib.hid (Pl6.new w h hg)
  have HSE := Lib.hid (fun W (hp : Places W) => refseal_any h.nxt h.src h.dst s W hs hd hz)
  have HPT := Lib.hid (fun W => refput6_any h (seal9 h.nxt h.src h.dst s) W)
  generalize seal9 h.nxt h.src h.dst s = X at *
  generalize put6S h X = PS at *
  generalize put6E h X = PE at *
  have ⟨c0, c1, c2, c3, c4, c5⟩ := Hc6.of S1.out.drew.b
  clear hg hs hd hz
  unfold H6.cells at HPT S1 c0 c1 c2 c3 c4 c5 ⊢
  go_enter Tryd.func11, Tryd.ntmps11
  go_upto_region 1 with (fail)
  generalize w.alloc (.cells #[.int .i64 h.cls, .int .i64 h.lab, .int .i64 h.nxt, .int .i64 h.hops, .string h.src, .string h.dst] 25) = u0 at *
  go_region_held3 (fun W => W.cell? ⟨w.heap.size, 0, none⟩ = some (.int .i64 h.cls) ∧ W.cell? ⟨w.heap.size, 1, none⟩ = some (.int .i64 h.lab) ∧ W.cell? ⟨w.heap.size, 2, none⟩ = some (.int .i64 h.nxt) ∧ W.cell? ⟨w.heap.size, 3, none⟩ = some (.int .i64 h.hops) ∧ W.cell? ⟨w.heap.size, 4, none⟩ = some (.string h.src) ∧ W.cell? ⟨w.heap.size, 5, none⟩ = some (.string h.dst) ∧ Hid (Pl6 w W h))
    (first | exact ⟨c0, c1, c2, c3, c4, c5, Lib.hid S1.out.drew⟩ | exact Pl6.keep (by assumption) (by assumption))
    (first
      | (go_at_call 13; ((with_reducible refine (HSE.out _ (Pl6.of (by assumption))).mono ?_); rintro e w' ⟨rfl, hb⟩))
      | (go_at_call 19; ((with_reducible refine (HPT.out _).mono ?_); rintro e w' ⟨rfl, hb⟩)))
  rename_i held
  have S3 := held.2.2.2.2.2.2
  clear held
  go_wp2_with fail
  go_ret2
  exact ⟨rfl, S3.out.bel⟩

end Go.Proofs.YtimcjhekldnipaaDoor
