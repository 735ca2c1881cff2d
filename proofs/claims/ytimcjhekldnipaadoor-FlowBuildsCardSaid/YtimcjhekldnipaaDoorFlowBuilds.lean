/-
  FlowBuilds returns true at every input.
-/
import Derived.Test.YtimcjhekldnipaaDoorFlowTwo
import Derived.Deep.RegionHeld3
namespace Go.Proofs.YtimcjhekldnipaaDoor
open Go.RowKit
set_option linter.unusedVariables false

theorem Two9.keep {w W W' : World} {h : H4} {k : H6} (hb : Below W.heap.size W W') (r : W.cell? ⟨w.heap.size, 7, none⟩ = some (.string h.src) ∧ W.cell? ⟨w.heap.size, 8, none⟩ = some (.string h.dst) ∧ Hid (Two9 w W h k)) : W'.cell? ⟨w.heap.size, 7, none⟩ = some (.string h.src) ∧ W'.cell? ⟨w.heap.size, 8, none⟩ = some (.string h.dst) ∧ Hid (Two9 w W' h k) := by
  have r2 := r.2.2.out.below hb
  have c := Hc.of r2.b4
  exact ⟨c.c7, c.c8, Lib.hid r2⟩
theorem Two9.of {w W : World} {h : H4} {k : H6} (r : W.cell? ⟨w.heap.size, 7, none⟩ = some (.string h.src) ∧ W.cell? ⟨w.heap.size, 8, none⟩ = some (.string h.dst) ∧ Hid (Two9 w W h k)) : Places W := r.2.2.out.pl
theorem str_same9 (s : ByteArray) : (s.toList == s.toList) = true := by simp

set_option maxRecDepth 100000 in
set_option maxHeartbeats 2000000 in
theorem builds9_any (h : H4) (k : H6) (proto : Int) (s : ByteArray) (w : World) (hg : Places w) (hp : s.size ≤ 140737488355328) :
    Calls Tryd.prog 3 #[.agg h.cells, .agg k.cells, .int .i64 proto, .string s] w (AwakeEnd w) := by
  have HA := Lib.hid (awake9_any ((w.alloc (.cells h.cells 23)).alloc (.cells k.cells 25)))
  have HF := Lib.hid (fun a b c W => few9_any a b c W)
  have S1 := Lib.hid (Two9.new w h k hg)
  have FI := Lib.hid (fun a b c => (few9_iff a b c).1)
  clear hg
  unfold H4.cells H6.cells at HA S1 ⊢
  go_enter Tryd.func3, Tryd.ntmps3
  go_wp2_with fail
  generalize (w.alloc (.cells #[.int .i64 h.tos, .int .i64 h.id, .int .i64 h.off, .int .i64 h.ttl, .int .i64 h.proto, .bool h.df, .bool h.mf, .string h.src, .string h.dst, .string h.opt] 23)).alloc (.cells #[.int .i64 k.cls, .int .i64 k.lab, .int .i64 k.nxt, .int .i64 k.hops, .string k.src, .string k.dst] 25) = u0 at *
  refine HA.out.mono ?_
  rintro e w1 ⟨rfl, hb1⟩
  have S2 := Lib.hid (S1.out.below hb1)
  clear hb1 S1 HA
  have ⟨c0, c1, c2, c3, c4, c5, c6, c7, c8, c9⟩ := Hc.of S2.out.b4
  have ⟨d0, d1, d2, d3, d4, d5⟩ := Hc6.of S2.out.b6
  have l4 := S2.out.b4.lt
  have l6 := S2.out.b6.lt
  go_wp2_with fail
  refine (HF.out _ _ _ _).mono ?_
  rintro e w' ⟨rfl, hb⟩
  have S3 := Lib.hid (S2.out.below hb)
  clear c0 c1 c2 c3 c4 c5 c6 c7 c8 c9 d0 d1 d2 d3 d4 d5 l4 l6 hb S2
  cases f1 : few9 h.src h.dst h.opt with
  | false =>
    go_wp2_with fail
    go_ret
    exact ⟨rfl, S3.out.bel⟩
  | true =>
  have ⟨c0, c1, c2, c3, c4, c5, c6, c7, c8, c9⟩ := Hc.of S3.out.b4
  have ⟨d0, d1, d2, d3, d4, d5⟩ := Hc6.of S3.out.b6
  have l4 := S3.out.b4.lt
  have l6 := S3.out.b6.lt
  go_wp2_with fail
  refine (HF.out _ _ _ _).mono ?_
  rintro e w' ⟨rfl, hb⟩
  have S4 := Lib.hid (S3.out.below hb)
  clear c0 c1 c2 c3 c4 c5 c6 c7 c8 c9 d0 d1 d2 d3 d4 d5 l4 l6 hb S3
  cases f2 : few9 k.src k.dst ⟨#[]⟩ with
  | false =>
    go_wp2_with fail
    go_ret
    exact ⟨rfl, S4.out.bel⟩
  | true =>
  by_cases h7 : s.size ≤ 70000
  case neg =>
    have t7 : decide ((70000 : Int) < (s.size : Int)) = true := by simp; omega
    clear h7
    go_wp2_with fail
    go_ret
    exact ⟨rfl, S4.out.bel⟩
  have t7 : decide ((70000 : Int) < (s.size : Int)) = false := by simp; omega
  have z4 := FI.out _ _ _ f1
  have z6 := FI.out _ _ _ f2
  have A1 := Lib.hid (fun W (hp : Places W) => build4_any h s W hp (by omega) (by omega) (by omega))
  have A2 := Lib.hid (fun W (hp : Places W) => refbuild4_any h s W hp (by omega) (by omega) (by omega))
  have A3 := Lib.hid (fun W (hp : Places W) => build6_any k s W hp (by omega) (by omega) (by omega))
  have A4 := Lib.hid (fun W (hp : Places W) => refbuild6_any k s W hp (by omega) (by omega) (by omega))
  have A5 := Lib.hid (fun W (hp : Places W) => seal_any proto h.src h.dst s W hp (by omega) (by omega) (by omega))
  have A6 := Lib.hid (fun W => refseal_any proto h.src h.dst s W (by omega) (by omega) (by omega))
  generalize seal9 proto h.src h.dst s = X at *
  generalize putS h (seal9 h.proto h.src h.dst s) = P4 at *
  generalize putE h (seal9 h.proto h.src h.dst s) = E4 at *
  generalize put6S k (seal9 k.nxt k.src k.dst s) = P6 at *
  generalize put6E k (seal9 k.nxt k.src k.dst s) = E6 at *
  clear z4 z6 f1 f2 h7 FI HF
  unfold H4.cells at A1 A2
  unfold H6.cells at A3 A4
  have ⟨c0, c1, c2, c3, c4, c5, c6, c7, c8, c9⟩ := Hc.of S4.out.b4
  have ⟨d0, d1, d2, d3, d4, d5⟩ := Hc6.of S4.out.b6
  have l4 := S4.out.b4.lt
  have l6 := S4.out.b6.lt
  go_wp2_with fail
  refine (A1.out _ S4.out.pl).mono ?_
  rintro e w' ⟨rfl, hb⟩
  have S5 := Lib.hid (S4.out.below hb)
  clear c0 c1 c2 c3 c4 c5 c6 c7 c8 c9 d0 d1 d2 d3 d4 d5 l4 l6 hb S4 A1 t7
  have ⟨c0, c1, c2, c3, c4, c5, c6, c7, c8, c9⟩ := Hc.of S5.out.b4
  have ⟨d0, d1, d2, d3, d4, d5⟩ := Hc6.of S5.out.b6
  have l4 := S5.out.b4.lt
  have l6 := S5.out.b6.lt
  go_wp2_with fail
  refine (A2.out _ S5.out.pl).mono ?_
  rintro e w' ⟨rfl, hb⟩
  have S6 := Lib.hid (S5.out.below hb)
  clear c0 c1 c2 c3 c4 c5 c6 c7 c8 c9 d0 d1 d2 d3 d4 d5 l4 l6 hb S5 A2
  have ⟨c0, c1, c2, c3, c4, c5, c6, c7, c8, c9⟩ := Hc.of S6.out.b4
  have ⟨d0, d1, d2, d3, d4, d5⟩ := Hc6.of S6.out.b6
  have l4 := S6.out.b4.lt
  have l6 := S6.out.b6.lt
  go_wp2_with fail
  refine (A3.out _ S6.out.pl).mono ?_
  rintro e w' ⟨rfl, hb⟩
  have S7 := Lib.hid (S6.out.below hb)
  clear c0 c1 c2 c3 c4 c5 c6 c7 c8 c9 d0 d1 d2 d3 d4 d5 l4 l6 hb S6 A3
  have ⟨c0, c1, c2, c3, c4, c5, c6, c7, c8, c9⟩ := Hc.of S7.out.b4
  have ⟨d0, d1, d2, d3, d4, d5⟩ := Hc6.of S7.out.b6
  have l4 := S7.out.b4.lt
  have l6 := S7.out.b6.lt
  go_wp2_with fail
  refine (A4.out _ S7.out.pl).mono ?_
  rintro e w' ⟨rfl, hb⟩
  have S8 := Lib.hid (S7.out.below hb)
  clear c0 c1 c2 c3 c4 c5 c6 c7 c8 c9 d0 d1 d2 d3 d4 d5 l4 l6 hb S7 A4
  have ⟨c0, c1, c2, c3, c4, c5, c6, c7, c8, c9⟩ := Hc.of S8.out.drew.b4
  clear c0 c1 c2 c3 c4 c5 c6 c9
  have l4 := S8.out.b4.lt
  have ts4 := str_same9 P4
  have ts6 := str_same9 P6
  have tsX := str_same9 X
  have te4 : ((E4 : Int) == (E4 : Int)) = true := by simp
  have te6 : ((E6 : Int) == (E6 : Int)) = true := by simp
  go_upto_region 9 with (fail)
  go_region_held3 (fun W => W.cell? ⟨w.heap.size, 7, none⟩ = some (.string h.src) ∧ W.cell? ⟨w.heap.size, 8, none⟩ = some (.string h.dst) ∧ Hid (Two9 w W h k))
    (first | exact ⟨c7, c8, Lib.hid S8.out.drew⟩ | exact Two9.keep (by assumption) (by assumption))
    (first
      | (go_at_call 12; ((with_reducible refine (A5.out _ (Two9.of (by assumption))).mono ?_); rintro e w' ⟨rfl, hb⟩))
      | (go_at_call 13; ((with_reducible refine (A6.out _).mono ?_); rintro e w' ⟨rfl, hb⟩)))
  rename_i held
  have S9 := held.2.2
  clear held
  go_wp2_with fail
  go_ret
  exact ⟨rfl, S9.out.bel⟩

end Go.Proofs.YtimcjhekldnipaaDoor
