/-
  FlowGets returns true at every input.
-/
import Derived.Test.YtimcjhekldnipaaFlowAwake
import Derived.Test.YtimcjhekldnipaaFlowRefGet
namespace Go.Proofs.Ytimcjhekldnipaa
open Go.RowKit
set_option linter.unusedVariables false

set_option maxRecDepth 100000 in
set_option maxHeartbeats 1000000 in
theorem gets9_any (p : ByteArray) (w : World) (hp : p.size ≤ 140737488355328) :
    Calls Try.prog 3 #[.string p] w (AwakeEnd w) := by
  have HA := Lib.hid (awake9_any w)
  by_cases h7 : p.size ≤ 70000
  case neg =>
    have t7 : decide ((70000 : Int) < (p.size : Int)) = true := by simp; omega
    go_enter Try.func3, Try.ntmps3
    go_wp2_with fail
    refine HA.out.mono ?_
    rintro e w1 ⟨rfl, hb1⟩
    have B1 := Lib.hid hb1
    clear hb1
    go_wp2_with fail
    go_ret
    exact ⟨rfl, B1.out⟩
  have t7 : decide ((70000 : Int) < (p.size : Int)) = false := by simp; omega
  have G1 := Lib.hid (fun W => get9_any p W (by omega))
  have G2 := Lib.hid (fun W => refget9_any p W (by omega))
  unfold Tells at G1 G2
  generalize flowH p = h at *
  generalize flowE p = E at *
  go_enter Try.func3, Try.ntmps3
  go_wp2_with fail
  refine HA.out.mono ?_
  rintro e w1 ⟨rfl, hb1⟩
  have B1 := Lib.hid hb1
  clear hb1 HA
  go_wp2_with fail
  refine (G1.out _).mono ?_
  rintro e w2 ⟨rfl, hb2⟩
  have B2 := Lib.hid (B1.out.trans (hb2.mono B1.out.size))
  clear hb2 B1 G1
  unfold F9.cells
  go_wp2_with fail
  have ⟨N1', B3'⟩ := got_made w w2 B2.out h.cells 24
  have N1 := Lib.hid N1'
  have B3 := Lib.hid B3'
  unfold F9.cells at N1 B3
  clear B2 N1' B3'
  generalize w2.alloc (.cells #[.int .i64 h.proto, .string h.src, .string h.dst, .int .i64 h.sp, .int .i64 h.dp] 24) = w3 at *
  generalize w2.heap.size = N at *
  refine (G2.out _).mono ?_
  rintro e w4 ⟨rfl, hb4⟩
  have N4 : Hid (Blk w4 N h.cells 24) := (hb4.block _ N1.out.lt).trans N1.out
  have B4 := Lib.hid (B3.out.trans (hb4.mono B3.out.size))
  clear N1 B3 hb4 G2
  have ⟨c0, c1, c2, c3, c4⟩ := Hc9.of N4.out
  have lN := N4.out.lt
  unfold F9.cells
  go_wp2_with fail
  go_ret
  exact ⟨rfl, B4.out.alloc B4.out.size _⟩

end Go.Proofs.Ytimcjhekldnipaa
