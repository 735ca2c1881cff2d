/-
  GueTells returns true at every input.
-/
import Derived.Test.YtbfcccfgphelhaaDoorGueAwake
namespace Go.Proofs.YtbfcccfgphelhaaDoor
open Go.RowKit
set_option linter.unusedVariables false

set_option maxRecDepth 100000 in
set_option maxHeartbeats 2000000 in
theorem gueTells_any (port : Int) (sum : Bool) (src dst inner b : ByteArray) (w : World) (hg : Vers w ∧ Places w) :
    Calls Tryd.prog 3 #[.int .i64 port, .bool sum, .string src, .string dst, .string inner, .string b] w (AwakeEnd w) := by
  have HA := Lib.hid (awake13_any w hg.1 hg.2)
  have S0 := Lib.hid (Gl13.new hg.1 hg.2)
  clear hg
  go_enter Tryd.func3, Tryd.ntmps3
  go_wp2_with fail
  refine HA.out.mono ?_
  rintro e w1 ⟨rfl, hb⟩
  have S1 := Lib.hid (S0.out.below hb)
  clear hb S0 HA
  go_wp2_with fail
  refine (few13_any src dst inner b w1).mono ?_
  rintro e w1' ⟨rfl, rfl⟩
  cases hf : few13 src dst inner b with
  | false =>
    go_wp2_with fail
    go_ret
    exact ⟨rfl, S1.out.bel⟩
  | true =>
  have ⟨f1, f2, f3, f4⟩ := (few13_iff _ _ _ _).1 hf
  have P1 := Lib.hid (fun W hv hp => put13_any ⟨port, sum⟩ src dst inner W hv hp (by omega) (by omega) (by omega))
  have P2 := Lib.hid (fun W => refput13_any ⟨port, sum⟩ src dst inner W (by omega) (by omega) (by omega))
  have G1 := Lib.hid (fun W hv => get13_any src dst b W hv (by omega) (by omega) (by omega))
  have G2 := Lib.hid (fun W => refget13_any src dst b W (by omega) (by omega) (by omega))
  unfold Tells at P1 P2 G1
  unfold Ref13End at G2
  clear f1 f2 f3 f4 hf
  generalize put13S ⟨port, sum⟩ src dst inner = X at *
  generalize put13E (H13.mk port sum).port inner = E at *
  generalize get13H src dst b = h at *
  generalize get13S src dst b = t at *
  generalize get13E src dst b = F at *
  unfold H13.cells at P1 G1
  simp only at P1 P2
  go_wp2_with fail
  refine (P1.out _ S1.out.vs S1.out.ps).mono ?_
  rintro e w2 ⟨rfl, hb⟩
  have S2 := Lib.hid (S1.out.below hb)
  clear hb S1 P1
  go_wp2_with fail
  refine (P2.out _).mono ?_
  rintro e w3 ⟨rfl, hb⟩
  have S3 := Lib.hid (S2.out.below hb)
  clear hb S2 P2
  go_wp2_with fail
  refine (G1.out _ S3.out.vs).mono ?_
  rintro e w4 ⟨rfl, hb⟩
  have S4 := Lib.hid (S3.out.below hb)
  clear hb S3 G1
  have S5 := Lib.hid (Gm13.new h S4.out)
  unfold H13.cells at S5
  go_wp2_with fail
  generalize w4.alloc (.cells #[.int .i64 h.port, .bool h.sum] 28) = w5 at *
  generalize w4.heap.size = M at *
  refine (G2.out _).mono ?_
  rintro e w6 ⟨rfl, hb⟩
  have S6 := Lib.hid (S5.out.below hb)
  clear hb S5 G2 S4
  have ⟨c0, c1⟩ := Hc13.of S6.out.b
  go_wp2_with fail
  go_ret
  exact ⟨rfl, S6.out.gl.bel⟩

end Go.Proofs.YtbfcccfgphelhaaDoor
