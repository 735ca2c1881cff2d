/-
  FlowSeals returns true at every input.
-/
import Derived.Test.YtimcjhekldnipaaDoorFlowSeals4
import Derived.Test.YtimcjhekldnipaaDoorFlowSeals16
namespace Go.Proofs.YtimcjhekldnipaaDoor
open Go.RowKit
set_option linter.unusedVariables false

set_option maxRecDepth 100000 in
set_option maxHeartbeats 1000000 in
theorem seals9_any (src dst s : ByteArray) (udp : Bool) (w : World) (hg : Places w) (z0 : src.size ≤ 140737488355328) (z1 : dst.size ≤ 140737488355328) (z2 : s.size ≤ 140737488355328) :
    Calls Tryd.prog 5 #[.string src, .string dst, .string s, .bool udp] w (AwakeEnd w) := by
  by_cases h4 : src.size = 4
  · exact seals9_4 src dst s udp w h4 hg z0 z1 z2
  by_cases h16 : src.size = 16
  · exact seals9_16 src dst s udp w h16 hg z0 z1 z2
  have HA := Lib.hid (awake9_any w)
  have HG := Lib.hid hg
  clear hg
  go_enter Tryd.func5, Tryd.ntmps5
  go_wp2_with fail
  refine HA.out.mono ?_
  rintro e w1 ⟨rfl, hb1⟩
  have B1 := Lib.hid hb1
  have G1 := Lib.hid (HG.out.below hb1 HG.out.lt)
  clear hb1 HA HG
  have t4 : ((src.size : Int) != 4) = true := by simp; omega
  have t16 : ((src.size : Int) != 16) = true := by simp; omega
  clear h4 h16
  go_wp2_with fail
  go_ret
  exact ⟨rfl, B1.out⟩

end Go.Proofs.YtimcjhekldnipaaDoor
