/-
  The document's example: the laws' 'awake'; few.
-/
import Derived.Test.YtppobficnjpdiaaTcpMss
namespace Go.Proofs.Ytppobficnjpdiaa
open Go.RowKit
set_option linter.unusedVariables false

theorem example7_o : opts [2, 4, 5, 180] 0 = [(0, [2, 4, 5, 180])] := by
  have hz : sz1 [2, 4, 5, 180] = 4 := rfl
  rw [opts_step 0 (by simp) (by rw [hz]; decide), hz]
  show (0, [2, 4, 5, 180]) :: opts [] 4 = _
  rw [opts_nil]
theorem example7 : mssL [2, 4, 5, 180] = some (1460, 2) := by
  have hr : rightL [2, 4, 5, 180] = true := by unfold rightL; rw [example7_o]; rfl
  rw [mssL_right hr, example7_o]
  rfl

end Go.Proofs.Ytppobficnjpdiaa
