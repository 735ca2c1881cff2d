/-
  The document's example: the laws' 'awake'; few.
-/
import Derived.Test.YthfelnocdeknaaaTcpMss
namespace Go.Proofs.Ythfelnocdeknaaa
open Go.RowKit
set_option linter.unusedVariables false

theorem example7_o : opts [2, 4, 5, 180] 0 = [(0, [2, 4, 5, 180])] := by
  have hz : sz1 [2, 4, 5, 180] = 4 := rfl
  rw [opts_step 0 (by simp) (by rw [hz]; decide), hz]
  show (0, [2, 4, 5, 180]) :: opts [] 4 = _
  rw [opts_nil]
theorem example7 : mssL [2, 4, 5, 180] = some (1460, 2) := by
  have hr : rightL [2, 4, 5, 180] = true := by unfold rightL; rw [example7_o]; rfl
  rw [mssL_right hr, example7_o]
  rfl

set_option maxHeartbeats 400000 in
theorem awake7_any (w : World) : Calls Try.prog 8 #[] w (AwakeEnd w) := by
  have h1 := mss_call ⟨#[2, 4, 5, 180]⟩ w (by decide)
  unfold MssEnd at h1
  rw [show (⟨#[2, 4, 5, 180]⟩ : ByteArray).data.toList = [2, 4, 5, 180] from rfl, example7] at h1
  simp only [mN, mA, Option.isSome] at h1
  have H1 := Lib.hid h1
  clear h1
  go_enter Try.func8, Try.ntmps8
  go_wp2_with fail
  refine H1.out.mono ?_
  rintro e w1 ⟨rfl, hb1⟩
  go_wp2_with fail
  go_ret
  exact ⟨rfl, hb1⟩

end Go.Proofs.Ythfelnocdeknaaa
