/-
  The document's example: the laws' 'awake'.
-/
import Derived.Test.YtcalpkdgpiebmaaUdpPut
namespace Go.Proofs.Ytcalpkdgpiebmaa
open Go.RowKit
set_option linter.unusedVariables false

/-- The document's example's datagram. -/
def example8 : D8 := ⟨1, 2, ⟨#[120]⟩⟩
theorem example8_e : put8E example8 3 = 0 := by decide +kernel
theorem example8_s : put8S example8 3 = ⟨#[0, 1, 0, 2, 0, 9, 0, 3, 120]⟩ := by decide +kernel

set_option maxHeartbeats 400000 in
theorem awake8_any (w : World) : Calls Try.prog 6 #[] w (AwakeEnd w) := by
  have h1 := fun W => put8_any example8 3 W
  unfold Put8End at h1
  rw [example8_e, example8_s] at h1
  have H1 := Lib.hid h1
  clear h1
  unfold example8 D8.cells at H1
  simp only at H1
  go_enter Try.func6, Try.ntmps6
  go_wp2_with fail
  refine (H1.out _).mono ?_
  rintro e w1 ⟨rfl, hb1⟩
  go_wp2_with fail
  go_ret
  exact ⟨rfl, hb1⟩

end Go.Proofs.Ytcalpkdgpiebmaa
