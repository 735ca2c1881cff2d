/-
  The document's example: the laws' 'awake'.
-/
import Derived.Test.YtdljioacbpabbaaIp4PutAny
namespace Go.Proofs.Ytdljioacbpabbaa
open Go.RowKit
set_option linter.unusedVariables false

/-- The document's example's header. -/
def exampleH : H4 := ⟨0, 0, 0, 0, 0, false, false, ⟨#[97, 98, 99, 100]⟩, ⟨#[101, 102, 103, 104]⟩, ⟨#[]⟩⟩
theorem example_e : putE exampleH ⟨#[]⟩ = 0 := by decide +kernel
theorem example_s : (putS exampleH ⟨#[]⟩).size = 20 := by decide +kernel
theorem zero_err : H4.zero.err = 1 := by decide +kernel

set_option maxHeartbeats 400000 in
theorem awake_any (w : World) : Calls Try.prog 8 #[] w (AwakeEnd w) := by
  have h1 := put_any exampleH ⟨#[]⟩ w (by decide)
  have h2 := fun W => check_any H4.zero W
  unfold PutEnd at h1
  rw [example_e] at h1
  rw [zero_err] at h2
  have hsz := example_s
  generalize putS exampleH ⟨#[]⟩ = S at *
  have t1 : ((S.size : Int) == 20) = true := by simp; omega
  have H1 := Lib.hid h1
  have H2 := Lib.hid h2
  clear h1 h2 hsz
  unfold exampleH H4.cells at H1
  unfold H4.zero H4.cells at H2
  simp only at H1 H2
  go_enter Try.func8, Try.ntmps8
  go_wp2_with fail
  refine H1.out.mono ?_
  rintro e w1 ⟨rfl, hb1⟩
  have HB := Lib.hid hb1
  clear hb1 H1
  go_wp2_with fail
  refine (H2.out _).mono ?_
  rintro e w2 ⟨rfl, hb2⟩
  have HB2 := Lib.hid (HB.out.trans (hb2.mono HB.out.size))
  clear hb2 H2
  go_wp2_with fail
  go_ret
  exact ⟨rfl, HB2.out⟩

end Go.Proofs.Ytdljioacbpabbaa
