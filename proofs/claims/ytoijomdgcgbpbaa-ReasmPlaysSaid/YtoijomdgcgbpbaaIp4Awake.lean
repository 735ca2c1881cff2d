/-
  The document's example: the laws' 'awake'.
-/
import Derived.Test.YtoijomdgcgbpbaaIp4W
namespace Go.Proofs.Ytoijomdgcgbpbaa
open Go.RowKit
set_option linter.unusedVariables false

/-- The document's example's header. -/
def exampleH : H4 := ⟨0, 0, 0, 0, 0, false, false, ⟨#[97, 98, 99, 100]⟩, ⟨#[101, 102, 103, 104]⟩, ⟨#[]⟩⟩
theorem example_e : putE exampleH ⟨#[]⟩ = 0 := by decide +kernel
theorem example_s : (putS exampleH ⟨#[]⟩).size = 20 := by decide +kernel
theorem zero_err : H4.zero.err = 1 := by decide +kernel

end Go.Proofs.Ytoijomdgcgbpbaa
