/-
  A row that lists several variables: from its condition to each of them. Plain: no Go function is walked here.
-/
import Derived.Test.YtmghdgkdnacinaaDoorTie
import Derived.ProofKit
import Derived.LaidMore
import Derived.OpenShut
import Derived.Stop.Joined
namespace Go.Proofs.YtmghdgkdnacinaaDoor
open Go.ChangeShapes Go.WideShapes Go.ChangeAt Go.RowKit
set_option linter.unusedVariables false

/-- A variable reads so, at the front of some list. -/
def LaidAt (W : World) (n : String) (d : DataW Unit) : Prop := ∃ r qs, DataW.LaidVars Tryd.prog W ((n, d) :: r) qs
theorem laidAt_of {W : World} : ∀ (l : List (String × DataW Unit)) (ps : List MemPlace), DataW.LaidVars Tryd.prog W l ps → ∀ n d, (n, d) ∈ l → LaidAt W n d
  | [], _, _, _, _, hm => absurd hm (by simp)
  | (m, e) :: r, ps, h, n, d, hm => by
    rcases List.mem_cons.1 hm with he | hr
    · injection he with h1 h2
      subst h1 h2
      exact ⟨r, ps, h⟩
    · obtain ⟨g, t, cs, fuel, p, q, _, _, _, _, hq, _⟩ := h
      exact laidAt_of r q hq n d hr
theorem laidAt_met {W : World} {l : List (String × DataW Unit)} (h : laidMetH Tryd.prog l W) (hp : (l.all fun x => x.2.handleName?.isNone) = true) (n : String) (d : DataW Unit) (hm : (n, d) ∈ l) : LaidAt W n d := by
  rw [MakeChecks.laidMetH_plain _ _ _ hp] at h
  obtain ⟨ps, hl, _, _⟩ := h
  exact laidAt_of l ps hl n d hm

end Go.Proofs.YtmghdgkdnacinaaDoor
