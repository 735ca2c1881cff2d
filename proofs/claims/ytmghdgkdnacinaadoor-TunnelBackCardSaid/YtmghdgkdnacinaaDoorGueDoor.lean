/-
  Both tables, as a row lists them: from the condition to the blocks.
-/
import Derived.Test.YtmghdgkdnacinaaDoorFlowDoor
import Derived.Test.YtmghdgkdnacinaaDoorIpipDoor
namespace Go.Proofs.YtmghdgkdnacinaaDoor
open Go.ChangeShapes Go.WideShapes Go.ChangeAt Go.RowKit
set_option linter.unusedVariables false

def laidG {H : Type} : List (String × DataW H) := [("palanquin/ipip.versions", Rows.laid_palanquin_ipip_versions), ("palanquin/flow.places", Rows.laid_palanquin_flow_places)]
/-- The door's own heap meets the condition. -/
theorem door_metG (os : Os) (args : Array Value) : laidMetH Tryd.prog laidG ((World.doorLaid Tryd.prog 400 os).forCall (fun _ _ => 0) ⟨#[], args, []⟩).memory :=
  laidMetH_of_parts3 (fuel := 8) (laidMet_of_run' 8 (by kernel_rfl) (by kernel_rfl)) (by kernel_rfl) (by kernel_rfl)
theorem both_of_laid {W : World} (h : laidMetH Tryd.prog laidG W) : Vers W ∧ Places W :=
  ⟨vers_of_at (laidAt_met h (by kernel_rfl) _ _ (List.mem_cons_self ..)), places_of_at (laidAt_met h (by kernel_rfl) _ _ (List.mem_cons_of_mem _ (List.mem_cons_self ..)))⟩

end Go.Proofs.YtmghdgkdnacinaaDoor
