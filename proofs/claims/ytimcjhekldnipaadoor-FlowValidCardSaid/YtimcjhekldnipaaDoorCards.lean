/-
  DERIVED. GIVEN WITH THE SEED: THE CARDS: each row of YtimcjhekldnipaaDoorRows.lean that lists a variable, with what it lists TIED to the program's text (the seventh form; the later family's looks); each row that meets fmt, with fmt's text TOLD by the authors' own Lean function (tested against real Go, not proved from fmt's source: count such statements apart). THE CARD IS WHAT COUNTS. Prove the row's statement (the work); the ties are given (YtimcjhekldnipaaDoorTie.lean); close each card by the builder's one call (the guide's Derived/Test/ToyasCard.lean, 'card_holds'). Laid BY PROGRAM, IN A SANDBOX (cutbox-door.mjs). By AI agents, Wed Nov 11 2026. No macro, syntax, notation, axiom, sorry.
-/
import Derived.Test.YtimcjhekldnipaaDoorRows
import GoSem.ClaimSeven
namespace Go.Proofs.YtimcjhekldnipaaDoor
namespace Rows

/-- THE TIED CARD OF 'palanquinlaw09.FlowBuilds'. -/
def flowBuildsCard : Claim7 := { stood := { row := flowBuildsRow, standIns := [], harness := (true, "b6e2f0e5fa60254eefc180b1615988c03a99b97664df522e9df75da25a9550a5"), looks := true }, kinds := [], alts := [], laidByText := true, laidKinds := [.data], laidTests := true, laidLooks := .later }
def FlowBuildsCardSaid : Prop := Claim7.holds Tryd.pinned (.plain (OpenSpec.ofChange flowBuildsSpec)) flowBuildsCard

/-- THE TIED CARD OF 'palanquinlaw09.FlowValid'. -/
def flowValidCard : Claim7 := { stood := { row := flowValidRow, standIns := [], harness := (true, "b6e2f0e5fa60254eefc180b1615988c03a99b97664df522e9df75da25a9550a5"), looks := true }, kinds := [], alts := [], laidByText := true, laidKinds := [.data], laidTests := true, laidLooks := .later }
def FlowValidCardSaid : Prop := Claim7.holds Tryd.pinned (.plain (OpenSpec.ofChange flowValidSpec)) flowValidCard

/-- THE TIED CARD OF 'palanquinlaw09.FlowSeals'. -/
def flowSealsCard : Claim7 := { stood := { row := flowSealsRow, standIns := [], harness := (true, "b6e2f0e5fa60254eefc180b1615988c03a99b97664df522e9df75da25a9550a5"), looks := true }, kinds := [], alts := [], laidByText := true, laidKinds := [.data], laidTests := true, laidLooks := .later }
def FlowSealsCardSaid : Prop := Claim7.holds Tryd.pinned (.plain (OpenSpec.ofChange flowSealsSpec)) flowSealsCard

/-- THE SECOND FORM's CARD OF 'palanquinlaw09.FlowBuilds'. -/
def flowBuildsUptoCard : Claim7 := { stood := { row := flowBuildsUptoRow, standIns := [], harness := (true, "b6e2f0e5fa60254eefc180b1615988c03a99b97664df522e9df75da25a9550a5"), looks := true }, kinds := [], alts := [], laidByText := true, laidKinds := [.data], laidTests := true, laidLooks := .later }
def FlowBuildsUptoCardSaid : Prop := Claim7.holds Tryd.pinned (.plain (OpenSpec.upto flowBuildsSpec)) flowBuildsUptoCard

/-- THE SECOND FORM's CARD OF 'palanquinlaw09.FlowValid'. -/
def flowValidUptoCard : Claim7 := { stood := { row := flowValidUptoRow, standIns := [], harness := (true, "b6e2f0e5fa60254eefc180b1615988c03a99b97664df522e9df75da25a9550a5"), looks := true }, kinds := [], alts := [], laidByText := true, laidKinds := [.data], laidTests := true, laidLooks := .later }
def FlowValidUptoCardSaid : Prop := Claim7.holds Tryd.pinned (.plain (OpenSpec.upto flowValidSpec)) flowValidUptoCard

/-- THE SECOND FORM's CARD OF 'palanquinlaw09.FlowSeals'. -/
def flowSealsUptoCard : Claim7 := { stood := { row := flowSealsUptoRow, standIns := [], harness := (true, "b6e2f0e5fa60254eefc180b1615988c03a99b97664df522e9df75da25a9550a5"), looks := true }, kinds := [], alts := [], laidByText := true, laidKinds := [.data], laidTests := true, laidLooks := .later }
def FlowSealsUptoCardSaid : Prop := Claim7.holds Tryd.pinned (.plain (OpenSpec.upto flowSealsSpec)) flowSealsUptoCard
end Rows
end Go.Proofs.YtimcjhekldnipaaDoor
