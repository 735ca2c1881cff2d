/-
  DERIVED. GIVEN WITH THE SEED: THE CARDS: each row of YthlhflokebachaaDoorRows.lean that lists a variable, with what it lists TIED to the program's text (the seventh form; the later family's looks); each row that meets fmt, with fmt's text TOLD by the authors' own Lean function (tested against real Go, not proved from fmt's source: count such statements apart). THE CARD IS WHAT COUNTS. Prove the row's statement (the work); the ties are given (YthlhflokebachaaDoorTie.lean); close each card by the builder's one call (the guide's Derived/Test/ToyasCard.lean, 'card_holds'). Laid BY PROGRAM, IN A SANDBOX (cutbox-door.mjs). By AI agents, Wed Nov 11 2026. No macro, syntax, notation, axiom, sorry.
-/
import Derived.Test.YthlhflokebachaaDoorRows
import GoSem.ClaimSeven
namespace Go.Proofs.YthlhflokebachaaDoor
namespace Rows

/-- THE TIED CARD OF 'palanquinlaw11.IpipTells'. -/
def ipipTellsCard : Claim7 := { stood := { row := ipipTellsRow, standIns := [], harness := (true, "6968eea9b1656940ce38ab3afed8adc6dfdd95bf34b7b5c7c9dce2343fa76baa"), looks := false }, kinds := [], alts := [], laidByText := true, laidKinds := [.data], laidTests := true, laidLooks := .later }
def IpipTellsCardSaid : Prop := Claim7.holds Tryd.pinned (.plain (OpenSpec.ofChange ipipTellsSpec)) ipipTellsCard

/-- THE TIED CARD OF 'palanquinlaw11.IpipBack'. -/
def ipipBackCard : Claim7 := { stood := { row := ipipBackRow, standIns := [], harness := (true, "6968eea9b1656940ce38ab3afed8adc6dfdd95bf34b7b5c7c9dce2343fa76baa"), looks := false }, kinds := [], alts := [], laidByText := true, laidKinds := [.data], laidTests := true, laidLooks := .later }
def IpipBackCardSaid : Prop := Claim7.holds Tryd.pinned (.plain (OpenSpec.ofChange ipipBackSpec)) ipipBackCard

/-- THE TIED CARD OF 'palanquinlaw11.IpipFirst'. -/
def ipipFirstCard : Claim7 := { stood := { row := ipipFirstRow, standIns := [], harness := (true, "6968eea9b1656940ce38ab3afed8adc6dfdd95bf34b7b5c7c9dce2343fa76baa"), looks := false }, kinds := [], alts := [], laidByText := true, laidKinds := [.data], laidTests := true, laidLooks := .later }
def IpipFirstCardSaid : Prop := Claim7.holds Tryd.pinned (.plain (OpenSpec.ofChange ipipFirstSpec)) ipipFirstCard

/-- THE SECOND FORM's CARD OF 'palanquinlaw11.IpipTells'. -/
def ipipTellsUptoCard : Claim7 := { stood := { row := ipipTellsUptoRow, standIns := [], harness := (true, "6968eea9b1656940ce38ab3afed8adc6dfdd95bf34b7b5c7c9dce2343fa76baa"), looks := false }, kinds := [], alts := [], laidByText := true, laidKinds := [.data], laidTests := true, laidLooks := .later }
def IpipTellsUptoCardSaid : Prop := Claim7.holds Tryd.pinned (.plain (OpenSpec.upto ipipTellsSpec)) ipipTellsUptoCard

/-- THE SECOND FORM's CARD OF 'palanquinlaw11.IpipBack'. -/
def ipipBackUptoCard : Claim7 := { stood := { row := ipipBackUptoRow, standIns := [], harness := (true, "6968eea9b1656940ce38ab3afed8adc6dfdd95bf34b7b5c7c9dce2343fa76baa"), looks := false }, kinds := [], alts := [], laidByText := true, laidKinds := [.data], laidTests := true, laidLooks := .later }
def IpipBackUptoCardSaid : Prop := Claim7.holds Tryd.pinned (.plain (OpenSpec.upto ipipBackSpec)) ipipBackUptoCard

/-- THE SECOND FORM's CARD OF 'palanquinlaw11.IpipFirst'. -/
def ipipFirstUptoCard : Claim7 := { stood := { row := ipipFirstUptoRow, standIns := [], harness := (true, "6968eea9b1656940ce38ab3afed8adc6dfdd95bf34b7b5c7c9dce2343fa76baa"), looks := false }, kinds := [], alts := [], laidByText := true, laidKinds := [.data], laidTests := true, laidLooks := .later }
def IpipFirstUptoCardSaid : Prop := Claim7.holds Tryd.pinned (.plain (OpenSpec.upto ipipFirstSpec)) ipipFirstUptoCard
end Rows
end Go.Proofs.YthlhflokebachaaDoor
