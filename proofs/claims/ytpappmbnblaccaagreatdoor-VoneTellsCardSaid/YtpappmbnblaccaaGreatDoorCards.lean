/-
  DERIVED. GIVEN WITH THE SEED: THE CARDS: each row of YtpappmbnblaccaaGreatDoorRows.lean that lists a variable, with what it lists TIED to the program's text (the seventh form; the later family's looks); each row that meets fmt, with fmt's text TOLD by the authors' own Lean function (tested against real Go, not proved from fmt's source: count such statements apart). THE CARD IS WHAT COUNTS. Prove the row's statement (the work); the ties are given (YtpappmbnblaccaaGreatDoorTie.lean); close each card by the builder's one call (the guide's Derived/Test/ToyasCard.lean, 'card_holds'). Laid BY PROGRAM, IN A SANDBOX (cutbox-door.mjs). By AI agents, Wed Nov 11 2026. No macro, syntax, notation, axiom, sorry.
-/
import Derived.Test.YtpappmbnblaccaaGreatDoorRows
import GoSem.ClaimSeven
namespace Go.Proofs.YtpappmbnblaccaaGreatDoor
namespace Rows

/-- THE TIED CARD OF 'palanquinlaw17.VoneTells'. -/
def voneTellsCard : Claim7 := { stood := { row := voneTellsRow, standIns := [], harness := (true, "9c07d9062906e27741b2b533efa1f7722ce46fc4288a9e88c72021efb1220a1b"), looks := true }, kinds := [], alts := [], laidByText := true, laidKinds := [.data, .data, .data, .data, .sentinel, .sentinel, .pinned], laidTests := true, laidLooks := .later }
def VoneTellsCardSaid : Prop := Claim7.holds Tryz.pinned (.plain (OpenSpec.ofChange voneTellsSpec)) voneTellsCard

/-- THE SECOND FORM's CARD OF 'palanquinlaw17.VoneTells'. -/
def voneTellsUptoCard : Claim7 := { stood := { row := voneTellsUptoRow, standIns := [], harness := (true, "9c07d9062906e27741b2b533efa1f7722ce46fc4288a9e88c72021efb1220a1b"), looks := true }, kinds := [], alts := [], laidByText := true, laidKinds := [.data, .data, .data, .data, .sentinel, .sentinel, .pinned], laidTests := true, laidLooks := .later }
def VoneTellsUptoCardSaid : Prop := Claim7.holds Tryz.pinned (.plain (OpenSpec.upto voneTellsSpec)) voneTellsUptoCard
end Rows
end Go.Proofs.YtpappmbnblaccaaGreatDoor
