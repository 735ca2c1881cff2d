/-
  DERIVED. GIVEN WITH THE SEED: THE CARDS: each row of YtbfcccfgphelhaaDoorRows.lean that lists a variable, with what it lists TIED to the program's text (the seventh form; the later family's looks); each row that meets fmt, with fmt's text TOLD by the authors' own Lean function (tested against real Go, not proved from fmt's source: count such statements apart). THE CARD IS WHAT COUNTS. Prove the row's statement (the work); the ties are given (YtbfcccfgphelhaaDoorTie.lean); close each card by the builder's one call (the guide's Derived/Test/ToyasCard.lean, 'card_holds'). Laid BY PROGRAM, IN A SANDBOX (cutbox-door.mjs). By AI agents, Wed Nov 11 2026. No macro, syntax, notation, axiom, sorry.
-/
import Derived.Test.YtbfcccfgphelhaaDoorRows
import GoSem.ClaimSeven
namespace Go.Proofs.YtbfcccfgphelhaaDoor
namespace Rows

/-- THE TIED CARD OF 'palanquinlaw13.GueTells'. -/
def gueTellsCard : Claim7 := { stood := { row := gueTellsRow, standIns := [], harness := (true, "af8e2c5969001745c9f292b820b0e2a238e618a14fc80ac044e9129e480c9e87"), looks := true }, kinds := [], alts := [], laidByText := true, laidKinds := [.data, .data], laidTests := true, laidLooks := .later }
def GueTellsCardSaid : Prop := Claim7.holds Tryd.pinned (.plain (OpenSpec.ofChange gueTellsSpec)) gueTellsCard

/-- THE TIED CARD OF 'palanquinlaw13.GueBack'. -/
def gueBackCard : Claim7 := { stood := { row := gueBackRow, standIns := [], harness := (true, "af8e2c5969001745c9f292b820b0e2a238e618a14fc80ac044e9129e480c9e87"), looks := true }, kinds := [], alts := [], laidByText := true, laidKinds := [.data, .data], laidTests := true, laidLooks := .later }
def GueBackCardSaid : Prop := Claim7.holds Tryd.pinned (.plain (OpenSpec.ofChange gueBackSpec)) gueBackCard

/-- THE TIED CARD OF 'palanquinlaw13.GueSums'. -/
def gueSumsCard : Claim7 := { stood := { row := gueSumsRow, standIns := [], harness := (true, "af8e2c5969001745c9f292b820b0e2a238e618a14fc80ac044e9129e480c9e87"), looks := true }, kinds := [], alts := [], laidByText := true, laidKinds := [.data, .data], laidTests := true, laidLooks := .later }
def GueSumsCardSaid : Prop := Claim7.holds Tryd.pinned (.plain (OpenSpec.ofChange gueSumsSpec)) gueSumsCard

/-- THE TIED CARD OF 'palanquinlaw13.GuePorts'. -/
def guePortsCard : Claim7 := { stood := { row := guePortsRow, standIns := [], harness := (true, "af8e2c5969001745c9f292b820b0e2a238e618a14fc80ac044e9129e480c9e87"), looks := true }, kinds := [], alts := [], laidByText := true, laidKinds := [.data, .data], laidTests := true, laidLooks := .later }
def GuePortsCardSaid : Prop := Claim7.holds Tryd.pinned (.plain (OpenSpec.ofChange guePortsSpec)) guePortsCard

/-- THE SECOND FORM's CARD OF 'palanquinlaw13.GueTells'. -/
def gueTellsUptoCard : Claim7 := { stood := { row := gueTellsUptoRow, standIns := [], harness := (true, "af8e2c5969001745c9f292b820b0e2a238e618a14fc80ac044e9129e480c9e87"), looks := true }, kinds := [], alts := [], laidByText := true, laidKinds := [.data, .data], laidTests := true, laidLooks := .later }
def GueTellsUptoCardSaid : Prop := Claim7.holds Tryd.pinned (.plain (OpenSpec.upto gueTellsSpec)) gueTellsUptoCard

/-- THE SECOND FORM's CARD OF 'palanquinlaw13.GueBack'. -/
def gueBackUptoCard : Claim7 := { stood := { row := gueBackUptoRow, standIns := [], harness := (true, "af8e2c5969001745c9f292b820b0e2a238e618a14fc80ac044e9129e480c9e87"), looks := true }, kinds := [], alts := [], laidByText := true, laidKinds := [.data, .data], laidTests := true, laidLooks := .later }
def GueBackUptoCardSaid : Prop := Claim7.holds Tryd.pinned (.plain (OpenSpec.upto gueBackSpec)) gueBackUptoCard

/-- THE SECOND FORM's CARD OF 'palanquinlaw13.GueSums'. -/
def gueSumsUptoCard : Claim7 := { stood := { row := gueSumsUptoRow, standIns := [], harness := (true, "af8e2c5969001745c9f292b820b0e2a238e618a14fc80ac044e9129e480c9e87"), looks := true }, kinds := [], alts := [], laidByText := true, laidKinds := [.data, .data], laidTests := true, laidLooks := .later }
def GueSumsUptoCardSaid : Prop := Claim7.holds Tryd.pinned (.plain (OpenSpec.upto gueSumsSpec)) gueSumsUptoCard

/-- THE SECOND FORM's CARD OF 'palanquinlaw13.GuePorts'. -/
def guePortsUptoCard : Claim7 := { stood := { row := guePortsUptoRow, standIns := [], harness := (true, "af8e2c5969001745c9f292b820b0e2a238e618a14fc80ac044e9129e480c9e87"), looks := true }, kinds := [], alts := [], laidByText := true, laidKinds := [.data, .data], laidTests := true, laidLooks := .later }
def GuePortsUptoCardSaid : Prop := Claim7.holds Tryd.pinned (.plain (OpenSpec.upto guePortsSpec)) guePortsUptoCard
end Rows
end Go.Proofs.YtbfcccfgphelhaaDoor
