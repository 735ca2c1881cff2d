/-
  DERIVED. GIVEN WITH THE SEED: THE CARDS: each row of YtnlpbnipfglhhaaDoorRows.lean that lists a variable, with what it lists TIED to the program's text (the seventh form; the later family's looks); each row that meets fmt, with fmt's text TOLD by the authors' own Lean function (tested against real Go, not proved from fmt's source: count such statements apart). THE CARD IS WHAT COUNTS. Prove the row's statement (the work); the ties are given (YtnlpbnipfglhhaaDoorTie.lean); close each card by the builder's one call (the guide's Derived/Test/ToyasCard.lean, 'card_holds'). Laid BY PROGRAM, IN A SANDBOX (cutbox-door.mjs). By AI agents, Wed Nov 11 2026. No macro, syntax, notation, axiom, sorry.
-/
import Derived.Test.YtnlpbnipfglhhaaDoorRows
import GoSem.ClaimSeven
namespace Go.Proofs.YtnlpbnipfglhhaaDoor
namespace Rows

/-- THE TIED CARD OF 'palanquinlaw12.GreTells'. -/
def greTellsCard : Claim7 := { stood := { row := greTellsRow, standIns := [], harness := (true, "8841c09cccac859829a548a55997b67743ab1609e35ab0fb706a0b04a4c0f148"), looks := true }, kinds := [], alts := [], laidByText := true, laidKinds := [.data], laidTests := true, laidLooks := .later }
def GreTellsCardSaid : Prop := Claim7.holds Tryd.pinned (.plain (OpenSpec.ofChange greTellsSpec)) greTellsCard

/-- THE TIED CARD OF 'palanquinlaw12.GreBack'. -/
def greBackCard : Claim7 := { stood := { row := greBackRow, standIns := [], harness := (true, "8841c09cccac859829a548a55997b67743ab1609e35ab0fb706a0b04a4c0f148"), looks := true }, kinds := [], alts := [], laidByText := true, laidKinds := [.data], laidTests := true, laidLooks := .later }
def GreBackCardSaid : Prop := Claim7.holds Tryd.pinned (.plain (OpenSpec.ofChange greBackSpec)) greBackCard

/-- THE TIED CARD OF 'palanquinlaw12.GreSums'. -/
def greSumsCard : Claim7 := { stood := { row := greSumsRow, standIns := [], harness := (true, "8841c09cccac859829a548a55997b67743ab1609e35ab0fb706a0b04a4c0f148"), looks := true }, kinds := [], alts := [], laidByText := true, laidKinds := [.data], laidTests := true, laidLooks := .later }
def GreSumsCardSaid : Prop := Claim7.holds Tryd.pinned (.plain (OpenSpec.ofChange greSumsSpec)) greSumsCard

/-- THE TIED CARD OF 'palanquinlaw12.GreParts'. -/
def grePartsCard : Claim7 := { stood := { row := grePartsRow, standIns := [], harness := (true, "8841c09cccac859829a548a55997b67743ab1609e35ab0fb706a0b04a4c0f148"), looks := true }, kinds := [], alts := [], laidByText := true, laidKinds := [.data], laidTests := true, laidLooks := .later }
def GrePartsCardSaid : Prop := Claim7.holds Tryd.pinned (.plain (OpenSpec.ofChange grePartsSpec)) grePartsCard

/-- THE SECOND FORM's CARD OF 'palanquinlaw12.GreTells'. -/
def greTellsUptoCard : Claim7 := { stood := { row := greTellsUptoRow, standIns := [], harness := (true, "8841c09cccac859829a548a55997b67743ab1609e35ab0fb706a0b04a4c0f148"), looks := true }, kinds := [], alts := [], laidByText := true, laidKinds := [.data], laidTests := true, laidLooks := .later }
def GreTellsUptoCardSaid : Prop := Claim7.holds Tryd.pinned (.plain (OpenSpec.upto greTellsSpec)) greTellsUptoCard

/-- THE SECOND FORM's CARD OF 'palanquinlaw12.GreBack'. -/
def greBackUptoCard : Claim7 := { stood := { row := greBackUptoRow, standIns := [], harness := (true, "8841c09cccac859829a548a55997b67743ab1609e35ab0fb706a0b04a4c0f148"), looks := true }, kinds := [], alts := [], laidByText := true, laidKinds := [.data], laidTests := true, laidLooks := .later }
def GreBackUptoCardSaid : Prop := Claim7.holds Tryd.pinned (.plain (OpenSpec.upto greBackSpec)) greBackUptoCard

/-- THE SECOND FORM's CARD OF 'palanquinlaw12.GreSums'. -/
def greSumsUptoCard : Claim7 := { stood := { row := greSumsUptoRow, standIns := [], harness := (true, "8841c09cccac859829a548a55997b67743ab1609e35ab0fb706a0b04a4c0f148"), looks := true }, kinds := [], alts := [], laidByText := true, laidKinds := [.data], laidTests := true, laidLooks := .later }
def GreSumsUptoCardSaid : Prop := Claim7.holds Tryd.pinned (.plain (OpenSpec.upto greSumsSpec)) greSumsUptoCard

/-- THE SECOND FORM's CARD OF 'palanquinlaw12.GreParts'. -/
def grePartsUptoCard : Claim7 := { stood := { row := grePartsUptoRow, standIns := [], harness := (true, "8841c09cccac859829a548a55997b67743ab1609e35ab0fb706a0b04a4c0f148"), looks := true }, kinds := [], alts := [], laidByText := true, laidKinds := [.data], laidTests := true, laidLooks := .later }
def GrePartsUptoCardSaid : Prop := Claim7.holds Tryd.pinned (.plain (OpenSpec.upto grePartsSpec)) grePartsUptoCard
end Rows
end Go.Proofs.YtnlpbnipfglhhaaDoor
