/-
  DERIVED. GIVEN WITH THE SEED: THE CARDS: each row of YtpappmbnblaccaaDoorRows.lean that lists a variable, with what it lists TIED to the program's text (the seventh form; the later family's looks); each row that meets fmt, with fmt's text TOLD by the authors' own Lean function (tested against real Go, not proved from fmt's source: count such statements apart). THE CARD IS WHAT COUNTS. Prove the row's statement (the work); the ties are given (YtpappmbnblaccaaDoorTie.lean); close each card by the builder's one call (the guide's Derived/Test/ToyasCard.lean, 'card_holds'). Laid BY PROGRAM, IN A SANDBOX (cutbox-door.mjs). By AI agents, Wed Nov 11 2026. No macro, syntax, notation, axiom, sorry.
-/
import Derived.Test.YtpappmbnblaccaaDoorRows
import GoSem.ClaimSeven
namespace Go.Proofs.YtpappmbnblaccaaDoor
namespace Rows

/-- THE TIED CARD OF 'palanquinlaw17.VoneBack'. -/
def voneBackCard : Claim7 := { stood := { row := voneBackRow, standIns := [], harness := (true, "0f41a7ff076413cd2f1ca75fbc01fc5ea0506f24a6e4535f9e4d514214dc2e43"), looks := true }, kinds := [], alts := [], laidByText := true, laidKinds := [.data, .data, .data, .data, .sentinel, .sentinel, .pinned], laidTests := true, laidLooks := .later }
def VoneBackCardSaid : Prop := Claim7.holds Tryd.pinned (.plain (OpenSpec.ofChange voneBackSpec)) voneBackCard

/-- THE TIED CARD OF 'palanquinlaw17.VoneStrict'. -/
def voneStrictCard : Claim7 := { stood := { row := voneStrictRow, standIns := [], harness := (true, "0f41a7ff076413cd2f1ca75fbc01fc5ea0506f24a6e4535f9e4d514214dc2e43"), looks := true }, kinds := [], alts := [], laidByText := true, laidKinds := [.data, .data, .data, .data, .sentinel, .sentinel, .pinned], laidTests := true, laidLooks := .later }
def VoneStrictCardSaid : Prop := Claim7.holds Tryd.pinned (.plain (OpenSpec.ofChange voneStrictSpec)) voneStrictCard

/-- THE TIED CARD OF 'palanquinlaw17.VoneUnknown'. -/
def voneUnknownCard : Claim7 := { stood := { row := voneUnknownRow, standIns := [], harness := (true, "0f41a7ff076413cd2f1ca75fbc01fc5ea0506f24a6e4535f9e4d514214dc2e43"), looks := true }, kinds := [], alts := [], laidByText := true, laidKinds := [.data, .data, .data, .data, .sentinel, .sentinel, .pinned], laidTests := true, laidLooks := .later }
def VoneUnknownCardSaid : Prop := Claim7.holds Tryd.pinned (.plain (OpenSpec.ofChange voneUnknownSpec)) voneUnknownCard

/-- THE SECOND FORM's CARD OF 'palanquinlaw17.VoneBack'. -/
def voneBackUptoCard : Claim7 := { stood := { row := voneBackUptoRow, standIns := [], harness := (true, "0f41a7ff076413cd2f1ca75fbc01fc5ea0506f24a6e4535f9e4d514214dc2e43"), looks := true }, kinds := [], alts := [], laidByText := true, laidKinds := [.data, .data, .data, .data, .sentinel, .sentinel, .pinned], laidTests := true, laidLooks := .later }
def VoneBackUptoCardSaid : Prop := Claim7.holds Tryd.pinned (.plain (OpenSpec.upto voneBackSpec)) voneBackUptoCard

/-- THE SECOND FORM's CARD OF 'palanquinlaw17.VoneStrict'. -/
def voneStrictUptoCard : Claim7 := { stood := { row := voneStrictUptoRow, standIns := [], harness := (true, "0f41a7ff076413cd2f1ca75fbc01fc5ea0506f24a6e4535f9e4d514214dc2e43"), looks := true }, kinds := [], alts := [], laidByText := true, laidKinds := [.data, .data, .data, .data, .sentinel, .sentinel, .pinned], laidTests := true, laidLooks := .later }
def VoneStrictUptoCardSaid : Prop := Claim7.holds Tryd.pinned (.plain (OpenSpec.upto voneStrictSpec)) voneStrictUptoCard

/-- THE SECOND FORM's CARD OF 'palanquinlaw17.VoneUnknown'. -/
def voneUnknownUptoCard : Claim7 := { stood := { row := voneUnknownUptoRow, standIns := [], harness := (true, "0f41a7ff076413cd2f1ca75fbc01fc5ea0506f24a6e4535f9e4d514214dc2e43"), looks := true }, kinds := [], alts := [], laidByText := true, laidKinds := [.data, .data, .data, .data, .sentinel, .sentinel, .pinned], laidTests := true, laidLooks := .later }
def VoneUnknownUptoCardSaid : Prop := Claim7.holds Tryd.pinned (.plain (OpenSpec.upto voneUnknownSpec)) voneUnknownUptoCard
end Rows
end Go.Proofs.YtpappmbnblaccaaDoor
