/-
  DERIVED. GIVEN WITH THE SEED: THE CARDS: each row of YtmghdgkdnacinaaDoorRows.lean that lists a variable, with what it lists TIED to the program's text (the seventh form; the later family's looks); each row that meets fmt, with fmt's text TOLD by the authors' own Lean function (tested against real Go, not proved from fmt's source: count such statements apart). THE CARD IS WHAT COUNTS. Prove the row's statement (the work); the ties are given (YtmghdgkdnacinaaDoorTie.lean); close each card by the builder's one call (the guide's Derived/Test/ToyasCard.lean, 'card_holds'). Laid BY PROGRAM, IN A SANDBOX (cutbox-door.mjs). By AI agents, Wed Nov 11 2026. No macro, syntax, notation, axiom, sorry.
-/
import Derived.Test.YtmghdgkdnacinaaDoorRows
import GoSem.ClaimSeven
namespace Go.Proofs.YtmghdgkdnacinaaDoor
namespace Rows

/-- THE TIED CARD OF 'palanquinlaw14.TunnelBack'. -/
def tunnelBackCard : Claim7 := { stood := { row := tunnelBackRow, standIns := [], harness := (true, "44aa4441462e06244a6e7629c4f2402d6a688bf6d03598708e0c5784dfdad7c1"), looks := true }, kinds := [], alts := [], laidByText := true, laidKinds := [.data, .data], laidTests := true, laidLooks := .later }
def TunnelBackCardSaid : Prop := Claim7.holds Tryd.pinned (.plain (OpenSpec.ofChange tunnelBackSpec)) tunnelBackCard

/-- THE TIED CARD OF 'palanquinlaw14.TunnelFields'. -/
def tunnelFieldsCard : Claim7 := { stood := { row := tunnelFieldsRow, standIns := [], harness := (true, "44aa4441462e06244a6e7629c4f2402d6a688bf6d03598708e0c5784dfdad7c1"), looks := true }, kinds := [], alts := [], laidByText := true, laidKinds := [.data, .data], laidTests := true, laidLooks := .later }
def TunnelFieldsCardSaid : Prop := Claim7.holds Tryd.pinned (.plain (OpenSpec.ofChange tunnelFieldsSpec)) tunnelFieldsCard

/-- THE TIED CARD OF 'palanquinlaw14.TunnelBits'. -/
def tunnelBitsCard : Claim7 := { stood := { row := tunnelBitsRow, standIns := [], harness := (true, "44aa4441462e06244a6e7629c4f2402d6a688bf6d03598708e0c5784dfdad7c1"), looks := true }, kinds := [], alts := [], laidByText := true, laidKinds := [.data, .data], laidTests := true, laidLooks := .later }
def TunnelBitsCardSaid : Prop := Claim7.holds Tryd.pinned (.plain (OpenSpec.ofChange tunnelBitsSpec)) tunnelBitsCard

/-- THE SECOND FORM's CARD OF 'palanquinlaw14.TunnelBack'. -/
def tunnelBackUptoCard : Claim7 := { stood := { row := tunnelBackUptoRow, standIns := [], harness := (true, "44aa4441462e06244a6e7629c4f2402d6a688bf6d03598708e0c5784dfdad7c1"), looks := true }, kinds := [], alts := [], laidByText := true, laidKinds := [.data, .data], laidTests := true, laidLooks := .later }
def TunnelBackUptoCardSaid : Prop := Claim7.holds Tryd.pinned (.plain (OpenSpec.upto tunnelBackSpec)) tunnelBackUptoCard

/-- THE SECOND FORM's CARD OF 'palanquinlaw14.TunnelFields'. -/
def tunnelFieldsUptoCard : Claim7 := { stood := { row := tunnelFieldsUptoRow, standIns := [], harness := (true, "44aa4441462e06244a6e7629c4f2402d6a688bf6d03598708e0c5784dfdad7c1"), looks := true }, kinds := [], alts := [], laidByText := true, laidKinds := [.data, .data], laidTests := true, laidLooks := .later }
def TunnelFieldsUptoCardSaid : Prop := Claim7.holds Tryd.pinned (.plain (OpenSpec.upto tunnelFieldsSpec)) tunnelFieldsUptoCard

/-- THE SECOND FORM's CARD OF 'palanquinlaw14.TunnelBits'. -/
def tunnelBitsUptoCard : Claim7 := { stood := { row := tunnelBitsUptoRow, standIns := [], harness := (true, "44aa4441462e06244a6e7629c4f2402d6a688bf6d03598708e0c5784dfdad7c1"), looks := true }, kinds := [], alts := [], laidByText := true, laidKinds := [.data, .data], laidTests := true, laidLooks := .later }
def TunnelBitsUptoCardSaid : Prop := Claim7.holds Tryd.pinned (.plain (OpenSpec.upto tunnelBitsSpec)) tunnelBitsUptoCard
end Rows
end Go.Proofs.YtmghdgkdnacinaaDoor
