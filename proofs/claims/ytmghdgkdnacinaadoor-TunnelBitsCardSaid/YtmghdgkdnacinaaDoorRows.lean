/-
  NARROWER THAN 'FOR EVERY INPUT', by the rows' own cells (each row's printed sentence says how): TunnelBack: laid · TunnelFields: laid · TunnelBits: laid.
  DERIVED. THE GIVEN ROWS OF THIS SEAT. 3 by the template 'for every input the law returns true; each argument reads behind the call as it read before'; 0 by the template 'total and deterministic' (their statements: YtmghdgkdnacinaaDoorTotals.lean).
  GIVEN WITH THE SEED: the statements are not yours to turn. If you find one false, say at which input.
  Laid BY PROGRAM, IN A SANDBOX (cutbox-rows.mjs): the forced cells as the released guide's own fill.sh prints them over the translation 267ecbda23e11c78… (all of the seat's roots in one cut). By AI agents, Wed Nov 11 2026. No macro, syntax, notation, axiom, sorry.
-/
import Derived.Test.YtmghdgkdnacinaaDoorChecked
import GoSem.Claim
import GoSem.ClaimJoined
import GoSem.ClaimMapViews
import Derived.JoinedTies
import Derived.KernelRfl
namespace Go.Proofs.YtmghdgkdnacinaaDoor
/- THE CELL 'sum', in the pinned program and in every row, IS THE sha256 OF THE DUMP (.gsa) THAT YtmghdgkdnacinaaDoorProg.lean LOADS. Nothing in Lean hashes anything: it is a label: what it is worth is what the hold of that sum in a sandbox is worth. -/
noncomputable def Tryd.pinned : Pinned := { name := "ytmghdgkdnacinaadoor", sum := "267ecbda23e11c784e66cbb4eb0594189e47c6d7c4245a4dd5c889dd78510a01", checked := Tryd.checked }
namespace Rows
def none {H : Type} : Left H := { results := [], args := [] }

/- WHAT THE LISTED PACKAGE-LEVEL VARIABLES READ AS WHEN THE CALL BEGINS. Each datum BY PROGRAM (the guide's laid-datum.mjs) off the statement by which the dump's own 'gosem.cut.vars' lays the variable. In a bare row this is a premise. The card (YtmghdgkdnacinaaDoorCards.lean) ties it to the program's text. -/
def laid_palanquin_ipip_versions {H : Type} : DataW H := .agg [.agg [.lit (.int .i64 4), .lit (.int .i64 4), .lit (.int .i64 2048)], .agg [.lit (.int .i64 6), .lit (.int .i64 41), .lit (.int .i64 34525)]]
def laid_palanquin_flow_places {H : Type} : DataW H := .agg [.agg [.lit (.int .i64 6), .lit (.int .i64 20), .lit (.int .i64 16), .lit (.int .i64 0)], .agg [.lit (.int .i64 17), .lit (.int .i64 8), .lit (.int .i64 6), .lit (.int .i64 65535)]]

/-- 'palanquinlaw14.TunnelBack': WHATEVER THE INPUT: true; the input reads as it did. -/
def tunnelBackSpec : ChangeSpec := { name := "tunnelBack", fn := fun _ => fun
  | [d1, d2, d3] => { results := [.lit (.bool true)], args := [d1, d2, d3] }
  | _ => none }
def tunnelBackRow : OpenClaim := { program := "ytmghdgkdnacinaadoor", sum := "267ecbda23e11c784e66cbb4eb0594189e47c6d7c4245a4dd5c889dd78510a01", func := "palanquin/palanquinlaw14.TunnelBack", spec := "tunnelBack", unfollowed := true, recurses := true, named := ["palanquin/ipip.versions", "palanquin/flow.places"], apart := false, laid := [("palanquin/ipip.versions", laid_palanquin_ipip_versions), ("palanquin/flow.places", laid_palanquin_flow_places)] }
def TunnelBackSaid : Prop := tunnelBackRow.holds Tryd.pinned (OpenSpec.ofChange tunnelBackSpec)

/-- ITS FALSE NEIGHBOUR: 'it returns false'. Refute it at one input. -/
def tunnelBackWrong : ChangeSpec := { name := "tunnelBack", fn := fun _ => fun
  | [d1, d2, d3] => { results := [.lit (.bool false)], args := [d1, d2, d3] }
  | _ => none }
def TunnelBackWrongFalsely : Prop := tunnelBackRow.holds Tryd.pinned (OpenSpec.ofChange tunnelBackWrong)

/-- 'palanquinlaw14.TunnelFields': WHATEVER THE INPUT: true; the input reads as it did. -/
def tunnelFieldsSpec : ChangeSpec := { name := "tunnelFields", fn := fun _ => fun
  | [d1, d2, d3, d4, d5, d6] => { results := [.lit (.bool true)], args := [d1, d2, d3, d4, d5, d6] }
  | _ => none }
def tunnelFieldsRow : OpenClaim := { program := "ytmghdgkdnacinaadoor", sum := "267ecbda23e11c784e66cbb4eb0594189e47c6d7c4245a4dd5c889dd78510a01", func := "palanquin/palanquinlaw14.TunnelFields", spec := "tunnelFields", unfollowed := true, recurses := true, named := ["palanquin/ipip.versions", "palanquin/flow.places"], apart := false, laid := [("palanquin/ipip.versions", laid_palanquin_ipip_versions), ("palanquin/flow.places", laid_palanquin_flow_places)] }
def TunnelFieldsSaid : Prop := tunnelFieldsRow.holds Tryd.pinned (OpenSpec.ofChange tunnelFieldsSpec)

/-- ITS FALSE NEIGHBOUR: 'it returns false'. Refute it at one input. -/
def tunnelFieldsWrong : ChangeSpec := { name := "tunnelFields", fn := fun _ => fun
  | [d1, d2, d3, d4, d5, d6] => { results := [.lit (.bool false)], args := [d1, d2, d3, d4, d5, d6] }
  | _ => none }
def TunnelFieldsWrongFalsely : Prop := tunnelFieldsRow.holds Tryd.pinned (OpenSpec.ofChange tunnelFieldsWrong)

/-- 'palanquinlaw14.TunnelBits': WHATEVER THE INPUT: true; the input reads as it did. -/
def tunnelBitsSpec : ChangeSpec := { name := "tunnelBits", fn := fun _ => fun
  | [d1, d2, d3] => { results := [.lit (.bool true)], args := [d1, d2, d3] }
  | _ => none }
def tunnelBitsRow : OpenClaim := { program := "ytmghdgkdnacinaadoor", sum := "267ecbda23e11c784e66cbb4eb0594189e47c6d7c4245a4dd5c889dd78510a01", func := "palanquin/palanquinlaw14.TunnelBits", spec := "tunnelBits", unfollowed := true, recurses := true, named := ["palanquin/ipip.versions", "palanquin/flow.places"], apart := false, laid := [("palanquin/ipip.versions", laid_palanquin_ipip_versions), ("palanquin/flow.places", laid_palanquin_flow_places)] }
def TunnelBitsSaid : Prop := tunnelBitsRow.holds Tryd.pinned (OpenSpec.ofChange tunnelBitsSpec)

/-- ITS FALSE NEIGHBOUR: 'it returns false'. Refute it at one input. -/
def tunnelBitsWrong : ChangeSpec := { name := "tunnelBits", fn := fun _ => fun
  | [d1, d2, d3] => { results := [.lit (.bool false)], args := [d1, d2, d3] }
  | _ => none }
def TunnelBitsWrongFalsely : Prop := tunnelBitsRow.holds Tryd.pinned (OpenSpec.ofChange tunnelBitsWrong)

/- THE SECOND FORM. 'bulk': how many values and letters a reading holds, each counted each time it is reached (what is shared counts as often as it is met; a slice's spare places count too). A statement '..UptoSaid' is the law's where the arguments, and the package variables that the reading takes, are together of bulk at most 1048576: NARROWER than '..Said'. Prove '..Said' where nothing that the law and all that it calls make is longer than what came in: it says more and counts as full. Else prove '..UptoSaid'. A law counts once. -/
mutual
def uptoBulk {H : Type} : DataW H → Nat
  | .lit (.string bytes) => bytes.length + 1
  | .lit _ => 1
  | .nil => 1
  | .ptr d => uptoBulk d + 1
  | .slice elems spare => uptoBulkAll elems + uptoBulkAll spare + 1
  | .agg parts => uptoBulkAll parts + 1
  | .iface _ d => uptoBulk d + 1
  | .map entries => uptoBulkEntries entries + 1
  | .held _ => 1
def uptoBulkAll {H : Type} : List (DataW H) → Nat
  | [] => 0
  | d :: r => uptoBulk d + uptoBulkAll r
def uptoBulkEntries {H : Type} : List (Lit × DataW H) → Nat
  | [] => 0
  | x :: r => uptoBulkEntry x + uptoBulkEntries r
def uptoBulkEntry {H : Type} : Lit × DataW H → Nat
  | (.string bytes, d) => bytes.length + uptoBulk d + 1
  | (_, d) => uptoBulk d + 1
 end
def uptoSmall : (H : Type) → List (DataW H) → Bool := fun _ ds => decide (uptoBulkAll ds ≤ 1048576)
def OpenSpec.upto (s : _root_.Go.ChangeSpec) : _root_.Go.OpenSpec := { _root_.Go.OpenSpec.ofChange s with cond := some uptoSmall }

/-- 'palanquinlaw14.TunnelBack', WHERE WHAT IT READS IS OF BULK AT MOST 1048576: true; the input reads as it did. -/
def tunnelBackUptoRow : OpenClaim := { program := "ytmghdgkdnacinaadoor", sum := "267ecbda23e11c784e66cbb4eb0594189e47c6d7c4245a4dd5c889dd78510a01", func := "palanquin/palanquinlaw14.TunnelBack", spec := "tunnelBack", unfollowed := true, recurses := true, named := ["palanquin/ipip.versions", "palanquin/flow.places"], apart := false, laid := [("palanquin/ipip.versions", laid_palanquin_ipip_versions), ("palanquin/flow.places", laid_palanquin_flow_places)], narrowed := true }
def TunnelBackUptoSaid : Prop := tunnelBackUptoRow.holds Tryd.pinned (OpenSpec.upto tunnelBackSpec)

/-- 'palanquinlaw14.TunnelFields', WHERE WHAT IT READS IS OF BULK AT MOST 1048576: true; the input reads as it did. -/
def tunnelFieldsUptoRow : OpenClaim := { program := "ytmghdgkdnacinaadoor", sum := "267ecbda23e11c784e66cbb4eb0594189e47c6d7c4245a4dd5c889dd78510a01", func := "palanquin/palanquinlaw14.TunnelFields", spec := "tunnelFields", unfollowed := true, recurses := true, named := ["palanquin/ipip.versions", "palanquin/flow.places"], apart := false, laid := [("palanquin/ipip.versions", laid_palanquin_ipip_versions), ("palanquin/flow.places", laid_palanquin_flow_places)], narrowed := true }
def TunnelFieldsUptoSaid : Prop := tunnelFieldsUptoRow.holds Tryd.pinned (OpenSpec.upto tunnelFieldsSpec)

/-- 'palanquinlaw14.TunnelBits', WHERE WHAT IT READS IS OF BULK AT MOST 1048576: true; the input reads as it did. -/
def tunnelBitsUptoRow : OpenClaim := { program := "ytmghdgkdnacinaadoor", sum := "267ecbda23e11c784e66cbb4eb0594189e47c6d7c4245a4dd5c889dd78510a01", func := "palanquin/palanquinlaw14.TunnelBits", spec := "tunnelBits", unfollowed := true, recurses := true, named := ["palanquin/ipip.versions", "palanquin/flow.places"], apart := false, laid := [("palanquin/ipip.versions", laid_palanquin_ipip_versions), ("palanquin/flow.places", laid_palanquin_flow_places)], narrowed := true }
def TunnelBitsUptoSaid : Prop := tunnelBitsUptoRow.holds Tryd.pinned (OpenSpec.upto tunnelBitsSpec)

end Rows
end Go.Proofs.YtmghdgkdnacinaaDoor
