/-
  NARROWER THAN 'FOR EVERY INPUT', by the rows' own cells (each row's printed sentence says how): GueTells: laid · GueBack: laid · GueSums: laid · GuePorts: laid.
  DERIVED. THE GIVEN ROWS OF THIS SEAT. 4 by the template 'for every input the law returns true; each argument reads behind the call as it read before'; 0 by the template 'total and deterministic' (their statements: YtbfcccfgphelhaaDoorTotals.lean).
  GIVEN WITH THE SEED: the statements are not yours to turn. If you find one false, say at which input.
  Laid BY PROGRAM, IN A SANDBOX (cutbox-rows.mjs): the forced cells as the released guide's own fill.sh prints them over the translation f3d61e0aeb6fa308… (all of the seat's roots in one cut). By AI agents, Wed Nov 11 2026. No macro, syntax, notation, axiom, sorry.
-/
import Derived.Test.YtbfcccfgphelhaaDoorChecked
import GoSem.Claim
import GoSem.ClaimJoined
import GoSem.ClaimMapViews
import Derived.JoinedTies
import Derived.KernelRfl
namespace Go.Proofs.YtbfcccfgphelhaaDoor
/- THE CELL 'sum', in the pinned program and in every row, IS THE sha256 OF THE DUMP (.gsa) THAT YtbfcccfgphelhaaDoorProg.lean LOADS. Nothing in Lean hashes anything: it is a label: what it is worth is what the hold of that sum in a sandbox is worth. -/
noncomputable def Tryd.pinned : Pinned := { name := "ytbfcccfgphelhaadoor", sum := "f3d61e0aeb6fa3087fed430e52d50923955d37b0972a894b1dc3bfe30de9a653", checked := Tryd.checked }
namespace Rows
def none {H : Type} : Left H := { results := [], args := [] }

/- WHAT THE LISTED PACKAGE-LEVEL VARIABLES READ AS WHEN THE CALL BEGINS. Each datum BY PROGRAM (the guide's laid-datum.mjs) off the statement by which the dump's own 'gosem.cut.vars' lays the variable. In a bare row this is a premise. The card (YtbfcccfgphelhaaDoorCards.lean) ties it to the program's text. -/
def laid_palanquin_ipip_versions {H : Type} : DataW H := .agg [.agg [.lit (.int .i64 4), .lit (.int .i64 4), .lit (.int .i64 2048)], .agg [.lit (.int .i64 6), .lit (.int .i64 41), .lit (.int .i64 34525)]]
def laid_palanquin_flow_places {H : Type} : DataW H := .agg [.agg [.lit (.int .i64 6), .lit (.int .i64 20), .lit (.int .i64 16), .lit (.int .i64 0)], .agg [.lit (.int .i64 17), .lit (.int .i64 8), .lit (.int .i64 6), .lit (.int .i64 65535)]]

/-- 'palanquinlaw13.GueTells': WHATEVER THE INPUT: true; the input reads as it did. -/
def gueTellsSpec : ChangeSpec := { name := "gueTells", fn := fun _ => fun
  | [d1, d2, d3, d4, d5, d6] => { results := [.lit (.bool true)], args := [d1, d2, d3, d4, d5, d6] }
  | _ => none }
def gueTellsRow : OpenClaim := { program := "ytbfcccfgphelhaadoor", sum := "f3d61e0aeb6fa3087fed430e52d50923955d37b0972a894b1dc3bfe30de9a653", func := "palanquin/palanquinlaw13.GueTells", spec := "gueTells", unfollowed := true, recurses := true, named := ["palanquin/ipip.versions", "palanquin/flow.places"], apart := false, laid := [("palanquin/ipip.versions", laid_palanquin_ipip_versions), ("palanquin/flow.places", laid_palanquin_flow_places)] }
def GueTellsSaid : Prop := gueTellsRow.holds Tryd.pinned (OpenSpec.ofChange gueTellsSpec)

/-- ITS FALSE NEIGHBOUR: 'it returns false'. Refute it at one input. -/
def gueTellsWrong : ChangeSpec := { name := "gueTells", fn := fun _ => fun
  | [d1, d2, d3, d4, d5, d6] => { results := [.lit (.bool false)], args := [d1, d2, d3, d4, d5, d6] }
  | _ => none }
def GueTellsWrongFalsely : Prop := gueTellsRow.holds Tryd.pinned (OpenSpec.ofChange gueTellsWrong)

/-- 'palanquinlaw13.GueBack': WHATEVER THE INPUT: true; the input reads as it did. -/
def gueBackSpec : ChangeSpec := { name := "gueBack", fn := fun _ => fun
  | [d1, d2, d3, d4, d5, d6] => { results := [.lit (.bool true)], args := [d1, d2, d3, d4, d5, d6] }
  | _ => none }
def gueBackRow : OpenClaim := { program := "ytbfcccfgphelhaadoor", sum := "f3d61e0aeb6fa3087fed430e52d50923955d37b0972a894b1dc3bfe30de9a653", func := "palanquin/palanquinlaw13.GueBack", spec := "gueBack", unfollowed := true, recurses := true, named := ["palanquin/ipip.versions", "palanquin/flow.places"], apart := false, laid := [("palanquin/ipip.versions", laid_palanquin_ipip_versions), ("palanquin/flow.places", laid_palanquin_flow_places)] }
def GueBackSaid : Prop := gueBackRow.holds Tryd.pinned (OpenSpec.ofChange gueBackSpec)

/-- ITS FALSE NEIGHBOUR: 'it returns false'. Refute it at one input. -/
def gueBackWrong : ChangeSpec := { name := "gueBack", fn := fun _ => fun
  | [d1, d2, d3, d4, d5, d6] => { results := [.lit (.bool false)], args := [d1, d2, d3, d4, d5, d6] }
  | _ => none }
def GueBackWrongFalsely : Prop := gueBackRow.holds Tryd.pinned (OpenSpec.ofChange gueBackWrong)

/-- 'palanquinlaw13.GueSums': WHATEVER THE INPUT: true; the input reads as it did. -/
def gueSumsSpec : ChangeSpec := { name := "gueSums", fn := fun _ => fun
  | [d1, d2, d3] => { results := [.lit (.bool true)], args := [d1, d2, d3] }
  | _ => none }
def gueSumsRow : OpenClaim := { program := "ytbfcccfgphelhaadoor", sum := "f3d61e0aeb6fa3087fed430e52d50923955d37b0972a894b1dc3bfe30de9a653", func := "palanquin/palanquinlaw13.GueSums", spec := "gueSums", unfollowed := true, recurses := true, named := ["palanquin/ipip.versions", "palanquin/flow.places"], apart := false, laid := [("palanquin/ipip.versions", laid_palanquin_ipip_versions), ("palanquin/flow.places", laid_palanquin_flow_places)] }
def GueSumsSaid : Prop := gueSumsRow.holds Tryd.pinned (OpenSpec.ofChange gueSumsSpec)

/-- ITS FALSE NEIGHBOUR: 'it returns false'. Refute it at one input. -/
def gueSumsWrong : ChangeSpec := { name := "gueSums", fn := fun _ => fun
  | [d1, d2, d3] => { results := [.lit (.bool false)], args := [d1, d2, d3] }
  | _ => none }
def GueSumsWrongFalsely : Prop := gueSumsRow.holds Tryd.pinned (OpenSpec.ofChange gueSumsWrong)

/-- 'palanquinlaw13.GuePorts': WHATEVER THE INPUT: true; the input reads as it did. -/
def guePortsSpec : ChangeSpec := { name := "guePorts", fn := fun _ => fun
  | [d1, d2, d3, d4, d5, d6] => { results := [.lit (.bool true)], args := [d1, d2, d3, d4, d5, d6] }
  | _ => none }
def guePortsRow : OpenClaim := { program := "ytbfcccfgphelhaadoor", sum := "f3d61e0aeb6fa3087fed430e52d50923955d37b0972a894b1dc3bfe30de9a653", func := "palanquin/palanquinlaw13.GuePorts", spec := "guePorts", unfollowed := true, recurses := true, named := ["palanquin/ipip.versions", "palanquin/flow.places"], apart := false, laid := [("palanquin/ipip.versions", laid_palanquin_ipip_versions), ("palanquin/flow.places", laid_palanquin_flow_places)] }
def GuePortsSaid : Prop := guePortsRow.holds Tryd.pinned (OpenSpec.ofChange guePortsSpec)

/-- ITS FALSE NEIGHBOUR: 'it returns false'. Refute it at one input. -/
def guePortsWrong : ChangeSpec := { name := "guePorts", fn := fun _ => fun
  | [d1, d2, d3, d4, d5, d6] => { results := [.lit (.bool false)], args := [d1, d2, d3, d4, d5, d6] }
  | _ => none }
def GuePortsWrongFalsely : Prop := guePortsRow.holds Tryd.pinned (OpenSpec.ofChange guePortsWrong)

/- THE SECOND FORM. 'bulk': how many values and letters a reading holds, each counted each time it is reached (what is shared counts as often as it is met; a slice's spare places count too). A statement '..UptoSaid' is the law's where the arguments, and the package variables that the reading takes, are together of bulk at most 1048576: NARROWER than '..Said'. Prove '..Said' where nothing that the law and all that it calls make is longer than what came in: it says more and counts as full. Else prove '..UptoSaid'. A law counts once. -/
mutual
def uptoBulk {H : Type} : DataW H → Nat
  | .lit (.string bytes) => bytes.length + 1
  | .lit _ => 1
  | .nil => 1
  | .ptr d => uptoBulk d + 1
  | .slice elems spare => uptoBulkAll elems + uptoBulkAll spare + 1
  | .agg parts => uptoBulkAll parts + 1
  | .iface _ d => uptoBulk d + 1
  | .map entries => uptoBulkEntries entries + 1
  | .held _ => 1
def uptoBulkAll {H : Type} : List (DataW H) → Nat
  | [] => 0
  | d :: r => uptoBulk d + uptoBulkAll r
def uptoBulkEntries {H : Type} : List (Lit × DataW H) → Nat
  | [] => 0
  | x :: r => uptoBulkEntry x + uptoBulkEntries r
def uptoBulkEntry {H : Type} : Lit × DataW H → Nat
  | (.string bytes, d) => bytes.length + uptoBulk d + 1
  | (_, d) => uptoBulk d + 1
 end
def uptoSmall : (H : Type) → List (DataW H) → Bool := fun _ ds => decide (uptoBulkAll ds ≤ 1048576)
def OpenSpec.upto (s : _root_.Go.ChangeSpec) : _root_.Go.OpenSpec := { _root_.Go.OpenSpec.ofChange s with cond := some uptoSmall }

/-- 'palanquinlaw13.GueTells', WHERE WHAT IT READS IS OF BULK AT MOST 1048576: true; the input reads as it did. -/
def gueTellsUptoRow : OpenClaim := { program := "ytbfcccfgphelhaadoor", sum := "f3d61e0aeb6fa3087fed430e52d50923955d37b0972a894b1dc3bfe30de9a653", func := "palanquin/palanquinlaw13.GueTells", spec := "gueTells", unfollowed := true, recurses := true, named := ["palanquin/ipip.versions", "palanquin/flow.places"], apart := false, laid := [("palanquin/ipip.versions", laid_palanquin_ipip_versions), ("palanquin/flow.places", laid_palanquin_flow_places)], narrowed := true }
def GueTellsUptoSaid : Prop := gueTellsUptoRow.holds Tryd.pinned (OpenSpec.upto gueTellsSpec)

/-- 'palanquinlaw13.GueBack', WHERE WHAT IT READS IS OF BULK AT MOST 1048576: true; the input reads as it did. -/
def gueBackUptoRow : OpenClaim := { program := "ytbfcccfgphelhaadoor", sum := "f3d61e0aeb6fa3087fed430e52d50923955d37b0972a894b1dc3bfe30de9a653", func := "palanquin/palanquinlaw13.GueBack", spec := "gueBack", unfollowed := true, recurses := true, named := ["palanquin/ipip.versions", "palanquin/flow.places"], apart := false, laid := [("palanquin/ipip.versions", laid_palanquin_ipip_versions), ("palanquin/flow.places", laid_palanquin_flow_places)], narrowed := true }
def GueBackUptoSaid : Prop := gueBackUptoRow.holds Tryd.pinned (OpenSpec.upto gueBackSpec)

/-- 'palanquinlaw13.GueSums', WHERE WHAT IT READS IS OF BULK AT MOST 1048576: true; the input reads as it did. -/
def gueSumsUptoRow : OpenClaim := { program := "ytbfcccfgphelhaadoor", sum := "f3d61e0aeb6fa3087fed430e52d50923955d37b0972a894b1dc3bfe30de9a653", func := "palanquin/palanquinlaw13.GueSums", spec := "gueSums", unfollowed := true, recurses := true, named := ["palanquin/ipip.versions", "palanquin/flow.places"], apart := false, laid := [("palanquin/ipip.versions", laid_palanquin_ipip_versions), ("palanquin/flow.places", laid_palanquin_flow_places)], narrowed := true }
def GueSumsUptoSaid : Prop := gueSumsUptoRow.holds Tryd.pinned (OpenSpec.upto gueSumsSpec)

/-- 'palanquinlaw13.GuePorts', WHERE WHAT IT READS IS OF BULK AT MOST 1048576: true; the input reads as it did. -/
def guePortsUptoRow : OpenClaim := { program := "ytbfcccfgphelhaadoor", sum := "f3d61e0aeb6fa3087fed430e52d50923955d37b0972a894b1dc3bfe30de9a653", func := "palanquin/palanquinlaw13.GuePorts", spec := "guePorts", unfollowed := true, recurses := true, named := ["palanquin/ipip.versions", "palanquin/flow.places"], apart := false, laid := [("palanquin/ipip.versions", laid_palanquin_ipip_versions), ("palanquin/flow.places", laid_palanquin_flow_places)], narrowed := true }
def GuePortsUptoSaid : Prop := guePortsUptoRow.holds Tryd.pinned (OpenSpec.upto guePortsSpec)

end Rows
end Go.Proofs.YtbfcccfgphelhaaDoor
