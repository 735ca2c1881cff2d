/-
  NARROWER THAN 'FOR EVERY INPUT', by the rows' own cells (each row's printed sentence says how): FlowBuilds: laid · FlowValid: laid · FlowSeals: laid.
  DERIVED. THE GIVEN ROWS OF THIS SEAT. 3 by the template 'for every input the law returns true; each argument reads behind the call as it read before'; 0 by the template 'total and deterministic' (their statements: YtimcjhekldnipaaDoorTotals.lean).
  GIVEN WITH THE SEED: the statements are not yours to turn. If you find one false, say at which input.
  Laid BY PROGRAM, IN A SANDBOX (cutbox-rows.mjs): the forced cells as the released guide's own fill.sh prints them over the translation 73509bc48b2b233d… (all of the seat's roots in one cut). By AI agents, Wed Nov 11 2026. No macro, syntax, notation, axiom, sorry.
-/
import Derived.Test.YtimcjhekldnipaaDoorChecked
import GoSem.Claim
import GoSem.ClaimJoined
import GoSem.ClaimMapViews
import Derived.JoinedTies
import Derived.KernelRfl
namespace Go.Proofs.YtimcjhekldnipaaDoor
/- THE CELL 'sum', in the pinned program and in every row, IS THE sha256 OF THE DUMP (.gsa) THAT YtimcjhekldnipaaDoorProg.lean LOADS. Nothing in Lean hashes anything: it is a label: what it is worth is what the hold of that sum in a sandbox is worth. -/
noncomputable def Tryd.pinned : Pinned := { name := "ytimcjhekldnipaadoor", sum := "73509bc48b2b233d7e92d674aff39059c13b81fef6e22bc355bbc60f741c1115", checked := Tryd.checked }
namespace Rows
def none {H : Type} : Left H := { results := [], args := [] }

/- WHAT THE LISTED PACKAGE-LEVEL VARIABLES READ AS WHEN THE CALL BEGINS. Each datum BY PROGRAM (the guide's laid-datum.mjs) off the statement by which the dump's own 'gosem.cut.vars' lays the variable. In a bare row this is a premise. The card (YtimcjhekldnipaaDoorCards.lean) ties it to the program's text. -/
def laid_palanquin_flow_places {H : Type} : DataW H := .agg [.agg [.lit (.int .i64 6), .lit (.int .i64 20), .lit (.int .i64 16), .lit (.int .i64 0)], .agg [.lit (.int .i64 17), .lit (.int .i64 8), .lit (.int .i64 6), .lit (.int .i64 65535)]]

/-- 'palanquinlaw09.FlowBuilds': WHATEVER THE INPUT: true; the input reads as it did. -/
def flowBuildsSpec : ChangeSpec := { name := "flowBuilds", fn := fun _ => fun
  | [d1, d2, d3, d4] => { results := [.lit (.bool true)], args := [d1, d2, d3, d4] }
  | _ => none }
def flowBuildsRow : OpenClaim := { program := "ytimcjhekldnipaadoor", sum := "73509bc48b2b233d7e92d674aff39059c13b81fef6e22bc355bbc60f741c1115", func := "palanquin/palanquinlaw09.FlowBuilds", spec := "flowBuilds", unfollowed := true, recurses := true, named := ["palanquin/flow.places"], apart := false, laid := [("palanquin/flow.places", laid_palanquin_flow_places)] }
def FlowBuildsSaid : Prop := flowBuildsRow.holds Tryd.pinned (OpenSpec.ofChange flowBuildsSpec)

/-- ITS FALSE NEIGHBOUR: 'it returns false'. Refute it at one input. -/
def flowBuildsWrong : ChangeSpec := { name := "flowBuilds", fn := fun _ => fun
  | [d1, d2, d3, d4] => { results := [.lit (.bool false)], args := [d1, d2, d3, d4] }
  | _ => none }
def FlowBuildsWrongFalsely : Prop := flowBuildsRow.holds Tryd.pinned (OpenSpec.ofChange flowBuildsWrong)

/-- 'palanquinlaw09.FlowValid': WHATEVER THE INPUT: true; the input reads as it did. -/
def flowValidSpec : ChangeSpec := { name := "flowValid", fn := fun _ => fun
  | [d1, d2, d3, d4, d5] => { results := [.lit (.bool true)], args := [d1, d2, d3, d4, d5] }
  | _ => none }
def flowValidRow : OpenClaim := { program := "ytimcjhekldnipaadoor", sum := "73509bc48b2b233d7e92d674aff39059c13b81fef6e22bc355bbc60f741c1115", func := "palanquin/palanquinlaw09.FlowValid", spec := "flowValid", unfollowed := true, recurses := true, named := ["palanquin/flow.places"], apart := false, laid := [("palanquin/flow.places", laid_palanquin_flow_places)] }
def FlowValidSaid : Prop := flowValidRow.holds Tryd.pinned (OpenSpec.ofChange flowValidSpec)

/-- ITS FALSE NEIGHBOUR: 'it returns false'. Refute it at one input. -/
def flowValidWrong : ChangeSpec := { name := "flowValid", fn := fun _ => fun
  | [d1, d2, d3, d4, d5] => { results := [.lit (.bool false)], args := [d1, d2, d3, d4, d5] }
  | _ => none }
def FlowValidWrongFalsely : Prop := flowValidRow.holds Tryd.pinned (OpenSpec.ofChange flowValidWrong)

/-- 'palanquinlaw09.FlowSeals': WHATEVER THE INPUT: true; the input reads as it did. -/
def flowSealsSpec : ChangeSpec := { name := "flowSeals", fn := fun _ => fun
  | [d1, d2, d3, d4] => { results := [.lit (.bool true)], args := [d1, d2, d3, d4] }
  | _ => none }
def flowSealsRow : OpenClaim := { program := "ytimcjhekldnipaadoor", sum := "73509bc48b2b233d7e92d674aff39059c13b81fef6e22bc355bbc60f741c1115", func := "palanquin/palanquinlaw09.FlowSeals", spec := "flowSeals", unfollowed := true, recurses := true, named := ["palanquin/flow.places"], apart := false, laid := [("palanquin/flow.places", laid_palanquin_flow_places)] }
def FlowSealsSaid : Prop := flowSealsRow.holds Tryd.pinned (OpenSpec.ofChange flowSealsSpec)

/-- ITS FALSE NEIGHBOUR: 'it returns false'. Refute it at one input. -/
def flowSealsWrong : ChangeSpec := { name := "flowSeals", fn := fun _ => fun
  | [d1, d2, d3, d4] => { results := [.lit (.bool false)], args := [d1, d2, d3, d4] }
  | _ => none }
def FlowSealsWrongFalsely : Prop := flowSealsRow.holds Tryd.pinned (OpenSpec.ofChange flowSealsWrong)

/- THE SECOND FORM. 'bulk': how many values and letters a reading holds, each counted each time it is reached (what is shared counts as often as it is met; a slice's spare places count too). A statement '..UptoSaid' is the law's where the arguments, and the package variables that the reading takes, are together of bulk at most 1048576: NARROWER than '..Said'. Prove '..Said' where nothing that the law and all that it calls make is longer than what came in: it says more and counts as full. Else prove '..UptoSaid'. A law counts once. -/
mutual
def uptoBulk {H : Type} : DataW H → Nat
  | .lit (.string bytes) => bytes.length + 1
  | .lit _ => 1
  | .nil => 1
  | .ptr d => uptoBulk d + 1
  | .slice elems spare => uptoBulkAll elems + uptoBulkAll spare + 1
  | .agg parts => uptoBulkAll parts + 1
  | .iface _ d => uptoBulk d + 1
  | .map entries => uptoBulkEntries entries + 1
  | .held _ => 1
def uptoBulkAll {H : Type} : List (DataW H) → Nat
  | [] => 0
  | d :: r => uptoBulk d + uptoBulkAll r
def uptoBulkEntries {H : Type} : List (Lit × DataW H) → Nat
  | [] => 0
  | x :: r => uptoBulkEntry x + uptoBulkEntries r
def uptoBulkEntry {H : Type} : Lit × DataW H → Nat
  | (.string bytes, d) => bytes.length + uptoBulk d + 1
  | (_, d) => uptoBulk d + 1
 end
def uptoSmall : (H : Type) → List (DataW H) → Bool := fun _ ds => decide (uptoBulkAll ds ≤ 1048576)
def OpenSpec.upto (s : _root_.Go.ChangeSpec) : _root_.Go.OpenSpec := { _root_.Go.OpenSpec.ofChange s with cond := some uptoSmall }

/-- 'palanquinlaw09.FlowBuilds', WHERE WHAT IT READS IS OF BULK AT MOST 1048576: true; the input reads as it did. -/
def flowBuildsUptoRow : OpenClaim := { program := "ytimcjhekldnipaadoor", sum := "73509bc48b2b233d7e92d674aff39059c13b81fef6e22bc355bbc60f741c1115", func := "palanquin/palanquinlaw09.FlowBuilds", spec := "flowBuilds", unfollowed := true, recurses := true, named := ["palanquin/flow.places"], apart := false, laid := [("palanquin/flow.places", laid_palanquin_flow_places)], narrowed := true }
def FlowBuildsUptoSaid : Prop := flowBuildsUptoRow.holds Tryd.pinned (OpenSpec.upto flowBuildsSpec)

/-- 'palanquinlaw09.FlowValid', WHERE WHAT IT READS IS OF BULK AT MOST 1048576: true; the input reads as it did. -/
def flowValidUptoRow : OpenClaim := { program := "ytimcjhekldnipaadoor", sum := "73509bc48b2b233d7e92d674aff39059c13b81fef6e22bc355bbc60f741c1115", func := "palanquin/palanquinlaw09.FlowValid", spec := "flowValid", unfollowed := true, recurses := true, named := ["palanquin/flow.places"], apart := false, laid := [("palanquin/flow.places", laid_palanquin_flow_places)], narrowed := true }
def FlowValidUptoSaid : Prop := flowValidUptoRow.holds Tryd.pinned (OpenSpec.upto flowValidSpec)

/-- 'palanquinlaw09.FlowSeals', WHERE WHAT IT READS IS OF BULK AT MOST 1048576: true; the input reads as it did. -/
def flowSealsUptoRow : OpenClaim := { program := "ytimcjhekldnipaadoor", sum := "73509bc48b2b233d7e92d674aff39059c13b81fef6e22bc355bbc60f741c1115", func := "palanquin/palanquinlaw09.FlowSeals", spec := "flowSeals", unfollowed := true, recurses := true, named := ["palanquin/flow.places"], apart := false, laid := [("palanquin/flow.places", laid_palanquin_flow_places)], narrowed := true }
def FlowSealsUptoSaid : Prop := flowSealsUptoRow.holds Tryd.pinned (OpenSpec.upto flowSealsSpec)

end Rows
end Go.Proofs.YtimcjhekldnipaaDoor
