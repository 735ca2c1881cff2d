/-
  NARROWER THAN 'FOR EVERY INPUT', by the rows' own cells (each row's printed sentence says how): GreTells: laid · GreBack: laid · GreSums: laid · GreParts: laid.
  DERIVED. THE GIVEN ROWS OF THIS SEAT. 4 by the template 'for every input the law returns true; each argument reads behind the call as it read before'; 0 by the template 'total and deterministic' (their statements: YtnlpbnipfglhhaaDoorTotals.lean).
  GIVEN WITH THE SEED: the statements are not yours to turn. If you find one false, say at which input.
  Laid BY PROGRAM, IN A SANDBOX (cutbox-rows.mjs): the forced cells as the released guide's own fill.sh prints them over the translation b6caabd27f52be63… (all of the seat's roots in one cut). By AI agents, Wed Nov 11 2026. No macro, syntax, notation, axiom, sorry.
-/
import Derived.Test.YtnlpbnipfglhhaaDoorChecked
import GoSem.Claim
import GoSem.ClaimJoined
import GoSem.ClaimMapViews
import Derived.JoinedTies
import Derived.KernelRfl
namespace Go.Proofs.YtnlpbnipfglhhaaDoor
/- THE CELL 'sum', in the pinned program and in every row, IS THE sha256 OF THE DUMP (.gsa) THAT YtnlpbnipfglhhaaDoorProg.lean LOADS. Nothing in Lean hashes anything: it is a label: what it is worth is what the hold of that sum in a sandbox is worth. -/
noncomputable def Tryd.pinned : Pinned := { name := "ytnlpbnipfglhhaadoor", sum := "b6caabd27f52be639cab48d59c022d18a6ba1ec518436bd562a1ecf8cc123c3c", checked := Tryd.checked }
namespace Rows
def none {H : Type} : Left H := { results := [], args := [] }

/- WHAT THE LISTED PACKAGE-LEVEL VARIABLES READ AS WHEN THE CALL BEGINS. Each datum BY PROGRAM (the guide's laid-datum.mjs) off the statement by which the dump's own 'gosem.cut.vars' lays the variable. In a bare row this is a premise. The card (YtnlpbnipfglhhaaDoorCards.lean) ties it to the program's text. -/
def laid_palanquin_ipip_versions {H : Type} : DataW H := .agg [.agg [.lit (.int .i64 4), .lit (.int .i64 4), .lit (.int .i64 2048)], .agg [.lit (.int .i64 6), .lit (.int .i64 41), .lit (.int .i64 34525)]]

/-- 'palanquinlaw12.GreTells': WHATEVER THE INPUT: true; the input reads as it did. -/
def greTellsSpec : ChangeSpec := { name := "greTells", fn := fun _ => fun
  | [d1, d2, d3, d4, d5] => { results := [.lit (.bool true)], args := [d1, d2, d3, d4, d5] }
  | _ => none }
def greTellsRow : OpenClaim := { program := "ytnlpbnipfglhhaadoor", sum := "b6caabd27f52be639cab48d59c022d18a6ba1ec518436bd562a1ecf8cc123c3c", func := "palanquin/palanquinlaw12.GreTells", spec := "greTells", unfollowed := true, recurses := true, named := ["palanquin/ipip.versions"], apart := false, laid := [("palanquin/ipip.versions", laid_palanquin_ipip_versions)] }
def GreTellsSaid : Prop := greTellsRow.holds Tryd.pinned (OpenSpec.ofChange greTellsSpec)

/-- ITS FALSE NEIGHBOUR: 'it returns false'. Refute it at one input. -/
def greTellsWrong : ChangeSpec := { name := "greTells", fn := fun _ => fun
  | [d1, d2, d3, d4, d5] => { results := [.lit (.bool false)], args := [d1, d2, d3, d4, d5] }
  | _ => none }
def GreTellsWrongFalsely : Prop := greTellsRow.holds Tryd.pinned (OpenSpec.ofChange greTellsWrong)

/-- 'palanquinlaw12.GreBack': WHATEVER THE INPUT: true; the input reads as it did. -/
def greBackSpec : ChangeSpec := { name := "greBack", fn := fun _ => fun
  | [d1, d2, d3, d4, d5] => { results := [.lit (.bool true)], args := [d1, d2, d3, d4, d5] }
  | _ => none }
def greBackRow : OpenClaim := { program := "ytnlpbnipfglhhaadoor", sum := "b6caabd27f52be639cab48d59c022d18a6ba1ec518436bd562a1ecf8cc123c3c", func := "palanquin/palanquinlaw12.GreBack", spec := "greBack", unfollowed := true, recurses := true, named := ["palanquin/ipip.versions"], apart := false, laid := [("palanquin/ipip.versions", laid_palanquin_ipip_versions)] }
def GreBackSaid : Prop := greBackRow.holds Tryd.pinned (OpenSpec.ofChange greBackSpec)

/-- ITS FALSE NEIGHBOUR: 'it returns false'. Refute it at one input. -/
def greBackWrong : ChangeSpec := { name := "greBack", fn := fun _ => fun
  | [d1, d2, d3, d4, d5] => { results := [.lit (.bool false)], args := [d1, d2, d3, d4, d5] }
  | _ => none }
def GreBackWrongFalsely : Prop := greBackRow.holds Tryd.pinned (OpenSpec.ofChange greBackWrong)

/-- 'palanquinlaw12.GreSums': WHATEVER THE INPUT: true; the input reads as it did. -/
def greSumsSpec : ChangeSpec := { name := "greSums", fn := fun _ => fun
  | [d1, d2, d3, d4] => { results := [.lit (.bool true)], args := [d1, d2, d3, d4] }
  | _ => none }
def greSumsRow : OpenClaim := { program := "ytnlpbnipfglhhaadoor", sum := "b6caabd27f52be639cab48d59c022d18a6ba1ec518436bd562a1ecf8cc123c3c", func := "palanquin/palanquinlaw12.GreSums", spec := "greSums", unfollowed := true, recurses := true, named := ["palanquin/ipip.versions"], apart := false, laid := [("palanquin/ipip.versions", laid_palanquin_ipip_versions)] }
def GreSumsSaid : Prop := greSumsRow.holds Tryd.pinned (OpenSpec.ofChange greSumsSpec)

/-- ITS FALSE NEIGHBOUR: 'it returns false'. Refute it at one input. -/
def greSumsWrong : ChangeSpec := { name := "greSums", fn := fun _ => fun
  | [d1, d2, d3, d4] => { results := [.lit (.bool false)], args := [d1, d2, d3, d4] }
  | _ => none }
def GreSumsWrongFalsely : Prop := greSumsRow.holds Tryd.pinned (OpenSpec.ofChange greSumsWrong)

/-- 'palanquinlaw12.GreParts': WHATEVER THE INPUT: true; the input reads as it did. -/
def grePartsSpec : ChangeSpec := { name := "greParts", fn := fun _ => fun
  | [d1, d2, d3] => { results := [.lit (.bool true)], args := [d1, d2, d3] }
  | _ => none }
def grePartsRow : OpenClaim := { program := "ytnlpbnipfglhhaadoor", sum := "b6caabd27f52be639cab48d59c022d18a6ba1ec518436bd562a1ecf8cc123c3c", func := "palanquin/palanquinlaw12.GreParts", spec := "greParts", unfollowed := true, recurses := true, named := ["palanquin/ipip.versions"], apart := false, laid := [("palanquin/ipip.versions", laid_palanquin_ipip_versions)] }
def GrePartsSaid : Prop := grePartsRow.holds Tryd.pinned (OpenSpec.ofChange grePartsSpec)

/-- ITS FALSE NEIGHBOUR: 'it returns false'. Refute it at one input. -/
def grePartsWrong : ChangeSpec := { name := "greParts", fn := fun _ => fun
  | [d1, d2, d3] => { results := [.lit (.bool false)], args := [d1, d2, d3] }
  | _ => none }
def GrePartsWrongFalsely : Prop := grePartsRow.holds Tryd.pinned (OpenSpec.ofChange grePartsWrong)

/- THE SECOND FORM. 'bulk': how many values and letters a reading holds, each counted each time it is reached (what is shared counts as often as it is met; a slice's spare places count too). A statement '..UptoSaid' is the law's where the arguments, and the package variables that the reading takes, are together of bulk at most 1048576: NARROWER than '..Said'. Prove '..Said' where nothing that the law and all that it calls make is longer than what came in: it says more and counts as full. Else prove '..UptoSaid'. A law counts once. -/
mutual
def uptoBulk {H : Type} : DataW H → Nat
  | .lit (.string bytes) => bytes.length + 1
  | .lit _ => 1
  | .nil => 1
  | .ptr d => uptoBulk d + 1
  | .slice elems spare => uptoBulkAll elems + uptoBulkAll spare + 1
  | .agg parts => uptoBulkAll parts + 1
  | .iface _ d => uptoBulk d + 1
  | .map entries => uptoBulkEntries entries + 1
  | .held _ => 1
def uptoBulkAll {H : Type} : List (DataW H) → Nat
  | [] => 0
  | d :: r => uptoBulk d + uptoBulkAll r
def uptoBulkEntries {H : Type} : List (Lit × DataW H) → Nat
  | [] => 0
  | x :: r => uptoBulkEntry x + uptoBulkEntries r
def uptoBulkEntry {H : Type} : Lit × DataW H → Nat
  | (.string bytes, d) => bytes.length + uptoBulk d + 1
  | (_, d) => uptoBulk d + 1
 end
def uptoSmall : (H : Type) → List (DataW H) → Bool := fun _ ds => decide (uptoBulkAll ds ≤ 1048576)
def OpenSpec.upto (s : _root_.Go.ChangeSpec) : _root_.Go.OpenSpec := { _root_.Go.OpenSpec.ofChange s with cond := some uptoSmall }

/-- 'palanquinlaw12.GreTells', WHERE WHAT IT READS IS OF BULK AT MOST 1048576: true; the input reads as it did. -/
def greTellsUptoRow : OpenClaim := { program := "ytnlpbnipfglhhaadoor", sum := "b6caabd27f52be639cab48d59c022d18a6ba1ec518436bd562a1ecf8cc123c3c", func := "palanquin/palanquinlaw12.GreTells", spec := "greTells", unfollowed := true, recurses := true, named := ["palanquin/ipip.versions"], apart := false, laid := [("palanquin/ipip.versions", laid_palanquin_ipip_versions)], narrowed := true }
def GreTellsUptoSaid : Prop := greTellsUptoRow.holds Tryd.pinned (OpenSpec.upto greTellsSpec)

/-- 'palanquinlaw12.GreBack', WHERE WHAT IT READS IS OF BULK AT MOST 1048576: true; the input reads as it did. -/
def greBackUptoRow : OpenClaim := { program := "ytnlpbnipfglhhaadoor", sum := "b6caabd27f52be639cab48d59c022d18a6ba1ec518436bd562a1ecf8cc123c3c", func := "palanquin/palanquinlaw12.GreBack", spec := "greBack", unfollowed := true, recurses := true, named := ["palanquin/ipip.versions"], apart := false, laid := [("palanquin/ipip.versions", laid_palanquin_ipip_versions)], narrowed := true }
def GreBackUptoSaid : Prop := greBackUptoRow.holds Tryd.pinned (OpenSpec.upto greBackSpec)

/-- 'palanquinlaw12.GreSums', WHERE WHAT IT READS IS OF BULK AT MOST 1048576: true; the input reads as it did. -/
def greSumsUptoRow : OpenClaim := { program := "ytnlpbnipfglhhaadoor", sum := "b6caabd27f52be639cab48d59c022d18a6ba1ec518436bd562a1ecf8cc123c3c", func := "palanquin/palanquinlaw12.GreSums", spec := "greSums", unfollowed := true, recurses := true, named := ["palanquin/ipip.versions"], apart := false, laid := [("palanquin/ipip.versions", laid_palanquin_ipip_versions)], narrowed := true }
def GreSumsUptoSaid : Prop := greSumsUptoRow.holds Tryd.pinned (OpenSpec.upto greSumsSpec)

/-- 'palanquinlaw12.GreParts', WHERE WHAT IT READS IS OF BULK AT MOST 1048576: true; the input reads as it did. -/
def grePartsUptoRow : OpenClaim := { program := "ytnlpbnipfglhhaadoor", sum := "b6caabd27f52be639cab48d59c022d18a6ba1ec518436bd562a1ecf8cc123c3c", func := "palanquin/palanquinlaw12.GreParts", spec := "greParts", unfollowed := true, recurses := true, named := ["palanquin/ipip.versions"], apart := false, laid := [("palanquin/ipip.versions", laid_palanquin_ipip_versions)], narrowed := true }
def GrePartsUptoSaid : Prop := grePartsUptoRow.holds Tryd.pinned (OpenSpec.upto grePartsSpec)

end Rows
end Go.Proofs.YtnlpbnipfglhhaaDoor
