/-
  NARROWER THAN 'FOR EVERY INPUT', by the rows' own cells (each row's printed sentence says how): IpipTells: laid · IpipBack: laid · IpipFirst: laid.
  DERIVED. THE GIVEN ROWS OF THIS SEAT. 3 by the template 'for every input the law returns true; each argument reads behind the call as it read before'; 0 by the template 'total and deterministic' (their statements: YthlhflokebachaaDoorTotals.lean).
  GIVEN WITH THE SEED: the statements are not yours to turn. If you find one false, say at which input.
  Laid BY PROGRAM, IN A SANDBOX (cutbox-rows.mjs): the forced cells as the released guide's own fill.sh prints them over the translation a2f410bfce00dc9e… (all of the seat's roots in one cut). By AI agents, Wed Nov 11 2026. No macro, syntax, notation, axiom, sorry.
-/
import Derived.Test.YthlhflokebachaaDoorChecked
import GoSem.Claim
import GoSem.ClaimJoined
import GoSem.ClaimMapViews
import Derived.JoinedTies
import Derived.KernelRfl
namespace Go.Proofs.YthlhflokebachaaDoor
/- THE CELL 'sum', in the pinned program and in every row, IS THE sha256 OF THE DUMP (.gsa) THAT YthlhflokebachaaDoorProg.lean LOADS. Nothing in Lean hashes anything: it is a label: what it is worth is what the hold of that sum in a sandbox is worth. -/
noncomputable def Tryd.pinned : Pinned := { name := "ythlhflokebachaadoor", sum := "a2f410bfce00dc9e1193e3e0d7642cf3fb03415969f654b8898dcc3bd7cb27ca", checked := Tryd.checked }
namespace Rows
def none {H : Type} : Left H := { results := [], args := [] }

/- WHAT THE LISTED PACKAGE-LEVEL VARIABLES READ AS WHEN THE CALL BEGINS. Each datum BY PROGRAM (the guide's laid-datum.mjs) off the statement by which the dump's own 'gosem.cut.vars' lays the variable. In a bare row this is a premise. The card (YthlhflokebachaaDoorCards.lean) ties it to the program's text. -/
def laid_palanquin_ipip_versions {H : Type} : DataW H := .agg [.agg [.lit (.int .i64 4), .lit (.int .i64 4), .lit (.int .i64 2048)], .agg [.lit (.int .i64 6), .lit (.int .i64 41), .lit (.int .i64 34525)]]

/-- 'palanquinlaw11.IpipTells': WHATEVER THE INPUT: true; the input reads as it did. -/
def ipipTellsSpec : ChangeSpec := { name := "ipipTells", fn := fun _ => fun
  | [d1, d2] => { results := [.lit (.bool true)], args := [d1, d2] }
  | _ => none }
def ipipTellsRow : OpenClaim := { program := "ythlhflokebachaadoor", sum := "a2f410bfce00dc9e1193e3e0d7642cf3fb03415969f654b8898dcc3bd7cb27ca", func := "palanquin/palanquinlaw11.IpipTells", spec := "ipipTells", named := ["palanquin/ipip.versions"], apart := false, laid := [("palanquin/ipip.versions", laid_palanquin_ipip_versions)] }
def IpipTellsSaid : Prop := ipipTellsRow.holds Tryd.pinned (OpenSpec.ofChange ipipTellsSpec)

/-- ITS FALSE NEIGHBOUR: 'it returns false'. Refute it at one input. -/
def ipipTellsWrong : ChangeSpec := { name := "ipipTells", fn := fun _ => fun
  | [d1, d2] => { results := [.lit (.bool false)], args := [d1, d2] }
  | _ => none }
def IpipTellsWrongFalsely : Prop := ipipTellsRow.holds Tryd.pinned (OpenSpec.ofChange ipipTellsWrong)

/-- 'palanquinlaw11.IpipBack': WHATEVER THE INPUT: true; the input reads as it did. -/
def ipipBackSpec : ChangeSpec := { name := "ipipBack", fn := fun _ => fun
  | [d1, d2] => { results := [.lit (.bool true)], args := [d1, d2] }
  | _ => none }
def ipipBackRow : OpenClaim := { program := "ythlhflokebachaadoor", sum := "a2f410bfce00dc9e1193e3e0d7642cf3fb03415969f654b8898dcc3bd7cb27ca", func := "palanquin/palanquinlaw11.IpipBack", spec := "ipipBack", named := ["palanquin/ipip.versions"], apart := false, laid := [("palanquin/ipip.versions", laid_palanquin_ipip_versions)] }
def IpipBackSaid : Prop := ipipBackRow.holds Tryd.pinned (OpenSpec.ofChange ipipBackSpec)

/-- ITS FALSE NEIGHBOUR: 'it returns false'. Refute it at one input. -/
def ipipBackWrong : ChangeSpec := { name := "ipipBack", fn := fun _ => fun
  | [d1, d2] => { results := [.lit (.bool false)], args := [d1, d2] }
  | _ => none }
def IpipBackWrongFalsely : Prop := ipipBackRow.holds Tryd.pinned (OpenSpec.ofChange ipipBackWrong)

/-- 'palanquinlaw11.IpipFirst': WHATEVER THE INPUT: true; the input reads as it did. -/
def ipipFirstSpec : ChangeSpec := { name := "ipipFirst", fn := fun _ => fun
  | [d1, d2] => { results := [.lit (.bool true)], args := [d1, d2] }
  | _ => none }
def ipipFirstRow : OpenClaim := { program := "ythlhflokebachaadoor", sum := "a2f410bfce00dc9e1193e3e0d7642cf3fb03415969f654b8898dcc3bd7cb27ca", func := "palanquin/palanquinlaw11.IpipFirst", spec := "ipipFirst", named := ["palanquin/ipip.versions"], apart := false, laid := [("palanquin/ipip.versions", laid_palanquin_ipip_versions)] }
def IpipFirstSaid : Prop := ipipFirstRow.holds Tryd.pinned (OpenSpec.ofChange ipipFirstSpec)

/-- ITS FALSE NEIGHBOUR: 'it returns false'. Refute it at one input. -/
def ipipFirstWrong : ChangeSpec := { name := "ipipFirst", fn := fun _ => fun
  | [d1, d2] => { results := [.lit (.bool false)], args := [d1, d2] }
  | _ => none }
def IpipFirstWrongFalsely : Prop := ipipFirstRow.holds Tryd.pinned (OpenSpec.ofChange ipipFirstWrong)

/- THE SECOND FORM. 'bulk': how many values and letters a reading holds, each counted each time it is reached (what is shared counts as often as it is met; a slice's spare places count too). A statement '..UptoSaid' is the law's where the arguments, and the package variables that the reading takes, are together of bulk at most 1048576: NARROWER than '..Said'. Prove '..Said' where nothing that the law and all that it calls make is longer than what came in: it says more and counts as full. Else prove '..UptoSaid'. A law counts once. -/
mutual
def uptoBulk {H : Type} : DataW H → Nat
  | .lit (.string bytes) => bytes.length + 1
  | .lit _ => 1
  | .nil => 1
  | .ptr d => uptoBulk d + 1
  | .slice elems spare => uptoBulkAll elems + uptoBulkAll spare + 1
  | .agg parts => uptoBulkAll parts + 1
  | .iface _ d => uptoBulk d + 1
  | .map entries => uptoBulkEntries entries + 1
  | .held _ => 1
def uptoBulkAll {H : Type} : List (DataW H) → Nat
  | [] => 0
  | d :: r => uptoBulk d + uptoBulkAll r
def uptoBulkEntries {H : Type} : List (Lit × DataW H) → Nat
  | [] => 0
  | x :: r => uptoBulkEntry x + uptoBulkEntries r
def uptoBulkEntry {H : Type} : Lit × DataW H → Nat
  | (.string bytes, d) => bytes.length + uptoBulk d + 1
  | (_, d) => uptoBulk d + 1
 end
def uptoSmall : (H : Type) → List (DataW H) → Bool := fun _ ds => decide (uptoBulkAll ds ≤ 1048576)
def OpenSpec.upto (s : _root_.Go.ChangeSpec) : _root_.Go.OpenSpec := { _root_.Go.OpenSpec.ofChange s with cond := some uptoSmall }

/-- 'palanquinlaw11.IpipTells', WHERE WHAT IT READS IS OF BULK AT MOST 1048576: true; the input reads as it did. -/
def ipipTellsUptoRow : OpenClaim := { program := "ythlhflokebachaadoor", sum := "a2f410bfce00dc9e1193e3e0d7642cf3fb03415969f654b8898dcc3bd7cb27ca", func := "palanquin/palanquinlaw11.IpipTells", spec := "ipipTells", named := ["palanquin/ipip.versions"], apart := false, laid := [("palanquin/ipip.versions", laid_palanquin_ipip_versions)], narrowed := true }
def IpipTellsUptoSaid : Prop := ipipTellsUptoRow.holds Tryd.pinned (OpenSpec.upto ipipTellsSpec)

/-- 'palanquinlaw11.IpipBack', WHERE WHAT IT READS IS OF BULK AT MOST 1048576: true; the input reads as it did. -/
def ipipBackUptoRow : OpenClaim := { program := "ythlhflokebachaadoor", sum := "a2f410bfce00dc9e1193e3e0d7642cf3fb03415969f654b8898dcc3bd7cb27ca", func := "palanquin/palanquinlaw11.IpipBack", spec := "ipipBack", named := ["palanquin/ipip.versions"], apart := false, laid := [("palanquin/ipip.versions", laid_palanquin_ipip_versions)], narrowed := true }
def IpipBackUptoSaid : Prop := ipipBackUptoRow.holds Tryd.pinned (OpenSpec.upto ipipBackSpec)

/-- 'palanquinlaw11.IpipFirst', WHERE WHAT IT READS IS OF BULK AT MOST 1048576: true; the input reads as it did. -/
def ipipFirstUptoRow : OpenClaim := { program := "ythlhflokebachaadoor", sum := "a2f410bfce00dc9e1193e3e0d7642cf3fb03415969f654b8898dcc3bd7cb27ca", func := "palanquin/palanquinlaw11.IpipFirst", spec := "ipipFirst", named := ["palanquin/ipip.versions"], apart := false, laid := [("palanquin/ipip.versions", laid_palanquin_ipip_versions)], narrowed := true }
def IpipFirstUptoSaid : Prop := ipipFirstUptoRow.holds Tryd.pinned (OpenSpec.upto ipipFirstSpec)

end Rows
end Go.Proofs.YthlhflokebachaaDoor
