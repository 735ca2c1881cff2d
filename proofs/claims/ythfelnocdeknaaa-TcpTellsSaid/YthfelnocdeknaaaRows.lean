/-
  No cell of these rows narrows 'for every input' (looked for: loops, veiled, ifaces, maps, wideKeys, modest, calm, conditions, laid).
  DERIVED. THE GIVEN ROWS OF THIS SEAT. 5 by the template 'for every input the law returns true; each argument reads behind the call as it read before'; 0 by the template 'total and deterministic' (their statements: YthfelnocdeknaaaTotals.lean).
  GIVEN WITH THE SEED: the statements are not yours to turn. If you find one false, say at which input.
  Laid BY PROGRAM, IN A SANDBOX (cutbox-rows.mjs): the forced cells as the released guide's own fill.sh prints them over the translation 0756a5ea27d2ba1b… (all of the seat's roots in one cut). By AI agents, Wed Nov 11 2026. No macro, syntax, notation, axiom, sorry.
-/
import Derived.Test.YthfelnocdeknaaaChecked
import GoSem.Claim
import GoSem.ClaimJoined
import GoSem.ClaimMapViews
import Derived.JoinedTies
import Derived.KernelRfl
namespace Go.Proofs.Ythfelnocdeknaaa
/- THE CELL 'sum', in the pinned program and in every row, IS THE sha256 OF THE DUMP (.gsa) THAT YthfelnocdeknaaaProg.lean LOADS. Nothing in Lean hashes anything: it is a label: what it is worth is what the hold of that sum in a sandbox is worth. -/
noncomputable def Try.pinned : Pinned := { name := "ythfelnocdeknaaa", sum := "0756a5ea27d2ba1b0fbf78cd30174c51c10afcbcc944c1d192f9dfbbf36d27e9", checked := Try.checked }
namespace Rows
def none {H : Type} : Left H := { results := [], args := [] }

/-- 'palanquinlaw07.TcpTells': WHATEVER THE INPUT: true; the input reads as it did. -/
def tcpTellsSpec : ChangeSpec := { name := "tcpTells", fn := fun _ => fun
  | [d1, d2, d3] => { results := [.lit (.bool true)], args := [d1, d2, d3] }
  | _ => none }
def tcpTellsRow : OpenClaim := { program := "ythfelnocdeknaaa", sum := "0756a5ea27d2ba1b0fbf78cd30174c51c10afcbcc944c1d192f9dfbbf36d27e9", func := "palanquin/palanquinlaw07.TcpTells", spec := "tcpTells", unfollowed := true, recurses := true, apart := false }
def TcpTellsSaid : Prop := tcpTellsRow.holds Try.pinned (OpenSpec.ofChange tcpTellsSpec)

/-- ITS FALSE NEIGHBOUR: 'it returns false'. Refute it at one input. -/
def tcpTellsWrong : ChangeSpec := { name := "tcpTells", fn := fun _ => fun
  | [d1, d2, d3] => { results := [.lit (.bool false)], args := [d1, d2, d3] }
  | _ => none }
def TcpTellsWrongFalsely : Prop := tcpTellsRow.holds Try.pinned (OpenSpec.ofChange tcpTellsWrong)

/-- 'palanquinlaw07.TcpOptions': WHATEVER THE INPUT: true; the input reads as it did. -/
def tcpOptionsSpec : ChangeSpec := { name := "tcpOptions", fn := fun _ => fun
  | [d] => { results := [.lit (.bool true)], args := [d] }
  | _ => none }
def tcpOptionsRow : OpenClaim := { program := "ythfelnocdeknaaa", sum := "0756a5ea27d2ba1b0fbf78cd30174c51c10afcbcc944c1d192f9dfbbf36d27e9", func := "palanquin/palanquinlaw07.TcpOptions", spec := "tcpOptions", unfollowed := true, recurses := true, apart := false }
def TcpOptionsSaid : Prop := tcpOptionsRow.holds Try.pinned (OpenSpec.ofChange tcpOptionsSpec)

/-- ITS FALSE NEIGHBOUR: 'it returns false'. Refute it at one input. -/
def tcpOptionsWrong : ChangeSpec := { name := "tcpOptions", fn := fun _ => fun
  | [d] => { results := [.lit (.bool false)], args := [d] }
  | _ => none }
def TcpOptionsWrongFalsely : Prop := tcpOptionsRow.holds Try.pinned (OpenSpec.ofChange tcpOptionsWrong)

/-- 'palanquinlaw07.TcpBack': WHATEVER THE INPUT: true; the input reads as it did. -/
def tcpBackSpec : ChangeSpec := { name := "tcpBack", fn := fun _ => fun
  | [d1, d2, d3] => { results := [.lit (.bool true)], args := [d1, d2, d3] }
  | _ => none }
def tcpBackRow : OpenClaim := { program := "ythfelnocdeknaaa", sum := "0756a5ea27d2ba1b0fbf78cd30174c51c10afcbcc944c1d192f9dfbbf36d27e9", func := "palanquin/palanquinlaw07.TcpBack", spec := "tcpBack", unfollowed := true, recurses := true, apart := false }
def TcpBackSaid : Prop := tcpBackRow.holds Try.pinned (OpenSpec.ofChange tcpBackSpec)

/-- ITS FALSE NEIGHBOUR: 'it returns false'. Refute it at one input. -/
def tcpBackWrong : ChangeSpec := { name := "tcpBack", fn := fun _ => fun
  | [d1, d2, d3] => { results := [.lit (.bool false)], args := [d1, d2, d3] }
  | _ => none }
def TcpBackWrongFalsely : Prop := tcpBackRow.holds Try.pinned (OpenSpec.ofChange tcpBackWrong)

/-- 'palanquinlaw07.TcpMSS': WHATEVER THE INPUT: true; the input reads as it did. -/
def tcpMSSSpec : ChangeSpec := { name := "tcpMSS", fn := fun _ => fun
  | [d1, d2] => { results := [.lit (.bool true)], args := [d1, d2] }
  | _ => none }
def tcpMSSRow : OpenClaim := { program := "ythfelnocdeknaaa", sum := "0756a5ea27d2ba1b0fbf78cd30174c51c10afcbcc944c1d192f9dfbbf36d27e9", func := "palanquin/palanquinlaw07.TcpMSS", spec := "tcpMSS", unfollowed := true, recurses := true, apart := false }
def TcpMSSSaid : Prop := tcpMSSRow.holds Try.pinned (OpenSpec.ofChange tcpMSSSpec)

/-- ITS FALSE NEIGHBOUR: 'it returns false'. Refute it at one input. -/
def tcpMSSWrong : ChangeSpec := { name := "tcpMSS", fn := fun _ => fun
  | [d1, d2] => { results := [.lit (.bool false)], args := [d1, d2] }
  | _ => none }
def TcpMSSWrongFalsely : Prop := tcpMSSRow.holds Try.pinned (OpenSpec.ofChange tcpMSSWrong)

/-- 'palanquinlaw07.TcpWalks': WHATEVER THE INPUT: true; the input reads as it did. -/
def tcpWalksSpec : ChangeSpec := { name := "tcpWalks", fn := fun _ => fun
  | [d1, d2, d3] => { results := [.lit (.bool true)], args := [d1, d2, d3] }
  | _ => none }
def tcpWalksRow : OpenClaim := { program := "ythfelnocdeknaaa", sum := "0756a5ea27d2ba1b0fbf78cd30174c51c10afcbcc944c1d192f9dfbbf36d27e9", func := "palanquin/palanquinlaw07.TcpWalks", spec := "tcpWalks", unfollowed := true, recurses := true, apart := false }
def TcpWalksSaid : Prop := tcpWalksRow.holds Try.pinned (OpenSpec.ofChange tcpWalksSpec)

/-- ITS FALSE NEIGHBOUR: 'it returns false'. Refute it at one input. -/
def tcpWalksWrong : ChangeSpec := { name := "tcpWalks", fn := fun _ => fun
  | [d1, d2, d3] => { results := [.lit (.bool false)], args := [d1, d2, d3] }
  | _ => none }
def TcpWalksWrongFalsely : Prop := tcpWalksRow.holds Try.pinned (OpenSpec.ofChange tcpWalksWrong)

/- THE SECOND FORM. 'bulk': how many values and letters a reading holds, each counted each time it is reached (what is shared counts as often as it is met; a slice's spare places count too). A statement '..UptoSaid' is the law's where the arguments, and the package variables that the reading takes, are together of bulk at most 1048576: NARROWER than '..Said'. Prove '..Said' where nothing that the law and all that it calls make is longer than what came in: it says more and counts as full. Else prove '..UptoSaid'. A law counts once. -/
mutual
def uptoBulk {H : Type} : DataW H → Nat
  | .lit (.string bytes) => bytes.length + 1
  | .lit _ => 1
  | .nil => 1
  | .ptr d => uptoBulk d + 1
  | .slice elems spare => uptoBulkAll elems + uptoBulkAll spare + 1
  | .agg parts => uptoBulkAll parts + 1
  | .iface _ d => uptoBulk d + 1
  | .map entries => uptoBulkEntries entries + 1
  | .held _ => 1
def uptoBulkAll {H : Type} : List (DataW H) → Nat
  | [] => 0
  | d :: r => uptoBulk d + uptoBulkAll r
def uptoBulkEntries {H : Type} : List (Lit × DataW H) → Nat
  | [] => 0
  | x :: r => uptoBulkEntry x + uptoBulkEntries r
def uptoBulkEntry {H : Type} : Lit × DataW H → Nat
  | (.string bytes, d) => bytes.length + uptoBulk d + 1
  | (_, d) => uptoBulk d + 1
 end
def uptoSmall : (H : Type) → List (DataW H) → Bool := fun _ ds => decide (uptoBulkAll ds ≤ 1048576)
def OpenSpec.upto (s : _root_.Go.ChangeSpec) : _root_.Go.OpenSpec := { _root_.Go.OpenSpec.ofChange s with cond := some uptoSmall }

/-- 'palanquinlaw07.TcpTells', WHERE WHAT IT READS IS OF BULK AT MOST 1048576: true; the input reads as it did. -/
def tcpTellsUptoRow : OpenClaim := { program := "ythfelnocdeknaaa", sum := "0756a5ea27d2ba1b0fbf78cd30174c51c10afcbcc944c1d192f9dfbbf36d27e9", func := "palanquin/palanquinlaw07.TcpTells", spec := "tcpTells", unfollowed := true, recurses := true, apart := false, narrowed := true }
def TcpTellsUptoSaid : Prop := tcpTellsUptoRow.holds Try.pinned (OpenSpec.upto tcpTellsSpec)

/-- 'palanquinlaw07.TcpOptions', WHERE WHAT IT READS IS OF BULK AT MOST 1048576: true; the input reads as it did. -/
def tcpOptionsUptoRow : OpenClaim := { program := "ythfelnocdeknaaa", sum := "0756a5ea27d2ba1b0fbf78cd30174c51c10afcbcc944c1d192f9dfbbf36d27e9", func := "palanquin/palanquinlaw07.TcpOptions", spec := "tcpOptions", unfollowed := true, recurses := true, apart := false, narrowed := true }
def TcpOptionsUptoSaid : Prop := tcpOptionsUptoRow.holds Try.pinned (OpenSpec.upto tcpOptionsSpec)

/-- 'palanquinlaw07.TcpBack', WHERE WHAT IT READS IS OF BULK AT MOST 1048576: true; the input reads as it did. -/
def tcpBackUptoRow : OpenClaim := { program := "ythfelnocdeknaaa", sum := "0756a5ea27d2ba1b0fbf78cd30174c51c10afcbcc944c1d192f9dfbbf36d27e9", func := "palanquin/palanquinlaw07.TcpBack", spec := "tcpBack", unfollowed := true, recurses := true, apart := false, narrowed := true }
def TcpBackUptoSaid : Prop := tcpBackUptoRow.holds Try.pinned (OpenSpec.upto tcpBackSpec)

/-- 'palanquinlaw07.TcpMSS', WHERE WHAT IT READS IS OF BULK AT MOST 1048576: true; the input reads as it did. -/
def tcpMSSUptoRow : OpenClaim := { program := "ythfelnocdeknaaa", sum := "0756a5ea27d2ba1b0fbf78cd30174c51c10afcbcc944c1d192f9dfbbf36d27e9", func := "palanquin/palanquinlaw07.TcpMSS", spec := "tcpMSS", unfollowed := true, recurses := true, apart := false, narrowed := true }
def TcpMSSUptoSaid : Prop := tcpMSSUptoRow.holds Try.pinned (OpenSpec.upto tcpMSSSpec)

/-- 'palanquinlaw07.TcpWalks', WHERE WHAT IT READS IS OF BULK AT MOST 1048576: true; the input reads as it did. -/
def tcpWalksUptoRow : OpenClaim := { program := "ythfelnocdeknaaa", sum := "0756a5ea27d2ba1b0fbf78cd30174c51c10afcbcc944c1d192f9dfbbf36d27e9", func := "palanquin/palanquinlaw07.TcpWalks", spec := "tcpWalks", unfollowed := true, recurses := true, apart := false, narrowed := true }
def TcpWalksUptoSaid : Prop := tcpWalksUptoRow.holds Try.pinned (OpenSpec.upto tcpWalksSpec)

end Rows
end Go.Proofs.Ythfelnocdeknaaa
