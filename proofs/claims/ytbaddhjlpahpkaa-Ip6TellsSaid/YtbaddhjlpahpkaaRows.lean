/-
  No cell of these rows narrows 'for every input' (looked for: loops, veiled, ifaces, maps, wideKeys, modest, calm, conditions, laid).
  DERIVED. THE GIVEN ROWS OF THIS SEAT. 3 by the template 'for every input the law returns true; each argument reads behind the call as it read before'; 0 by the template 'total and deterministic' (their statements: YtbaddhjlpahpkaaTotals.lean).
  GIVEN WITH THE SEED: the statements are not yours to turn. If you find one false, say at which input.
  Laid BY PROGRAM, IN A SANDBOX (cutbox-rows.mjs): the forced cells as the released guide's own fill.sh prints them over the translation e55b9ef43b3c7f85… (all of the seat's roots in one cut). By AI agents, Wed Nov 11 2026. No macro, syntax, notation, axiom, sorry.
-/
import Derived.Test.YtbaddhjlpahpkaaChecked
import GoSem.Claim
import GoSem.ClaimJoined
import GoSem.ClaimMapViews
import Derived.JoinedTies
import Derived.KernelRfl
namespace Go.Proofs.Ytbaddhjlpahpkaa
/- THE CELL 'sum', in the pinned program and in every row, IS THE sha256 OF THE DUMP (.gsa) THAT YtbaddhjlpahpkaaProg.lean LOADS. Nothing in Lean hashes anything: it is a label: what it is worth is what the hold of that sum in a sandbox is worth. -/
noncomputable def Try.pinned : Pinned := { name := "ytbaddhjlpahpkaa", sum := "e55b9ef43b3c7f85ef2f81f4f1528bfe536c2a383eadd0fec2446f9cfc1912f6", checked := Try.checked }
namespace Rows
def none {H : Type} : Left H := { results := [], args := [] }

/-- 'palanquinlaw06.Ip6Tells': WHATEVER THE INPUT: true; the input reads as it did. -/
def ip6TellsSpec : ChangeSpec := { name := "ip6Tells", fn := fun _ => fun
  | [d1, d2, d3] => { results := [.lit (.bool true)], args := [d1, d2, d3] }
  | _ => none }
def ip6TellsRow : OpenClaim := { program := "ytbaddhjlpahpkaa", sum := "e55b9ef43b3c7f85ef2f81f4f1528bfe536c2a383eadd0fec2446f9cfc1912f6", func := "palanquin/palanquinlaw06.Ip6Tells", spec := "ip6Tells", unfollowed := true, recurses := true, apart := false }
def Ip6TellsSaid : Prop := ip6TellsRow.holds Try.pinned (OpenSpec.ofChange ip6TellsSpec)

/-- ITS FALSE NEIGHBOUR: 'it returns false'. Refute it at one input. -/
def ip6TellsWrong : ChangeSpec := { name := "ip6Tells", fn := fun _ => fun
  | [d1, d2, d3] => { results := [.lit (.bool false)], args := [d1, d2, d3] }
  | _ => none }
def Ip6TellsWrongFalsely : Prop := ip6TellsRow.holds Try.pinned (OpenSpec.ofChange ip6TellsWrong)

/-- 'palanquinlaw06.Ip6Back': WHATEVER THE INPUT: true; the input reads as it did. -/
def ip6BackSpec : ChangeSpec := { name := "ip6Back", fn := fun _ => fun
  | [d1, d2, d3] => { results := [.lit (.bool true)], args := [d1, d2, d3] }
  | _ => none }
def ip6BackRow : OpenClaim := { program := "ytbaddhjlpahpkaa", sum := "e55b9ef43b3c7f85ef2f81f4f1528bfe536c2a383eadd0fec2446f9cfc1912f6", func := "palanquin/palanquinlaw06.Ip6Back", spec := "ip6Back", unfollowed := true, recurses := true, apart := false }
def Ip6BackSaid : Prop := ip6BackRow.holds Try.pinned (OpenSpec.ofChange ip6BackSpec)

/-- ITS FALSE NEIGHBOUR: 'it returns false'. Refute it at one input. -/
def ip6BackWrong : ChangeSpec := { name := "ip6Back", fn := fun _ => fun
  | [d1, d2, d3] => { results := [.lit (.bool false)], args := [d1, d2, d3] }
  | _ => none }
def Ip6BackWrongFalsely : Prop := ip6BackRow.holds Try.pinned (OpenSpec.ofChange ip6BackWrong)

/-- 'palanquinlaw06.Ip6Cuts': WHATEVER THE INPUT: true; the input reads as it did. -/
def ip6CutsSpec : ChangeSpec := { name := "ip6Cuts", fn := fun _ => fun
  | [d1, d2, d3] => { results := [.lit (.bool true)], args := [d1, d2, d3] }
  | _ => none }
def ip6CutsRow : OpenClaim := { program := "ytbaddhjlpahpkaa", sum := "e55b9ef43b3c7f85ef2f81f4f1528bfe536c2a383eadd0fec2446f9cfc1912f6", func := "palanquin/palanquinlaw06.Ip6Cuts", spec := "ip6Cuts", unfollowed := true, recurses := true, apart := false }
def Ip6CutsSaid : Prop := ip6CutsRow.holds Try.pinned (OpenSpec.ofChange ip6CutsSpec)

/-- ITS FALSE NEIGHBOUR: 'it returns false'. Refute it at one input. -/
def ip6CutsWrong : ChangeSpec := { name := "ip6Cuts", fn := fun _ => fun
  | [d1, d2, d3] => { results := [.lit (.bool false)], args := [d1, d2, d3] }
  | _ => none }
def Ip6CutsWrongFalsely : Prop := ip6CutsRow.holds Try.pinned (OpenSpec.ofChange ip6CutsWrong)

/- THE SECOND FORM. 'bulk': how many values and letters a reading holds, each counted each time it is reached (what is shared counts as often as it is met; a slice's spare places count too). A statement '..UptoSaid' is the law's where the arguments, and the package variables that the reading takes, are together of bulk at most 1048576: NARROWER than '..Said'. Prove '..Said' where nothing that the law and all that it calls make is longer than what came in: it says more and counts as full. Else prove '..UptoSaid'. A law counts once. -/
mutual
def uptoBulk {H : Type} : DataW H → Nat
  | .lit (.string bytes) => bytes.length + 1
  | .lit _ => 1
  | .nil => 1
  | .ptr d => uptoBulk d + 1
  | .slice elems spare => uptoBulkAll elems + uptoBulkAll spare + 1
  | .agg parts => uptoBulkAll parts + 1
  | .iface _ d => uptoBulk d + 1
  | .map entries => uptoBulkEntries entries + 1
  | .held _ => 1
def uptoBulkAll {H : Type} : List (DataW H) → Nat
  | [] => 0
  | d :: r => uptoBulk d + uptoBulkAll r
def uptoBulkEntries {H : Type} : List (Lit × DataW H) → Nat
  | [] => 0
  | x :: r => uptoBulkEntry x + uptoBulkEntries r
def uptoBulkEntry {H : Type} : Lit × DataW H → Nat
  | (.string bytes, d) => bytes.length + uptoBulk d + 1
  | (_, d) => uptoBulk d + 1
 end
def uptoSmall : (H : Type) → List (DataW H) → Bool := fun _ ds => decide (uptoBulkAll ds ≤ 1048576)
def OpenSpec.upto (s : _root_.Go.ChangeSpec) : _root_.Go.OpenSpec := { _root_.Go.OpenSpec.ofChange s with cond := some uptoSmall }

/-- 'palanquinlaw06.Ip6Tells', WHERE WHAT IT READS IS OF BULK AT MOST 1048576: true; the input reads as it did. -/
def ip6TellsUptoRow : OpenClaim := { program := "ytbaddhjlpahpkaa", sum := "e55b9ef43b3c7f85ef2f81f4f1528bfe536c2a383eadd0fec2446f9cfc1912f6", func := "palanquin/palanquinlaw06.Ip6Tells", spec := "ip6Tells", unfollowed := true, recurses := true, apart := false, narrowed := true }
def Ip6TellsUptoSaid : Prop := ip6TellsUptoRow.holds Try.pinned (OpenSpec.upto ip6TellsSpec)

/-- 'palanquinlaw06.Ip6Back', WHERE WHAT IT READS IS OF BULK AT MOST 1048576: true; the input reads as it did. -/
def ip6BackUptoRow : OpenClaim := { program := "ytbaddhjlpahpkaa", sum := "e55b9ef43b3c7f85ef2f81f4f1528bfe536c2a383eadd0fec2446f9cfc1912f6", func := "palanquin/palanquinlaw06.Ip6Back", spec := "ip6Back", unfollowed := true, recurses := true, apart := false, narrowed := true }
def Ip6BackUptoSaid : Prop := ip6BackUptoRow.holds Try.pinned (OpenSpec.upto ip6BackSpec)

/-- 'palanquinlaw06.Ip6Cuts', WHERE WHAT IT READS IS OF BULK AT MOST 1048576: true; the input reads as it did. -/
def ip6CutsUptoRow : OpenClaim := { program := "ytbaddhjlpahpkaa", sum := "e55b9ef43b3c7f85ef2f81f4f1528bfe536c2a383eadd0fec2446f9cfc1912f6", func := "palanquin/palanquinlaw06.Ip6Cuts", spec := "ip6Cuts", unfollowed := true, recurses := true, apart := false, narrowed := true }
def Ip6CutsUptoSaid : Prop := ip6CutsUptoRow.holds Try.pinned (OpenSpec.upto ip6CutsSpec)

end Rows
end Go.Proofs.Ytbaddhjlpahpkaa
