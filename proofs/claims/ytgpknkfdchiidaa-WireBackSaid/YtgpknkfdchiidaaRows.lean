/-
  No cell of these rows narrows 'for every input' (looked for: loops, veiled, ifaces, maps, wideKeys, modest, calm, conditions, laid).
  DERIVED. THE GIVEN ROWS OF THIS SEAT. 5 by the template 'for every input the law returns true; each argument reads behind the call as it read before'; 0 by the template 'total and deterministic' (their statements: YtgpknkfdchiidaaTotals.lean).
  GIVEN WITH THE SEED: the statements are not yours to turn. If you find one false, say at which input.
  Laid BY PROGRAM, IN A SANDBOX (cutbox-rows.mjs): the forced cells as the released guide's own fill.sh prints them over the translation 55ae6a95ba0491a1… (all of the seat's roots in one cut). By AI agents, Wed Nov 11 2026. No macro, syntax, notation, axiom, sorry.
-/
import Derived.Test.YtgpknkfdchiidaaChecked
import GoSem.Claim
import GoSem.ClaimJoined
import GoSem.ClaimMapViews
import Derived.JoinedTies
import Derived.KernelRfl
namespace Go.Proofs.Ytgpknkfdchiidaa
/- THE CELL 'sum', in the pinned program and in every row, IS THE sha256 OF THE DUMP (.gsa) THAT YtgpknkfdchiidaaProg.lean LOADS. Nothing in Lean hashes anything: it is a label: what it is worth is what the hold of that sum in a sandbox is worth. -/
noncomputable def Try.pinned : Pinned := { name := "ytgpknkfdchiidaa", sum := "55ae6a95ba0491a106495e56a7183a4696d83932c1cd704da2315678d8e607b1", checked := Try.checked }
namespace Rows
def none {H : Type} : Left H := { results := [], args := [] }

/-- 'palanquinlaw01.WireReads': WHATEVER THE INPUT: true; the input reads as it did. -/
def wireReadsSpec : ChangeSpec := { name := "wireReads", fn := fun _ => fun
  | [d1, d2] => { results := [.lit (.bool true)], args := [d1, d2] }
  | _ => none }
def wireReadsRow : OpenClaim := { program := "ytgpknkfdchiidaa", sum := "55ae6a95ba0491a106495e56a7183a4696d83932c1cd704da2315678d8e607b1", func := "palanquin/palanquinlaw01.WireReads", spec := "wireReads", unfollowed := true, recurses := true, apart := false }
def WireReadsSaid : Prop := wireReadsRow.holds Try.pinned (OpenSpec.ofChange wireReadsSpec)

/-- ITS FALSE NEIGHBOUR: 'it returns false'. Refute it at one input. -/
def wireReadsWrong : ChangeSpec := { name := "wireReads", fn := fun _ => fun
  | [d1, d2] => { results := [.lit (.bool false)], args := [d1, d2] }
  | _ => none }
def WireReadsWrongFalsely : Prop := wireReadsRow.holds Try.pinned (OpenSpec.ofChange wireReadsWrong)

/-- 'palanquinlaw01.WireWrites': WHATEVER THE INPUT: true; the input reads as it did. -/
def wireWritesSpec : ChangeSpec := { name := "wireWrites", fn := fun _ => fun
  | [d] => { results := [.lit (.bool true)], args := [d] }
  | _ => none }
def wireWritesRow : OpenClaim := { program := "ytgpknkfdchiidaa", sum := "55ae6a95ba0491a106495e56a7183a4696d83932c1cd704da2315678d8e607b1", func := "palanquin/palanquinlaw01.WireWrites", spec := "wireWrites", unfollowed := true, recurses := true, apart := false }
def WireWritesSaid : Prop := wireWritesRow.holds Try.pinned (OpenSpec.ofChange wireWritesSpec)

/-- ITS FALSE NEIGHBOUR: 'it returns false'. Refute it at one input. -/
def wireWritesWrong : ChangeSpec := { name := "wireWrites", fn := fun _ => fun
  | [d] => { results := [.lit (.bool false)], args := [d] }
  | _ => none }
def WireWritesWrongFalsely : Prop := wireWritesRow.holds Try.pinned (OpenSpec.ofChange wireWritesWrong)

/-- 'palanquinlaw01.WireBack': WHATEVER THE INPUT: true; the input reads as it did. -/
def wireBackSpec : ChangeSpec := { name := "wireBack", fn := fun _ => fun
  | [d1, d2] => { results := [.lit (.bool true)], args := [d1, d2] }
  | _ => none }
def wireBackRow : OpenClaim := { program := "ytgpknkfdchiidaa", sum := "55ae6a95ba0491a106495e56a7183a4696d83932c1cd704da2315678d8e607b1", func := "palanquin/palanquinlaw01.WireBack", spec := "wireBack", unfollowed := true, recurses := true, apart := false }
def WireBackSaid : Prop := wireBackRow.holds Try.pinned (OpenSpec.ofChange wireBackSpec)

/-- ITS FALSE NEIGHBOUR: 'it returns false'. Refute it at one input. -/
def wireBackWrong : ChangeSpec := { name := "wireBack", fn := fun _ => fun
  | [d1, d2] => { results := [.lit (.bool false)], args := [d1, d2] }
  | _ => none }
def WireBackWrongFalsely : Prop := wireBackRow.holds Try.pinned (OpenSpec.ofChange wireBackWrong)

/-- 'palanquinlaw01.WireInside': WHATEVER THE INPUT: true; the input reads as it did. -/
def wireInsideSpec : ChangeSpec := { name := "wireInside", fn := fun _ => fun
  | [d1, d2, d3, d4] => { results := [.lit (.bool true)], args := [d1, d2, d3, d4] }
  | _ => none }
def wireInsideRow : OpenClaim := { program := "ytgpknkfdchiidaa", sum := "55ae6a95ba0491a106495e56a7183a4696d83932c1cd704da2315678d8e607b1", func := "palanquin/palanquinlaw01.WireInside", spec := "wireInside", unfollowed := true, recurses := true, apart := false }
def WireInsideSaid : Prop := wireInsideRow.holds Try.pinned (OpenSpec.ofChange wireInsideSpec)

/-- ITS FALSE NEIGHBOUR: 'it returns false'. Refute it at one input. -/
def wireInsideWrong : ChangeSpec := { name := "wireInside", fn := fun _ => fun
  | [d1, d2, d3, d4] => { results := [.lit (.bool false)], args := [d1, d2, d3, d4] }
  | _ => none }
def WireInsideWrongFalsely : Prop := wireInsideRow.holds Try.pinned (OpenSpec.ofChange wireInsideWrong)

/-- 'palanquinlaw01.WireNeeds': WHATEVER THE INPUT: true; the input reads as it did. -/
def wireNeedsSpec : ChangeSpec := { name := "wireNeeds", fn := fun _ => fun
  | [d1, d2, d3] => { results := [.lit (.bool true)], args := [d1, d2, d3] }
  | _ => none }
def wireNeedsRow : OpenClaim := { program := "ytgpknkfdchiidaa", sum := "55ae6a95ba0491a106495e56a7183a4696d83932c1cd704da2315678d8e607b1", func := "palanquin/palanquinlaw01.WireNeeds", spec := "wireNeeds", unfollowed := true, recurses := true, apart := false }
def WireNeedsSaid : Prop := wireNeedsRow.holds Try.pinned (OpenSpec.ofChange wireNeedsSpec)

/-- ITS FALSE NEIGHBOUR: 'it returns false'. Refute it at one input. -/
def wireNeedsWrong : ChangeSpec := { name := "wireNeeds", fn := fun _ => fun
  | [d1, d2, d3] => { results := [.lit (.bool false)], args := [d1, d2, d3] }
  | _ => none }
def WireNeedsWrongFalsely : Prop := wireNeedsRow.holds Try.pinned (OpenSpec.ofChange wireNeedsWrong)

/- THE SECOND FORM. 'bulk': how many values and letters a reading holds, each counted each time it is reached (what is shared counts as often as it is met; a slice's spare places count too). A statement '..UptoSaid' is the law's where the arguments, and the package variables that the reading takes, are together of bulk at most 1048576: NARROWER than '..Said'. Prove '..Said' where nothing that the law and all that it calls make is longer than what came in: it says more and counts as full. Else prove '..UptoSaid'. A law counts once. -/
mutual
def uptoBulk {H : Type} : DataW H → Nat
  | .lit (.string bytes) => bytes.length + 1
  | .lit _ => 1
  | .nil => 1
  | .ptr d => uptoBulk d + 1
  | .slice elems spare => uptoBulkAll elems + uptoBulkAll spare + 1
  | .agg parts => uptoBulkAll parts + 1
  | .iface _ d => uptoBulk d + 1
  | .map entries => uptoBulkEntries entries + 1
  | .held _ => 1
def uptoBulkAll {H : Type} : List (DataW H) → Nat
  | [] => 0
  | d :: r => uptoBulk d + uptoBulkAll r
def uptoBulkEntries {H : Type} : List (Lit × DataW H) → Nat
  | [] => 0
  | x :: r => uptoBulkEntry x + uptoBulkEntries r
def uptoBulkEntry {H : Type} : Lit × DataW H → Nat
  | (.string bytes, d) => bytes.length + uptoBulk d + 1
  | (_, d) => uptoBulk d + 1
 end
def uptoSmall : (H : Type) → List (DataW H) → Bool := fun _ ds => decide (uptoBulkAll ds ≤ 1048576)
def OpenSpec.upto (s : _root_.Go.ChangeSpec) : _root_.Go.OpenSpec := { _root_.Go.OpenSpec.ofChange s with cond := some uptoSmall }

/-- 'palanquinlaw01.WireReads', WHERE WHAT IT READS IS OF BULK AT MOST 1048576: true; the input reads as it did. -/
def wireReadsUptoRow : OpenClaim := { program := "ytgpknkfdchiidaa", sum := "55ae6a95ba0491a106495e56a7183a4696d83932c1cd704da2315678d8e607b1", func := "palanquin/palanquinlaw01.WireReads", spec := "wireReads", unfollowed := true, recurses := true, apart := false, narrowed := true }
def WireReadsUptoSaid : Prop := wireReadsUptoRow.holds Try.pinned (OpenSpec.upto wireReadsSpec)

/-- 'palanquinlaw01.WireWrites', WHERE WHAT IT READS IS OF BULK AT MOST 1048576: true; the input reads as it did. -/
def wireWritesUptoRow : OpenClaim := { program := "ytgpknkfdchiidaa", sum := "55ae6a95ba0491a106495e56a7183a4696d83932c1cd704da2315678d8e607b1", func := "palanquin/palanquinlaw01.WireWrites", spec := "wireWrites", unfollowed := true, recurses := true, apart := false, narrowed := true }
def WireWritesUptoSaid : Prop := wireWritesUptoRow.holds Try.pinned (OpenSpec.upto wireWritesSpec)

/-- 'palanquinlaw01.WireBack', WHERE WHAT IT READS IS OF BULK AT MOST 1048576: true; the input reads as it did. -/
def wireBackUptoRow : OpenClaim := { program := "ytgpknkfdchiidaa", sum := "55ae6a95ba0491a106495e56a7183a4696d83932c1cd704da2315678d8e607b1", func := "palanquin/palanquinlaw01.WireBack", spec := "wireBack", unfollowed := true, recurses := true, apart := false, narrowed := true }
def WireBackUptoSaid : Prop := wireBackUptoRow.holds Try.pinned (OpenSpec.upto wireBackSpec)

/-- 'palanquinlaw01.WireInside', WHERE WHAT IT READS IS OF BULK AT MOST 1048576: true; the input reads as it did. -/
def wireInsideUptoRow : OpenClaim := { program := "ytgpknkfdchiidaa", sum := "55ae6a95ba0491a106495e56a7183a4696d83932c1cd704da2315678d8e607b1", func := "palanquin/palanquinlaw01.WireInside", spec := "wireInside", unfollowed := true, recurses := true, apart := false, narrowed := true }
def WireInsideUptoSaid : Prop := wireInsideUptoRow.holds Try.pinned (OpenSpec.upto wireInsideSpec)

/-- 'palanquinlaw01.WireNeeds', WHERE WHAT IT READS IS OF BULK AT MOST 1048576: true; the input reads as it did. -/
def wireNeedsUptoRow : OpenClaim := { program := "ytgpknkfdchiidaa", sum := "55ae6a95ba0491a106495e56a7183a4696d83932c1cd704da2315678d8e607b1", func := "palanquin/palanquinlaw01.WireNeeds", spec := "wireNeeds", unfollowed := true, recurses := true, apart := false, narrowed := true }
def WireNeedsUptoSaid : Prop := wireNeedsUptoRow.holds Try.pinned (OpenSpec.upto wireNeedsSpec)

end Rows
end Go.Proofs.Ytgpknkfdchiidaa
