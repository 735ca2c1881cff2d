/-
  No cell of these rows narrows 'for every input' (looked for: loops, veiled, ifaces, maps, wideKeys, modest, calm, conditions, laid).
  DERIVED. THE GIVEN ROWS OF THIS SEAT. 5 by the template 'for every input the law returns true; each argument reads behind the call as it read before'; 0 by the template 'total and deterministic' (their statements: YtdljioacbpabbaaTotals.lean).
  GIVEN WITH THE SEED: the statements are not yours to turn. If you find one false, say at which input.
  Laid BY PROGRAM, IN A SANDBOX (cutbox-rows.mjs): the forced cells as the released guide's own fill.sh prints them over the translation d5f29f58da87292d… (all of the seat's roots in one cut). By AI agents, Wed Nov 11 2026. No macro, syntax, notation, axiom, sorry.
-/
import Derived.Test.YtdljioacbpabbaaChecked
import GoSem.Claim
import GoSem.ClaimJoined
import GoSem.ClaimMapViews
import Derived.JoinedTies
import Derived.KernelRfl
namespace Go.Proofs.Ytdljioacbpabbaa
/- THE CELL 'sum', in the pinned program and in every row, IS THE sha256 OF THE DUMP (.gsa) THAT YtdljioacbpabbaaProg.lean LOADS. Nothing in Lean hashes anything: it is a label: what it is worth is what the hold of that sum in a sandbox is worth. -/
noncomputable def Try.pinned : Pinned := { name := "ytdljioacbpabbaa", sum := "d5f29f58da87292d17a8c565316cd1b2eeec329f4b57491f7d2d94eeeeb05709", checked := Try.checked }
namespace Rows
def none {H : Type} : Left H := { results := [], args := [] }

/-- 'palanquinlaw05.Ip4Puts': WHATEVER THE INPUT: true; the input reads as it did. -/
def ip4PutsSpec : ChangeSpec := { name := "ip4Puts", fn := fun _ => fun
  | [d1, d2] => { results := [.lit (.bool true)], args := [d1, d2] }
  | _ => none }
def ip4PutsRow : OpenClaim := { program := "ytdljioacbpabbaa", sum := "d5f29f58da87292d17a8c565316cd1b2eeec329f4b57491f7d2d94eeeeb05709", func := "palanquin/palanquinlaw05.Ip4Puts", spec := "ip4Puts", unfollowed := true, recurses := true, apart := false }
def Ip4PutsSaid : Prop := ip4PutsRow.holds Try.pinned (OpenSpec.ofChange ip4PutsSpec)

/-- ITS FALSE NEIGHBOUR: 'it returns false'. Refute it at one input. -/
def ip4PutsWrong : ChangeSpec := { name := "ip4Puts", fn := fun _ => fun
  | [d1, d2] => { results := [.lit (.bool false)], args := [d1, d2] }
  | _ => none }
def Ip4PutsWrongFalsely : Prop := ip4PutsRow.holds Try.pinned (OpenSpec.ofChange ip4PutsWrong)

/-- 'palanquinlaw05.Ip4Gets': WHATEVER THE INPUT: true; the input reads as it did. -/
def ip4GetsSpec : ChangeSpec := { name := "ip4Gets", fn := fun _ => fun
  | [d] => { results := [.lit (.bool true)], args := [d] }
  | _ => none }
def ip4GetsRow : OpenClaim := { program := "ytdljioacbpabbaa", sum := "d5f29f58da87292d17a8c565316cd1b2eeec329f4b57491f7d2d94eeeeb05709", func := "palanquin/palanquinlaw05.Ip4Gets", spec := "ip4Gets", unfollowed := true, recurses := true, apart := false }
def Ip4GetsSaid : Prop := ip4GetsRow.holds Try.pinned (OpenSpec.ofChange ip4GetsSpec)

/-- ITS FALSE NEIGHBOUR: 'it returns false'. Refute it at one input. -/
def ip4GetsWrong : ChangeSpec := { name := "ip4Gets", fn := fun _ => fun
  | [d] => { results := [.lit (.bool false)], args := [d] }
  | _ => none }
def Ip4GetsWrongFalsely : Prop := ip4GetsRow.holds Try.pinned (OpenSpec.ofChange ip4GetsWrong)

/-- 'palanquinlaw05.Ip4Back': WHATEVER THE INPUT: true; the input reads as it did. -/
def ip4BackSpec : ChangeSpec := { name := "ip4Back", fn := fun _ => fun
  | [d1, d2, d3] => { results := [.lit (.bool true)], args := [d1, d2, d3] }
  | _ => none }
def ip4BackRow : OpenClaim := { program := "ytdljioacbpabbaa", sum := "d5f29f58da87292d17a8c565316cd1b2eeec329f4b57491f7d2d94eeeeb05709", func := "palanquin/palanquinlaw05.Ip4Back", spec := "ip4Back", unfollowed := true, recurses := true, apart := false }
def Ip4BackSaid : Prop := ip4BackRow.holds Try.pinned (OpenSpec.ofChange ip4BackSpec)

/-- ITS FALSE NEIGHBOUR: 'it returns false'. Refute it at one input. -/
def ip4BackWrong : ChangeSpec := { name := "ip4Back", fn := fun _ => fun
  | [d1, d2, d3] => { results := [.lit (.bool false)], args := [d1, d2, d3] }
  | _ => none }
def Ip4BackWrongFalsely : Prop := ip4BackRow.holds Try.pinned (OpenSpec.ofChange ip4BackWrong)

/-- 'palanquinlaw05.Ip4Sums': WHATEVER THE INPUT: true; the input reads as it did. -/
def ip4SumsSpec : ChangeSpec := { name := "ip4Sums", fn := fun _ => fun
  | [d1, d2, d3] => { results := [.lit (.bool true)], args := [d1, d2, d3] }
  | _ => none }
def ip4SumsRow : OpenClaim := { program := "ytdljioacbpabbaa", sum := "d5f29f58da87292d17a8c565316cd1b2eeec329f4b57491f7d2d94eeeeb05709", func := "palanquin/palanquinlaw05.Ip4Sums", spec := "ip4Sums", unfollowed := true, recurses := true, apart := false }
def Ip4SumsSaid : Prop := ip4SumsRow.holds Try.pinned (OpenSpec.ofChange ip4SumsSpec)

/-- ITS FALSE NEIGHBOUR: 'it returns false'. Refute it at one input. -/
def ip4SumsWrong : ChangeSpec := { name := "ip4Sums", fn := fun _ => fun
  | [d1, d2, d3] => { results := [.lit (.bool false)], args := [d1, d2, d3] }
  | _ => none }
def Ip4SumsWrongFalsely : Prop := ip4SumsRow.holds Try.pinned (OpenSpec.ofChange ip4SumsWrong)

/-- 'palanquinlaw05.Ip4Fields': WHATEVER THE INPUT: true; the input reads as it did. -/
def ip4FieldsSpec : ChangeSpec := { name := "ip4Fields", fn := fun _ => fun
  | [d1, d2, d3, d4, d5, d6] => { results := [.lit (.bool true)], args := [d1, d2, d3, d4, d5, d6] }
  | _ => none }
def ip4FieldsRow : OpenClaim := { program := "ytdljioacbpabbaa", sum := "d5f29f58da87292d17a8c565316cd1b2eeec329f4b57491f7d2d94eeeeb05709", func := "palanquin/palanquinlaw05.Ip4Fields", spec := "ip4Fields", unfollowed := true, recurses := true, apart := false }
def Ip4FieldsSaid : Prop := ip4FieldsRow.holds Try.pinned (OpenSpec.ofChange ip4FieldsSpec)

/-- ITS FALSE NEIGHBOUR: 'it returns false'. Refute it at one input. -/
def ip4FieldsWrong : ChangeSpec := { name := "ip4Fields", fn := fun _ => fun
  | [d1, d2, d3, d4, d5, d6] => { results := [.lit (.bool false)], args := [d1, d2, d3, d4, d5, d6] }
  | _ => none }
def Ip4FieldsWrongFalsely : Prop := ip4FieldsRow.holds Try.pinned (OpenSpec.ofChange ip4FieldsWrong)

/- THE SECOND FORM. 'bulk': how many values and letters a reading holds, each counted each time it is reached (what is shared counts as often as it is met; a slice's spare places count too). A statement '..UptoSaid' is the law's where the arguments, and the package variables that the reading takes, are together of bulk at most 1048576: NARROWER than '..Said'. Prove '..Said' where nothing that the law and all that it calls make is longer than what came in: it says more and counts as full. Else prove '..UptoSaid'. A law counts once. -/
mutual
def uptoBulk {H : Type} : DataW H → Nat
  | .lit (.string bytes) => bytes.length + 1
  | .lit _ => 1
  | .nil => 1
  | .ptr d => uptoBulk d + 1
  | .slice elems spare => uptoBulkAll elems + uptoBulkAll spare + 1
  | .agg parts => uptoBulkAll parts + 1
  | .iface _ d => uptoBulk d + 1
  | .map entries => uptoBulkEntries entries + 1
  | .held _ => 1
def uptoBulkAll {H : Type} : List (DataW H) → Nat
  | [] => 0
  | d :: r => uptoBulk d + uptoBulkAll r
def uptoBulkEntries {H : Type} : List (Lit × DataW H) → Nat
  | [] => 0
  | x :: r => uptoBulkEntry x + uptoBulkEntries r
def uptoBulkEntry {H : Type} : Lit × DataW H → Nat
  | (.string bytes, d) => bytes.length + uptoBulk d + 1
  | (_, d) => uptoBulk d + 1
 end
def uptoSmall : (H : Type) → List (DataW H) → Bool := fun _ ds => decide (uptoBulkAll ds ≤ 1048576)
def OpenSpec.upto (s : _root_.Go.ChangeSpec) : _root_.Go.OpenSpec := { _root_.Go.OpenSpec.ofChange s with cond := some uptoSmall }

/-- 'palanquinlaw05.Ip4Puts', WHERE WHAT IT READS IS OF BULK AT MOST 1048576: true; the input reads as it did. -/
def ip4PutsUptoRow : OpenClaim := { program := "ytdljioacbpabbaa", sum := "d5f29f58da87292d17a8c565316cd1b2eeec329f4b57491f7d2d94eeeeb05709", func := "palanquin/palanquinlaw05.Ip4Puts", spec := "ip4Puts", unfollowed := true, recurses := true, apart := false, narrowed := true }
def Ip4PutsUptoSaid : Prop := ip4PutsUptoRow.holds Try.pinned (OpenSpec.upto ip4PutsSpec)

/-- 'palanquinlaw05.Ip4Gets', WHERE WHAT IT READS IS OF BULK AT MOST 1048576: true; the input reads as it did. -/
def ip4GetsUptoRow : OpenClaim := { program := "ytdljioacbpabbaa", sum := "d5f29f58da87292d17a8c565316cd1b2eeec329f4b57491f7d2d94eeeeb05709", func := "palanquin/palanquinlaw05.Ip4Gets", spec := "ip4Gets", unfollowed := true, recurses := true, apart := false, narrowed := true }
def Ip4GetsUptoSaid : Prop := ip4GetsUptoRow.holds Try.pinned (OpenSpec.upto ip4GetsSpec)

/-- 'palanquinlaw05.Ip4Back', WHERE WHAT IT READS IS OF BULK AT MOST 1048576: true; the input reads as it did. -/
def ip4BackUptoRow : OpenClaim := { program := "ytdljioacbpabbaa", sum := "d5f29f58da87292d17a8c565316cd1b2eeec329f4b57491f7d2d94eeeeb05709", func := "palanquin/palanquinlaw05.Ip4Back", spec := "ip4Back", unfollowed := true, recurses := true, apart := false, narrowed := true }
def Ip4BackUptoSaid : Prop := ip4BackUptoRow.holds Try.pinned (OpenSpec.upto ip4BackSpec)

/-- 'palanquinlaw05.Ip4Sums', WHERE WHAT IT READS IS OF BULK AT MOST 1048576: true; the input reads as it did. -/
def ip4SumsUptoRow : OpenClaim := { program := "ytdljioacbpabbaa", sum := "d5f29f58da87292d17a8c565316cd1b2eeec329f4b57491f7d2d94eeeeb05709", func := "palanquin/palanquinlaw05.Ip4Sums", spec := "ip4Sums", unfollowed := true, recurses := true, apart := false, narrowed := true }
def Ip4SumsUptoSaid : Prop := ip4SumsUptoRow.holds Try.pinned (OpenSpec.upto ip4SumsSpec)

/-- 'palanquinlaw05.Ip4Fields', WHERE WHAT IT READS IS OF BULK AT MOST 1048576: true; the input reads as it did. -/
def ip4FieldsUptoRow : OpenClaim := { program := "ytdljioacbpabbaa", sum := "d5f29f58da87292d17a8c565316cd1b2eeec329f4b57491f7d2d94eeeeb05709", func := "palanquin/palanquinlaw05.Ip4Fields", spec := "ip4Fields", unfollowed := true, recurses := true, apart := false, narrowed := true }
def Ip4FieldsUptoSaid : Prop := ip4FieldsUptoRow.holds Try.pinned (OpenSpec.upto ip4FieldsSpec)

end Rows
end Go.Proofs.Ytdljioacbpabbaa
