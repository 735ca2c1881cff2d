/-
  Client packets, plain: a flow, a header of either version, and what any bytes are told as; no Go function is walked here.
-/
import Derived.Test.YtppobficnjpdiaaIp4A
import Derived.Test.YtppobficnjpdiaaIp6A
import Derived.Test.YtppobficnjpdiaaTcpA
import Derived.Test.YtppobficnjpdiaaUdpA
import Derived.Test.YtppobficnjpdiaaSums
namespace Go.Proofs.Ytppobficnjpdiaa
open Go.RowKit
set_option linter.unusedVariables false

/-- A flow. -/
structure F9 where
  proto : Int
  src : ByteArray
  dst : ByteArray
  sp : Int
  dp : Int
/-- Its cells. -/
def F9.cells (f : F9) : Array Value := #[.int .i64 f.proto, .string f.src, .string f.dst, .int .i64 f.sp, .int .i64 f.dp]
def F9.zero : F9 := ⟨0, ⟨#[]⟩, ⟨#[]⟩, 0, 0⟩
structure Hc9 (u : World) (B : Nat) (f : F9) : Prop where
  c0 : u.cell? ⟨B, 0, none⟩ = some (.int .i64 f.proto)
  c1 : u.cell? ⟨B, 1, none⟩ = some (.string f.src)
  c2 : u.cell? ⟨B, 2, none⟩ = some (.string f.dst)
  c3 : u.cell? ⟨B, 3, none⟩ = some (.int .i64 f.sp)
  c4 : u.cell? ⟨B, 4, none⟩ = some (.int .i64 f.dp)
theorem Hc9.of {u : World} {B : Nat} {f : F9} {T : TypeId} (hb : Blk u B f.cells T) : Hc9 u B f :=
  ⟨hb.cell 0, hb.cell 1, hb.cell 2, hb.cell 3, hb.cell 4⟩

/-- A header of either version. -/
inductive A9 where
  | four (h : H4)
  | six (h : H6)
def A9.value : A9 → Value
  | .four h => .iface 107 (.agg h.cells)
  | .six h => .iface 112 (.agg h.cells)
def A9.piece : A9 → Bool
  | .four h => h.off != 0 || h.mf
  | .six _ => false
def A9.proto : A9 → Int
  | .four h => h.proto
  | .six h => h.nxt
def A9.src : A9 → ByteArray
  | .four h => h.src
  | .six h => h.src
def A9.dst : A9 → ByteArray
  | .four h => h.dst
  | .six h => h.dst
/-- May a datagram behind it do without a sum? -/
def A9.lax : A9 → Bool
  | .four _ => true
  | .six _ => false
/-- The flow, without ports. -/
def A9.bare (a : A9) : F9 := ⟨a.proto, a.src, a.dst, 0, 0⟩

def ver9 (p : ByteArray) : Nat := numOf p 0 1 / 16
def verE (p : ByteArray) : Nat := if p.size = 0 then 2 else if ver9 p = 4 ∨ ver9 p = 6 then 0 else 3
/-- What a packet's Get tells, by its first four bits. -/
def pktE (p : ByteArray) : Nat := if ver9 p = 4 then getE p else get6E p
def any9 (p : ByteArray) : A9 := if ver9 p = 4 then .four (getH p) else .six (get6H p)
def pay9 (p : ByteArray) : ByteArray := if ver9 p = 4 then getS p else get6S p
def isK (n : Int) : Bool := n == 6 || n == 17
/-- What a payload's Get tells, by its protocol. -/
def loadE (proto : Int) (b : ByteArray) : Nat := if proto = 6 then get7E b else get8E b
def sp9 (proto : Int) (b : ByteArray) : Int := if proto = 6 then (get7H b).src else (get8H b).src
def dp9 (proto : Int) (b : ByteArray) : Int := if proto = 6 then (get7H b).dst else (get8H b).dst
def own9 (proto : Int) (b : ByteArray) : Nat := if proto = 6 then get7N b else get8N b
/-- What the sum is of. -/
def ph9 (proto : Int) (src dst b : ByteArray) : List UInt8 := pseudoD src.data.toList dst.data.toList proto (b.size : Nat) ++ b.data.toList
/-- Does the sum hold? -/
def A9.holds (a : A9) (own : Nat) (b : ByteArray) : Bool := if a.proto = 17 ∧ own = 0 then a.lax else decide (sumD (ph9 a.proto a.src a.dst b) = 0)
/-- The first fault. -/
def flowE (p : ByteArray) : Nat :=
  if verE p ≠ 0 then verE p else if pktE p ≠ 0 then pktE p else if (any9 p).piece = true then 14 else if isK (any9 p).proto = false then 6
  else if loadE (any9 p).proto (pay9 p) ≠ 0 then loadE (any9 p).proto (pay9 p) else if (any9 p).holds (own9 (any9 p).proto (pay9 p)) (pay9 p) = true then 0 else 5
/-- The flow, with ports. -/
def flow9 (p : ByteArray) : F9 := ⟨(any9 p).proto, (any9 p).src, (any9 p).dst, sp9 (any9 p).proto (pay9 p), dp9 (any9 p).proto (pay9 p)⟩
def flowH (p : ByteArray) : F9 := if flowE p = 0 then flow9 p else F9.zero

theorem flowE_ver {p : ByteArray} (h : verE p ≠ 0) : flowE p = verE p := by unfold flowE; rw [if_pos h]
theorem flowE_pkt {p : ByteArray} (h : verE p = 0) (h1 : pktE p ≠ 0) : flowE p = pktE p := by unfold flowE; rw [if_neg (by omega), if_pos h1]
theorem flowE_piece {p : ByteArray} (h : verE p = 0) (h1 : pktE p = 0) (h2 : (any9 p).piece = true) : flowE p = 14 := by
  unfold flowE; rw [if_neg (by omega), if_neg (by omega), if_pos h2]
theorem flowE_proto {p : ByteArray} (h : verE p = 0) (h1 : pktE p = 0) (h2 : (any9 p).piece = false) (h3 : isK (any9 p).proto = false) : flowE p = 6 := by
  unfold flowE; rw [if_neg (by omega), if_neg (by omega), if_neg (by rw [h2]; decide), if_pos h3]
theorem flowE_load {p : ByteArray} (h : verE p = 0) (h1 : pktE p = 0) (h2 : (any9 p).piece = false) (h3 : isK (any9 p).proto = true) (h4 : loadE (any9 p).proto (pay9 p) ≠ 0) : flowE p = loadE (any9 p).proto (pay9 p) := by
  unfold flowE; rw [if_neg (by omega), if_neg (by omega), if_neg (by rw [h2]; decide), if_neg (by rw [h3]; decide), if_pos h4]
theorem flowE_sum {p : ByteArray} (h : verE p = 0) (h1 : pktE p = 0) (h2 : (any9 p).piece = false) (h3 : isK (any9 p).proto = true) (h4 : loadE (any9 p).proto (pay9 p) = 0) (h5 : (any9 p).holds (own9 (any9 p).proto (pay9 p)) (pay9 p) = false) : flowE p = 5 := by
  unfold flowE; rw [if_neg (by omega), if_neg (by omega), if_neg (by rw [h2]; decide), if_neg (by rw [h3]; decide), if_neg (by omega), if_neg (by rw [h5]; decide)]
theorem flowE_ok {p : ByteArray} (h : verE p = 0) (h1 : pktE p = 0) (h2 : (any9 p).piece = false) (h3 : isK (any9 p).proto = true) (h4 : loadE (any9 p).proto (pay9 p) = 0) (h5 : (any9 p).holds (own9 (any9 p).proto (pay9 p)) (pay9 p) = true) : flowE p = 0 := by
  unfold flowE; rw [if_neg (by omega), if_neg (by omega), if_neg (by rw [h2]; decide), if_neg (by rw [h3]; decide), if_neg (by omega), if_pos h5]
/-- Just when bytes are a client packet. -/
structure Good9 (p : ByteArray) : Prop where
  ver : verE p = 0
  pkt : pktE p = 0
  whole : (any9 p).piece = false
  known : isK (any9 p).proto = true
  load : loadE (any9 p).proto (pay9 p) = 0
  sum : (any9 p).holds (own9 (any9 p).proto (pay9 p)) (pay9 p) = true
theorem flowE_zero {p : ByteArray} : flowE p = 0 ↔ Good9 p := by
  constructor
  · intro e
    by_cases h : verE p = 0
    · by_cases h1 : pktE p = 0
      · cases h2 : (any9 p).piece with
        | true => rw [flowE_piece h h1 h2] at e; omega
        | false =>
          cases h3 : isK (any9 p).proto with
          | false => rw [flowE_proto h h1 h2 h3] at e; omega
          | true =>
            by_cases h4 : loadE (any9 p).proto (pay9 p) = 0
            · cases h5 : (any9 p).holds (own9 (any9 p).proto (pay9 p)) (pay9 p) with
              | false => rw [flowE_sum h h1 h2 h3 h4 h5] at e; omega
              | true => exact ⟨h, h1, h2, h3, h4, h5⟩
            · rw [flowE_load h h1 h2 h3 h4] at e; omega
      · rw [flowE_pkt h h1] at e; omega
    · rw [flowE_ver h] at e; omega
  · rintro ⟨h, h1, h2, h3, h4, h5⟩
    exact flowE_ok h h1 h2 h3 h4 h5
theorem flowH_err {p : ByteArray} (h : flowE p ≠ 0) : flowH p = F9.zero := by unfold flowH; rw [if_neg h]
theorem flowH_ok {p : ByteArray} (h : flowE p = 0) : flowH p = flow9 p := by unfold flowH; rw [if_pos h]

theorem numOf_empty {p : ByteArray} (h : p.size = 0) (i k : Nat) : numOf p i k = 0 := by
  have : (p.extract i (i + k)).data.toList = [] := by
    apply List.eq_nil_of_length_eq_zero
    have : (p.extract i (i + k)).size = 0 := by rw [ByteArray.size_extract]; omega
    exact (size_list _).trans this
  unfold numOf
  rw [this]
  rfl
theorem verE_empty {p : ByteArray} (h : p.size = 0) : verE p = 2 := by unfold verE; rw [if_pos h]
theorem verE_yes {p : ByteArray} (h : p.size ≠ 0) (h1 : ver9 p = 4 ∨ ver9 p = 6) : verE p = 0 := by unfold verE; rw [if_neg h, if_pos h1]
theorem verE_no {p : ByteArray} (h : p.size ≠ 0) (h1 : ¬ (ver9 p = 4 ∨ ver9 p = 6)) : verE p = 3 := by unfold verE; rw [if_neg h, if_neg h1]
theorem verE_zero {p : ByteArray} : verE p = 0 ↔ p.size ≠ 0 ∧ (ver9 p = 4 ∨ ver9 p = 6) := by
  constructor
  · intro e
    by_cases h : p.size = 0
    · rw [verE_empty h] at e; omega
    · by_cases h1 : ver9 p = 4 ∨ ver9 p = 6
      · exact ⟨h, h1⟩
      · rw [verE_no h h1] at e; omega
  · rintro ⟨h, h1⟩; exact verE_yes h h1

end Go.Proofs.Ytppobficnjpdiaa
