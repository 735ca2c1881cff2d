/-
  Seal: a payload, with its sum.
-/
import Derived.Test.YtppobficnjpdiaaFlowSpec
import Derived.Test.YtppobficnjpdiaaWriting
import Derived.Test.YtppobficnjpdiaaSums
import Derived.LoopN
import Derived.BigQuiet
import Derived.IntWalk
namespace Go.Proofs.Ytppobficnjpdiaa
open Go.RowKit
set_option linter.unusedVariables false

/-- Where a payload has its sum; 0: nowhere. -/
def pl9 (proto : Int) (n : Nat) : Nat := if proto = 6 ∧ 20 ≤ n then 16 else if proto = 17 ∧ 8 ≤ n then 6 else 0
/-- What the sum is of, with 00 in its place. -/
def gap9 (proto : Int) (src dst s : ByteArray) (k : Nat) : List UInt8 := pseudoD src.data.toList dst.data.toList proto (s.size : Nat) ++ s.data.toList.take k ++ [0, 0] ++ s.data.toList.drop (k + 2)
def num9 (proto : Int) (src dst s : ByteArray) (k : Nat) : Nat := if sumD (gap9 proto src dst s k) = 0 ∧ proto = 17 then 65535 else sumD (gap9 proto src dst s k)
/-- A text with another number at a place. -/
def with9 (s : ByteArray) (k n : Nat) : ByteArray := ⟨(s.data.toList.take k ++ be n 2 ++ s.data.toList.drop (k + 2)).toArray⟩
def seal9 (proto : Int) (src dst s : ByteArray) : ByteArray := if pl9 proto s.size = 0 then s else with9 s (pl9 proto s.size) (num9 proto src dst s (pl9 proto s.size))
theorem num9_le (proto : Int) (src dst s : ByteArray) (k : Nat) : num9 proto src dst s k ≤ 65535 := by
  have := sumD_le (gap9 proto src dst s k)
  unfold num9
  split <;> omega
theorem with9_cut (s : ByteArray) (k n : Nat) : (⟨((s.extract 0 k).data.toList ++ be n 2 ++ (s.extract (k + 2) s.size).data.toList).toArray⟩ : ByteArray) = with9 s k n := by
  unfold with9
  rw [sl_ext, sl_ext, sl_all]
  rfl
theorem gap9_cut (proto : Int) (src dst s : ByteArray) (k : Nat) (X : ByteArray) (hX : X.data.toList = pseudoD src.data.toList dst.data.toList proto (s.size : Nat)) :
    joinedB (strsOf [X, s.extract 0 k, ⟨#[0, 0]⟩, s.extract (k + 2) s.size]) 4 = gap9 proto src dst s k := by
  have : joinedB (strsOf [X, s.extract 0 k, ⟨#[0, 0]⟩, s.extract (k + 2) s.size]) 4 = X.data.toList ++ (s.extract 0 k).data.toList ++ [0, 0] ++ (s.extract (k + 2) s.size).data.toList := by
    simp [joinedB, joined, strsOf]
  rw [this, hX, sl_ext, sl_ext, sl_all]
  rfl

/-- The program's table of places. -/
def places8 : Array Value := #[.int .i64 6, .int .i64 20, .int .i64 16, .int .i64 0, .int .i64 17, .int .i64 8, .int .i64 6, .int .i64 65535]
structure Places (w : World) : Prop where
  at0 : ∃ T fr, w.heap[0]? = some (.cells places8 T fr)
theorem Places.lt {w : World} (h : Places w) : 0 < w.heap.size := by
  obtain ⟨T, fr, h⟩ := h.at0
  exact (Array.getElem?_eq_some_iff.1 h).1
theorem Places.below {B : Nat} {w w' : World} (h : Places w) (hb : Below B w w') (hB : 0 < B) : Places w' := by
  obtain ⟨T, fr, h0⟩ := h.at0
  exact ⟨T, fr, (hb.block 0 hB).trans h0⟩
/-- While it is written. -/
structure Pw9 (w u : World) (bs : List UInt8) : Prop where
  wr : Wr u w.heap.size (w.heap.size + 1) bs
  bel : Below w.heap.size w u
theorem Pw9.new (w : World) : Pw9 w (w.alloc (.cells #[.slice none 0 0] 96)) [] :=
  ⟨⟨⟨_, Blk.new w _ _, World.ownsRow_nil _ _ _ _⟩, by omega, by simp⟩, (Below.refl _ _).alloc (Nat.le_refl _) _⟩
theorem Pw9.step {w u u' : World} {bs bs' : List UInt8} (p : Pw9 w u bs) (hw : Wr u' w.heap.size (w.heap.size + 1) bs') (hk : Kb (fun k => k = w.heap.size ∨ w.heap.size + 1 ≤ k) u u') : Pw9 w u' bs' :=
  ⟨hw, p.bel.trans ⟨hk.os, hk.tape, hk.output, hk.size, fun k hk1 => hk.block k (by have := p.bel.size; omega) (by omega)⟩⟩

theorem bare_new (w : World) (xs ys : Array Value) (T : TypeId) : Blk ((w.alloc (.cells xs T)).alloc (.cells ys T)) (w.heap.size + 1) ys T := by
  have e := Blk.new (w.alloc (.cells xs T)) ys T
  rwa [show (w.alloc (.cells xs T)).heap.size = w.heap.size + 1 from by simp] at e

end Go.Proofs.Ytppobficnjpdiaa
