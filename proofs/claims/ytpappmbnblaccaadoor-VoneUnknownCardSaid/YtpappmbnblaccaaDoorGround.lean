/-
  What a call does to memory, said of blocks: a world that is kept but for one block. Plain: no Go function is walked here.
-/
import Derived.Test.YtpappmbnblaccaaDoorRows
import Derived.WalkKit
import Derived.WalkSpells
import Derived.WalkLawsBesides
import Derived.Deep.QuietTactic
import Derived.BigQuiet
import Derived.Lib.Hide
import Derived.Laws.BitsLemmas
import Derived.Laws.IdiomStrings
import Derived.Laws.BytesArg
import Derived.Laws.Concat
import Derived.Deep.OwnRows
import Derived.Deep.WholeRow
import Derived.Deep.RegionHeld3
import Derived.Lib.AppendStr
namespace Go.Proofs.YtpappmbnblaccaaDoor
open Go.RowKit
set_option linter.unusedVariables false

/-- All blocks that were there are as they were, but for those of S. -/
structure Kb (S : Nat → Prop) (w w' : World) : Prop where
  os : w'.os = w.os
  tape : w'.tape = w.tape
  output : w'.output = w.output
  size : w.heap.size ≤ w'.heap.size
  block : ∀ k, k < w.heap.size → ¬ S k → w'.heap[k]? = w.heap[k]?

theorem Kb.refl (S : Nat → Prop) (w : World) : Kb S w w := ⟨rfl, rfl, rfl, Nat.le_refl _, fun _ _ _ => rfl⟩
theorem Kb.trans {S : Nat → Prop} {a b c : World} (h : Kb S a b) (k : Kb S b c) : Kb S a c :=
  ⟨k.os.trans h.os, k.tape.trans h.tape, k.output.trans h.output, Nat.le_trans h.size k.size, fun i hi hs => (k.block i (Nat.lt_of_lt_of_le hi h.size) hs).trans (h.block i hi hs)⟩
theorem Kb.mono {S T : Nat → Prop} {w w' : World} (h : Kb S w w') (hs : ∀ k, k < w.heap.size → S k → T k) : Kb T w w' :=
  ⟨h.os, h.tape, h.output, h.size, fun k hk ht => h.block k hk fun s => ht (hs k hk s)⟩
theorem Kb.drewN {S : Nat → Prop} {a w : World} (h : Kb S a w) (n : Nat) : Kb S a (w.drewN n) := ⟨h.os, h.tape, h.output, h.size, h.block⟩
theorem Kb.drew {S : Nat → Prop} {a w : World} (h : Kb S a w) : Kb S a w.drew := ⟨h.os, h.tape, h.output, h.size, h.block⟩
theorem Kb.alloc {S : Nat → Prop} {a w : World} (h : Kb S a w) (o : Obj) : Kb S a (w.alloc o) :=
  h.trans ⟨rfl, rfl, rfl, by simp, fun k hk _ => Below.heap_alloc _ _ _ hk⟩
theorem Kb.setCell {S : Nat → Prop} {a w : World} (h : Kb S a w) {p : Addr} (hp : p.block < a.heap.size → S p.block) (u : Value) : Kb S a (w.setCell p u) :=
  ⟨h.os, h.tape, h.output, by simpa [World.setCell] using h.size, fun k hk hs => by
    have hne : k ≠ p.block := by
      intro e; subst e; exact hs (hp hk)
    rw [Below.heap_setCell _ _ _ _ hne]; exact h.block k hk hs⟩
theorem Kb.below {B : Nat} {w w' : World} (h : Kb (fun k => B ≤ k) w w') (hB : B ≤ w.heap.size) : Below B w w' :=
  ⟨h.os, h.tape, h.output, h.size, fun k hk => h.block k (by omega) (by omega)⟩

theorem Kb.below_new {N : Nat} {w w' : World} (h : Kb (· = N) w w') (hN : N ≤ w.heap.size) : Below N w w' :=
  ⟨h.os, h.tape, h.output, h.size, fun k hk => h.block k (by omega) (by omega)⟩

theorem below_drewN {B : Nat} {a w : World} (h : Below B a w) (n : Nat) : Below B a (w.drewN n) := ⟨h.os, h.tape, h.output, h.size, h.block⟩

/-- A block holds just these cells, of that type, none of them frozen. -/
def Blk (w : World) (b : Nat) (xs : Array Value) (T : TypeId) : Prop := w.heap[b]? = some (.cells xs T (0, 0))

theorem Blk.lt {w : World} {b : Nat} {xs : Array Value} {T : TypeId} (h : Blk w b xs T) : b < w.heap.size := by
  unfold Blk at h; exact (Array.getElem?_eq_some_iff.1 h).1
theorem Blk.kb {S : Nat → Prop} {w w' : World} {b : Nat} {xs : Array Value} {T : TypeId} (h : Blk w b xs T) (k : Kb S w w') (hs : ¬ S b) : Blk w' b xs T :=
  (k.block b h.lt hs).trans h
theorem Blk.cell {w : World} {b : Nat} {xs : Array Value} {T : TypeId} (h : Blk w b xs T) (i : Nat) : w.cell? ⟨b, i, none⟩ = xs[i]? := by
  unfold Blk at h; simp [World.cell?, h]
theorem Blk.frozen {w : World} {b : Nat} {xs : Array Value} {T : TypeId} (h : Blk w b xs T) (i : Nat) : w.frozen? ⟨b, i, none⟩ = false := by
  unfold Blk at h; simp [World.frozen?, h]
theorem Blk.drewN {w : World} {b : Nat} {xs : Array Value} {T : TypeId} (h : Blk w b xs T) (n : Nat) : Blk (w.drewN n) b xs T := h
theorem Blk.drew {w : World} {b : Nat} {xs : Array Value} {T : TypeId} (h : Blk w b xs T) : Blk w.drew b xs T := h
theorem Blk.alloc {w : World} {b : Nat} {xs : Array Value} {T : TypeId} (h : Blk w b xs T) (o : Obj) : Blk (w.alloc o) b xs T :=
  (Below.heap_alloc w o b h.lt).trans h
theorem Blk.new (w : World) (xs : Array Value) (T : TypeId) : Blk (w.alloc (.cells xs T)) w.heap.size xs T := by
  show (w.heap.push _)[w.heap.size]? = _
  simp
theorem Blk.set {w : World} {b : Nat} {xs : Array Value} {T : TypeId} (h : Blk w b xs T) (i : Nat) (v : Value) : Blk (w.setCell ⟨b, i, none⟩ v) b (xs.setIfInBounds i v) T := by
  unfold Blk at *
  simp [World.setCell, Array.getElem?_modify, h]
theorem Blk.set_other {w : World} {b : Nat} {xs : Array Value} {T : TypeId} (h : Blk w b xs T) {p : Addr} (hp : b ≠ p.block) (v : Value) : Blk (w.setCell p v) b xs T :=
  (Below.heap_setCell w p v b hp).trans h

/-- A law's end: true, and all that was there is as it was. -/
def AwakeEnd (w : World) (e : Ending) (w' : World) : Prop := e = .returned (.bool true) ∧ Below w.heap.size w w'
/-- What a quiet call answers. -/
def Tells (v : Value) (w : World) (e : Ending) (w' : World) : Prop := e = .returned v ∧ Below w.heap.size w w'

end Go.Proofs.YtpappmbnblaccaaDoor

/-
  Bits of ints: the lowest ones, and all of them turned over. Plain.
-/
namespace Go.Proofs.YtpappmbnblaccaaDoor

theorem i64_mask (j : Nat) (hj : j ≤ 62) (n : Int) : bits .and .i64 n (((2 ^ j - 1 : Nat) : Int)) = n % ((2 ^ j : Nat) : Int) := by
  have hp : 2 ^ j ≤ 2 ^ 62 := Nat.pow_le_pow_right (by decide) hj
  have hpos : 0 < 2 ^ j := Nat.two_pow_pos j
  have hm : (BitVec.ofInt 64 ((2 ^ j - 1 : Nat) : Int)).toNat = 2 ^ j - 1 := by
    rw [BitVec.ofInt_natCast, BitVec.toNat_ofNat]
    exact Nat.mod_eq_of_lt (by omega)
  have key : (BitVec.ofInt 64 n &&& BitVec.ofInt 64 ((2 ^ j - 1 : Nat) : Int)).toNat = (n % ((2 ^ 64 : Nat) : Int)).toNat % 2 ^ j := by
    rw [BitVec.toNat_and, BitVec.toNat_ofInt, hm, Nat.and_two_pow_sub_one_eq_mod]
  show IntKind.i64.wrap ((BitVec.ofInt 64 n &&& BitVec.ofInt 64 ((2 ^ j - 1 : Nat) : Int)).toNat : Nat) = n % _
  rw [key]
  have h0 : 0 ≤ n % ((2 ^ 64 : Nat) : Int) := Int.emod_nonneg _ (by decide)
  have e : (((n % ((2 ^ 64 : Nat) : Int)).toNat % 2 ^ j : Nat) : Int) = n % ((2 ^ j : Nat) : Int) := by
    rw [Int.natCast_emod, Int.toNat_of_nonneg h0]
    refine Int.emod_emod_of_dvd n ?_
    exact_mod_cast Nat.pow_dvd_pow 2 (show j ≤ 64 by omega)
  rw [e, IntKind.wrap_i64]
  have h1 : 0 ≤ n % ((2 ^ j : Nat) : Int) := Int.emod_nonneg _ (by omega)
  have h2 : n % ((2 ^ j : Nat) : Int) < ((2 ^ j : Nat) : Int) := Int.emod_lt_of_pos _ (by omega)
  omega
theorem i64_and65535 (n : Int) : bits .and .i64 n 65535 = n % 65536 := i64_mask 16 (by decide) n
theorem i64_and255 (n : Int) : bits .and .i64 n 255 = n % 256 := i64_mask 8 (by decide) n
theorem i64_not (n : Int) : bits .xor .i64 (-1) n = IntKind.i64.wrap (-1 - n) := by
  have h1 : BitVec.ofInt 64 (-1) = BitVec.allOnes 64 := by decide
  have key : (BitVec.ofInt 64 (-1) ^^^ BitVec.ofInt 64 n).toNat = 2 ^ 64 - 1 - (n % ((2 ^ 64 : Nat) : Int)).toNat := by
    rw [h1, BitVec.allOnes_xor, BitVec.toNat_not, BitVec.toNat_ofInt]
  show IntKind.i64.wrap ((BitVec.ofInt 64 (-1) ^^^ BitVec.ofInt 64 n).toNat : Nat) = _
  rw [key, IntKind.wrap_i64, IntKind.wrap_i64]
  omega
/-- All 16 bits turned over. -/
theorem i64_turn16 (n : Int) : bits .and .i64 (bits .xor .i64 (-1) n) 65535 = 65535 - n % 65536 := by
  rw [i64_and65535, i64_not, IntKind.wrap_i64]
  omega
theorem i64_or_low (x y : Int) (j : Nat) (hj : j ≤ 16) (hx : 0 ≤ x) (hx1 : x < 1099511627776) (hm : x % ((2 ^ j : Nat) : Int) = 0) (hy : 0 ≤ y) (hy1 : y < ((2 ^ j : Nat) : Int)) : bits .or .i64 x y = x + y := by
  have hp : 2 ^ j ≤ 2 ^ 16 := Nat.pow_le_pow_right (by decide) hj
  refine bits_join .i64 62 (by decide) (fun n h0 h1 => ?_) j x y hx (by exact_mod_cast hm) (by omega) hy (by exact_mod_cast hy1) (by omega)
  rw [IntKind.wrap_i64]
  omega
theorem i64_and_nat (a b : Nat) (ha : a < 9223372036854775808) (hb : b < 9223372036854775808) : bits .and .i64 (a : Int) (b : Int) = ((a &&& b : Nat) : Int) := by
  show IntKind.i64.wrap ((BitVec.ofInt 64 (a : Int) &&& BitVec.ofInt 64 (b : Int)).toNat : Nat) = _
  rw [BitVec.ofInt_natCast, BitVec.ofInt_natCast, BitVec.toNat_and, BitVec.toNat_ofNat, BitVec.toNat_ofNat, Nat.mod_eq_of_lt (by omega), Nat.mod_eq_of_lt (by omega), IntKind.wrap_i64]
  have := Nat.and_le_left (n := a) (m := b)
  omega
theorem and_pow (a j : Nat) : a &&& 2 ^ j = if a / 2 ^ j % 2 = 1 then 2 ^ j else 0 := by
  apply Nat.eq_of_testBit_eq
  intro i
  rw [Nat.testBit_and, Nat.testBit_two_pow]
  by_cases h : a / 2 ^ j % 2 = 1
  · rw [if_pos h, Nat.testBit_two_pow]
    by_cases e : j = i
    · subst e; simp [Nat.testBit_eq_decide_div_mod_eq, h]
    · simp [e]
  · rw [if_neg h]
    by_cases e : j = i
    · subst e; simp [Nat.testBit_eq_decide_div_mod_eq, h]
    · simp [e]
/-- One bit of a number. -/
theorem i64_and_bit (a j : Nat) (ha : a < 9223372036854775808) (hj : j ≤ 62) : bits .and .i64 (a : Int) ((2 ^ j : Nat) : Int) = if a / 2 ^ j % 2 = 1 then ((2 ^ j : Nat) : Int) else 0 := by
  have hp : 2 ^ j ≤ 2 ^ 62 := Nat.pow_le_pow_right (by decide) hj
  rw [i64_and_nat a (2 ^ j) ha (by omega), and_pow]
  split <;> rfl
end Go.Proofs.YtpappmbnblaccaaDoor

/-
  A slice of texts in memory.
-/
namespace Go.Proofs.YtpappmbnblaccaaDoor
open Go.RowKit
set_option linter.unusedVariables false

/-- A slice whose cells are these texts; its block lies below B. -/
def StrsAt (w : World) (B : Nat) (a : Option Addr) (len : Nat) (P : Nat → ByteArray) : Prop :=
  len = 0 ∨ ∃ b off, a = some ⟨b, off, none⟩ ∧ b < B ∧ ∀ i, i < len → w.cell? ⟨b, off + i, none⟩ = some (.string (P i))

theorem StrsAt.below {w w' : World} {B : Nat} {a : Option Addr} {len : Nat} {P : Nat → ByteArray} (h : StrsAt w B a len P) (hb : Below B w w') : StrsAt w' B a len P := by
  rcases h with h | ⟨b, off, rfl, hlt, hc⟩
  · exact Or.inl h
  · exact Or.inr ⟨b, off, rfl, hlt, fun i hi => (hb.cell (p := ⟨b, off + i, none⟩) hlt).trans (hc i hi)⟩
theorem StrsAt.mono {w : World} {B B' : Nat} {a : Option Addr} {len : Nat} {P : Nat → ByteArray} (h : StrsAt w B a len P) (hB : B ≤ B') : StrsAt w B' a len P := by
  rcases h with h | ⟨b, off, rfl, hlt, hc⟩
  · exact Or.inl h
  · exact Or.inr ⟨b, off, rfl, by omega, hc⟩
/-- A literal of texts. -/
def strsOf (l : List ByteArray) (i : Nat) : ByteArray := l.getD i ByteArray.empty
theorem strs_new (w : World) (l : List ByteArray) (T : TypeId) : StrsAt (w.alloc (.cells (l.map Value.string).toArray T)) (w.heap.size + 1) (some ⟨w.heap.size, 0, none⟩) l.length (strsOf l) := by
  refine Or.inr ⟨_, 0, rfl, by omega, fun i hi => ?_⟩
  rw [Nat.zero_add, (Blk.new w _ T).cell i]
  simp [strsOf, hi]
theorem strs_nil (w : World) (B : Nat) (a : Option Addr) (P : Nat → ByteArray) : StrsAt w B a 0 P := Or.inl rfl
end Go.Proofs.YtpappmbnblaccaaDoor

/-
  Texts of bytes: joined, cut, made of numbers. Plain, but for what a conversion does.
-/
namespace Go.Proofs.YtpappmbnblaccaaDoor
open Go.RowKit
set_option linter.unusedVariables false

theorem list_size (l : List UInt8) : (⟨l.toArray⟩ : ByteArray).size = l.length := by simp [ByteArray.size]
theorem cat_list (s t : ByteArray) : (s ++ t).data.toList = s.data.toList ++ t.data.toList := by rw [ByteArray.data_append]; simp
theorem cat_size (s t : ByteArray) : (s ++ t).size = s.size + t.size := by simp
theorem text_ext {s t : ByteArray} (h : s.data.toList = t.data.toList) : s = t := by
  cases s with | mk s => cases t with | mk t => congr; exact Array.toList_inj.1 h
theorem addr_add (g j : Nat) : (⟨g, 0, none⟩ : Addr).add j = ⟨g, j, none⟩ := by unfold Addr.add; split <;> simp_all

theorem extract_list (s : ByteArray) (i j : Nat) : (s.extract i j).data.toList = (s.data.toList.take j).drop i := by
  rw [ByteArray.data_extract, Array.toList_extract, List.extract_eq_take_drop, List.drop_take]
theorem tail_text (s t : ByteArray) : (s ++ t).extract s.size (s ++ t).size = t := by
  apply text_ext
  rw [extract_list, cat_list, List.take_of_length_le (by simp), List.drop_left' (by simp)]
/-- A fresh slice of bytes as a text. -/
theorem conv_new (w : World) (bs : List UInt8) (cs : Array Value) (hcs : cs = (bs.map fun c => Value.int .u8 (c.toNat : Int)).toArray) (n : Nat) (hn : n = bs.length) :
    (convert 54 9 (.slice (some ⟨w.heap.size, 0, none⟩) n n)).run Tryd.prog (w.alloc (.cells cs 5)) = .ok (.string ⟨bs.toArray⟩) (w.alloc (.cells cs 5)) := by
  subst hn hcs
  refine run_convert_bytes_back (P := Tryd.prog) _ 54 9 5 ⟨w.heap.size, 0, none⟩ bs.length bs Tryd.underlying54 Tryd.underlying5 Tryd.underlying9 fun q hq => ?_
  rw [addr_add]
  refine ((Blk.new w _ _).cell q).trans ?_
  simp [hq]
theorem conv_two (w : World) (n : Nat) : (convert 54 9 (.slice (some ⟨w.heap.size, 0, none⟩) 2 2)).run Tryd.prog (w.alloc (.cells #[.int .u8 ((n : Int) / 256 % 256), .int .u8 ((n : Int) % 256)] 5))
    = .ok (.string ⟨#[UInt8.ofNat (n / 256 % 256), UInt8.ofNat (n % 256)]⟩) (w.alloc (.cells #[.int .u8 ((n : Int) / 256 % 256), .int .u8 ((n : Int) % 256)] 5)) := by
  refine conv_new w [UInt8.ofNat (n / 256 % 256), UInt8.ofNat (n % 256)] _ ?_ 2 rfl
  simp only [List.map_cons, List.map_nil, UInt8.toNat_ofNat']
  have e1 : ((n : Int) / 256 % 256) = ((n / 256 % 256 % 2 ^ 8 : Nat) : Int) := by omega
  have e2 : ((n : Int) % 256) = ((n % 256 % 2 ^ 8 : Nat) : Int) := by omega
  rw [e1, e2]
theorem conv_two_small (w : World) (n : Nat) (h : n ≤ 65535) : (convert 54 9 (.slice (some ⟨w.heap.size, 0, none⟩) 2 2)).run Tryd.prog (w.alloc (.cells #[.int .u8 ((n : Int) / 256), .int .u8 ((n : Int) % 256)] 5))
    = .ok (.string ⟨#[UInt8.ofNat (n / 256 % 256), UInt8.ofNat (n % 256)]⟩) (w.alloc (.cells #[.int .u8 ((n : Int) / 256), .int .u8 ((n : Int) % 256)] 5)) := by
  have e : ((n : Int) / 256) = ((n : Int) / 256 % 256) := by omega
  rw [e]
  exact conv_two w n
theorem conv_two_raw (w : World) (n : Nat) (h : n ≤ 65535) : (convert 54 9 (.slice (some ⟨w.heap.size, 0, none⟩) 2 2)).run Tryd.prog (w.alloc (.cells #[.int .u8 (IntKind.u8.wrap ((n : Int) / 256)), .int .u8 (IntKind.u8.wrap (n : Int))] 5)).drew
    = .ok (.string ⟨#[UInt8.ofNat (n / 256 % 256), UInt8.ofNat (n % 256)]⟩) (w.alloc (.cells #[.int .u8 (IntKind.u8.wrap ((n : Int) / 256)), .int .u8 (IntKind.u8.wrap (n : Int))] 5)).drew := by
  have e1 : IntKind.u8.wrap ((n : Int) / 256) = ((UInt8.ofNat (n / 256 % 256)).toNat : Int) := by
    rw [IntKind.wrap_u8, UInt8.toNat_ofNat']; omega
  have e2 : IntKind.u8.wrap (n : Int) = ((UInt8.ofNat (n % 256)).toNat : Int) := by
    rw [IntKind.wrap_u8, UInt8.toNat_ofNat']; omega
  rw [e1, e2]
  refine run_convert_bytes_back (P := Tryd.prog) _ 54 9 5 ⟨w.heap.size, 0, none⟩ 2 [UInt8.ofNat (n / 256 % 256), UInt8.ofNat (n % 256)] Tryd.underlying54 Tryd.underlying5 Tryd.underlying9 fun q hq => ?_
  rw [addr_add]
  refine ((Blk.new w _ _).drew.cell q).trans ?_
  have : q = 0 ∨ q = 1 := by simp at hq; omega
  rcases this with rfl | rfl <;> rfl

/-- A block whose first cells are these bytes, none of them frozen. -/
def ByteBlk (w : World) (b : Nat) (l : List UInt8) : Prop :=
  ∃ xs T fr, w.heap[b]? = some (.cells xs T fr) ∧ (∀ j (h : j < l.length), xs[j]? = some (.int .u8 (l[j].toNat : Int))) ∧ (l.length ≤ fr.1 ∨ fr.2 = 0)
theorem ByteBlk.lt {w : World} {b : Nat} {l : List UInt8} (h : ByteBlk w b l) : b < w.heap.size := by
  obtain ⟨xs, T, fr, h, _⟩ := h; exact (Array.getElem?_eq_some_iff.1 h).1
theorem ByteBlk.cell {w : World} {b : Nat} {l : List UInt8} (h : ByteBlk w b l) (j : Nat) (hj : j < l.length) : w.cell? ⟨b, j, none⟩ = some (.int .u8 (l[j].toNat : Int)) := by
  obtain ⟨xs, T, fr, h, hc, _⟩ := h
  simp [World.cell?, h, hc j hj]
theorem ByteBlk.frozen {w : World} {b : Nat} {l : List UInt8} (h : ByteBlk w b l) (j : Nat) (hj : j < l.length) : w.frozen? ⟨b, j, none⟩ = false := by
  obtain ⟨xs, T, ⟨lo, hi⟩, h, hc, hl⟩ := h
  simp only at hl
  simp [World.frozen?, h]
  omega
theorem ByteBlk.set {w : World} {b : Nat} {l : List UInt8} (h : ByteBlk w b l) (i : Nat) (c : UInt8) (v : Value) (hv : v = .int .u8 (c.toNat : Int)) : ByteBlk (w.setCell ⟨b, i, none⟩ v) b (l.set i c) := by
  obtain ⟨xs, T, fr, h, hc, hl⟩ := h
  refine ⟨xs.setIfInBounds i v, T, fr, ?_, fun j hj => ?_, by simpa using hl⟩
  · simp [World.setCell, Array.getElem?_modify, h]
  · have hj' : j < l.length := by simpa using hj
    have := hc j hj'
    have hx := (Array.getElem?_eq_some_iff.1 this).1
    rw [Array.getElem?_setIfInBounds]
    by_cases e : i = j
    · subst e; simp [hx, hv]
    · simp [e, this]
theorem ByteBlk.drew {w : World} {b : Nat} {l : List UInt8} (h : ByteBlk w b l) : ByteBlk w.drew b l := h
theorem ByteBlk.kb {S : Nat → Prop} {w w' : World} {b : Nat} {l : List UInt8} (h : ByteBlk w b l) (k : Kb S w w') (hs : ¬ S b) : ByteBlk w' b l := by
  have hb := h.lt
  obtain ⟨xs, T, fr, h, hc, hl⟩ := h
  exact ⟨xs, T, fr, (k.block b hb hs).trans h, hc, hl⟩
theorem ByteBlk.text {w : World} {b cap n : Nat} {l : List UInt8} (h : ByteBlk w b l) (hn : n = l.length) :
    (convert 54 9 (.slice (some ⟨b, 0, none⟩) n cap)).run Tryd.prog w = .ok (.string ⟨l.toArray⟩) w := by
  subst hn
  refine run_convert_bytes_back (P := Tryd.prog) _ 54 9 5 ⟨b, 0, none⟩ cap l Tryd.underlying54 Tryd.underlying5 Tryd.underlying9 fun q hq => ?_
  rw [addr_add]
  exact h.cell q hq
/-- A text's bytes, laid anew. -/
theorem bytes_conv (w : World) (s : ByteArray) : ∃ cap w', (convert 9 54 (.string s)).run Tryd.prog w = .ok (.slice (some ⟨w.heap.size, 0, none⟩) s.size cap) w' ∧ ByteBlk w' w.heap.size s.data.toList ∧ Kb (fun _ => False) w w' ∧ w'.heap.size = w.heap.size + 1 := by
  refine ⟨_, _, run_bytes_of_string (P := Tryd.prog) w 9 54 5 s Tryd.underlying9 Tryd.underlying54 Tryd.underlying5, ?_, ?_, by simp⟩
  · generalize hC : bytesRow s (grownCap w s.size 0 5) = C
    refine ⟨C, 5, (C.size, C.size + 1), ?_, fun j hj => ?_, ?_⟩
    · show (w.heap.push _)[w.heap.size]? = _
      simp
    · subst hC
      have hj' : j < s.data.size := by simpa using hj
      rw [bytesRow_at s _ j hj']
      simp
    · subst hC
      left
      simp [bytesRow]
  · exact ((Kb.refl _ _).drew).alloc _
theorem Tryd.infoByte : (Tryd.prog.info? 5).map (fun i => (i.zero, i.size, i.bytes)) = some (some (.int .u8 0), 1, 1) := by kernel_rfl
/-- Bytes 00, made anew. -/
theorem zeros_made (w : World) (n : Nat) (hn : n ≤ 281474976710656) : ∃ w', (Instr.makeSlice 54 (.int .i64 (n : Int)) (.int .i64 (n : Int))).run Tryd.prog w = .ok (.slice (some ⟨w.heap.size, 0, none⟩) n n) w' ∧ ByteBlk w' w.heap.size (List.replicate n 0) ∧ Kb (fun _ => False) w w' ∧ w'.heap.size = w.heap.size + 1 := by
  refine ⟨_, run_make_row' (P := Tryd.prog) 54 5 (.int .u8 0) 1 Tryd.underlying54 Tryd.infoByte rfl .i64 .i64 n (by omega) (by omega) w, ?_, (Kb.refl _ _).alloc _, by simp⟩
  obtain ⟨c, hc, hs, hi⟩ := World.rowIs_made w (.int .u8 0) n 5
  refine ⟨c, 5, (0, 0), hc, fun j hj => ?_, Or.inr rfl⟩
  rw [hi j (by simpa using hj)]
  simp
theorem xor_u8 (a b : UInt8) : bits .xor .u8 (a.toNat : Int) (b.toNat : Int) = ((a ^^^ b).toNat : Int) := by
  have h1 : (BitVec.ofInt 8 (a.toNat : Int)) = a.toBitVec := by rw [BitVec.ofInt_natCast]; simp
  have h2 : (BitVec.ofInt 8 (b.toNat : Int)) = b.toBitVec := by rw [BitVec.ofInt_natCast]; simp
  show IntKind.u8.wrap ((BitVec.ofInt 8 (a.toNat : Int) ^^^ BitVec.ofInt 8 (b.toNat : Int)).toNat : Nat) = _
  rw [h1, h2]
  have h3 : (a.toBitVec ^^^ b.toBitVec).toNat = (a ^^^ b).toNat := rfl
  rw [h3]
  have := (a ^^^ b).toNat_lt
  generalize (a ^^^ b).toNat = x at *
  simp only [IntKind.wrap, IntKind.bits, IntKind.signed]
  simp
  omega
end Go.Proofs.YtpappmbnblaccaaDoor

/-
  A whole row of cells put into a block; what that leaves alone. Plain: no Go function is walked here.
-/
namespace Go.Proofs.YtpappmbnblaccaaDoor
open Go.RowKit
set_option linter.unusedVariables false

theorem Blk.row {w : World} {b : Nat} {xs : Array Value} {T : TypeId} (h : Blk w b xs T) (ys : Array Value) : Blk (w.setRow b ys) b ys T := by
  unfold Blk at *
  simp [World.setRow, Array.getElem?_modify, h]
theorem Blk.row_other {w : World} {b g : Nat} {xs : Array Value} {T : TypeId} (h : Blk w b xs T) (hg : b ≠ g) (ys : Array Value) : Blk (w.setRow g ys) b xs T := by
  unfold Blk at *
  simp [World.setRow, Array.getElem?_modify, h, Ne.symm hg]
theorem below_row {B g : Nat} {a w : World} (h : Below B a w) (hg : B ≤ g) (ys : Array Value) : Below B a (w.setRow g ys) :=
  ⟨h.os, h.tape, h.output, by simpa [World.setRow] using h.size, fun k hk => by
    have hne : g ≠ k := by omega
    rw [← h.block k hk]
    simp [World.setRow, Array.getElem?_modify, hne]⟩

theorem Kb.row {S : Nat → Prop} {a w : World} (h : Kb S a w) {g : Nat} (hg : g < a.heap.size → S g) (ys : Array Value) : Kb S a (w.setRow g ys) :=
  ⟨h.os, h.tape, h.output, by simpa [World.setRow] using h.size, fun k hk hs => by
    have hne : g ≠ k := by intro e; subst e; exact hs (hg hk)
    rw [← h.block k hk hs]
    simp [World.setRow, Array.getElem?_modify, hne]⟩

end Go.Proofs.YtpappmbnblaccaaDoor

/-
  A number's bytes, the highest first. Plain.
-/
namespace Go.Proofs.YtpappmbnblaccaaDoor
set_option linter.unusedVariables false

/-- The lowest bytes of a number, the highest first. -/
def be (n : Nat) (size : Nat) : List UInt8 := (List.range size).map fun i => UInt8.ofNat (n / 256 ^ (size - 1 - i) % 256)
theorem be_length (n size : Nat) : (be n size).length = size := by simp [be]
theorem be_succ (n i : Nat) : be n (i + 1) = UInt8.ofNat (n / 256 ^ i % 256) :: be n i := by
  unfold be
  rw [List.range_succ_eq_map, List.map_cons, List.map_map]
  congr 1
  apply List.map_congr_left
  intro j hj
  simp only [Function.comp]
  congr 4
  omega
end Go.Proofs.YtpappmbnblaccaaDoor

/-
  A region that draws its order, taken by hand: one operation first, wanted or not. Plain: no Go function is walked here.
-/
namespace Go.Proofs.YtpappmbnblaccaaDoor
set_option linter.unusedVariables false

section
variable {P : Program} {ops : Array Oper} {Q : Exit → Act → World → Prop} {md : Region.Mode} {S : World → Prop}

/-- Taken first, under what is held, where it is wanted. -/
theorem takeH_yes {i : Nat} {d : Option Tmp} {oi : Oper} {v : Value} {fuel : Nat} {listed : Array Bool} {a : Act} {w : World} (hi : ops[i]? = some oi) (hd : oi.dst = d)
    (hs : Region.noSelect ops = true) (hf : Region.free md ops listed i = true) (hr : (Region.ready md ops listed).contains i = true)
    (hQ : ∀ c a w, Q (.panic c) (a.put d v) w → Q (.panic c) a w) (hw : Region.wanted oi (yielded ops a.tmps) = true) (hx : ∀ w, S w → (execOp a.eval oi).run P w = .ok (.value v) w) (hS : S w)
    (h : wpAnyH P md ops Q S fuel (listed.setIfInBounds i true) (a.put d v) w) : wpAnyH P md ops Q S (fuel + 1) listed a w := by
  subst hd; exact wpAnyH_take hi hs hf hr hQ (Or.inl ⟨hw, hx⟩) hS h
/-- Taken first, where it is not. -/
theorem takeH_no {i : Nat} {d : Option Tmp} {oi : Oper} {fuel : Nat} {listed : Array Bool} {a : Act} {w : World} (hi : ops[i]? = some oi) (hd : oi.dst = d)
    (hs : Region.noSelect ops = true) (hf : Region.free md ops listed i = true) (hr : (Region.ready md ops listed).contains i = true)
    (hQ : ∀ c a w, Q (.panic c) (a.put d undef) w → Q (.panic c) a w) (hw : Region.wanted oi (yielded ops a.tmps) = false) (hS : S w)
    (h : wpAnyH P md ops Q S fuel (listed.setIfInBounds i true) (a.put d undef) w) : wpAnyH P md ops Q S (fuel + 1) listed a w := by
  subst hd; exact wpAnyH_take hi hs hf hr hQ (Or.inr ⟨hw, rfl⟩) hS h
/-- The same with nothing held. -/
theorem takeA_yes {i : Nat} {d : Option Tmp} {oi : Oper} {v : Value} {fuel : Nat} {listed : Array Bool} {a : Act} {w : World} (hi : ops[i]? = some oi) (hd : oi.dst = d)
    (hs : Region.noSelect ops = true) (hf : Region.free md ops listed i = true) (hr : (Region.ready md ops listed).contains i = true)
    (hQ : ∀ c a w, Q (.panic c) (a.put d v) w → Q (.panic c) a w) (hw : Region.wanted oi (yielded ops a.tmps) = true) (hx : ∀ w, (execOp a.eval oi).run P w = .ok (.value v) w)
    (h : wpAny P md ops Q fuel (listed.setIfInBounds i true) (a.put d v) w) : wpAny P md ops Q (fuel + 1) listed a w := by
  subst hd; exact wpAny_take hi hs hf hr hQ (Or.inl ⟨hw, hx⟩) h
theorem takeA_no {i : Nat} {d : Option Tmp} {oi : Oper} {fuel : Nat} {listed : Array Bool} {a : Act} {w : World} (hi : ops[i]? = some oi) (hd : oi.dst = d)
    (hs : Region.noSelect ops = true) (hf : Region.free md ops listed i = true) (hr : (Region.ready md ops listed).contains i = true)
    (hQ : ∀ c a w, Q (.panic c) (a.put d undef) w → Q (.panic c) a w) (hw : Region.wanted oi (yielded ops a.tmps) = false)
    (h : wpAny P md ops Q fuel (listed.setIfInBounds i true) (a.put d undef) w) : wpAny P md ops Q (fuel + 1) listed a w := by
  subst hd; exact wpAny_take hi hs hf hr hQ (Or.inr ⟨hw, rfl⟩) h
end

end Go.Proofs.YtpappmbnblaccaaDoor

/-
  Slices of bytes that a call has made itself, of whatever mark: made of a text, added to, and told as a text.
-/
namespace Go.Proofs.YtpappmbnblaccaaDoor
open Go.RowKit
set_option linter.unusedVariables false

/-- Bytes as cells. -/
def byteCells (l : List UInt8) : List Value := l.map fun c => Value.int .u8 (c.toNat : Int)
theorem byteCells_length (l : List UInt8) : (byteCells l).length = l.length := by simp [byteCells]
theorem byteCells_append (l m : List UInt8) : byteCells (l ++ m) = byteCells l ++ byteCells m := by simp [byteCells]
theorem byteCells_one (l : List UInt8) : ∀ u ∈ byteCells l, u.oneCell' = true := by
  intro u hu
  obtain ⟨c, _, rfl⟩ := List.mem_map.1 hu
  rfl

/-- No cell of a row of so many is frozen. -/
def Free (fz : Nat × Nat) (n : Nat) : Prop := n ≤ fz.1 ∨ fz.2 = 0

/-- Cells stored one behind the other into a row none of whose cells is frozen. -/
theorem store_all (g : Nat) (e : TypeId) (fz : Nat × Nat) (o : Nat) : ∀ (vs : List Value) (i : Nat) (cur : Array Value) (w : World), w.heap[g]? = some (.cells cur e fz) → Free fz cur.size → o + i + vs.length ≤ cur.size → (∀ v ∈ vs, v.oneCell' = true) →
    ∃ w' cur', (storeCells ⟨g, o, none⟩ vs i).run Tryd.prog w = .ok () w' ∧ w'.heap[g]? = some (.cells cur' e fz) ∧ cur'.size = cur.size ∧ cur'.toList.take (o + i + vs.length) = cur.toList.take (o + i) ++ vs ∧ Kb (· = g) w w' := by
  intro vs
  induction vs with
  | nil => intro i cur w hg _ _ _; exact ⟨w, cur, rfl, hg, rfl, by simp, Kb.refl _ _⟩
  | cons v rest ih =>
    intro i cur w hg hf hl h1
    rw [List.length_cons] at hl
    have hlt : o + i < cur.size := by omega
    have ha : (⟨g, o, none⟩ : Addr).add i = ⟨g, o + i, none⟩ := by unfold Addr.add; split <;> simp_all
    have hc : w.cell? ⟨g, o + i, none⟩ = some cur[o + i] := by simp [World.cell?, hg, hlt]
    have hz : w.frozen? ⟨g, o + i, none⟩ = false := by
      obtain ⟨a, b⟩ := fz
      rcases hf with hf | hf <;> simp only at hf <;> simp [World.frozen?, hg] <;> omega
    have hs : (store ((⟨g, o, none⟩ : Addr).add i) v).run Tryd.prog w = .ok () (w.setCell ⟨g, o + i, none⟩ v) := by
      rw [ha, run_store Tryd.prog w _ v _ (h1 v (List.mem_cons_self ..)), hc]
      simp [hz]
    have hg1 : (w.setCell ⟨g, o + i, none⟩ v).heap[g]? = some (.cells (cur.setIfInBounds (o + i) v) e fz) := by
      simp [World.setCell, Array.getElem?_modify, hg]
    obtain ⟨w', cur', r, r1, r2, r3, r4⟩ := ih (i + 1) (cur.setIfInBounds (o + i) v) _ hg1 (by simpa using hf) (by simp; omega) (fun x hx => h1 x (List.mem_cons_of_mem _ hx))
    refine ⟨w', cur', ?_, r1, by simpa using r2, ?_, (Kb.setCell (S := (· = g)) (Kb.refl _ _) (p := ⟨g, o + i, none⟩) (fun _ => rfl) _).trans r4⟩
    · simp only [storeCells, Sem.run_bind, hs, Result.andThen_ok, r]
    · have e1 : (cur.setIfInBounds (o + i) v).toList.take (o + (i + 1)) = cur.toList.take (o + i) ++ [v] := by
        rw [Array.toList_setIfInBounds, show o + (i + 1) = (o + i) + 1 by omega, List.take_succ_eq_append_getElem (by simpa using hlt), List.getElem_set_self, List.take_set_of_le (Nat.le_refl _)]
      rw [e1] at r3
      rw [List.length_cons, show o + i + (rest.length + 1) = o + (i + 1) + rest.length by omega, r3]
      simp

/-- A slice of bytes that the call owns: it lies from base on, and holds these. -/
def OwnB (w : World) (base : Nat) (v : Value) (l : List UInt8) : Prop :=
  ∃ g cur fz, v = .slice (some ⟨g, 0, none⟩) l.length cur.size ∧ base ≤ g ∧ w.heap[g]? = some (.cells cur 5 fz) ∧ Free fz cur.size ∧ l.length ≤ cur.size ∧ cur.size ≤ maxLen ∧ cur.toList.take l.length = byteCells l

theorem OwnB.slice {w : World} {base : Nat} {v : Value} {l : List UInt8} (h : OwnB w base v l) : ∃ g c, v = .slice (some ⟨g, 0, none⟩) l.length c ∧ base ≤ g ∧ g < w.heap.size := by
  obtain ⟨g, cur, fz, rfl, hb, hg, _⟩ := h
  exact ⟨g, _, rfl, hb, (Array.getElem?_eq_some_iff.1 hg).1⟩
theorem OwnB.cells {w : World} {base g c n : Nat} {l : List UInt8} (h : OwnB w base (.slice (some ⟨g, 0, none⟩) n c) l) (j : Nat) (hj : j < l.length) : w.cell? ⟨g, j, none⟩ = some (.int .u8 (l[j].toNat : Int)) := by
  obtain ⟨g', cur, fz, hv, hb, hg, hf, hl, hm, ht⟩ := h
  simp at hv
  obtain ⟨rfl, _, _⟩ := hv
  have h1 : (cur.toList.take l.length)[j]? = some (.int .u8 (l[j].toNat : Int)) := by rw [ht]; simp [byteCells, hj]
  rw [List.getElem?_take_of_lt hj] at h1
  simpa [World.cell?, hg] using h1
theorem OwnB.kb {S : Nat → Prop} {w w' : World} {base g n c : Nat} {l : List UInt8} (h : OwnB w base (.slice (some ⟨g, 0, none⟩) n c) l) (k : Kb S w w') (hs : ¬ S g) : OwnB w' base (.slice (some ⟨g, 0, none⟩) n c) l := by
  obtain ⟨g', cur, fz, hv, hb, hg, r⟩ := h
  have hv' := hv
  simp at hv'
  obtain ⟨rfl, _, _⟩ := hv'
  exact ⟨g, cur, fz, hv, hb, (k.block g (Array.getElem?_eq_some_iff.1 hg).1 hs).trans hg, r⟩
theorem OwnB.text {w : World} {base : Nat} {v : Value} {l : List UInt8} (h : OwnB w base v l) : (convert 54 9 v).run Tryd.prog w = .ok (.string ⟨l.toArray⟩) w := by
  obtain ⟨g, c, rfl, _, _⟩ := h.slice
  refine run_convert_bytes_back (P := Tryd.prog) _ 54 9 5 ⟨g, 0, none⟩ c l Tryd.underlying54 Tryd.underlying5 Tryd.underlying9 fun q hq => ?_
  rw [addr_add]
  exact h.cells q hq

/-- A text's bytes, laid anew, are owned. -/
theorem own_conv (w : World) (s : ByteArray) (hs : s.size ≤ 140737488355328) : ∃ v w', (convert 9 54 (.string s)).run Tryd.prog w = .ok v w' ∧ OwnB w' w.heap.size v s.data.toList ∧ Kb (fun _ => False) w w' := by
  have hge := grownCap_ge w s.size 0 5
  have hle : grownCap w s.size 0 5 ≤ maxLen := grownCap_le_maxLen w s.size 0 5 (by unfold maxLen; omega)
  have hrow : (bytesRow s (grownCap w s.size 0 5)).size = grownCap w s.size 0 5 := by
    simp [bytesRow]
    have : s.data.size = s.size := rfl
    omega
  refine ⟨_, _, run_bytes_of_string (P := Tryd.prog) w 9 54 5 s Tryd.underlying9 Tryd.underlying54 Tryd.underlying5, ?_, ((Kb.refl _ _).drew).alloc _⟩
  refine ⟨w.heap.size, bytesRow s (grownCap w s.size 0 5), ((bytesRow s (grownCap w s.size 0 5)).size, (bytesRow s (grownCap w s.size 0 5)).size + 1), by rw [hrow]; simp, Nat.le_refl _, ?_, Or.inl (Nat.le_refl _), ?_, by rw [hrow]; exact hle, ?_⟩
  · show (w.heap.push _)[w.heap.size]? = _
    simp
  · rw [hrow]; simpa using hge
  · unfold bytesRow byteCells
    rw [Array.toList_append, List.take_left' (by simp)]
    simp

theorem Tryd.infoB : ∃ i, Tryd.prog.info? 5 = some i ∧ i.zero = some (.int .u8 0) ∧ i.size = 1 ∧ i.bytes = 1 := by
  obtain ⟨i, hi, hz⟩ := Option.map_eq_some_iff.1 Tryd.infoByte
  simp only [Prod.mk.injEq] at hz
  exact ⟨i, hi, hz.1, hz.2.1, hz.2.2⟩

/-- A text added. -/
theorem own_add (w : World) (base : Nat) (v : Value) (l : List UInt8) (s : ByteArray) (ty : TypeId) (h : OwnB w base v l) (hb : base ≤ w.heap.size) (hs : l.length + s.size ≤ 140737488355328) :
    ∃ v' w', (Builtin.append_ #[54, 9] ty #[v, .string s]).run Tryd.prog w = .ok v' w' ∧ OwnB w' base v' (l ++ s.data.toList) ∧ Kb (fun k => base ≤ k) w w' := by
  obtain ⟨i, hi, hz, hi1, hi2⟩ := Tryd.infoB
  have hown := h
  obtain ⟨g, cur, fz, rfl, hbg, hg, hf, hlc, hcm, ht⟩ := h
  have hsl : s.data.toList.length = s.size := by simp
  by_cases room : l.length + s.size ≤ cur.size
  · have hfc := Lib.run_firstCells_string (P := Tryd.prog) w 1 s
    obtain ⟨w', cur', r, r1, r2, r3, r4⟩ := store_all g 5 fz l.length (Lib.strCells s) 0 cur w hg hf (by rw [Lib.strCells_length]; omega) (Lib.strCells_oneCell s)
    refine ⟨.slice (some ⟨g, 0, none⟩) (l.length + s.size) cur.size, w', ?_, ⟨g, cur', fz, ?_, hbg, r1, by rw [r2]; exact hf, ?_, by rw [r2]; exact hcm, ?_⟩, r4.mono fun k _ e => by subst e; exact hbg⟩
    · simp [Builtin.append_, run_underlying Tryd.underlying54, run_underlying Tryd.underlying9, sizeOf, typeInfo, hi, hi1, Builtin.lenOf, room, hfc, Addr.add_lit, r]
    · rw [r2, List.length_append, hsl]
    · rw [r2, List.length_append, hsl]; exact room
    · rw [Lib.strCells_length, Nat.add_zero] at r3
      rw [List.length_append, hsl, r3, ht, byteCells_append]
      rfl
  · have hold : ∀ j u, (byteCells l)[j]? = some u → w.cell? ((⟨g, 0, none⟩ : Addr).add j) = some u := by
      intro j u hu
      have hj : j < l.length := by have := (List.getElem?_eq_some_iff.1 hu).1; simpa [byteCells] using this
      rw [addr_add, hown.cells j hj]
      simp [byteCells, hj] at hu
      rw [← hu]
    have hr := Lib.run_append_grow_string (P := Tryd.prog) w 54 9 ty 5 i (.int .u8 0) Tryd.underlying54 Tryd.underlying9 hi hz ⟨g, 0, none⟩ l.length cur.size (byteCells l) (by rw [hi1, byteCells_length, Nat.mul_one]) hold s (by omega) (by omega) (by rw [hi2]; exact growslice_fits (by omega) (by omega))
    have hge := grownCap_ge w (l.length + s.size) cur.size 5
    have hle : grownCap w (l.length + s.size) cur.size 5 ≤ maxLen := grownCap_le_maxLen w (l.length + s.size) cur.size 5 (by unfold maxLen; omega)
    refine ⟨_, _, hr, ?_, (((Kb.refl _ _).drew).alloc _)⟩
    have hz1 : (Value.int IntKind.u8 0).cells.size = 1 := rfl
    have hsz : ((byteCells l).toArray ++ (Lib.strCells s).toArray ++ Builtin.zeroCells (Value.int IntKind.u8 0).cells (grownCap w (l.length + s.size) cur.size 5 - (l.length + s.size))).size = grownCap w (l.length + s.size) cur.size 5 := by
      simp only [Array.size_append, List.size_toArray, size_zeroCells, hz1, byteCells_length, Lib.strCells_length]
      omega
    refine ⟨w.heap.size, _, (0, 0), ?_, hb, heap_alloc_new w.drew _, Or.inr rfl, ?_, ?_, ?_⟩
    · rw [hsz, List.length_append, hsl]
    · rw [hsz, List.length_append, hsl]; exact hge
    · rw [hsz]; exact hle
    · rw [Array.toList_append, Array.toList_append, List.take_left' (by simp [byteCells_length, Lib.strCells_length]), byteCells_append]
      rfl

/-- Bytes of a slice added. -/
theorem own_adds (w : World) (base : Nat) (v : Value) (l m : List UInt8) (a n c : Nat) (ty : TypeId) (h : OwnB w base v l) (hb : base ≤ w.heap.size) (hn : n = m.length) (hm : ∀ j (hj : j < m.length), w.cell? ⟨a, j, none⟩ = some (.int .u8 (m[j].toNat : Int))) (hs : l.length + m.length ≤ 140737488355328) :
    ∃ v' w', (Builtin.append_ #[54, 54] ty #[v, .slice (some ⟨a, 0, none⟩) n c]).run Tryd.prog w = .ok v' w' ∧ OwnB w' base v' (l ++ m) ∧ Kb (fun k => base ≤ k) w w' := by
  subst hn
  obtain ⟨i, hi, hz, hi1, hi2⟩ := Tryd.infoB
  have hown := h
  obtain ⟨g, cur, fz, rfl, hbg, hg, hf, hlc, hcm, ht⟩ := h
  have hnew : ∀ j u, (byteCells m)[j]? = some u → w.cell? ((⟨a, 0, none⟩ : Addr).add j) = some u := by
    intro j u hu
    have hj : j < m.length := by have := (List.getElem?_eq_some_iff.1 hu).1; simpa [byteCells] using this
    rw [addr_add, hm j hj]
    simp [byteCells, hj] at hu
    rw [← hu]
  by_cases room : l.length + m.length ≤ cur.size
  · have hfc := run_firstCells_some (P := Tryd.prog) w 1 m.length ⟨a, 0, none⟩ m.length c (byteCells m) (by rw [byteCells_length, Nat.mul_one]) hnew
    obtain ⟨w', cur', r, r1, r2, r3, r4⟩ := store_all g 5 fz l.length (byteCells m) 0 cur w hg hf (by rw [byteCells_length]; omega) (byteCells_one m)
    refine ⟨.slice (some ⟨g, 0, none⟩) (l.length + m.length) cur.size, w', ?_, ⟨g, cur', fz, ?_, hbg, r1, by rw [r2]; exact hf, ?_, by rw [r2]; exact hcm, ?_⟩, r4.mono fun k _ e => by subst e; exact hbg⟩
    · simp [Builtin.append_, run_underlying Tryd.underlying54, sizeOf, typeInfo, hi, hi1, Builtin.lenOf, room, hfc, Addr.add_lit, r]
    · rw [r2, List.length_append]
    · rw [r2, List.length_append]; exact room
    · rw [byteCells_length, Nat.add_zero] at r3
      rw [List.length_append, r3, ht, byteCells_append]
  · have hold : ∀ j u, (byteCells l)[j]? = some u → w.cell? ((⟨g, 0, none⟩ : Addr).add j) = some u := by
      intro j u hu
      have hj : j < l.length := by have := (List.getElem?_eq_some_iff.1 hu).1; simpa [byteCells] using this
      rw [addr_add, hown.cells j hj]
      simp [byteCells, hj] at hu
      rw [← hu]
    have hr := run_append_grow (P := Tryd.prog) w 54 ty 5 i (.int .u8 0) Tryd.underlying54 hi hz ⟨g, 0, none⟩ l.length cur.size (byteCells l) (by rw [hi1, byteCells_length, Nat.mul_one]) hold ⟨a, 0, none⟩ m.length c (byteCells m) (by rw [hi1, byteCells_length, Nat.mul_one]) hnew (by omega) (by omega) (by rw [hi2]; exact growslice_fits (by omega) (by omega))
    have hge := grownCap_ge w (l.length + m.length) cur.size 5
    have hle : grownCap w (l.length + m.length) cur.size 5 ≤ maxLen := grownCap_le_maxLen w (l.length + m.length) cur.size 5 (by unfold maxLen; omega)
    refine ⟨_, _, hr, ?_, (((Kb.refl _ _).drew).alloc _)⟩
    have hz1 : (Value.int IntKind.u8 0).cells.size = 1 := rfl
    have hsz : ((byteCells l).toArray ++ (byteCells m).toArray ++ Builtin.zeroCells (Value.int IntKind.u8 0).cells (grownCap w (l.length + m.length) cur.size 5 - (l.length + m.length))).size = grownCap w (l.length + m.length) cur.size 5 := by
      simp only [Array.size_append, List.size_toArray, size_zeroCells, hz1, byteCells_length]
      omega
    refine ⟨w.heap.size, _, (0, 0), ?_, hb, heap_alloc_new w.drew _, Or.inr rfl, ?_, ?_, ?_⟩
    · rw [hsz, List.length_append]
    · rw [hsz, List.length_append]; exact hge
    · rw [hsz]; exact hle
    · rw [Array.toList_append, Array.toList_append, List.take_left' (by simp [byteCells_length]), byteCells_append]

/-- An append whose run is known, in a walk. -/
theorem wp_append (w : World) {ops : Array Oper} {rest : List Oper} {o : Oper} {a : Act} {Q : Exit → Act → World → Prop} (hgd : o.guard = none) (s x : Operand) (t u : TypeId)
    (ho : o.op = .call { callee := .builtin .append, args := #[s, x], argTypes := #[t, u] }) (v1 v2 : Value) (hs : a.eval s = v1) (hx : a.eval x = v2) {v' : Value} {w' : World}
    (hr : (Builtin.append_ #[t, u] o.type #[v1, v2]).run Tryd.prog w = .ok v' w') (h : wpList Tryd.prog ops Q rest (a.put o.dst v') w') : wpList Tryd.prog ops Q (o :: rest) a w := by
  refine wpList_plain hgd fun K hK => ?_
  have hrun : (execOp a.eval o).run Tryd.prog w = .ok (.value v') w' := by
    simp [execOp, ho, resolve, invoke, builtin, hs, hx, hr]
  simp only [Oper.wp, hrun]
  exact hK _ _ h
end Go.Proofs.YtpappmbnblaccaaDoor

/-
  The document's bytes of a number: palanquinref01.Bytes.
-/
namespace Go.Proofs.YtpappmbnblaccaaDoor
open Go.RowKit
set_option linter.unusedVariables false

theorem bytes_cons (c : UInt8) (l : List UInt8) : (⟨#[c]⟩ : ByteArray) ++ ⟨l.toArray⟩ = ⟨(c :: l).toArray⟩ := by
  apply ByteArray.ext
  rw [ByteArray.data_append]
  simp
theorem bytes_cat (l m : List UInt8) : (⟨l.toArray⟩ : ByteArray) ++ ⟨m.toArray⟩ = ⟨(l ++ m).toArray⟩ := by
  apply ByteArray.ext
  rw [ByteArray.data_append]
  simp
theorem conv_one (w : World) (m : Nat) : (convert 54 9 (.slice (some ⟨w.heap.size, 0, none⟩) 1 1)).run Tryd.prog (w.alloc (.cells #[.int .u8 ((m : Int) % 256)] 5)) = .ok (.string ⟨#[UInt8.ofNat (m % 256)]⟩) (w.alloc (.cells #[.int .u8 ((m : Int) % 256)] 5)) := by
  refine conv_new w [UInt8.ofNat (m % 256)] _ ?_ 1 rfl
  simp only [List.map_cons, List.map_nil, UInt8.toNat_ofNat']
  have e : ((m : Int) % 256) = ((m % 256 % 2 ^ 8 : Nat) : Int) := by omega
  rw [e]

end Go.Proofs.YtpappmbnblaccaaDoor
