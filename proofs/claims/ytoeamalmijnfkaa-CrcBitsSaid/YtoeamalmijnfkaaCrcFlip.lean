/-
  A bit of a text turned over: what the laws' statement t[k/8] = t[k/8] ^ byte(1)<<(k%8) needs, and what it does to the sum.
-/
import Derived.Test.YtoeamalmijnfkaaCrcUse
import Derived.RegionTactic
import Derived.BigRegion
import Derived.IntWalk
namespace Go.Proofs.Ytoeamalmijnfkaa
open Go.RowKit
set_option linter.unusedVariables false

theorem crc_wrap_bit (r : Nat) (h : r < 8) : IntKind.u8.wrap ((2 : Int) ^ r) = ((UInt8.ofNat (2 ^ r)).toNat : Int) := by
  have : r = 0 ∨ r = 1 ∨ r = 2 ∨ r = 3 ∨ r = 4 ∨ r = 5 ∨ r = 6 ∨ r = 7 := by omega
  rcases this with rfl | rfl | rfl | rfl | rfl | rfl | rfl | rfl <;> decide
/-- What a region that turns bit k over works with. -/
structure Flip (k q r : Nat) (cy bv cx : UInt8) : Prop where
  d1 : IntKind.i64.wrap ((k : Int) / 8) = (q : Int)
  d2 : (k : Int) / 8 = (q : Int)
  m1 : IntKind.i64.wrap ((k : Int) % 8) = (r : Int)
  m2 : (k : Int) % 8 = (r : Int)
  m3 : (k : Int).tmod 8 = (r : Int)
  d3 : (k : Int).tdiv 8 = (q : Int)
  sh : IntKind.u8.wrap ((2 : Int) ^ r) = (bv.toNat : Int)
  xo : bits .xor .u8 (cy.toNat : Int) (bv.toNat : Int) = (cx.toNat : Int)
theorem flip_facts (l : List UInt8) (k : Nat) (h : k < 8 * l.length) (hl : l.length ≤ 100000) :
    ∃ (q r : Nat) (cy bv cx : UInt8) (hq : q < l.length), r < 8 ∧ l[q] = cy ∧ Flip k q r cy bv cx ∧ (∀ x, feed x (l.set q cx) = feed x l ^^^ E (8 * l.length - k)) := by
  have hk : k / 8 < l.length := by omega
  have hr : k % 8 < 8 := by omega
  refine ⟨k / 8, k % 8, _, UInt8.ofNat (2 ^ (k % 8)), _, hk, hr, rfl, ⟨?_, ?_, ?_, ?_, ?_, ?_, crc_wrap_bit _ hr, xor_u8 _ _⟩, fun x => ?_⟩
  · exact (IntWalk.i64_in _ (by omega)).trans (by omega)
  · omega
  · exact (IntWalk.i64_in _ (by omega)).trans (by omega)
  · omega
  · rw [Int.tmod_eq_emod_of_nonneg (by omega)]; omega
  · rw [Int.tdiv_eq_ediv_of_nonneg (by omega)]; omega
  · rw [feed_bit x l (k / 8) (k % 8) hk hr]
    congr 3
    omega
/-- The text t, whose bytes lie in block b of a world that is new but for what was there. -/
structure Held (w : World) (b : Nat) (wr : World) (n : Nat) (l0 l : List UInt8) (D : BitVec 32) : Prop where
  blk : ByteBlk wr b l
  len : l.length = n
  sum : feed (~~~ 0#32) l = feed (~~~ 0#32) l0 ^^^ D
  bel : Below w.heap.size w wr
theorem Held.flip {w : World} {b : Nat} {wr : World} {n : Nat} {l0 l : List UInt8} {D : BitVec 32} (h : Held w b wr n l0 l D) (hb : w.heap.size ≤ b) (q k : Nat) (cx : UInt8) (hf : ∀ x, feed x (l.set q cx) = feed x l ^^^ E (8 * l.length - k)) :
    Held w b ((wr.setCell ⟨b, q, none⟩ (.int .u8 (cx.toNat : Int))).drew) n l0 (l.set q cx) (D ^^^ E (8 * n - k)) :=
  ⟨(h.blk.set q cx _ rfl).drew, by rw [List.length_set]; exact h.len, by rw [hf, h.sum, h.len, BitVec.xor_assoc], (h.bel.setCell (by simpa using hb) _).drew⟩

/-- A number's lowest k bits. -/
def lowB (y : BitVec 32) : Nat → BitVec 32
  | 0 => 0#32
  | k + 1 => lowB y k ^^^ (if y.getLsbD k then 1#32 <<< k else 0#32)
theorem lowB_bit (y : BitVec 32) (k : Nat) (i : Nat) (hi : i < 32) : (lowB y k).getLsbD i = (decide (i < k) && y.getLsbD i) := by
  induction k with
  | zero => simp [lowB]
  | succ k ih =>
    rw [lowB, BitVec.getLsbD_xor, ih]
    by_cases e : i = k
    · subst e
      cases y.getLsbD i <;> simp [hi]
    · have h1 : (if y.getLsbD k then 1#32 <<< k else 0#32).getLsbD i = false := by
        cases y.getLsbD k
        · simp
        · simp only [if_true, BitVec.getLsbD_shiftLeft]
          by_cases h2 : i < k
          · simp [h2]
          · have : (1#32).getLsbD (i - k) = false := by simp; omega
            simp [this]
      rw [h1]
      by_cases h2 : i < k
      · simp [h2, show i < k + 1 by omega]
      · simp [h2, show ¬ i < k + 1 by omega]
theorem lowB_all (y : BitVec 32) : lowB y 32 = y := by
  apply BitVec.eq_of_getLsbD_eq
  intro i hi
  rw [lowB_bit y 32 i hi]
  simp [hi]
theorem lowB_set (y : BitVec 32) (k m : Nat) (hy : y.getLsbD k = true) (hk : k < 32) (h : k ≤ m) : stN m (lowB y k) ^^^ E (m - k) = stN m (lowB y (k + 1)) := by
  rw [E_behind m k hk h, ← stN_xor, lowB, hy]; rfl
theorem lowB_clear (y : BitVec 32) (k : Nat) (hy : y.getLsbD k = false) : lowB y (k + 1) = lowB y k := by
  rw [lowB, hy]; simp
/-- Whether bit k stands, as the code asks it. -/
theorem bit_code (y : BitVec 32) (k : Nat) : bits .and .u32 ((y.toNat : Int) / (2 : Int) ^ k) 1 = if y.getLsbD k then 1 else 0 := by
  rw [show (2 : Int) ^ k = ((2 ^ k : Nat) : Int) by simp, ← u32_shr, show (1 : Int) = ((1#32).toNat : Int) from rfl, u32_and, BitVec.toNat_and, show (1#32).toNat = 2 ^ 1 - 1 from rfl, Nat.and_two_pow_sub_one_eq_mod, BitVec.toNat_ushiftRight]
  have : y.getLsbD k = decide (y.toNat >>> k % 2 = 1) := by
    rw [BitVec.getLsbD, Nat.testBit_eq_decide_div_mod_eq, Nat.shiftRight_eq_div_pow]
  rw [this]
  by_cases h : y.toNat >>> k % 2 = 1
  · simp [h]
  · have h2 : y.toNat >>> k % 2 = 0 := by omega
    simp [h2]
end Go.Proofs.Ytoeamalmijnfkaa
