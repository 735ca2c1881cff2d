/-
  Bits of ints: the lowest ones, and all of them turned over. Plain.
-/
import Derived.Laws.BitsLemmas
namespace Go.Proofs.Ytcalpkdgpiebmaa

theorem i64_mask (j : Nat) (hj : j ≤ 62) (n : Int) : bits .and .i64 n (((2 ^ j - 1 : Nat) : Int)) = n % ((2 ^ j : Nat) : Int) := by
  have hp : 2 ^ j ≤ 2 ^ 62 := Nat.pow_le_pow_right (by decide) hj
  have hpos : 0 < 2 ^ j := Nat.two_pow_pos j
  have hm : (BitVec.ofInt 64 ((2 ^ j - 1 : Nat) : Int)).toNat = 2 ^ j - 1 := by
    rw [BitVec.ofInt_natCast, BitVec.toNat_ofNat]
    exact Nat.mod_eq_of_lt (by omega)
  have key : (BitVec.ofInt 64 n &&& BitVec.ofInt 64 ((2 ^ j - 1 : Nat) : Int)).toNat = (n % ((2 ^ 64 : Nat) : Int)).toNat % 2 ^ j := by
    rw [BitVec.toNat_and, BitVec.toNat_ofInt, hm, Nat.and_two_pow_sub_one_eq_mod]
  show IntKind.i64.wrap ((BitVec.ofInt 64 n &&& BitVec.ofInt 64 ((2 ^ j - 1 : Nat) : Int)).toNat : Nat) = n % _
  rw [key]
  have h0 : 0 ≤ n % ((2 ^ 64 : Nat) : Int) := Int.emod_nonneg _ (by decide)
  have e : (((n % ((2 ^ 64 : Nat) : Int)).toNat % 2 ^ j : Nat) : Int) = n % ((2 ^ j : Nat) : Int) := by
    rw [Int.natCast_emod, Int.toNat_of_nonneg h0]
    refine Int.emod_emod_of_dvd n ?_
    exact_mod_cast Nat.pow_dvd_pow 2 (show j ≤ 64 by omega)
  rw [e, IntKind.wrap_i64]
  have h1 : 0 ≤ n % ((2 ^ j : Nat) : Int) := Int.emod_nonneg _ (by omega)
  have h2 : n % ((2 ^ j : Nat) : Int) < ((2 ^ j : Nat) : Int) := Int.emod_lt_of_pos _ (by omega)
  omega
theorem i64_and65535 (n : Int) : bits .and .i64 n 65535 = n % 65536 := i64_mask 16 (by decide) n
theorem i64_and255 (n : Int) : bits .and .i64 n 255 = n % 256 := i64_mask 8 (by decide) n
theorem i64_not (n : Int) : bits .xor .i64 (-1) n = IntKind.i64.wrap (-1 - n) := by
  have h1 : BitVec.ofInt 64 (-1) = BitVec.allOnes 64 := by decide
  have key : (BitVec.ofInt 64 (-1) ^^^ BitVec.ofInt 64 n).toNat = 2 ^ 64 - 1 - (n % ((2 ^ 64 : Nat) : Int)).toNat := by
    rw [h1, BitVec.allOnes_xor, BitVec.toNat_not, BitVec.toNat_ofInt]
  show IntKind.i64.wrap ((BitVec.ofInt 64 (-1) ^^^ BitVec.ofInt 64 n).toNat : Nat) = _
  rw [key, IntKind.wrap_i64, IntKind.wrap_i64]
  omega
/-- All 16 bits turned over. -/
theorem i64_turn16 (n : Int) : bits .and .i64 (bits .xor .i64 (-1) n) 65535 = 65535 - n % 65536 := by
  rw [i64_and65535, i64_not, IntKind.wrap_i64]
  omega
theorem i64_or_low (x y : Int) (j : Nat) (hj : j ≤ 16) (hx : 0 ≤ x) (hx1 : x < 1099511627776) (hm : x % ((2 ^ j : Nat) : Int) = 0) (hy : 0 ≤ y) (hy1 : y < ((2 ^ j : Nat) : Int)) : bits .or .i64 x y = x + y := by
  have hp : 2 ^ j ≤ 2 ^ 16 := Nat.pow_le_pow_right (by decide) hj
  refine bits_join .i64 62 (by decide) (fun n h0 h1 => ?_) j x y hx (by exact_mod_cast hm) (by omega) hy (by exact_mod_cast hy1) (by omega)
  rw [IntKind.wrap_i64]
  omega
theorem i64_and_nat (a b : Nat) (ha : a < 9223372036854775808) (hb : b < 9223372036854775808) : bits .and .i64 (a : Int) (b : Int) = ((a &&& b : Nat) : Int) := by
  show IntKind.i64.wrap ((BitVec.ofInt 64 (a : Int) &&& BitVec.ofInt 64 (b : Int)).toNat : Nat) = _
  rw [BitVec.ofInt_natCast, BitVec.ofInt_natCast, BitVec.toNat_and, BitVec.toNat_ofNat, BitVec.toNat_ofNat, Nat.mod_eq_of_lt (by omega), Nat.mod_eq_of_lt (by omega), IntKind.wrap_i64]
  have := Nat.and_le_left (n := a) (m := b)
  omega
theorem and_pow (a j : Nat) : a &&& 2 ^ j = if a / 2 ^ j % 2 = 1 then 2 ^ j else 0 := by
  apply Nat.eq_of_testBit_eq
  intro i
  rw [Nat.testBit_and, Nat.testBit_two_pow]
  by_cases h : a / 2 ^ j % 2 = 1
  · rw [if_pos h, Nat.testBit_two_pow]
    by_cases e : j = i
    · subst e; simp [Nat.testBit_eq_decide_div_mod_eq, h]
    · simp [e]
  · rw [if_neg h]
    by_cases e : j = i
    · subst e; simp [Nat.testBit_eq_decide_div_mod_eq, h]
    · simp [e]
/-- One bit of a number. -/
theorem i64_and_bit (a j : Nat) (ha : a < 9223372036854775808) (hj : j ≤ 62) : bits .and .i64 (a : Int) ((2 ^ j : Nat) : Int) = if a / 2 ^ j % 2 = 1 then ((2 ^ j : Nat) : Int) else 0 := by
  have hp : 2 ^ j ≤ 2 ^ 62 := Nat.pow_le_pow_right (by decide) hj
  rw [i64_and_nat a (2 ^ j) ha (by omega), and_pow]
  split <;> rfl
end Go.Proofs.Ytcalpkdgpiebmaa
