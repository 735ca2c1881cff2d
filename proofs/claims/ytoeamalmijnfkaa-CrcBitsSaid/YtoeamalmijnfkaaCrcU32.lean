/-
  Numbers of 32 bits, as the walk spells what is done with them.
-/
import Derived.Test.YtoeamalmijnfkaaCrcSpec
namespace Go.Proofs.Ytoeamalmijnfkaa
set_option linter.unusedVariables false

theorem u32_wrap (a : BitVec 32) : IntKind.u32.wrap (a.toNat : Int) = (a.toNat : Int) := by
  have := a.isLt
  simp only [IntKind.wrap, IntKind.bits, IntKind.signed]
  simp
  omega
theorem u32_of (a : BitVec 32) : BitVec.ofInt 32 (a.toNat : Int) = a := by rw [BitVec.ofInt_natCast]; simp
theorem u32_xor (a b : BitVec 32) : bits .xor .u32 (a.toNat : Int) (b.toNat : Int) = ((a ^^^ b).toNat : Int) := by
  show IntKind.u32.wrap ((BitVec.ofInt 32 (a.toNat : Int) ^^^ BitVec.ofInt 32 (b.toNat : Int)).toNat : Nat) = _
  rw [u32_of, u32_of, u32_wrap]
theorem u32_and (a b : BitVec 32) : bits .and .u32 (a.toNat : Int) (b.toNat : Int) = ((a &&& b).toNat : Int) := by
  show IntKind.u32.wrap ((BitVec.ofInt 32 (a.toNat : Int) &&& BitVec.ofInt 32 (b.toNat : Int)).toNat : Nat) = _
  rw [u32_of, u32_of, u32_wrap]
theorem u32_shr (a : BitVec 32) (k : Nat) : ((a >>> k).toNat : Int) = (a.toNat : Int) / ((2 ^ k : Nat) : Int) := by
  rw [BitVec.toNat_ushiftRight, Nat.shiftRight_eq_div_pow]; rfl
theorem wide_nat (c : UInt8) : (wide c).toNat = c.toNat := by
  unfold wide
  rw [BitVec.toNat_setWidth]
  have := c.toNat_lt
  show c.toBitVec.toNat % 2 ^ 32 = c.toBitVec.toNat
  exact Nat.mod_eq_of_lt (by have : c.toBitVec.toNat < 2 ^ 8 := c.toBitVec.isLt; omega)
end Go.Proofs.Ytoeamalmijnfkaa
