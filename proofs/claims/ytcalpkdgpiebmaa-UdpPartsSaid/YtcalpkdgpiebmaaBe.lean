/-
  A number's bytes, the highest first. Plain.
-/
namespace Go.Proofs.Ytcalpkdgpiebmaa
set_option linter.unusedVariables false

/-- The lowest bytes of a number, the highest first. -/
def be (n : Nat) (size : Nat) : List UInt8 := (List.range size).map fun i => UInt8.ofNat (n / 256 ^ (size - 1 - i) % 256)
theorem be_length (n size : Nat) : (be n size).length = size := by simp [be]
theorem be_succ (n i : Nat) : be n (i + 1) = UInt8.ofNat (n / 256 ^ i % 256) :: be n i := by
  unfold be
  rw [List.range_succ_eq_map, List.map_cons, List.map_map]
  congr 1
  apply List.map_congr_left
  intro j hj
  simp only [Function.comp]
  congr 4
  omega
end Go.Proofs.Ytcalpkdgpiebmaa
