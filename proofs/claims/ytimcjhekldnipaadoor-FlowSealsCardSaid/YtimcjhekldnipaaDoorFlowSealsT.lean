/-
  What the law FlowSeals asks, plain.
-/
import Derived.Test.YtimcjhekldnipaaDoorFlowAwake
import Derived.Test.YtimcjhekldnipaaDoorFlowSealed
import Derived.Test.YtimcjhekldnipaaDoorGround
import Derived.StillTailTactics
import Derived.BigRegion
namespace Go.Proofs.YtimcjhekldnipaaDoor
open Go.RowKit
set_option linter.unusedVariables false

theorem Places.drew {w : World} (h : Places w) : Places w.drew := ⟨h.at0⟩
/-- What the law asks of a payload that was sealed. -/
structure Told9 (proto : Int) (k : Nat) (src dst s S A D : ByteArray) (m : Nat) : Prop where
  z : s.size = m
  Z : S.size = m
  lo : k + 2 ≤ m
  a : s.extract 0 k = A
  A' : S.extract 0 k = A
  d : s.extract (k + 2) m = D
  D' : S.extract (k + 2) m = D
  again : seal9 proto src dst S = S
  turned : seal9 proto dst src S = S
  not0 : proto = 17 → ∃ (h0 : k < S.size) (h1 : k + 1 < S.size), ¬ ((S[k]'h0).toNat = 0 ∧ (S[k + 1]'h1).toNat = 0)
theorem told9 (proto : Int) (k : Nat) (src dst s : ByteArray) (hp : pl9 proto s.size = k) (hk : k ≠ 0) (hl : dst.size = src.size) (he : src.size % 2 = 0) :
    ∃ A D m, Told9 proto k src dst s (seal9 proto src dst s) A D m := by
  have t := sealed9 proto k src dst s hp hk hl he
  have h2 : k + 2 ≤ s.size := by rw [← hp]; exact pl9_long (by omega)
  have hz := t.size
  have hb := t.back
  rw [hz] at hb
  refine ⟨_, _, _, rfl, hz, h2, rfl, t.front, rfl, hb, t.again, t.turned, ?_⟩
  intro h17
  refine ⟨by omega, by omega, ?_⟩
  intro h0
  have hn := t.num
  rw [num_2 _ k (by omega), h0.1, h0.2] at hn
  rw [h17] at hn
  exact num9_not src dst s k hn.symm

end Go.Proofs.YtimcjhekldnipaaDoor
