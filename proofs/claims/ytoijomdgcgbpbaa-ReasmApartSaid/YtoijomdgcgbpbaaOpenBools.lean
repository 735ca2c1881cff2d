/-
  An argument that is a slice of truths, opened: its cells, and that it is short enough to be counted.
-/
import Derived.Test.YtoijomdgcgbpbaaGround
import Derived.ProofKit
import Derived.SizedLaws
import Derived.Deep.Slices
import Derived.OpenShut
namespace Go.Proofs.Ytoijomdgcgbpbaa
open Go.ChangeShapes Go.WideShapes Go.ChangeAt Go.RowKit
set_option linter.unusedVariables false

/-- A slice whose cells are truths; its block lies below B. -/
def BoolsAt (w : World) (B : Nat) (a : Option Addr) (len : Nat) (C : Nat → Bool) : Prop :=
  len = 0 ∨ ∃ b off, a = some ⟨b, off, none⟩ ∧ b < B ∧ ∀ i, i < len → w.cell? ⟨b, off + i, none⟩ = some (.bool (C i))
theorem BoolsAt.below {w w' : World} {B : Nat} {a : Option Addr} {len : Nat} {C : Nat → Bool} (h : BoolsAt w B a len C) (hb : Below B w w') : BoolsAt w' B a len C := by
  rcases h with h | ⟨b, off, rfl, hlt, hc⟩
  · exact Or.inl h
  · exact Or.inr ⟨b, off, rfl, hlt, fun i hi => (hb.cell (p := ⟨b, off + i, none⟩) hlt).trans (hc i hi)⟩
theorem Try.cellsBool : Try.prog.cellsOf 4 = 1 := by kernel_rfl
theorem Try.bytesBool : Try.prog.bytesOf 4 = 1 := by kernel_rfl
theorem addO_at (b off j : Nat) : (⟨b, off, none⟩ : Addr).add j = ⟨b, off + j, none⟩ := by unfold Addr.add; split <;> simp_all

theorem open_bools {H : Type} {enc : TypeId × Value → H} {W : World} {fuel : Nat} {a : Option Addr} {len cap : Nat} {d : DataW H} {p : List MemPlace}
    (h : DataW.trod enc Try.prog W 0 (fun _ => true) true fuel 52 [.slice a len cap] = some (d, p)) (hsz : ∀ n ∈ d.weights Try.prog 52, n ≤ reachBytes) :
    ∃ C : Nat → Bool, BoolsAt W W.heap.size a len C ∧ len ≤ 140737488355328 := by
  have hr : reachBytes ≤ 140737488355328 := by decide
  rcases Deep.open_slice Try.underlying52 h with ⟨h0, _⟩ | ⟨ad, len', cap', m, n, D, Pl, hcs, _, hl, hm, hmm, hx, hi⟩
  · simp at h0
    obtain ⟨rfl, rfl, rfl⟩ := h0
    exact ⟨fun _ => false, Or.inl rfl, by omega⟩
  · simp at hcs
    obtain ⟨rfl, rfl, rfl⟩ := hcs
    simp only [Prod.mk.injEq] at hx
    obtain ⟨rfl, _⟩ := hx
    simp at hmm
    subst hmm
    rw [Try.cellsBool] at hi
    have hlen : len * 1 ≤ reachBytes := by
      have := hsz _ (show ((List.range len).map D).length * 0 + (((List.range len).map D).length + ((List.range (m - len)).map fun j => D (len + j)).length) * Try.prog.bytesOf 4 ∈ _ from by
        simp only [DataW.weights, Try.underlying52, List.mem_cons]
        left; simp)
      rw [Try.bytesBool] at this
      simp at this
      omega
    have hone : ∀ i, i < len → ∃ c : Bool, W.cell? (ad.add i) = some (.bool c) := by
      intro i hil
      obtain ⟨cs', hc, ht⟩ := hi i (by omega)
      obtain ⟨v, rfl, g⟩ := DataW.trod_bool Try.underlying4 ht
      obtain ⟨_, _, hat⟩ := World.cells?_some hc
      refine ⟨v, ?_⟩
      have := hat 0 (by simp)
      rw [Deep.add_add] at this
      simpa using this
    obtain ⟨C0, hC0⟩ := Deep.choose_lt (α := Bool) hone
    refine ⟨C0, ?_, by omega⟩
    by_cases h0 : len = 0
    · exact Or.inl h0
    · right
      have hsp : ad.spot = none := by
        have := World.cell?_spot (hC0 0 (by omega))
        simpa [Addr.add] using this
      obtain ⟨b, off, sp⟩ := ad
      simp only at hsp
      subst hsp
      refine ⟨b, off, rfl, ?_, fun i hil => ?_⟩
      · have := World.block_lt_of_cell? W _ (hC0 0 (by omega))
        rw [addO_at] at this
        exact this
      · rw [← addO_at, hC0 i hil]

end Go.Proofs.Ytoijomdgcgbpbaa
