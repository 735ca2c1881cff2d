/-
  An argument that is a slice of bytes, opened: its cells, and that it is short enough to be counted.
-/
import Derived.Test.YtoeamalmijnfkaaMem
import Derived.ProofKit
import Derived.SizedLaws
import Derived.Deep.Slices
import Derived.OpenShut
namespace Go.Proofs.Ytoeamalmijnfkaa
open Go.ChangeShapes Go.WideShapes Go.ChangeAt Go.RowKit
set_option linter.unusedVariables false

/-- A slice whose cells are bytes; its block lies below B. -/
def BytesAt (w : World) (B : Nat) (a : Option Addr) (len : Nat) (C : Nat → UInt8) : Prop :=
  len = 0 ∨ ∃ b off, a = some ⟨b, off, none⟩ ∧ b < B ∧ ∀ i, i < len → w.cell? ⟨b, off + i, none⟩ = some (.int .u8 ((C i).toNat : Int))
theorem BytesAt.below {w w' : World} {B : Nat} {a : Option Addr} {len : Nat} {C : Nat → UInt8} (h : BytesAt w B a len C) (hb : Below B w w') : BytesAt w' B a len C := by
  rcases h with h | ⟨b, off, rfl, hlt, hc⟩
  · exact Or.inl h
  · exact Or.inr ⟨b, off, rfl, hlt, fun i hi => (hb.cell (p := ⟨b, off + i, none⟩) hlt).trans (hc i hi)⟩
theorem Try.cellsU8 : Try.prog.cellsOf 5 = 1 := by kernel_rfl
theorem Try.bytesU8 : Try.prog.bytesOf 5 = 1 := by kernel_rfl
theorem addB_at (b off j : Nat) : (⟨b, off, none⟩ : Addr).add j = ⟨b, off + j, none⟩ := by unfold Addr.add; split <;> simp_all

theorem open_bytes {H : Type} {enc : TypeId × Value → H} {W : World} {fuel : Nat} {a : Option Addr} {len cap : Nat} {d : DataW H} {p : List MemPlace}
    (h : DataW.trod enc Try.prog W 0 (fun _ => true) true fuel 28 [.slice a len cap] = some (d, p)) (hsz : ∀ n ∈ d.weights Try.prog 28, n ≤ reachBytes) :
    ∃ C : Nat → UInt8, BytesAt W W.heap.size a len C ∧ len ≤ 140737488355328 := by
  have hr : reachBytes ≤ 140737488355328 := by decide
  rcases Deep.open_slice Try.underlying28 h with ⟨h0, _⟩ | ⟨ad, len', cap', m, n, D, Pl, hcs, _, hl, hm, hmm, hx, hi⟩
  · simp at h0
    obtain ⟨rfl, rfl, rfl⟩ := h0
    exact ⟨fun _ => 0, Or.inl rfl, by omega⟩
  · simp at hcs
    obtain ⟨rfl, rfl, rfl⟩ := hcs
    simp only [Prod.mk.injEq] at hx
    obtain ⟨rfl, _⟩ := hx
    simp at hmm
    subst hmm
    rw [Try.cellsU8] at hi
    have hlen : len * 1 ≤ reachBytes := by
      have := hsz _ (show ((List.range len).map D).length * 0 + (((List.range len).map D).length + ((List.range (m - len)).map fun j => D (len + j)).length) * Try.prog.bytesOf 5 ∈ _ from by
        simp only [DataW.weights, Try.underlying28, List.mem_cons]
        left; simp)
      rw [Try.bytesU8] at this
      simp at this
      omega
    have hone : ∀ i, i < len → ∃ c : UInt8, W.cell? (ad.add i) = some (.int .u8 (c.toNat : Int)) := by
      intro i hil
      obtain ⟨cs', hc, ht⟩ := hi i (by omega)
      obtain ⟨v, rfl, g, hwf⟩ := DataW.trod_int Try.underlying5 ht
      obtain ⟨_, _, hat⟩ := World.cells?_some hc
      have hv := bounds_u8 hwf
      refine ⟨UInt8.ofNat v.toNat, ?_⟩
      have e : ((UInt8.ofNat v.toNat).toNat : Int) = v := by
        rw [UInt8.toNat_ofNat']; omega
      rw [e]
      have := hat 0 (by simp)
      rw [Deep.add_add] at this
      simpa using this
    obtain ⟨C0, hC0⟩ := Deep.choose_lt (α := UInt8) hone
    refine ⟨C0, ?_, by omega⟩
    by_cases h0 : len = 0
    · exact Or.inl h0
    · right
      have hsp : ad.spot = none := by
        have := World.cell?_spot (hC0 0 (by omega))
        simpa [Addr.add] using this
      obtain ⟨b, off, sp⟩ := ad
      simp only at hsp
      subst hsp
      refine ⟨b, off, rfl, ?_, fun i hil => ?_⟩
      · have := World.block_lt_of_cell? W _ (hC0 0 (by omega))
        rw [addB_at] at this
        exact this
      · rw [← addB_at, hC0 i hil]

end Go.Proofs.Ytoeamalmijnfkaa
