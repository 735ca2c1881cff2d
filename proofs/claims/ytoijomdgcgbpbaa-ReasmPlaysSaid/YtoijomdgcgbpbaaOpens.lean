/-
  An argument that is a slice of texts, opened: its cells, and that each text is short enough to be counted.
-/
import Derived.Test.YtoijomdgcgbpbaaGround
import Derived.ProofKit
import Derived.SizedLaws
import Derived.Deep.Slices
import Derived.OpenShut
import Derived.Test.YtoijomdgcgbpbaaReasmNew
import Derived.Deep.Fields
namespace Go.Proofs.Ytoijomdgcgbpbaa
open Go.ChangeShapes Go.WideShapes Go.ChangeAt Go.RowKit
set_option linter.unusedVariables false

theorem weights_among {H : Type} {P : Program} {e : TypeId} {d : DataW H} {n : Nat} : ∀ {ds : List (DataW H)}, d ∈ ds → n ∈ d.weights P e → n ∈ DataW.weightsAll P e ds
  | x :: r, hd, hn => by
    simp only [DataW.weightsAll, List.mem_append]
    rcases List.mem_cons.1 hd with rfl | h
    · exact Or.inl hn
    · exact Or.inr (weights_among h hn)
  | [], hd, _ => by cases hd
theorem Try.cellsStr : Try.prog.cellsOf 9 = 1 := by kernel_rfl
theorem Try.bytesStr : Try.prog.bytesOf 9 = 16 := by kernel_rfl
theorem add_at (b off j : Nat) : (⟨b, off, none⟩ : Addr).add j = ⟨b, off + j, none⟩ := by unfold Addr.add; split <;> simp_all

theorem open_strs {H : Type} {enc : TypeId × Value → H} {W : World} {fuel : Nat} {a : Option Addr} {len cap : Nat} {d : DataW H} {p : List MemPlace}
    (h : DataW.trod enc Try.prog W 0 (fun _ => true) true fuel 24 [.slice a len cap] = some (d, p)) (hsz : ∀ n ∈ d.weights Try.prog 24, n ≤ reachBytes) :
    ∃ C : Nat → ByteArray, StrsAt W W.heap.size a len C ∧ len ≤ 140737488355328 ∧ ∀ i, (C i).size ≤ 140737488355328 := by
  have hr : reachBytes ≤ 140737488355328 := by decide
  rcases Deep.open_slice Try.underlying24 h with ⟨h0, _⟩ | ⟨ad, len', cap', m, n, D, Pl, hcs, _, hl, hm, hmm, hx, hi⟩
  · simp at h0
    obtain ⟨rfl, rfl, rfl⟩ := h0
    exact ⟨fun _ => ByteArray.empty, Or.inl rfl, by omega, fun _ => by simp⟩
  · simp at hcs
    obtain ⟨rfl, rfl, rfl⟩ := hcs
    simp only [Prod.mk.injEq] at hx
    obtain ⟨rfl, _⟩ := hx
    simp at hmm
    subst hmm
    rw [Try.cellsStr] at hi
    have hw : ∀ i, i < len → ∀ q ∈ (D i).weights Try.prog 9, q ≤ reachBytes := fun i hil q hq => hsz q (by
      simp only [DataW.weights, Try.underlying24, List.mem_cons, List.mem_append]
      exact Or.inr (Or.inl (weights_among (List.mem_map.2 ⟨i, List.mem_range.2 hil, rfl⟩) hq)))
    have hlen : len * 16 ≤ reachBytes := by
      have := hsz _ (show ((List.range len).map D).length * 0 + (((List.range len).map D).length + ((List.range (m - len)).map fun j => D (len + j)).length) * Try.prog.bytesOf 9 ∈ _ from by
        simp only [DataW.weights, Try.underlying24, List.mem_cons]
        left; simp)
      rw [Try.bytesStr] at this
      simp at this
      omega
    have hone : ∀ i, i < len → ∃ c : ByteArray, W.cell? (ad.add i) = some (.string c) ∧ c.size ≤ 140737488355328 := by
      intro i hil
      obtain ⟨cs', hc, ht⟩ := hi i (by omega)
      obtain ⟨s, rfl, g, _⟩ := DataW.trod_string Try.underlying9 ht
      obtain ⟨_, _, hat⟩ := World.cells?_some hc
      refine ⟨s, ?_, Nat.le_trans (hw i hil _ ?_) hr⟩
      · have := hat 0 (by simp)
        rw [Deep.add_add] at this
        simpa using this
      · simp only [Prod.mk.injEq] at g
        rw [g.1]; simp [DataW.weights]
    obtain ⟨C0, hC0⟩ := Deep.choose_lt (α := ByteArray) hone
    refine ⟨fun i => if i < len then C0 i else ByteArray.empty, ?_, by omega, fun i => ?_⟩
    · by_cases h0 : len = 0
      · exact Or.inl h0
      · right
        have hsp : ad.spot = none := by
          have := World.cell?_spot (hC0 0 (by omega)).1
          simpa [Addr.add] using this
        obtain ⟨b, off, sp⟩ := ad
        simp only at hsp
        subst hsp
        refine ⟨b, off, rfl, ?_, fun i hil => ?_⟩
        · have := World.block_lt_of_cell? W _ (hC0 0 (by omega)).1
          rw [add_at] at this
          exact this
        · rw [← add_at, (hC0 i hil).1]
          simp [hil]
    · show (if i < len then C0 i else ByteArray.empty).size ≤ _
      split
      · exact (hC0 i (by assumption)).2
      · simp

end Go.Proofs.Ytoijomdgcgbpbaa

/-
  An argument of the type api.Store, opened.
-/
namespace Go.Proofs.Ytoijomdgcgbpbaa
open Go.ChangeShapes Go.WideShapes Go.ChangeAt Go.RowKit
set_option linter.unusedVariables false

theorem Try.cellsS16 : Try.prog.cellsOf 23 = 3 := by kernel_rfl
theorem Try.cellsS16_int : Try.prog.cellsOf 3 = 1 := by kernel_rfl
set_option maxRecDepth 100000 in
theorem open_s16 {H : Type} {enc : TypeId × Value → H} {W : World} {base : Nat} {v : Value} {d : DataW H} {p : List MemPlace} (hv : Value.okWide Try.prog W .any base 23 v) (h : DataW.Trod enc Try.prog W 0 (fun _ => true) true 23 v d p) :
    ∃ c : S16, v = .agg c.cells := by
  obtain ⟨cs, rfl, hsz⟩ := okWide_struct Try.underlying23 hv
  obtain ⟨l⟩ := cs
  obtain ⟨fuel, hf0⟩ := h
  have hf1 : DataW.trod enc Try.prog W 0 (fun _ => true) true fuel 23 l = some (d, p) := by simpa [Value.cells] using hf0
  obtain ⟨xs, m, _, hx, hlen, hxl, hf⟩ := DataW.trod_struct Try.underlying23 hf1
  rw [Try.cellsS16] at hlen
  obtain ⟨x0, x1, x2, rfl⟩ : ∃ x0 x1 x2, l = [x0, x1, x2] := by
    match l, hlen with
    | [x0, x1, x2], _ => exact ⟨x0, x1, x2, rfl⟩
  obtain ⟨y0, y1, y2, rfl⟩ : ∃ y0 y1 y2, xs = [y0, y1, y2] := by
    match xs, hxl with
    | [y0, y1, y2], _ => exact ⟨y0, y1, y2, rfl⟩
  have f0 : DataW.trod enc Try.prog W 0 (fun _ => true) true m 3 [x0] = some y0 := by
    have q : DataW.trod enc Try.prog W 0 (fun _ => true) true m 3 (([x0, x1, x2].drop 0).take (Try.prog.cellsOf 3)) = [y0, y1, y2][0]? := hf 0 _ rfl
    rw [Try.cellsS16_int] at q
    exact q
  have f1 : DataW.trod enc Try.prog W 0 (fun _ => true) true m 3 [x1] = some y1 := by
    have q : DataW.trod enc Try.prog W 0 (fun _ => true) true m 3 (([x0, x1, x2].drop 1).take (Try.prog.cellsOf 3)) = [y0, y1, y2][1]? := hf 1 _ rfl
    rw [Try.cellsS16_int] at q
    exact q
  have f2 : DataW.trod enc Try.prog W 0 (fun _ => true) true m 3 [x2] = some y2 := by
    have q : DataW.trod enc Try.prog W 0 (fun _ => true) true m 3 (([x0, x1, x2].drop 2).take (Try.prog.cellsOf 3)) = [y0, y1, y2][2]? := hf 2 _ rfl
    rw [Try.cellsS16_int] at q
    exact q
  obtain ⟨n0, e0, _, b0⟩ := DataW.trod_int Try.underlying3 f0
  obtain ⟨n1, e1, _, b1⟩ := DataW.trod_int Try.underlying3 f1
  obtain ⟨n2, e2, _, b2⟩ := DataW.trod_int Try.underlying3 f2
  simp only [List.cons.injEq, and_true] at e0 e1 e2
  subst e0 e1 e2
  exact ⟨⟨n0, n1, n2⟩, rfl⟩

end Go.Proofs.Ytoijomdgcgbpbaa
