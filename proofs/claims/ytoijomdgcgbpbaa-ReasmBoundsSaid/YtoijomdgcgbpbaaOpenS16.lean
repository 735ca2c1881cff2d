/-
  An argument of the type api.Store, opened.
-/
import Derived.Test.YtoijomdgcgbpbaaReasmNew
import Derived.ProofKit
import Derived.SizedLaws
import Derived.Deep.Slices
import Derived.Deep.Fields
import Derived.OpenShut
namespace Go.Proofs.Ytoijomdgcgbpbaa
open Go.ChangeShapes Go.WideShapes Go.ChangeAt Go.RowKit
set_option linter.unusedVariables false

theorem Try.cellsS16 : Try.prog.cellsOf 23 = 3 := by kernel_rfl
theorem Try.cellsS16_int : Try.prog.cellsOf 3 = 1 := by kernel_rfl
set_option maxRecDepth 100000 in
theorem open_s16 {H : Type} {enc : TypeId × Value → H} {W : World} {base : Nat} {v : Value} {d : DataW H} {p : List MemPlace} (hv : Value.okWide Try.prog W .any base 23 v) (h : DataW.Trod enc Try.prog W 0 (fun _ => true) true 23 v d p) :
    ∃ c : S16, v = .agg c.cells := by
  obtain ⟨cs, rfl, hsz⟩ := okWide_struct Try.underlying23 hv
  obtain ⟨l⟩ := cs
  obtain ⟨fuel, hf0⟩ := h
  have hf1 : DataW.trod enc Try.prog W 0 (fun _ => true) true fuel 23 l = some (d, p) := by simpa [Value.cells] using hf0
  obtain ⟨xs, m, _, hx, hlen, hxl, hf⟩ := DataW.trod_struct Try.underlying23 hf1
  rw [Try.cellsS16] at hlen
  obtain ⟨x0, x1, x2, rfl⟩ : ∃ x0 x1 x2, l = [x0, x1, x2] := by
    match l, hlen with
    | [x0, x1, x2], _ => exact ⟨x0, x1, x2, rfl⟩
  obtain ⟨y0, y1, y2, rfl⟩ : ∃ y0 y1 y2, xs = [y0, y1, y2] := by
    match xs, hxl with
    | [y0, y1, y2], _ => exact ⟨y0, y1, y2, rfl⟩
  have f0 : DataW.trod enc Try.prog W 0 (fun _ => true) true m 3 [x0] = some y0 := by
    have q : DataW.trod enc Try.prog W 0 (fun _ => true) true m 3 (([x0, x1, x2].drop 0).take (Try.prog.cellsOf 3)) = [y0, y1, y2][0]? := hf 0 _ rfl
    rw [Try.cellsS16_int] at q
    exact q
  have f1 : DataW.trod enc Try.prog W 0 (fun _ => true) true m 3 [x1] = some y1 := by
    have q : DataW.trod enc Try.prog W 0 (fun _ => true) true m 3 (([x0, x1, x2].drop 1).take (Try.prog.cellsOf 3)) = [y0, y1, y2][1]? := hf 1 _ rfl
    rw [Try.cellsS16_int] at q
    exact q
  have f2 : DataW.trod enc Try.prog W 0 (fun _ => true) true m 3 [x2] = some y2 := by
    have q : DataW.trod enc Try.prog W 0 (fun _ => true) true m 3 (([x0, x1, x2].drop 2).take (Try.prog.cellsOf 3)) = [y0, y1, y2][2]? := hf 2 _ rfl
    rw [Try.cellsS16_int] at q
    exact q
  obtain ⟨n0, e0, _, b0⟩ := DataW.trod_int Try.underlying3 f0
  obtain ⟨n1, e1, _, b1⟩ := DataW.trod_int Try.underlying3 f1
  obtain ⟨n2, e2, _, b2⟩ := DataW.trod_int Try.underlying3 f2
  simp only [List.cons.injEq, and_true] at e0 e1 e2
  subst e0 e1 e2
  exact ⟨⟨n0, n1, n2⟩, rfl⟩

end Go.Proofs.Ytoijomdgcgbpbaa
