/-
  An argument that is a header, opened.
-/
import Derived.Test.YtoijomdgcgbpbaaIp4A
import Derived.ProofKit
import Derived.SizedLaws
import Derived.Deep.Slices
import Derived.Deep.Fields
import Derived.OpenShut
namespace Go.Proofs.Ytoijomdgcgbpbaa
open Go.ChangeShapes Go.WideShapes Go.ChangeAt Go.RowKit
set_option linter.unusedVariables false

theorem Try.cellsH : Try.prog.cellsOf 43 = 10 := by kernel_rfl
theorem Try.cellsI : Try.prog.cellsOf 3 = 1 := by kernel_rfl
theorem Try.cellsL : Try.prog.cellsOf 4 = 1 := by kernel_rfl
theorem Try.cellsT : Try.prog.cellsOf 9 = 1 := by kernel_rfl

set_option maxRecDepth 100000 in
/-- A header, read. -/
theorem open_h4 {H : Type} {enc : TypeId × Value → H} {W : World} {base : Nat} {v : Value} {d : DataW H} {p : List MemPlace} (hv : Value.okWide Try.prog W .any base 43 v) (h : DataW.Trod enc Try.prog W 0 (fun _ => true) true 43 v d p) :
    ∃ c : H4, v = .agg c.cells := by
  obtain ⟨cs, rfl, hsz⟩ := okWide_struct Try.underlying43 hv
  obtain ⟨l⟩ := cs
  obtain ⟨fuel, hf0⟩ := h
  have hf1 : DataW.trod enc Try.prog W 0 (fun _ => true) true fuel 43 l = some (d, p) := by simpa [Value.cells] using hf0
  obtain ⟨xs, m, _, hx, hlen, hxl, hf⟩ := DataW.trod_struct Try.underlying43 hf1
  rw [Try.cellsH] at hlen
  obtain ⟨x0, x1, x2, x3, x4, x5, x6, x7, x8, x9, rfl⟩ : ∃ x0 x1 x2 x3 x4 x5 x6 x7 x8 x9, l = [x0, x1, x2, x3, x4, x5, x6, x7, x8, x9] := by
    match l, hlen with
    | [x0, x1, x2, x3, x4, x5, x6, x7, x8, x9], _ => exact ⟨x0, x1, x2, x3, x4, x5, x6, x7, x8, x9, rfl⟩
  obtain ⟨y0, y1, y2, y3, y4, y5, y6, y7, y8, y9, rfl⟩ : ∃ y0 y1 y2 y3 y4 y5 y6 y7 y8 y9, xs = [y0, y1, y2, y3, y4, y5, y6, y7, y8, y9] := by
    match xs, hxl with
    | [y0, y1, y2, y3, y4, y5, y6, y7, y8, y9], _ => exact ⟨y0, y1, y2, y3, y4, y5, y6, y7, y8, y9, rfl⟩
  have f0 : DataW.trod enc Try.prog W 0 (fun _ => true) true m 3 [x0] = some y0 := by
    have q : DataW.trod enc Try.prog W 0 (fun _ => true) true m 3 (([x0, x1, x2, x3, x4, x5, x6, x7, x8, x9].drop 0).take (Try.prog.cellsOf 3)) = [y0, y1, y2, y3, y4, y5, y6, y7, y8, y9][0]? := hf 0 _ rfl
    rw [Try.cellsI] at q
    exact q
  have f1 : DataW.trod enc Try.prog W 0 (fun _ => true) true m 3 [x1] = some y1 := by
    have q : DataW.trod enc Try.prog W 0 (fun _ => true) true m 3 (([x0, x1, x2, x3, x4, x5, x6, x7, x8, x9].drop 1).take (Try.prog.cellsOf 3)) = [y0, y1, y2, y3, y4, y5, y6, y7, y8, y9][1]? := hf 1 _ rfl
    rw [Try.cellsI] at q
    exact q
  have f2 : DataW.trod enc Try.prog W 0 (fun _ => true) true m 3 [x2] = some y2 := by
    have q : DataW.trod enc Try.prog W 0 (fun _ => true) true m 3 (([x0, x1, x2, x3, x4, x5, x6, x7, x8, x9].drop 2).take (Try.prog.cellsOf 3)) = [y0, y1, y2, y3, y4, y5, y6, y7, y8, y9][2]? := hf 2 _ rfl
    rw [Try.cellsI] at q
    exact q
  have f3 : DataW.trod enc Try.prog W 0 (fun _ => true) true m 3 [x3] = some y3 := by
    have q : DataW.trod enc Try.prog W 0 (fun _ => true) true m 3 (([x0, x1, x2, x3, x4, x5, x6, x7, x8, x9].drop 3).take (Try.prog.cellsOf 3)) = [y0, y1, y2, y3, y4, y5, y6, y7, y8, y9][3]? := hf 3 _ rfl
    rw [Try.cellsI] at q
    exact q
  have f4 : DataW.trod enc Try.prog W 0 (fun _ => true) true m 3 [x4] = some y4 := by
    have q : DataW.trod enc Try.prog W 0 (fun _ => true) true m 3 (([x0, x1, x2, x3, x4, x5, x6, x7, x8, x9].drop 4).take (Try.prog.cellsOf 3)) = [y0, y1, y2, y3, y4, y5, y6, y7, y8, y9][4]? := hf 4 _ rfl
    rw [Try.cellsI] at q
    exact q
  have f5 : DataW.trod enc Try.prog W 0 (fun _ => true) true m 4 [x5] = some y5 := by
    have q : DataW.trod enc Try.prog W 0 (fun _ => true) true m 4 (([x0, x1, x2, x3, x4, x5, x6, x7, x8, x9].drop 5).take (Try.prog.cellsOf 4)) = [y0, y1, y2, y3, y4, y5, y6, y7, y8, y9][5]? := hf 5 _ rfl
    rw [Try.cellsL] at q
    exact q
  have f6 : DataW.trod enc Try.prog W 0 (fun _ => true) true m 4 [x6] = some y6 := by
    have q : DataW.trod enc Try.prog W 0 (fun _ => true) true m 4 (([x0, x1, x2, x3, x4, x5, x6, x7, x8, x9].drop 6).take (Try.prog.cellsOf 4)) = [y0, y1, y2, y3, y4, y5, y6, y7, y8, y9][6]? := hf 6 _ rfl
    rw [Try.cellsL] at q
    exact q
  have f7 : DataW.trod enc Try.prog W 0 (fun _ => true) true m 9 [x7] = some y7 := by
    have q : DataW.trod enc Try.prog W 0 (fun _ => true) true m 9 (([x0, x1, x2, x3, x4, x5, x6, x7, x8, x9].drop 7).take (Try.prog.cellsOf 9)) = [y0, y1, y2, y3, y4, y5, y6, y7, y8, y9][7]? := hf 7 _ rfl
    rw [Try.cellsT] at q
    exact q
  have f8 : DataW.trod enc Try.prog W 0 (fun _ => true) true m 9 [x8] = some y8 := by
    have q : DataW.trod enc Try.prog W 0 (fun _ => true) true m 9 (([x0, x1, x2, x3, x4, x5, x6, x7, x8, x9].drop 8).take (Try.prog.cellsOf 9)) = [y0, y1, y2, y3, y4, y5, y6, y7, y8, y9][8]? := hf 8 _ rfl
    rw [Try.cellsT] at q
    exact q
  have f9 : DataW.trod enc Try.prog W 0 (fun _ => true) true m 9 [x9] = some y9 := by
    have q : DataW.trod enc Try.prog W 0 (fun _ => true) true m 9 (([x0, x1, x2, x3, x4, x5, x6, x7, x8, x9].drop 9).take (Try.prog.cellsOf 9)) = [y0, y1, y2, y3, y4, y5, y6, y7, y8, y9][9]? := hf 9 _ rfl
    rw [Try.cellsT] at q
    exact q
  obtain ⟨n0, e0, _, _⟩ := DataW.trod_int Try.underlying3 f0
  obtain ⟨n1, e1, _, _⟩ := DataW.trod_int Try.underlying3 f1
  obtain ⟨n2, e2, _, _⟩ := DataW.trod_int Try.underlying3 f2
  obtain ⟨n3, e3, _, _⟩ := DataW.trod_int Try.underlying3 f3
  obtain ⟨n4, e4, _, _⟩ := DataW.trod_int Try.underlying3 f4
  obtain ⟨n5, e5, _⟩ := DataW.trod_bool Try.underlying4 f5
  obtain ⟨n6, e6, _⟩ := DataW.trod_bool Try.underlying4 f6
  obtain ⟨n7, e7, _, _⟩ := DataW.trod_string Try.underlying9 f7
  obtain ⟨n8, e8, _, _⟩ := DataW.trod_string Try.underlying9 f8
  obtain ⟨n9, e9, _, _⟩ := DataW.trod_string Try.underlying9 f9
  simp only [List.cons.injEq, and_true] at e0 e1 e2 e3 e4 e5 e6 e7 e8 e9
  subst e0 e1 e2 e3 e4 e5 e6 e7 e8 e9
  exact ⟨⟨n0, n1, n2, n3, n4, n5, n6, n7, n8, n9⟩, rfl⟩

end Go.Proofs.Ytoijomdgcgbpbaa
