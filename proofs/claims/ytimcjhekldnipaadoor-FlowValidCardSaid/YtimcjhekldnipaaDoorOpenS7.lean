/-
  An argument that is a segment, opened.
-/
import Derived.Test.YtimcjhekldnipaaDoorTcpA
import Derived.ProofKit
import Derived.SizedLaws
import Derived.Deep.Slices
import Derived.Deep.Fields
import Derived.OpenShut
namespace Go.Proofs.YtimcjhekldnipaaDoor
open Go.ChangeShapes Go.WideShapes Go.ChangeAt Go.RowKit
set_option linter.unusedVariables false

theorem Tryd.cellsS7 : Tryd.prog.cellsOf 39 = 9 := by kernel_rfl
theorem Tryd.cells7int : Tryd.prog.cellsOf 3 = 1 := by kernel_rfl
theorem Tryd.cells7uint32 : Tryd.prog.cellsOf 37 = 1 := by kernel_rfl
theorem Tryd.cells7string : Tryd.prog.cellsOf 9 = 1 := by kernel_rfl

set_option maxRecDepth 100000 in
/-- A segment, read. -/
theorem open_s7 {H : Type} {enc : TypeId × Value → H} {W : World} {base : Nat} {v : Value} {d : DataW H} {p : List MemPlace} (hv : Value.okWide Tryd.prog W .any base 39 v) (h : DataW.Trod enc Tryd.prog W 0 (fun _ => true) true 39 v d p) :
    ∃ c : S7, c.Wf ∧ v = .agg c.cells := by
  obtain ⟨cs, rfl, hsz⟩ := okWide_struct Tryd.underlying39 hv
  obtain ⟨l⟩ := cs
  obtain ⟨fuel, hf0⟩ := h
  have hf1 : DataW.trod enc Tryd.prog W 0 (fun _ => true) true fuel 39 l = some (d, p) := by simpa [Value.cells] using hf0
  obtain ⟨xs, m, _, hx, hlen, hxl, hf⟩ := DataW.trod_struct Tryd.underlying39 hf1
  rw [Tryd.cellsS7] at hlen
  obtain ⟨x0, x1, x2, x3, x4, x5, x6, x7, x8, rfl⟩ : ∃ x0 x1 x2 x3 x4 x5 x6 x7 x8, l = [x0, x1, x2, x3, x4, x5, x6, x7, x8] := by
    match l, hlen with
    | [x0, x1, x2, x3, x4, x5, x6, x7, x8], _ => exact ⟨x0, x1, x2, x3, x4, x5, x6, x7, x8, rfl⟩
  obtain ⟨y0, y1, y2, y3, y4, y5, y6, y7, y8, rfl⟩ : ∃ y0 y1 y2 y3 y4 y5 y6 y7 y8, xs = [y0, y1, y2, y3, y4, y5, y6, y7, y8] := by
    match xs, hxl with
    | [y0, y1, y2, y3, y4, y5, y6, y7, y8], _ => exact ⟨y0, y1, y2, y3, y4, y5, y6, y7, y8, rfl⟩
  have f0 : DataW.trod enc Tryd.prog W 0 (fun _ => true) true m 3 [x0] = some y0 := by
    have q : DataW.trod enc Tryd.prog W 0 (fun _ => true) true m 3 (([x0, x1, x2, x3, x4, x5, x6, x7, x8].drop 0).take (Tryd.prog.cellsOf 3)) = [y0, y1, y2, y3, y4, y5, y6, y7, y8][0]? := hf 0 _ rfl
    rw [Tryd.cells7int] at q
    exact q
  have f1 : DataW.trod enc Tryd.prog W 0 (fun _ => true) true m 3 [x1] = some y1 := by
    have q : DataW.trod enc Tryd.prog W 0 (fun _ => true) true m 3 (([x0, x1, x2, x3, x4, x5, x6, x7, x8].drop 1).take (Tryd.prog.cellsOf 3)) = [y0, y1, y2, y3, y4, y5, y6, y7, y8][1]? := hf 1 _ rfl
    rw [Tryd.cells7int] at q
    exact q
  have f2 : DataW.trod enc Tryd.prog W 0 (fun _ => true) true m 37 [x2] = some y2 := by
    have q : DataW.trod enc Tryd.prog W 0 (fun _ => true) true m 37 (([x0, x1, x2, x3, x4, x5, x6, x7, x8].drop 2).take (Tryd.prog.cellsOf 37)) = [y0, y1, y2, y3, y4, y5, y6, y7, y8][2]? := hf 2 _ rfl
    rw [Tryd.cells7uint32] at q
    exact q
  have f3 : DataW.trod enc Tryd.prog W 0 (fun _ => true) true m 37 [x3] = some y3 := by
    have q : DataW.trod enc Tryd.prog W 0 (fun _ => true) true m 37 (([x0, x1, x2, x3, x4, x5, x6, x7, x8].drop 3).take (Tryd.prog.cellsOf 37)) = [y0, y1, y2, y3, y4, y5, y6, y7, y8][3]? := hf 3 _ rfl
    rw [Tryd.cells7uint32] at q
    exact q
  have f4 : DataW.trod enc Tryd.prog W 0 (fun _ => true) true m 3 [x4] = some y4 := by
    have q : DataW.trod enc Tryd.prog W 0 (fun _ => true) true m 3 (([x0, x1, x2, x3, x4, x5, x6, x7, x8].drop 4).take (Tryd.prog.cellsOf 3)) = [y0, y1, y2, y3, y4, y5, y6, y7, y8][4]? := hf 4 _ rfl
    rw [Tryd.cells7int] at q
    exact q
  have f5 : DataW.trod enc Tryd.prog W 0 (fun _ => true) true m 3 [x5] = some y5 := by
    have q : DataW.trod enc Tryd.prog W 0 (fun _ => true) true m 3 (([x0, x1, x2, x3, x4, x5, x6, x7, x8].drop 5).take (Tryd.prog.cellsOf 3)) = [y0, y1, y2, y3, y4, y5, y6, y7, y8][5]? := hf 5 _ rfl
    rw [Tryd.cells7int] at q
    exact q
  have f6 : DataW.trod enc Tryd.prog W 0 (fun _ => true) true m 3 [x6] = some y6 := by
    have q : DataW.trod enc Tryd.prog W 0 (fun _ => true) true m 3 (([x0, x1, x2, x3, x4, x5, x6, x7, x8].drop 6).take (Tryd.prog.cellsOf 3)) = [y0, y1, y2, y3, y4, y5, y6, y7, y8][6]? := hf 6 _ rfl
    rw [Tryd.cells7int] at q
    exact q
  have f7 : DataW.trod enc Tryd.prog W 0 (fun _ => true) true m 9 [x7] = some y7 := by
    have q : DataW.trod enc Tryd.prog W 0 (fun _ => true) true m 9 (([x0, x1, x2, x3, x4, x5, x6, x7, x8].drop 7).take (Tryd.prog.cellsOf 9)) = [y0, y1, y2, y3, y4, y5, y6, y7, y8][7]? := hf 7 _ rfl
    rw [Tryd.cells7string] at q
    exact q
  have f8 : DataW.trod enc Tryd.prog W 0 (fun _ => true) true m 9 [x8] = some y8 := by
    have q : DataW.trod enc Tryd.prog W 0 (fun _ => true) true m 9 (([x0, x1, x2, x3, x4, x5, x6, x7, x8].drop 8).take (Tryd.prog.cellsOf 9)) = [y0, y1, y2, y3, y4, y5, y6, y7, y8][8]? := hf 8 _ rfl
    rw [Tryd.cells7string] at q
    exact q
  obtain ⟨n0, e0, _, b0⟩ := DataW.trod_int Tryd.underlying3 f0
  obtain ⟨n1, e1, _, b1⟩ := DataW.trod_int Tryd.underlying3 f1
  obtain ⟨n2, e2, _, b2⟩ := DataW.trod_int Tryd.underlying37 f2
  obtain ⟨n3, e3, _, b3⟩ := DataW.trod_int Tryd.underlying37 f3
  obtain ⟨n4, e4, _, b4⟩ := DataW.trod_int Tryd.underlying3 f4
  obtain ⟨n5, e5, _, b5⟩ := DataW.trod_int Tryd.underlying3 f5
  obtain ⟨n6, e6, _, b6⟩ := DataW.trod_int Tryd.underlying3 f6
  obtain ⟨n7, e7, _, _⟩ := DataW.trod_string Tryd.underlying9 f7
  obtain ⟨n8, e8, _, _⟩ := DataW.trod_string Tryd.underlying9 f8
  simp only [List.cons.injEq, and_true] at e0 e1 e2 e3 e4 e5 e6 e7 e8
  subst e0 e1 e2 e3 e4 e5 e6 e7 e8
  have u2 := bounds_u32 b2
  have u3 := bounds_u32 b3
  exact ⟨⟨n0, n1, n2, n3, n4, n5, n6, n7, n8⟩, ⟨by simp only; omega, by simp only; omega⟩, rfl⟩

end Go.Proofs.YtimcjhekldnipaaDoor
