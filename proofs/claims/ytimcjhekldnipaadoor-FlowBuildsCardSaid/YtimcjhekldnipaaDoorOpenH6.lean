/-
  An argument that is an IPv6 header, opened.
-/
import Derived.Test.YtimcjhekldnipaaDoorIp6A
import Derived.ProofKit
import Derived.SizedLaws
import Derived.Deep.Slices
import Derived.Deep.Fields
import Derived.OpenShut
namespace Go.Proofs.YtimcjhekldnipaaDoor
open Go.ChangeShapes Go.WideShapes Go.ChangeAt Go.RowKit
set_option linter.unusedVariables false

theorem Tryd.cellsH6 : Tryd.prog.cellsOf 25 = 6 := by kernel_rfl
theorem Tryd.cellsI6 : Tryd.prog.cellsOf 3 = 1 := by kernel_rfl
theorem Tryd.cellsT6 : Tryd.prog.cellsOf 9 = 1 := by kernel_rfl

set_option maxRecDepth 100000 in
/-- A header, read. -/
theorem open_h6 {H : Type} {enc : TypeId × Value → H} {W : World} {base : Nat} {v : Value} {d : DataW H} {p : List MemPlace} (hv : Value.okWide Tryd.prog W .any base 25 v) (h : DataW.Trod enc Tryd.prog W 0 (fun _ => true) true 25 v d p) :
    ∃ c : H6, v = .agg c.cells := by
  obtain ⟨cs, rfl, hsz⟩ := okWide_struct Tryd.underlying25 hv
  obtain ⟨l⟩ := cs
  obtain ⟨fuel, hf0⟩ := h
  have hf1 : DataW.trod enc Tryd.prog W 0 (fun _ => true) true fuel 25 l = some (d, p) := by simpa [Value.cells] using hf0
  obtain ⟨xs, m, _, hx, hlen, hxl, hf⟩ := DataW.trod_struct Tryd.underlying25 hf1
  rw [Tryd.cellsH6] at hlen
  obtain ⟨x0, x1, x2, x3, x4, x5, rfl⟩ : ∃ x0 x1 x2 x3 x4 x5, l = [x0, x1, x2, x3, x4, x5] := by
    match l, hlen with
    | [x0, x1, x2, x3, x4, x5], _ => exact ⟨x0, x1, x2, x3, x4, x5, rfl⟩
  obtain ⟨y0, y1, y2, y3, y4, y5, rfl⟩ : ∃ y0 y1 y2 y3 y4 y5, xs = [y0, y1, y2, y3, y4, y5] := by
    match xs, hxl with
    | [y0, y1, y2, y3, y4, y5], _ => exact ⟨y0, y1, y2, y3, y4, y5, rfl⟩
  have f0 : DataW.trod enc Tryd.prog W 0 (fun _ => true) true m 3 [x0] = some y0 := by
    have q : DataW.trod enc Tryd.prog W 0 (fun _ => true) true m 3 (([x0, x1, x2, x3, x4, x5].drop 0).take (Tryd.prog.cellsOf 3)) = [y0, y1, y2, y3, y4, y5][0]? := hf 0 _ rfl
    rw [Tryd.cellsI6] at q
    exact q
  have f1 : DataW.trod enc Tryd.prog W 0 (fun _ => true) true m 3 [x1] = some y1 := by
    have q : DataW.trod enc Tryd.prog W 0 (fun _ => true) true m 3 (([x0, x1, x2, x3, x4, x5].drop 1).take (Tryd.prog.cellsOf 3)) = [y0, y1, y2, y3, y4, y5][1]? := hf 1 _ rfl
    rw [Tryd.cellsI6] at q
    exact q
  have f2 : DataW.trod enc Tryd.prog W 0 (fun _ => true) true m 3 [x2] = some y2 := by
    have q : DataW.trod enc Tryd.prog W 0 (fun _ => true) true m 3 (([x0, x1, x2, x3, x4, x5].drop 2).take (Tryd.prog.cellsOf 3)) = [y0, y1, y2, y3, y4, y5][2]? := hf 2 _ rfl
    rw [Tryd.cellsI6] at q
    exact q
  have f3 : DataW.trod enc Tryd.prog W 0 (fun _ => true) true m 3 [x3] = some y3 := by
    have q : DataW.trod enc Tryd.prog W 0 (fun _ => true) true m 3 (([x0, x1, x2, x3, x4, x5].drop 3).take (Tryd.prog.cellsOf 3)) = [y0, y1, y2, y3, y4, y5][3]? := hf 3 _ rfl
    rw [Tryd.cellsI6] at q
    exact q
  have f4 : DataW.trod enc Tryd.prog W 0 (fun _ => true) true m 9 [x4] = some y4 := by
    have q : DataW.trod enc Tryd.prog W 0 (fun _ => true) true m 9 (([x0, x1, x2, x3, x4, x5].drop 4).take (Tryd.prog.cellsOf 9)) = [y0, y1, y2, y3, y4, y5][4]? := hf 4 _ rfl
    rw [Tryd.cellsT6] at q
    exact q
  have f5 : DataW.trod enc Tryd.prog W 0 (fun _ => true) true m 9 [x5] = some y5 := by
    have q : DataW.trod enc Tryd.prog W 0 (fun _ => true) true m 9 (([x0, x1, x2, x3, x4, x5].drop 5).take (Tryd.prog.cellsOf 9)) = [y0, y1, y2, y3, y4, y5][5]? := hf 5 _ rfl
    rw [Tryd.cellsT6] at q
    exact q
  obtain ⟨n0, e0, _, _⟩ := DataW.trod_int Tryd.underlying3 f0
  obtain ⟨n1, e1, _, _⟩ := DataW.trod_int Tryd.underlying3 f1
  obtain ⟨n2, e2, _, _⟩ := DataW.trod_int Tryd.underlying3 f2
  obtain ⟨n3, e3, _, _⟩ := DataW.trod_int Tryd.underlying3 f3
  obtain ⟨n4, e4, _, _⟩ := DataW.trod_string Tryd.underlying9 f4
  obtain ⟨n5, e5, _, _⟩ := DataW.trod_string Tryd.underlying9 f5
  simp only [List.cons.injEq, and_true] at e0 e1 e2 e3 e4 e5
  subst e0 e1 e2 e3 e4 e5
  exact ⟨⟨n0, n1, n2, n3, n4, n5⟩, rfl⟩

end Go.Proofs.YtimcjhekldnipaaDoor
