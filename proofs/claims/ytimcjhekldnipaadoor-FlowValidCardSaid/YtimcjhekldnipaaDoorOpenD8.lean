/-
  An argument of the type api.Datagram, opened.
-/
import Derived.Test.YtimcjhekldnipaaDoorUdpA
import Derived.ProofKit
import Derived.SizedLaws
import Derived.Deep.Slices
import Derived.Deep.Fields
import Derived.OpenShut
namespace Go.Proofs.YtimcjhekldnipaaDoor
open Go.ChangeShapes Go.WideShapes Go.ChangeAt Go.RowKit
set_option linter.unusedVariables false

theorem Tryd.cellsD8 : Tryd.prog.cellsOf 41 = 3 := by kernel_rfl
theorem Tryd.cellsD8_int : Tryd.prog.cellsOf 3 = 1 := by kernel_rfl
theorem Tryd.cellsD8_string : Tryd.prog.cellsOf 9 = 1 := by kernel_rfl
set_option maxRecDepth 100000 in
theorem open_d8 {H : Type} {enc : TypeId × Value → H} {W : World} {base : Nat} {v : Value} {d : DataW H} {p : List MemPlace} (hv : Value.okWide Tryd.prog W .any base 41 v) (h : DataW.Trod enc Tryd.prog W 0 (fun _ => true) true 41 v d p) :
    ∃ c : D8, v = .agg c.cells := by
  obtain ⟨cs, rfl, hsz⟩ := okWide_struct Tryd.underlying41 hv
  obtain ⟨l⟩ := cs
  obtain ⟨fuel, hf0⟩ := h
  have hf1 : DataW.trod enc Tryd.prog W 0 (fun _ => true) true fuel 41 l = some (d, p) := by simpa [Value.cells] using hf0
  obtain ⟨xs, m, _, hx, hlen, hxl, hf⟩ := DataW.trod_struct Tryd.underlying41 hf1
  rw [Tryd.cellsD8] at hlen
  obtain ⟨x0, x1, x2, rfl⟩ : ∃ x0 x1 x2, l = [x0, x1, x2] := by
    match l, hlen with
    | [x0, x1, x2], _ => exact ⟨x0, x1, x2, rfl⟩
  obtain ⟨y0, y1, y2, rfl⟩ : ∃ y0 y1 y2, xs = [y0, y1, y2] := by
    match xs, hxl with
    | [y0, y1, y2], _ => exact ⟨y0, y1, y2, rfl⟩
  have f0 : DataW.trod enc Tryd.prog W 0 (fun _ => true) true m 3 [x0] = some y0 := by
    have q : DataW.trod enc Tryd.prog W 0 (fun _ => true) true m 3 (([x0, x1, x2].drop 0).take (Tryd.prog.cellsOf 3)) = [y0, y1, y2][0]? := hf 0 _ rfl
    rw [Tryd.cellsD8_int] at q
    exact q
  have f1 : DataW.trod enc Tryd.prog W 0 (fun _ => true) true m 3 [x1] = some y1 := by
    have q : DataW.trod enc Tryd.prog W 0 (fun _ => true) true m 3 (([x0, x1, x2].drop 1).take (Tryd.prog.cellsOf 3)) = [y0, y1, y2][1]? := hf 1 _ rfl
    rw [Tryd.cellsD8_int] at q
    exact q
  have f2 : DataW.trod enc Tryd.prog W 0 (fun _ => true) true m 9 [x2] = some y2 := by
    have q : DataW.trod enc Tryd.prog W 0 (fun _ => true) true m 9 (([x0, x1, x2].drop 2).take (Tryd.prog.cellsOf 9)) = [y0, y1, y2][2]? := hf 2 _ rfl
    rw [Tryd.cellsD8_string] at q
    exact q
  obtain ⟨n0, e0, _, b0⟩ := DataW.trod_int Tryd.underlying3 f0
  obtain ⟨n1, e1, _, b1⟩ := DataW.trod_int Tryd.underlying3 f1
  obtain ⟨n2, e2, _, _⟩ := DataW.trod_string Tryd.underlying9 f2
  simp only [List.cons.injEq, and_true] at e0 e1 e2
  subst e0 e1 e2
  exact ⟨⟨n0, n1, n2⟩, rfl⟩

end Go.Proofs.YtimcjhekldnipaaDoor
