/-
  An argument of the type palanquinref14.Way, opened.
-/
import Derived.Test.YtmghdgkdnacinaaDoorTunnelSpec
import Derived.ProofKit
import Derived.SizedLaws
import Derived.Deep.Slices
import Derived.Deep.Fields
import Derived.OpenShut
namespace Go.Proofs.YtmghdgkdnacinaaDoor
open Go.ChangeShapes Go.WideShapes Go.ChangeAt Go.RowKit
set_option linter.unusedVariables false

theorem Tryd.cellsW14 : Tryd.prog.cellsOf 26 = 4 := by kernel_rfl
theorem Tryd.cellsW14_int : Tryd.prog.cellsOf 3 = 1 := by kernel_rfl
theorem Tryd.cellsW14_string : Tryd.prog.cellsOf 9 = 1 := by kernel_rfl
set_option maxRecDepth 100000 in
theorem open_w14 {H : Type} {enc : TypeId × Value → H} {W : World} {base : Nat} {v : Value} {d : DataW H} {p : List MemPlace} (hv : Value.okWide Tryd.prog W .any base 26 v) (h : DataW.Trod enc Tryd.prog W 0 (fun _ => true) true 26 v d p) :
    ∃ c : W14, v = .agg c.cells := by
  obtain ⟨cs, rfl, hsz⟩ := okWide_struct Tryd.underlying26 hv
  obtain ⟨l⟩ := cs
  obtain ⟨fuel, hf0⟩ := h
  have hf1 : DataW.trod enc Tryd.prog W 0 (fun _ => true) true fuel 26 l = some (d, p) := by simpa [Value.cells] using hf0
  obtain ⟨xs, m, _, hx, hlen, hxl, hf⟩ := DataW.trod_struct Tryd.underlying26 hf1
  rw [Tryd.cellsW14] at hlen
  obtain ⟨x0, x1, x2, x3, rfl⟩ : ∃ x0 x1 x2 x3, l = [x0, x1, x2, x3] := by
    match l, hlen with
    | [x0, x1, x2, x3], _ => exact ⟨x0, x1, x2, x3, rfl⟩
  obtain ⟨y0, y1, y2, y3, rfl⟩ : ∃ y0 y1 y2 y3, xs = [y0, y1, y2, y3] := by
    match xs, hxl with
    | [y0, y1, y2, y3], _ => exact ⟨y0, y1, y2, y3, rfl⟩
  have f0 : DataW.trod enc Tryd.prog W 0 (fun _ => true) true m 9 [x0] = some y0 := by
    have q : DataW.trod enc Tryd.prog W 0 (fun _ => true) true m 9 (([x0, x1, x2, x3].drop 0).take (Tryd.prog.cellsOf 9)) = [y0, y1, y2, y3][0]? := hf 0 _ rfl
    rw [Tryd.cellsW14_string] at q
    exact q
  have f1 : DataW.trod enc Tryd.prog W 0 (fun _ => true) true m 9 [x1] = some y1 := by
    have q : DataW.trod enc Tryd.prog W 0 (fun _ => true) true m 9 (([x0, x1, x2, x3].drop 1).take (Tryd.prog.cellsOf 9)) = [y0, y1, y2, y3][1]? := hf 1 _ rfl
    rw [Tryd.cellsW14_string] at q
    exact q
  have f2 : DataW.trod enc Tryd.prog W 0 (fun _ => true) true m 3 [x2] = some y2 := by
    have q : DataW.trod enc Tryd.prog W 0 (fun _ => true) true m 3 (([x0, x1, x2, x3].drop 2).take (Tryd.prog.cellsOf 3)) = [y0, y1, y2, y3][2]? := hf 2 _ rfl
    rw [Tryd.cellsW14_int] at q
    exact q
  have f3 : DataW.trod enc Tryd.prog W 0 (fun _ => true) true m 3 [x3] = some y3 := by
    have q : DataW.trod enc Tryd.prog W 0 (fun _ => true) true m 3 (([x0, x1, x2, x3].drop 3).take (Tryd.prog.cellsOf 3)) = [y0, y1, y2, y3][3]? := hf 3 _ rfl
    rw [Tryd.cellsW14_int] at q
    exact q
  obtain ⟨n0, e0, _, _⟩ := DataW.trod_string Tryd.underlying9 f0
  obtain ⟨n1, e1, _, _⟩ := DataW.trod_string Tryd.underlying9 f1
  obtain ⟨n2, e2, _, b2⟩ := DataW.trod_int Tryd.underlying3 f2
  obtain ⟨n3, e3, _, b3⟩ := DataW.trod_int Tryd.underlying3 f3
  simp only [List.cons.injEq, and_true] at e0 e1 e2 e3
  subst e0 e1 e2 e3
  exact ⟨⟨n0, n1, n2, n3⟩, rfl⟩

end Go.Proofs.YtmghdgkdnacinaaDoor
