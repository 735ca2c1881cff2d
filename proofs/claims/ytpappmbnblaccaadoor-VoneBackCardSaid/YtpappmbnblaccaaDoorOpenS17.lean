/-
  An argument of the type api.Stream, opened.
-/
import Derived.Test.YtpappmbnblaccaaDoorVoneSpec
import Derived.ProofKit
import Derived.SizedLaws
import Derived.Deep.Slices
import Derived.Deep.Fields
import Derived.OpenShut
namespace Go.Proofs.YtpappmbnblaccaaDoor
open Go.ChangeShapes Go.WideShapes Go.ChangeAt Go.RowKit
set_option linter.unusedVariables false

theorem Tryd.cellsS17 : Tryd.prog.cellsOf 24 = 7 := by kernel_rfl
theorem Tryd.cellsS17_slice : Tryd.prog.cellsOf 22 = 1 := by kernel_rfl
theorem Tryd.cellsS17_bool : Tryd.prog.cellsOf 4 = 1 := by kernel_rfl
theorem Tryd.cellsS17_int : Tryd.prog.cellsOf 3 = 1 := by kernel_rfl
theorem Tryd.cellsS17_string : Tryd.prog.cellsOf 9 = 1 := by kernel_rfl
set_option maxRecDepth 100000 in
theorem open_s17 {H : Type} {enc : TypeId × Value → H} {W : World} {base : Nat} {v : Value} {d : DataW H} {p : List MemPlace} (hv : Value.okWide Tryd.prog W .any base 24 v) (h : DataW.Trod enc Tryd.prog W 0 (fun _ => true) true 24 v d p) :
    ∃ c : S17, v = .agg c.cells := by
  obtain ⟨cs, rfl, hsz⟩ := okWide_struct Tryd.underlying24 hv
  obtain ⟨l⟩ := cs
  obtain ⟨fuel, hf0⟩ := h
  have hf1 : DataW.trod enc Tryd.prog W 0 (fun _ => true) true fuel 24 l = some (d, p) := by simpa [Value.cells] using hf0
  obtain ⟨xs, m, _, hx, hlen, hxl, hf⟩ := DataW.trod_struct Tryd.underlying24 hf1
  rw [Tryd.cellsS17] at hlen
  obtain ⟨x0, x1, x2, x3, x4, x5, x6, rfl⟩ : ∃ x0 x1 x2 x3 x4 x5 x6, l = [x0, x1, x2, x3, x4, x5, x6] := by
    match l, hlen with
    | [x0, x1, x2, x3, x4, x5, x6], _ => exact ⟨x0, x1, x2, x3, x4, x5, x6, rfl⟩
  obtain ⟨y0, y1, y2, y3, y4, y5, y6, rfl⟩ : ∃ y0 y1 y2 y3 y4 y5 y6, xs = [y0, y1, y2, y3, y4, y5, y6] := by
    match xs, hxl with
    | [y0, y1, y2, y3, y4, y5, y6], _ => exact ⟨y0, y1, y2, y3, y4, y5, y6, rfl⟩
  have f0 : DataW.trod enc Tryd.prog W 0 (fun _ => true) true m 4 [x0] = some y0 := by
    have q : DataW.trod enc Tryd.prog W 0 (fun _ => true) true m 4 (([x0, x1, x2, x3, x4, x5, x6].drop 0).take (Tryd.prog.cellsOf 4)) = [y0, y1, y2, y3, y4, y5, y6][0]? := hf 0 _ rfl
    rw [Tryd.cellsS17_bool] at q
    exact q
  have f1 : DataW.trod enc Tryd.prog W 0 (fun _ => true) true m 3 [x1] = some y1 := by
    have q : DataW.trod enc Tryd.prog W 0 (fun _ => true) true m 3 (([x0, x1, x2, x3, x4, x5, x6].drop 1).take (Tryd.prog.cellsOf 3)) = [y0, y1, y2, y3, y4, y5, y6][1]? := hf 1 _ rfl
    rw [Tryd.cellsS17_int] at q
    exact q
  have f2 : DataW.trod enc Tryd.prog W 0 (fun _ => true) true m 9 [x2] = some y2 := by
    have q : DataW.trod enc Tryd.prog W 0 (fun _ => true) true m 9 (([x0, x1, x2, x3, x4, x5, x6].drop 2).take (Tryd.prog.cellsOf 9)) = [y0, y1, y2, y3, y4, y5, y6][2]? := hf 2 _ rfl
    rw [Tryd.cellsS17_string] at q
    exact q
  have f3 : DataW.trod enc Tryd.prog W 0 (fun _ => true) true m 9 [x3] = some y3 := by
    have q : DataW.trod enc Tryd.prog W 0 (fun _ => true) true m 9 (([x0, x1, x2, x3, x4, x5, x6].drop 3).take (Tryd.prog.cellsOf 9)) = [y0, y1, y2, y3, y4, y5, y6][3]? := hf 3 _ rfl
    rw [Tryd.cellsS17_string] at q
    exact q
  have f4 : DataW.trod enc Tryd.prog W 0 (fun _ => true) true m 3 [x4] = some y4 := by
    have q : DataW.trod enc Tryd.prog W 0 (fun _ => true) true m 3 (([x0, x1, x2, x3, x4, x5, x6].drop 4).take (Tryd.prog.cellsOf 3)) = [y0, y1, y2, y3, y4, y5, y6][4]? := hf 4 _ rfl
    rw [Tryd.cellsS17_int] at q
    exact q
  have f5 : DataW.trod enc Tryd.prog W 0 (fun _ => true) true m 3 [x5] = some y5 := by
    have q : DataW.trod enc Tryd.prog W 0 (fun _ => true) true m 3 (([x0, x1, x2, x3, x4, x5, x6].drop 5).take (Tryd.prog.cellsOf 3)) = [y0, y1, y2, y3, y4, y5, y6][5]? := hf 5 _ rfl
    rw [Tryd.cellsS17_int] at q
    exact q
  have f6 : DataW.trod enc Tryd.prog W 0 (fun _ => true) true m 22 [x6] = some y6 := by
    have q : DataW.trod enc Tryd.prog W 0 (fun _ => true) true m 22 (([x0, x1, x2, x3, x4, x5, x6].drop 6).take (Tryd.prog.cellsOf 22)) = [y0, y1, y2, y3, y4, y5, y6][6]? := hf 6 _ rfl
    rw [Tryd.cellsS17_slice] at q
    exact q
  obtain ⟨n0, e0, _⟩ := DataW.trod_bool Tryd.underlying4 f0
  obtain ⟨n1, e1, _, b1⟩ := DataW.trod_int Tryd.underlying3 f1
  obtain ⟨n2, e2, _, _⟩ := DataW.trod_string Tryd.underlying9 f2
  obtain ⟨n3, e3, _, _⟩ := DataW.trod_string Tryd.underlying9 f3
  obtain ⟨n4, e4, _, b4⟩ := DataW.trod_int Tryd.underlying3 f4
  obtain ⟨n5, e5, _, b5⟩ := DataW.trod_int Tryd.underlying3 f5
  have e6 : ∃ a n c, x6 = .slice a n c := by
    rcases Deep.open_slice Tryd.underlying22 f6 with ⟨h0, _⟩ | ⟨ad, len', cap', _, _, _, _, hcs, _⟩
    · exact ⟨none, 0, 0, by simpa using h0⟩
    · exact ⟨_, _, _, by simpa using hcs⟩
  obtain ⟨a6, n6, c6, e6⟩ := e6
  simp only [List.cons.injEq, and_true] at e0 e1 e2 e3 e4 e5 e6
  subst e0 e1 e2 e3 e4 e5 e6
  exact ⟨⟨n0, n1, n2, n3, n4, n5, a6, n6, c6⟩, rfl⟩

end Go.Proofs.YtpappmbnblaccaaDoor
