/-
  The program's table of versions, as a row lists it: from the condition to the block.
-/
import Derived.Test.YtmghdgkdnacinaaDoorIpipA
import Derived.Test.YtmghdgkdnacinaaDoorLaid
import Derived.ProofKit
import Derived.LaidMore
import Derived.OpenShut
import Derived.Stop.Joined
namespace Go.Proofs.YtmghdgkdnacinaaDoor
open Go.ChangeShapes Go.WideShapes Go.ChangeAt Go.RowKit
set_option linter.unusedVariables false

def laidV {H : Type} : List (String × DataW H) := [("palanquin/ipip.versions", Rows.laid_palanquin_ipip_versions)]
theorem gVers : Tryd.prog.globalNamed "palanquin/ipip.versions" = some 0 := by kernel_rfl
theorem tVers : (Tryd.prog.globals[0]?).map (·.type) = some 128 := by kernel_rfl
theorem cVers : Tryd.prog.cellsOf 128 = 6 := by kernel_rfl
theorem cVer : Tryd.prog.cellsOf 125 = 3 := by kernel_rfl
theorem cNumV : Tryd.prog.cellsOf 3 = 1 := by kernel_rfl

/-- The door's own heap meets the condition. -/
theorem door_metV (os : Os) (args : Array Value) : laidMetH Tryd.prog laidV ((World.doorLaid Tryd.prog 400 os).forCall (fun _ _ => 0) ⟨#[], args, []⟩).memory :=
  laidMetH_of_parts3 (fuel := 8) (laidMet_of_run' 8 (by kernel_rfl) (by kernel_rfl)) (by kernel_rfl) (by kernel_rfl)

set_option maxRecDepth 100000 in
theorem one_ver {W : World} {m : Nat} {l : List Value} {d : DataW Unit} {p : List MemPlace} {a b c : Int} (hl : l.length = 3)
    (h : DataW.trod (fun _ => ()) Tryd.prog W 0 (fun _ => true) false m 125 l = some (d, p)) (hd : d = .agg [.lit (.int .i64 a), .lit (.int .i64 b), .lit (.int .i64 c)]) :
    l = [.int .i64 a, .int .i64 b, .int .i64 c] := by
  obtain ⟨xs, m2, _, hx, hlen, hxl, hf⟩ := DataW.trod_struct Tryd.underlying125 h
  obtain ⟨x0, x1, x2, rfl⟩ : ∃ x0 x1 x2, l = [x0, x1, x2] := by
    match l, hl with
    | [x0, x1, x2], _ => exact ⟨x0, x1, x2, rfl⟩
  obtain ⟨y0, y1, y2, rfl⟩ : ∃ y0 y1 y2, xs = [y0, y1, y2] := by
    match xs, hxl with
    | [y0, y1, y2], _ => exact ⟨y0, y1, y2, rfl⟩
  have f0 : DataW.trod (fun _ => ()) Tryd.prog W 0 (fun _ => true) false m2 3 [x0] = some y0 := by
    have q : DataW.trod (fun _ => ()) Tryd.prog W 0 (fun _ => true) false m2 3 (([x0, x1, x2].drop 0).take (Tryd.prog.cellsOf 3)) = [y0, y1, y2][0]? := hf 0 _ rfl
    rw [cNumV] at q
    exact q
  have f1 : DataW.trod (fun _ => ()) Tryd.prog W 0 (fun _ => true) false m2 3 [x1] = some y1 := by
    have q : DataW.trod (fun _ => ()) Tryd.prog W 0 (fun _ => true) false m2 3 (([x0, x1, x2].drop 1).take (Tryd.prog.cellsOf 3)) = [y0, y1, y2][1]? := hf 1 _ rfl
    rw [cNumV] at q
    exact q
  have f2 : DataW.trod (fun _ => ()) Tryd.prog W 0 (fun _ => true) false m2 3 [x2] = some y2 := by
    have q : DataW.trod (fun _ => ()) Tryd.prog W 0 (fun _ => true) false m2 3 (([x0, x1, x2].drop 2).take (Tryd.prog.cellsOf 3)) = [y0, y1, y2][2]? := hf 2 _ rfl
    rw [cNumV] at q
    exact q
  obtain ⟨n0, e0, g0, _⟩ := DataW.trod_int Tryd.underlying3 f0
  obtain ⟨n1, e1, g1, _⟩ := DataW.trod_int Tryd.underlying3 f1
  obtain ⟨n2, e2, g2, _⟩ := DataW.trod_int Tryd.underlying3 f2
  simp only [Prod.mk.injEq] at hx
  rw [hd] at hx
  have hx1 := hx.1
  simp [g0, g1, g2] at hx1
  simp only [List.cons.injEq, and_true] at e0 e1 e2
  obtain ⟨r0, r1, r2⟩ := hx1
  rw [e0, e1, e2, r0, r1, r2]

set_option maxRecDepth 100000 in
theorem vers_of_at {W : World} (h : LaidAt W "palanquin/ipip.versions" Rows.laid_palanquin_ipip_versions) : Vers W := by
  obtain ⟨_, _, g0, t0, cs0, f0, p0, q0, hg0, ht0, hv0, hd0, _, _⟩ := h
  obtain rfl := Option.some.inj (gVers.symm.trans hg0)
  obtain rfl := Option.some.inj (tVers.symm.trans ht0)
  obtain ⟨xs, m, rfl, hx, hlen, hn, hel⟩ := DataW.trod_array Tryd.underlying128 hd0
  rw [cVers] at hlen
  rw [cVer] at hel
  obtain ⟨y0, y1, rfl⟩ : ∃ y0 y1, xs = [y0, y1] := by
    match xs, hn with
    | [y0, y1], _ => exact ⟨y0, y1, rfl⟩
  have h0 := hel 0 (by decide)
  have h1 := hel 1 (by decide)
  simp only [Prod.mk.injEq] at hx
  have hx1 := hx.1
  unfold Rows.laid_palanquin_ipip_versions at hx1
  simp only [List.map_cons, List.map_nil, DataW.agg.injEq, List.cons.injEq, and_true] at hx1
  obtain ⟨y0d, y0p⟩ := y0
  obtain ⟨y1d, y1p⟩ := y1
  have l0 := one_ver (by rw [List.length_take, List.length_drop, hlen]; rfl) (show DataW.trod (fun _ => ()) Tryd.prog W 0 (fun _ => true) false m _ _ = some (y0d, y0p) from h0) hx1.1.symm
  have l1 := one_ver (by rw [List.length_take, List.length_drop, hlen]; rfl) (show DataW.trod (fun _ => ()) Tryd.prog W 0 (fun _ => true) false m _ _ = some (y1d, y1p) from h1) hx1.2.symm
  have hall : cs0.toList = (cs0.toList.drop (0 * 3)).take 3 ++ (cs0.toList.drop (1 * 3)).take 3 := by
    have a1 : (cs0.toList.drop (1 * 3)).take 3 = cs0.toList.drop 3 := List.take_of_length_le (by rw [List.length_drop, hlen]; decide)
    rw [a1, Nat.zero_mul, List.drop_zero, List.take_append_drop]
  rw [l0, l1] at hall
  have hcs : cs0 = versions6 := Array.toList_inj.1 hall
  subst hcs
  simp only [World.var?, gVers, Option.bind_some] at hv0
  split at hv0
  · rename_i cs T fr heq
    simp only [Option.some.injEq] at hv0
    subst hv0
    exact ⟨T, fr, heq⟩
  · cases hv0

theorem vers_of_laid {W : World} (h : laidMetH Tryd.prog laidV W) : Vers W := vers_of_at (laidAt_met h (by kernel_rfl) _ _ (List.mem_cons_self ..))

end Go.Proofs.YtmghdgkdnacinaaDoor
