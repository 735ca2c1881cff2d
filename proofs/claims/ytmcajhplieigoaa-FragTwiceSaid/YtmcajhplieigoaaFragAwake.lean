/-
  The document's example: the laws' 'awake'.
-/
import Derived.Test.YtmcajhplieigoaaFragTexts
import Derived.Test.YtmcajhplieigoaaIp4B
import Derived.Test.YtmcajhplieigoaaGround
namespace Go.Proofs.Ytmcajhplieigoaa
open Go.RowKit Go.Shelf
set_option linter.unusedVariables false

/-- The example's packet. -/
def zeros15 : ByteArray := ⟨(List.replicate 100 (0 : UInt8)).toArray⟩
def packet15 : ByteArray := putS exampleH zeros15
set_option maxRecDepth 100000 in
theorem packet15_e : putE exampleH zeros15 = 0 := by decide +kernel
set_option maxRecDepth 100000 in
theorem packet15_size : packet15.size = 120 := by decide +kernel
set_option maxRecDepth 100000 in
theorem packet15_cut : cutE packet15 60 = 0 ∧ (cutL packet15 60).map ByteArray.size = [60, 60, 40] := by decide +kernel

/-- The example's three pieces, as a slice tells them. -/
structure Three15 (W : World) (v : Value) : Prop where
  is : ∃ (b c : Nat) (x y z : ByteArray), v = .slice (some ⟨b, 0, none⟩) 3 c ∧ x.size = 60 ∧ y.size = 60 ∧ z.size = 40 ∧ W.cell? ⟨b, 0, none⟩ = some (.string x) ∧ W.cell? ⟨b, 1, none⟩ = some (.string y) ∧ W.cell? ⟨b, 2, none⟩ = some (.string z)
theorem three15 {W : World} {v : Value} {l : List ByteArray} (h : TextsAt W v l) (hl : l.map ByteArray.size = [60, 60, 40]) : Three15 W v := by
  obtain ⟨x, l1, rfl, hx, h1⟩ := List.map_eq_cons_iff.1 hl
  obtain ⟨y, l2, rfl, hy, h2⟩ := List.map_eq_cons_iff.1 h1
  obtain ⟨z, l3, rfl, hz, h3⟩ := List.map_eq_cons_iff.1 h2
  obtain rfl := List.map_eq_nil_iff.1 h3
  obtain ⟨b, c, rfl, _, hc⟩ := h.some (by simp)
  exact ⟨⟨b, c, x, y, z, rfl, hx, hy, hz, hc 0 (by simp), hc 1 (by simp), hc 2 (by simp)⟩⟩

set_option maxHeartbeats 1000000 in
theorem awake_any (w : World) : Calls Try.prog 7 #[] w (AwakeEnd w) := by
  obtain ⟨w0, hm, hB, hK, hz⟩ := zeros_made w 100 (by omega)
  have ht : (convert 40 9 (.slice (some ⟨w.heap.size, 0, none⟩) 100 100)).run Try.prog w0 = .ok (.string zeros15) w0 := hB.text (cap := 100) (n := 100) (by simp)
  have hm' : (Instr.makeSlice 40 (.int .i64 100) (.int .i64 100)).run Try.prog w = .ok (.slice (some ⟨w.heap.size, 0, none⟩) 100 100) w0 := hm
  have HB0 := Lib.hid (show Below w.heap.size w w0 from ⟨hK.os, hK.tape, hK.output, hK.size, fun k hk => hK.block k hk id⟩)
  have HP := Lib.hid (refput_any exampleH zeros15 w0 (by show zeros15.size ≤ _; decide +kernel))
  rw [packet15_e] at HP
  change Hid (Calls Try.prog _ _ w0 fun e w' => e = .returned (.tuple #[.string packet15, _]) ∧ _) at HP
  have HC := Lib.hid (fun W => cut_any packet15 60 W (by rw [packet15_size]; omega))
  unfold CutEnd at HC
  rw [packet15_cut.1] at HC
  have HT := Lib.hid packet15_cut.2
  have HPA := Lib.hid (fun W => part_any 20 67 W (by omega) (by omega))
  rw [show pt15 20 67 = 40 from by decide +kernel] at HPA
  unfold exampleH H4.cells at HP
  dsimp only at HP
  clear hm hB hK hz
  generalize packet15 = p at *
  generalize zeros15 = z at *
  go_enter Try.func7, Try.ntmps7
  go_wp2_with fail
  refine HP.out.mono ?_
  rintro e w1 ⟨rfl, hb1⟩
  have HB1 := Lib.hid (HB0.out.trans (hb1.mono HB0.out.size))
  clear hb1 HP ht hm' HB0
  go_wp2_with fail
  refine (HC.out _).mono ?_
  rintro e w2 ⟨hb2, v, rfl, hv⟩
  have HB2 := Lib.hid (HB1.out.trans (hb2.mono HB1.out.size))
  obtain ⟨b, c, x, y, z, rfl, sx, sy, sz, cx, cy, cz⟩ := (three15 hv HT.out).is
  clear hb2 HC hv HT HB1
  have t1 : ((x.size : Int) == 60) = true := by simp; omega
  have t2 : ((y.size : Int) == 60) = true := by simp; omega
  have t3 : ((z.size : Int) == 40) = true := by simp; omega
  clear sx sy sz
  go_wp2_with fail
  refine (HPA.out _).mono ?_
  rintro e w5 ⟨rfl, hb5⟩
  have HB5 := Lib.hid (HB2.out.trans (hb5.mono HB2.out.size))
  clear hb5 HPA cx cy cz HB2
  go_wp2_with fail
  go_ret
  exact ⟨rfl, HB5.out⟩

end Go.Proofs.Ytmcajhplieigoaa
