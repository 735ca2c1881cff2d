/-
  awake, few, and Same of headers without fields.
-/
import Derived.Test.YtpappmbnblaccaaDoorVonePlain
namespace Go.Proofs.YtpappmbnblaccaaDoor
open Go.RowKit
set_option linter.unusedVariables false

/-- The example's header. -/
def ex17 : S17 := ⟨false, 1, ⟨#[1, 2, 3, 4]⟩, ⟨#[5, 6, 7, 8]⟩, 9, 10, none, 0, 0⟩
theorem ex17_may : ex17.may := ⟨rfl, rfl, Or.inr ⟨Or.inl rfl, rfl, rfl, by decide, by decide, by decide, by decide⟩⟩
theorem ex17_line : (⟨#[80, 82, 79, 88, 89, 32, 84, 67, 80, 52, 32, 49, 46, 50, 46, 51, 46, 52, 32, 53, 46, 54, 46, 55, 46, 56, 32, 57, 32, 49, 48, 13, 10, 114, 101, 115, 116]⟩ : ByteArray).data.toList = lineL ex17 ++ [114, 101, 115, 116] := by
  have d : ∀ n, n < 10 → digs 10 n = [sg n] := fun n h => digs_small h
  have d10 : digs 10 10 = [49, 48] := by rw [digs_big (by decide) (by decide), digs_small (by decide)]; rfl
  unfold lineL
  rw [if_neg (by decide)]
  have t1 : text ex17.src.data.toList = [49, 46, 50, 46, 51, 46, 52] := by
    rw [text_4 rfl]
    unfold text4
    show jn 46 [digs 10 1, digs 10 2, digs 10 3, digs 10 4] = _
    rw [d 1 (by decide), d 2 (by decide), d 3 (by decide), d 4 (by decide)]
    rfl
  have t2 : text ex17.dst.data.toList = [53, 46, 54, 46, 55, 46, 56] := by
    rw [text_4 rfl]
    unfold text4
    show jn 46 [digs 10 5, digs 10 6, digs 10 7, digs 10 8] = _
    rw [d 5 (by decide), d 6 (by decide), d 7 (by decide), d 8 (by decide)]
    rfl
  have e1 : digs 10 ex17.sp.toNat = [57] := d 9 (by decide)
  have e2 : digs 10 ex17.dp.toNat = [49, 48] := d10
  rw [t1, t2, e1, e2]
  rfl

set_option maxRecDepth 100000 in
theorem awake17_any (w : World) (hg : G17 w) : Calls Tryd.prog 6 #[] w (Tells (.bool true) w) := by
  have J := get17_any ⟨#[80, 82, 79, 88, 89, 32, 84, 67, 80, 52, 32, 49, 46, 50, 46, 51, 46, 52, 32, 53, 46, 54, 46, 55, 46, 56, 32, 57, 32, 49, 48, 13, 10, 114, 101, 115, 116]⟩ (by decide) w hg
  have hx := get_put17 ex17_may [114, 101, 115, 116]
  have hl : (lineL ex17).length = 33 := by
    have h := congrArg List.length ex17_line
    rw [List.length_append] at h
    have e : (⟨#[80, 82, 79, 88, 89, 32, 84, 67, 80, 52, 32, 49, 46, 50, 46, 51, 46, 52, 32, 53, 46, 54, 46, 55, 46, 56, 32, 57, 32, 49, 48, 13, 10, 114, 101, 115, 116]⟩ : ByteArray).data.toList.length = 37 := rfl
    rw [e] at h
    have e4 : ([114, 101, 115, 116] : List UInt8).length = 4 := rfl
    omega
  rw [ex17_line, hx.1, hx.2.1, hx.2.2.1, hl] at J
  change Calls _ _ _ w (Tells (.tuple #[.agg #[.bool false, .int .i64 1, .string ⟨#[1, 2, 3, 4]⟩, .string ⟨#[5, 6, 7, 8]⟩, .int .i64 9, .int .i64 10, .slice none 0 0], .int .i64 33, .int .i64 0]) w) at J
  clear hx hl
  go_enter Tryd.func6, Tryd.ntmps6
  go_wp2_with fail
  refine J.mono ?_
  rintro e w2 ⟨rfl, hb2⟩
  have HB := Lib.hid hb2
  clear hb2
  go_wp2_with fail
  go_ret
  exact ⟨rfl, HB.out.alloc HB.out.size _⟩

/-- few: told. -/
def Few17 (h : S17) : Prop := h.src.size ≤ 300 ∧ h.dst.size ≤ 300 ∧ h.fn ≤ 100
instance (h : S17) : Decidable (Few17 h) := by unfold Few17; infer_instance
set_option maxRecDepth 100000 in
theorem few17_any (h : S17) (w : World) : Calls Tryd.prog 7 #[.agg h.cells] w (Tells (.bool (decide (Few17 h))) w) := by
  have hbox := Blk.new w h.cells 24
  have hbel0 : Below w.heap.size w (w.alloc (.cells h.cells 24)) := (Below.refl _ _).alloc (Nat.le_refl _) _
  have HB0 := Lib.hid hbel0
  obtain ⟨loc, fam, src, dst, sp, dp, fa, fn, fc⟩ := h
  obtain ⟨V, hV⟩ : ∃ V, V = decide (Few17 ⟨loc, fam, src, dst, sp, dp, fa, fn, fc⟩) := ⟨_, rfl⟩
  rw [← hV]
  unfold S17.cells at hbox HB0 ⊢
  simp only at hbox HB0 ⊢
  have b := box17 (h := ⟨loc, fam, src, dst, sp, dp, fa, fn, fc⟩) hbox (Below.refl _ _)
  obtain ⟨x0, x1, x2, x3, x4, x5, x6⟩ := b
  by_cases c0 : src.size ≤ 300
  · by_cases c1 : dst.size ≤ 300
    · by_cases c2 : fn ≤ 100
      · have HV : Hid (V = true) := Lib.hid (by rw [hV]; exact decide_eq_true ⟨c0, c1, c2⟩)
        have t : decide ((fn : Int) ≤ 100) = true := by simp; omega
        clear hV hbel0 hbox
        go_enter Tryd.func7, Tryd.ntmps7
        go_wp2_with fail
        go_ret
        exact ⟨by rw [HV.out]; rfl, HB0.out⟩
      · have HV : Hid (V = false) := Lib.hid (by rw [hV]; exact decide_eq_false fun x => c2 x.2.2)
        have t : decide ((fn : Int) ≤ 100) = false := by simp; omega
        clear hV hbel0 hbox
        go_enter Tryd.func7, Tryd.ntmps7
        go_wp2_with fail
        go_ret
        exact ⟨by rw [HV.out]; rfl, HB0.out⟩
    · have HV : Hid (V = false) := Lib.hid (by rw [hV]; exact decide_eq_false fun x => c1 x.2.1)
      clear hV hbel0 hbox
      go_enter Tryd.func7, Tryd.ntmps7
      go_wp2_with fail
      go_ret
      exact ⟨by rw [HV.out]; rfl, HB0.out⟩
  · have HV : Hid (V = false) := Lib.hid (by rw [hV]; exact decide_eq_false fun x => c0 x.1)
    clear hV hbel0 hbox
    go_enter Tryd.func7, Tryd.ntmps7
    go_wp2_with fail
    go_ret
    exact ⟨by rw [HV.out]; rfl, HB0.out⟩

set_option maxRecDepth 100000 in
set_option maxHeartbeats 1000000 in
theorem same17_any (loc : Bool) (fam : Int) (src dst : ByteArray) (sp dp : Int) (fa fb : Option Addr) (ca cb : Nat) (w : World) :
    Calls Tryd.prog 10 #[.agg (S17.cells ⟨loc, fam, src, dst, sp, dp, fa, 0, ca⟩), .agg (S17.cells ⟨loc, fam, src, dst, sp, dp, fb, 0, cb⟩)] w (Tells (.bool true) w) := by
  have B1 := Blk.new w (S17.cells ⟨loc, fam, src, dst, sp, dp, fa, 0, ca⟩) 24
  have L1 : Below w.heap.size w (w.alloc (.cells (S17.cells ⟨loc, fam, src, dst, sp, dp, fa, 0, ca⟩) 24)) := (Below.refl _ _).alloc (Nat.le_refl _) _
  have s1 : (w.alloc (.cells (S17.cells ⟨loc, fam, src, dst, sp, dp, fa, 0, ca⟩) 24)).heap.size = w.heap.size + 1 := by simp
  have B2 := Blk.new (w.alloc (.cells (S17.cells ⟨loc, fam, src, dst, sp, dp, fa, 0, ca⟩) 24)) (S17.cells ⟨loc, fam, src, dst, sp, dp, fb, 0, cb⟩) 24
  have L2 := L1.alloc (by omega) (.cells (S17.cells ⟨loc, fam, src, dst, sp, dp, fb, 0, cb⟩) 24)
  have B1' := B1.alloc (.cells (S17.cells ⟨loc, fam, src, dst, sp, dp, fb, 0, cb⟩) 24)
  rw [s1] at B2
  obtain ⟨x0, x1, x2, x3, x4, x5, x6⟩ := box17 B1' (Below.refl _ _)
  obtain ⟨y0, y1, y2, y3, y4, y5, y6⟩ := box17 B2 (Below.refl _ _)
  have HL := Lib.hid L2
  unfold S17.cells at x0 x1 x2 x3 x4 x5 x6 y0 y1 y2 y3 y4 y5 y6 HL ⊢
  simp only at x0 x1 x2 x3 x4 x5 x6 y0 y1 y2 y3 y4 y5 y6 HL ⊢
  clear B1 L1 s1 B2 L2 B1'
  go_enter Tryd.func10, Tryd.ntmps10
  go_wp2_with fail
  generalize (w.alloc _).alloc _ = W at *
  go_loop [5] (fun si => si = .int .i64 0) (fun si => 1)
  case atStart => rfl
  case round =>
    obtain rfl := hrel
    go_wp2_with fail
    go_ret
    exact ⟨by simp, HL.out⟩

end Go.Proofs.YtpappmbnblaccaaDoor
