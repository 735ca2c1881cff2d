/-
  VoneBack: what is put is got, whatever stands behind; of a beginning ErrMore is told.
-/
import Derived.Test.YtpappmbnblaccaaDoorVoneBare
namespace Go.Proofs.YtpappmbnblaccaaDoor
open Go.RowKit
set_option linter.unusedVariables false

set_option maxRecDepth 100000 in
set_option maxHeartbeats 4000000 in
theorem back17_any (h : S17) (rest : ByteArray) (cut : Int) (w : World) (hg : G17 w) : Calls Tryd.prog 3 #[.agg h.cells, .string rest, .int .i64 cut] w (AwakeEnd w) := by
  have hbox := Blk.new w h.cells 24
  have hbel0 : Below w.heap.size w (w.alloc (.cells h.cells 24)) := (Below.refl _ _).alloc (Nat.le_refl _) _
  have bx := fun W (hb : Below _ _ W) => box17 (h := h) hbox hb
  have HX := Lib.hid bx
  have hg0 := hg.on hbel0
  have FW := Lib.hid (few17_any h)
  have PU := Lib.hid (put17_any h)
  have SM2 := Lib.hid (fun W => same17_any false 0 ⟨#[]⟩ ⟨#[]⟩ 0 0 none none 0 0 W)
  obtain ⟨F, hF⟩ : ∃ F, F = decide (Few17 h) := ⟨_, rfl⟩
  rw [← hF] at FW
  clear hF bx
  have HB0 := Lib.hid hbel0
  by_cases hr : rest.size ≤ 3000
  · by_cases hm : h.may
    · obtain ⟨L, hL⟩ : ∃ L : ByteArray, L = ⟨(lineL h).toArray⟩ := ⟨_, rfl⟩
      have hLL : L.data.toList = lineL h := by rw [hL]
      have hLs : L.size = (lineL h).length := by rw [← hLL, Array.length_toList]; rfl
      have hx := get_put17 hm rest.data.toList
      have h107 : L.size ≤ 107 := by rw [hLs]; exact hx.2.2.2
      have hcat : (L ++ rest).data.toList = lineL h ++ rest.data.toList := by rw [cat_list, hLL]
      have GE1 : Hid (∀ W, G17 W → Calls Tryd.prog 9 #[.string (L ++ rest)] W (Tells (.tuple #[.agg h.bare.cells, .int .i64 (L.size : Int), .int .i64 0]) W)) := Lib.hid (fun W hW => by
        have J := get17_any (L ++ rest) (by rw [cat_size]; omega) W hW
        rw [hcat, hx.1, hx.2.1, hx.2.2.1, ← hLs] at J
        exact J)
      have GE2 : Hid (∀ c : Nat, c < L.size → ∀ W, G17 W → Calls Tryd.prog 9 #[.string (L.extract 0 c)] W (Tells (.tuple #[.agg #[.bool false, .int .i64 0, .string ⟨#[]⟩, .string ⟨#[]⟩, .int .i64 0, .int .i64 0, .slice none 0 0], .int .i64 0, .int .i64 10]) W)) := Lib.hid (fun c hc W hW => by
        have e : (L.extract 0 c).data.toList = (lineL h).take c := by rw [← hLL]; simp
        have J := get17_any (L.extract 0 c) (by simp; omega) W hW
        have hy := get_cut17 hm (c := c) (by omega)
        rw [e, hy.1, hy.2.1, hy.2.2] at J
        exact J)
      have SM1 : Hid (∀ W, Calls Tryd.prog 10 #[.agg h.bare.cells, .agg h.cells] W (Tells (.bool true) W)) := Lib.hid (fun W => same_bare (g := h.bare) (k := h) rfl rfl hm.2.1 W)
      have PU1 : Hid (∀ W, G17 W → Calls Tryd.prog 8 #[.agg h.cells] W (Tells (.tuple #[.string L, .int .i64 0]) W)) := Lib.hid (fun W hW => by
        have J := PU.out W hW
        have e1 : putS17 h = lineL h := if_pos hm
        have e2 : putE17 h = 0 := if_pos hm
        rw [e1, e2, ← hL] at J
        exact J)
      clear hcat hx hLL hLs hL hm PU
      unfold S17.cells S17.bare at *
      simp only at *
      have x := HX.out _ (Below.refl _ _)
      obtain ⟨x0, x1, x2, x3, x4, x5, x6⟩ := x
      go_enter Tryd.func3, Tryd.ntmps3
      go_wp2_with fail
      clear x0 x1 x2 x3 x4 x5 x6
      generalize w.alloc _ = w0 at *
      refine (awake17_any w0 hg0).mono ?_
      rintro e w1 ⟨rfl, hb1⟩
      have hg1 := hg0.on hb1
      obtain ⟨x0, x1, x2, x3, x4, x5, x6⟩ := HX.out _ hb1
      go_wp2_with fail
      clear x0 x1 x2 x3 x4 x5 x6
      refine (FW.out w1).mono ?_
      rintro e w2 ⟨rfl, hb2⟩
      have hg2 := hg1.on hb2
      have hb12 := hb1.trans (hb2.mono hb1.size)
      cases F
      · have HL := Lib.hid (hbel0.trans (hb12.mono hbel0.size))
        clear hb1 hb2 hb12 hbel0
        go_wp2_with fail
        go_ret
        exact ⟨rfl, HL.out⟩
      · obtain ⟨x0, x1, x2, x3, x4, x5, x6⟩ := HX.out _ hb12
        go_wp2_with fail
        clear x0 x1 x2 x3 x4 x5 x6
        refine (PU1.out w2 hg2).mono ?_
        rintro e w3 ⟨rfl, hb3⟩
        have hg3 := hg2.on hb3
        have hb13 := hb12.trans (hb3.mono hb12.size)
        have hcap : ¬ (9223372036854775807 < L.size + rest.size) := by omega
        clear hb1 hb2 hb3 hb12
        go_wp2_with fail
        refine (GE1.out w3 hg3).mono ?_
        rintro e w4 ⟨rfl, hb4⟩
        have hg4 := hg3.on hb4
        have hb14 := hb13.trans (hb4.mono hb13.size)
        clear hb13 hb4
        have L5 := hb14.alloc hb14.size (.cells #[.bool h.loc, .int .i64 h.fam, .string h.src, .string h.dst, .int .i64 h.sp, .int .i64 h.dp, .slice none 0 0] 24)
        have hg5 := hg0.on L5
        obtain ⟨x0, x1, x2, x3, x4, x5, x6⟩ := HX.out _ L5
        go_wp2_with fail
        clear x0 x1 x2 x3 x4 x5 x6
        generalize w4.alloc _ = w5 at *
        refine (SM1.out w5).mono ?_
        rintro e w6 ⟨rfl, hb6⟩
        have hg6 := hg5.on hb6
        have hb16 := L5.trans (hb6.mono L5.size)
        have HL := Lib.hid (hbel0.trans (hb16.mono hbel0.size))
        clear hb14 hb6 L5 hb16 hbel0
        have t107 : decide ((107 : Int) < (L.size : Int)) = false := by simp; omega
        by_cases hc : 0 ≤ cut
        · obtain ⟨c, rfl⟩ : ∃ c : Nat, cut = (c : Int) := ⟨cut.toNat, by omega⟩
          by_cases hcl : c < L.size
          · have J := Lib.hid (GE2.out c hcl)
            have s1 : (0 : Int) ≤ (c : Int) := by omega
            have s2 : (c : Int) ≤ (L.size : Int) := by omega
            go_wp2_with fail
            refine (J.out w6 hg6).mono ?_
            rintro e w7 ⟨rfl, hb7⟩
            have L8 := hb7.alloc hb7.size (.cells #[.bool false, .int .i64 0, .string ⟨#[]⟩, .string ⟨#[]⟩, .int .i64 0, .int .i64 0, .slice none 0 0] 24)
            go_wp2_with fail
            generalize w7.alloc _ = w8 at *
            refine (SM2.out w8).mono ?_
            rintro e w9 ⟨rfl, hb9⟩
            go_wp2_with fail
            go_ret
            exact ⟨rfl, HL.out.trans ((L8.trans (hb9.mono L8.size)).mono HL.out.size)⟩
          · go_wp2_with fail
            go_ret
            exact ⟨rfl, HL.out⟩
        · go_wp2_with fail
          go_ret
          exact ⟨rfl, HL.out⟩
    · have PU1 : Hid (∀ W, G17 W → Calls Tryd.prog 8 #[.agg h.cells] W (Tells (.tuple #[.string ⟨#[]⟩, .int .i64 1]) W)) := Lib.hid (fun W hW => by
        have J := PU.out W hW
        have e1 : putS17 h = [] := if_neg hm
        have e2 : putE17 h = 1 := if_neg hm
        rw [e1, e2] at J
        exact J)
      clear hm PU
      unfold S17.cells at *
      have x := HX.out _ (Below.refl _ _)
      obtain ⟨x0, x1, x2, x3, x4, x5, x6⟩ := x
      go_enter Tryd.func3, Tryd.ntmps3
      go_wp2_with fail
      clear x0 x1 x2 x3 x4 x5 x6
      generalize w.alloc _ = w0 at *
      refine (awake17_any w0 hg0).mono ?_
      rintro e w1 ⟨rfl, hb1⟩
      have hg1 := hg0.on hb1
      obtain ⟨x0, x1, x2, x3, x4, x5, x6⟩ := HX.out _ hb1
      go_wp2_with fail
      clear x0 x1 x2 x3 x4 x5 x6
      refine (FW.out w1).mono ?_
      rintro e w2 ⟨rfl, hb2⟩
      have hg2 := hg1.on hb2
      have hb12 := hb1.trans (hb2.mono hb1.size)
      cases F
      · have HL := Lib.hid (hbel0.trans (hb12.mono hbel0.size))
        clear hb1 hb2 hb12 hbel0
        go_wp2_with fail
        go_ret
        exact ⟨rfl, HL.out⟩
      · obtain ⟨x0, x1, x2, x3, x4, x5, x6⟩ := HX.out _ hb12
        go_wp2_with fail
        clear x0 x1 x2 x3 x4 x5 x6
        refine (PU1.out w2 hg2).mono ?_
        rintro e w3 ⟨rfl, hb3⟩
        have hb13 := hb12.trans (hb3.mono hb12.size)
        have HL := Lib.hid (hbel0.trans (hb13.mono hbel0.size))
        clear hb1 hb2 hb3 hb12 hb13 hbel0
        go_wp2_with fail
        go_ret
        exact ⟨rfl, HL.out⟩
  · clear PU
    unfold S17.cells at *
    have x := HX.out _ (Below.refl _ _)
    obtain ⟨x0, x1, x2, x3, x4, x5, x6⟩ := x
    go_enter Tryd.func3, Tryd.ntmps3
    go_wp2_with fail
    clear x0 x1 x2 x3 x4 x5 x6
    generalize w.alloc _ = w0 at *
    refine (awake17_any w0 hg0).mono ?_
    rintro e w1 ⟨rfl, hb1⟩
    obtain ⟨x0, x1, x2, x3, x4, x5, x6⟩ := HX.out _ hb1
    go_wp2_with fail
    clear x0 x1 x2 x3 x4 x5 x6
    refine (FW.out w1).mono ?_
    rintro e w2 ⟨rfl, hb2⟩
    have hb12 := hb1.trans (hb2.mono hb1.size)
    have HL := Lib.hid (hbel0.trans (hb12.mono hbel0.size))
    clear hb1 hb2 hb12 hbel0
    cases F
    · go_wp2_with fail
      go_ret
      exact ⟨rfl, HL.out⟩
    · go_wp2_with fail
      go_ret
      exact ⟨rfl, HL.out⟩

end Go.Proofs.YtpappmbnblaccaaDoor
