/-
  The document's May: may a header be a line?
-/
import Derived.Test.YtpappmbnblaccaaGreatDoorVonePut
import Derived.Test.YtpappmbnblaccaaGreatDoorRef04Digits
namespace Go.Proofs.YtpappmbnblaccaaGreatDoor
open Go.RowKit
set_option linter.unusedVariables false

theorem isEmpty17_no {s : ByteArray} (h : s.size ≠ 0) : s.toList.isEmpty = false := by
  rw [isEmpty_list]
  have : s.data.toList ≠ [] := fun e => h (by have := congrArg List.length e; rw [Array.length_toList] at this; exact this)
  simpa using this
theorem isEmpty17_yes {s : ByteArray} (h : s.size = 0) : s.toList.isEmpty = true := by
  rw [isEmpty_list]
  have : s.data.toList = [] := List.length_eq_zero_iff.1 (by rw [Array.length_toList]; exact h)
  simpa using this
theorem not_may {h : S17} (x : ¬ h.may) : Hid (decide h.may = false) := Lib.hid (decide_eq_false x)

set_option maxRecDepth 100000 in
set_option maxHeartbeats 2000000 in
theorem rmay_any (h : S17) (hs : h.src.size ≤ 1000 ∧ h.dst.size ≤ 1000) (w : World) : Calls Tryz.prog 11 #[.agg h.cells] w (Tells (.bool (decide h.may)) w) := by
  have hbox := Blk.new w h.cells 24
  have hbel0 : Below w.heap.size w (w.alloc (.cells h.cells 24)) := (Below.refl _ _).alloc (Nat.le_refl _) _
  have HB0 := Lib.hid hbel0
  obtain ⟨loc, fam, src, dst, sp, dp, fa, fn, fc⟩ := h
  obtain ⟨V, hV⟩ : ∃ V, V = decide (S17.may ⟨loc, fam, src, dst, sp, dp, fa, fn, fc⟩) := ⟨_, rfl⟩
  rw [← hV]
  unfold S17.cells at hbox HB0 ⊢
  simp only at hbox HB0 hs ⊢
  obtain ⟨x0, x1, x2, x3, x4, x5, x6⟩ := box17 (h := ⟨loc, fam, src, dst, sp, dp, fa, fn, fc⟩) hbox (Below.refl _ _)
  simp only at x0 x1 x2 x3 x4 x5 x6
  have hm : ∀ b, V = b → Hid (V = b) := fun b e => Lib.hid e
  have HF : Hid (∀ x : S17.may ⟨loc, fam, src, dst, sp, dp, fa, fn, fc⟩ → False, V = false) := Lib.hid fun x => by rw [hV]; exact decide_eq_false x
  have HY : Hid (∀ x : S17.may ⟨loc, fam, src, dst, sp, dp, fa, fn, fc⟩, V = true) := Lib.hid fun x => by rw [hV]; exact decide_eq_true x
  clear hV hm hbel0 hbox
  cases loc with
  | true =>
    have HV : Hid (V = false) := Lib.hid (HF.out (by unfold S17.may S17.fits sizeF; simp only; rintro ⟨h, _⟩; cases h))
    clear HF HY
    go_enter Tryz.func11, Tryz.ntmps11
    go_wp2_with fail
    go_ret
    exact ⟨by rw [HV.out]; rfl, HB0.out⟩
  | false =>
    by_cases h0 : fn = 0
    · subst h0
      by_cases f0 : fam = 0
      · subst f0
        by_cases c0 : src.size = 0
        · have t0 := isEmpty17_yes c0
          by_cases c1 : dst.size = 0
          · have t1 := isEmpty17_yes c1
            by_cases c2 : sp = 0
            · have t2 : (sp == 0) = true := by simpa using c2
              by_cases c3 : dp = 0
              · have t3 : (dp == 0) = true := by simpa using c3
                have HV : Hid (V = true) := Lib.hid (HY.out ⟨rfl, rfl, Or.inl ⟨rfl, c0, c1, c2, c3⟩⟩)
                clear HF HY c0 c1 c2 c3
                go_enter Tryz.func11, Tryz.ntmps11
                go_wp2_with fail
                go_ret
                exact ⟨by rw [HV.out]; rfl, HB0.out⟩
              · have t3 : (dp == 0) = false := by simpa using c3
                have HV : Hid (V = false) := Lib.hid (HF.out (by unfold S17.may S17.fits sizeF; simp only; rintro ⟨_, _, h | h⟩ <;> omega))
                clear HF HY c0 c1 c2 c3
                go_enter Tryz.func11, Tryz.ntmps11
                go_wp2_with fail
                go_ret
                exact ⟨by rw [HV.out]; rfl, HB0.out⟩
            · have t2 : (sp == 0) = false := by simpa using c2
              have HV : Hid (V = false) := Lib.hid (HF.out (by unfold S17.may S17.fits sizeF; simp only; rintro ⟨_, _, h | h⟩ <;> omega))
              clear HF HY c0 c1 c2
              go_enter Tryz.func11, Tryz.ntmps11
              go_wp2_with fail
              go_ret
              exact ⟨by rw [HV.out]; rfl, HB0.out⟩
          · have t1 := isEmpty17_no c1
            have HV : Hid (V = false) := Lib.hid (HF.out (by unfold S17.may S17.fits sizeF; simp only; rintro ⟨_, _, h | h⟩ <;> omega))
            clear HF HY c0 c1
            go_enter Tryz.func11, Tryz.ntmps11
            go_wp2_with fail
            go_ret
            exact ⟨by rw [HV.out]; rfl, HB0.out⟩
        · have t0 := isEmpty17_no c0
          have HV : Hid (V = false) := Lib.hid (HF.out (by unfold S17.may S17.fits sizeF; simp only; rintro ⟨_, _, h | h⟩ <;> omega))
          clear HF HY c0
          go_enter Tryz.func11, Tryz.ntmps11
          go_wp2_with fail
          go_ret
          exact ⟨by rw [HV.out]; rfl, HB0.out⟩
      · by_cases f1 : fam = 1
        · subst f1
          clear f0
          by_cases c0 : src.size = 4
          · have t0 : ((src.size : Int) == 4) = true := by simp; omega
            by_cases c1 : dst.size = 4
            · have t1 : ((dst.size : Int) == 4) = true := by simp; omega
              by_cases c2 : 0 ≤ sp
              · have t2 : decide (0 ≤ sp) = true := by simpa using c2
                by_cases c3 : sp ≤ 65535
                · have t3 : decide (sp ≤ 65535) = true := by simpa using c3
                  by_cases c4 : 0 ≤ dp
                  · have t4 : decide (0 ≤ dp) = true := by simpa using c4
                    by_cases c5 : dp ≤ 65535
                    · have t5 : decide (dp ≤ 65535) = true := by simpa using c5
                      have HV : Hid (V = true) := Lib.hid (HY.out ⟨rfl, rfl, Or.inr ⟨Or.inl rfl, c0, c1, c2, c3, c4, c5⟩⟩)
                      clear HF HY c0 c1 c2 c3 c4 c5
                      go_enter Tryz.func11, Tryz.ntmps11
                      go_wp2_with fail
                      go_ret
                      exact ⟨by rw [HV.out]; rfl, HB0.out⟩
                    · have t5 : decide (dp ≤ 65535) = false := by simpa using c5
                      have HV : Hid (V = false) := Lib.hid (HF.out (by unfold S17.may S17.fits sizeF; simp only; rintro ⟨_, _, h | h⟩ <;> simp at h <;> omega))
                      clear HF HY c0 c1 c2 c3 c4 c5
                      go_enter Tryz.func11, Tryz.ntmps11
                      go_wp2_with fail
                      go_ret
                      exact ⟨by rw [HV.out]; rfl, HB0.out⟩
                  · have t4 : decide (0 ≤ dp) = false := by simpa using c4
                    have HV : Hid (V = false) := Lib.hid (HF.out (by unfold S17.may S17.fits sizeF; simp only; rintro ⟨_, _, h | h⟩ <;> simp at h <;> omega))
                    clear HF HY c0 c1 c2 c3 c4
                    go_enter Tryz.func11, Tryz.ntmps11
                    go_wp2_with fail
                    go_ret
                    exact ⟨by rw [HV.out]; rfl, HB0.out⟩
                · have t3 : decide (sp ≤ 65535) = false := by simpa using c3
                  have HV : Hid (V = false) := Lib.hid (HF.out (by unfold S17.may S17.fits sizeF; simp only; rintro ⟨_, _, h | h⟩ <;> simp at h <;> omega))
                  clear HF HY c0 c1 c2 c3
                  go_enter Tryz.func11, Tryz.ntmps11
                  go_wp2_with fail
                  go_ret
                  exact ⟨by rw [HV.out]; rfl, HB0.out⟩
              · have t2 : decide (0 ≤ sp) = false := by simpa using c2
                have HV : Hid (V = false) := Lib.hid (HF.out (by unfold S17.may S17.fits sizeF; simp only; rintro ⟨_, _, h | h⟩ <;> simp at h <;> omega))
                clear HF HY c0 c1 c2
                go_enter Tryz.func11, Tryz.ntmps11
                go_wp2_with fail
                go_ret
                exact ⟨by rw [HV.out]; rfl, HB0.out⟩
            · have t1 : ((dst.size : Int) == 4) = false := by simp; omega
              have HV : Hid (V = false) := Lib.hid (HF.out (by unfold S17.may S17.fits sizeF; simp only; rintro ⟨_, _, h | h⟩ <;> simp at h <;> omega))
              clear HF HY c0 c1
              go_enter Tryz.func11, Tryz.ntmps11
              go_wp2_with fail
              go_ret
              exact ⟨by rw [HV.out]; rfl, HB0.out⟩
          · have t0 : ((src.size : Int) == 4) = false := by simp; omega
            have HV : Hid (V = false) := Lib.hid (HF.out (by unfold S17.may S17.fits sizeF; simp only; rintro ⟨_, _, h | h⟩ <;> simp at h <;> omega))
            clear HF HY c0
            go_enter Tryz.func11, Tryz.ntmps11
            go_wp2_with fail
            go_ret
            exact ⟨by rw [HV.out]; rfl, HB0.out⟩
        · by_cases f2 : fam = 2
          · subst f2
            clear f0 f1
            by_cases c0 : src.size = 16
            · have t0 : ((src.size : Int) == 16) = true := by simp; omega
              by_cases c1 : dst.size = 16
              · have t1 : ((dst.size : Int) == 16) = true := by simp; omega
                by_cases c2 : 0 ≤ sp
                · have t2 : decide (0 ≤ sp) = true := by simpa using c2
                  by_cases c3 : sp ≤ 65535
                  · have t3 : decide (sp ≤ 65535) = true := by simpa using c3
                    by_cases c4 : 0 ≤ dp
                    · have t4 : decide (0 ≤ dp) = true := by simpa using c4
                      by_cases c5 : dp ≤ 65535
                      · have t5 : decide (dp ≤ 65535) = true := by simpa using c5
                        have HV : Hid (V = true) := Lib.hid (HY.out ⟨rfl, rfl, Or.inr ⟨Or.inr rfl, c0, c1, c2, c3, c4, c5⟩⟩)
                        clear HF HY c0 c1 c2 c3 c4 c5
                        go_enter Tryz.func11, Tryz.ntmps11
                        go_wp2_with fail
                        go_ret
                        exact ⟨by rw [HV.out]; rfl, HB0.out⟩
                      · have t5 : decide (dp ≤ 65535) = false := by simpa using c5
                        have HV : Hid (V = false) := Lib.hid (HF.out (by unfold S17.may S17.fits sizeF; simp only; rintro ⟨_, _, h | h⟩ <;> simp at h <;> omega))
                        clear HF HY c0 c1 c2 c3 c4 c5
                        go_enter Tryz.func11, Tryz.ntmps11
                        go_wp2_with fail
                        go_ret
                        exact ⟨by rw [HV.out]; rfl, HB0.out⟩
                    · have t4 : decide (0 ≤ dp) = false := by simpa using c4
                      have HV : Hid (V = false) := Lib.hid (HF.out (by unfold S17.may S17.fits sizeF; simp only; rintro ⟨_, _, h | h⟩ <;> simp at h <;> omega))
                      clear HF HY c0 c1 c2 c3 c4
                      go_enter Tryz.func11, Tryz.ntmps11
                      go_wp2_with fail
                      go_ret
                      exact ⟨by rw [HV.out]; rfl, HB0.out⟩
                  · have t3 : decide (sp ≤ 65535) = false := by simpa using c3
                    have HV : Hid (V = false) := Lib.hid (HF.out (by unfold S17.may S17.fits sizeF; simp only; rintro ⟨_, _, h | h⟩ <;> simp at h <;> omega))
                    clear HF HY c0 c1 c2 c3
                    go_enter Tryz.func11, Tryz.ntmps11
                    go_wp2_with fail
                    go_ret
                    exact ⟨by rw [HV.out]; rfl, HB0.out⟩
                · have t2 : decide (0 ≤ sp) = false := by simpa using c2
                  have HV : Hid (V = false) := Lib.hid (HF.out (by unfold S17.may S17.fits sizeF; simp only; rintro ⟨_, _, h | h⟩ <;> simp at h <;> omega))
                  clear HF HY c0 c1 c2
                  go_enter Tryz.func11, Tryz.ntmps11
                  go_wp2_with fail
                  go_ret
                  exact ⟨by rw [HV.out]; rfl, HB0.out⟩
              · have t1 : ((dst.size : Int) == 16) = false := by simp; omega
                have HV : Hid (V = false) := Lib.hid (HF.out (by unfold S17.may S17.fits sizeF; simp only; rintro ⟨_, _, h | h⟩ <;> simp at h <;> omega))
                clear HF HY c0 c1
                go_enter Tryz.func11, Tryz.ntmps11
                go_wp2_with fail
                go_ret
                exact ⟨by rw [HV.out]; rfl, HB0.out⟩
            · have t0 : ((src.size : Int) == 16) = false := by simp; omega
              have HV : Hid (V = false) := Lib.hid (HF.out (by unfold S17.may S17.fits sizeF; simp only; rintro ⟨_, _, h | h⟩ <;> simp at h <;> omega))
              clear HF HY c0
              go_enter Tryz.func11, Tryz.ntmps11
              go_wp2_with fail
              go_ret
              exact ⟨by rw [HV.out]; rfl, HB0.out⟩
          · have t0 : (fam == 0) = false := by simpa using f0
            have t1 : (fam == 1) = false := by simpa using f1
            have t2 : (fam == 2) = false := by simpa using f2
            have HV : Hid (V = false) := Lib.hid (HF.out (by unfold S17.may S17.fits sizeF; simp only; rintro ⟨_, _, h | h⟩ <;> omega))
            clear HF HY f0 f1 f2
            go_enter Tryz.func11, Tryz.ntmps11
            go_wp2_with fail
            go_ret
            exact ⟨by rw [HV.out]; rfl, HB0.out⟩
    · have t0 : decide (0 < fn) = true := by simp; omega
      have HV : Hid (V = false) := Lib.hid (HF.out (by unfold S17.may S17.fits sizeF; simp only; rintro ⟨_, h, _⟩; exact h0 h))
      clear HF HY h0
      go_enter Tryz.func11, Tryz.ntmps11
      go_wp2_with fail
      go_ret
      exact ⟨by rw [HV.out]; rfl, HB0.out⟩

end Go.Proofs.YtpappmbnblaccaaGreatDoor
