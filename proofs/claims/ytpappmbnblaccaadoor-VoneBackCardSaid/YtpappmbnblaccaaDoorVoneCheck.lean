/-
  Check, and what it calls: haveSize, areWithin, areOK, fits.
-/
import Derived.Test.YtpappmbnblaccaaDoorVoneLib
import Derived.Test.YtpappmbnblaccaaDoorVoneSpec
import Derived.OwnWalk
namespace Go.Proofs.YtpappmbnblaccaaDoor
open Go.RowKit
set_option linter.unusedVariables false

theorem havesize_any (n : Int) (l : List ByteArray) (g c : Nat) (hl : l.length ≤ 1000) (w : World) (hc : ∀ i, (h : i < l.length) → w.cell? ⟨g, i, none⟩ = some (.string (l[i]'h))) :
    Calls Tryd.prog 24 #[.int .i64 n, .slice (some ⟨g, 0, none⟩) l.length c] w (Tells (.bool (decide (∀ x ∈ l, (x.size : Int) = n))) w) := by
  have HC := Lib.hid hc
  clear hc
  go_enter Tryd.func24, Tryd.ntmps24
  go_wp2_with fail
  go_loop [9] (fun si => ∃ k : Nat, k ≤ l.length ∧ si = .int .i64 (k : Int) ∧ Hid (∀ i, (h : i < l.length) → i < k → ((l[i]'h).size : Int) = n)) (fun si => 2000 - (intOf si).toNat)
  case atStart => exact ⟨0, by omega, rfl, Lib.hid fun i _ h => absurd h (by omega)⟩
  case round =>
    obtain ⟨k, hk, rfl, HK⟩ := hrel
    by_cases hlt : k < l.length
    · have hck := HC.out k hlt
      by_cases hx : ((l[k]'hlt).size : Int) = n
      · have HN : Hid (∀ i, (h : i < l.length) → i < k + 1 → ((l[i]'h).size : Int) = n) := Lib.hid fun i h hi => by
          by_cases e : i = k
          · subst e; exact hx
          · exact HK.out i h (by omega)
        generalize l[k]'hlt = x at *
        have hne : ((x.size : Int) != n) = false := by simp [hx]
        clear hx
        go_wp2_with fail
        exact ⟨⟨k + 1, by omega, rfl, HN⟩, by simp [intOf]; omega⟩
      · have HF : Hid (decide (∀ x ∈ l, (x.size : Int) = n) = false) := Lib.hid (decide_eq_false fun h => hx (h _ (List.getElem_mem hlt)))
        generalize l[k]'hlt = x at *
        have hne : ((x.size : Int) != n) = true := by simpa using hx
        clear hx
        go_wp2_with fail
        go_ret
        exact ⟨by rw [HF.out]; rfl, Below.refl _ _⟩
    · obtain rfl : k = l.length := by omega
      have HF : Hid (decide (∀ x ∈ l, (x.size : Int) = n) = true) := Lib.hid (decide_eq_true fun x hx => by
        obtain ⟨i, h, rfl⟩ := List.mem_iff_getElem.1 hx
        exact HK.out i h h)
      go_wp2_with fail
      go_ret
      exact ⟨by rw [HF.out]; rfl, Below.refl _ _⟩

theorem within_any (most : Int) (l : List Int) (g c : Nat) (hl : l.length ≤ 1000) (w : World) (hc : ∀ i, (h : i < l.length) → w.cell? ⟨g, i, none⟩ = some (.int .i64 (l[i]'h))) :
    Calls Tryd.prog 25 #[.int .i64 most, .slice (some ⟨g, 0, none⟩) l.length c] w (Tells (.bool (decide (∀ x ∈ l, 0 ≤ x ∧ x ≤ most))) w) := by
  have HC := Lib.hid hc
  clear hc
  go_enter Tryd.func25, Tryd.ntmps25
  go_wp2_with fail
  go_loop [9] (fun si => ∃ k : Nat, k ≤ l.length ∧ si = .int .i64 (k : Int) ∧ Hid (∀ i, (h : i < l.length) → i < k → 0 ≤ l[i]'h ∧ l[i]'h ≤ most)) (fun si => 2000 - (intOf si).toNat)
  case atStart => exact ⟨0, by omega, rfl, Lib.hid fun i _ h => absurd h (by omega)⟩
  case round =>
    obtain ⟨k, hk, rfl, HK⟩ := hrel
    by_cases hlt : k < l.length
    · have hck := HC.out k hlt
      by_cases hx : 0 ≤ l[k]'hlt ∧ l[k]'hlt ≤ most
      · have HN : Hid (∀ i, (h : i < l.length) → i < k + 1 → 0 ≤ l[i]'h ∧ l[i]'h ≤ most) := Lib.hid fun i h hi => by
          by_cases e : i = k
          · subst e; exact hx
          · exact HK.out i h (by omega)
        generalize l[k]'hlt = x at *
        obtain ⟨h1, h2⟩ := hx
        go_wp2_with fail
        exact ⟨⟨k + 1, by omega, rfl, HN⟩, by simp [intOf]; omega⟩
      · have HF : Hid (decide (∀ x ∈ l, 0 ≤ x ∧ x ≤ most) = false) := Lib.hid (decide_eq_false fun h => hx (h _ (List.getElem_mem hlt)))
        generalize l[k]'hlt = x at *
        by_cases h1 : x < 0
        · clear hx
          go_wp2_with fail
          go_ret
          exact ⟨by rw [HF.out]; rfl, Below.refl _ _⟩
        · have h2 : most < x := by omega
          clear hx
          go_wp2_with fail
          go_ret
          exact ⟨by rw [HF.out]; rfl, Below.refl _ _⟩
    · obtain rfl : k = l.length := by omega
      have HF : Hid (decide (∀ x ∈ l, 0 ≤ x ∧ x ≤ most) = true) := Lib.hid (decide_eq_true fun x hx => by
        obtain ⟨i, h, rfl⟩ := List.mem_iff_getElem.1 hx
        exact HK.out i h h)
      go_wp2_with fail
      go_ret
      exact ⟨by rw [HF.out]; rfl, Below.refl _ _⟩

theorem areok_any (l : List Int) (g c : Nat) (hl : l.length ≤ 1000) (w : World) (hc : ∀ i, (h : i < l.length) → w.cell? ⟨g, i, none⟩ = some (.int .i64 (l[i]'h))) :
    Calls Tryd.prog 37 #[.slice (some ⟨g, 0, none⟩) l.length c] w (Tells (.bool (decide (∀ x ∈ l, x = 0))) w) := by
  have HC := Lib.hid hc
  clear hc
  go_enter Tryd.func37, Tryd.ntmps37
  go_wp2_with fail
  go_loop [7] (fun si => ∃ k : Nat, k ≤ l.length ∧ si = .int .i64 (k : Int) ∧ Hid (∀ i, (h : i < l.length) → i < k → l[i]'h = 0)) (fun si => 2000 - (intOf si).toNat)
  case atStart => exact ⟨0, by omega, rfl, Lib.hid fun i _ h => absurd h (by omega)⟩
  case round =>
    obtain ⟨k, hk, rfl, HK⟩ := hrel
    by_cases hlt : k < l.length
    · have hck := HC.out k hlt
      by_cases hx : l[k]'hlt = 0
      · have HN : Hid (∀ i, (h : i < l.length) → i < k + 1 → l[i]'h = 0) := Lib.hid fun i h hi => by
          by_cases e : i = k
          · subst e; exact hx
          · exact HK.out i h (by omega)
        rw [hx] at hck
        clear hx
        go_wp2_with fail
        exact ⟨⟨k + 1, by omega, rfl, HN⟩, by simp [intOf]; omega⟩
      · have HF : Hid (decide (∀ x ∈ l, x = 0) = false) := Lib.hid (decide_eq_false fun h => hx (h _ (List.getElem_mem hlt)))
        generalize l[k]'hlt = x at *
        have hne : (x != 0) = true := by simpa using hx
        clear hx
        go_wp2_with fail
        go_ret
        exact ⟨by rw [HF.out]; rfl, Below.refl _ _⟩
    · obtain rfl : k = l.length := by omega
      have HF : Hid (decide (∀ x ∈ l, x = 0) = true) := Lib.hid (decide_eq_true fun x hx => by
        obtain ⟨i, h, rfl⟩ := List.mem_iff_getElem.1 hx
        exact HK.out i h h)
      go_wp2_with fail
      go_ret
      exact ⟨by rw [HF.out]; rfl, Below.refl _ _⟩

theorem two_cells (W : World) (x y : Value) (T : TypeId) : (W.alloc (.cells #[x, y] T)).cell? ⟨W.heap.size, 0, none⟩ = some x ∧ (W.alloc (.cells #[x, y] T)).cell? ⟨W.heap.size, 1, none⟩ = some y :=
  ⟨(Blk.new W #[x, y] T).cell 0, (Blk.new W #[x, y] T).cell 1⟩

set_option maxRecDepth 100000 in
set_option maxHeartbeats 1000000 in
theorem fits_any (h : S17) (w : World) : Calls Tryd.prog 16 #[.agg h.cells] w (Tells (.bool (decide h.fits)) w) := by
  obtain ⟨loc, fam, src, dst, sp, dp, fa, fn, fc⟩ := h
  unfold S17.cells
  simp only
  generalize hF : decide (S17.fits ⟨loc, fam, src, dst, sp, dp, fa, fn, fc⟩) = F
  have hfit : F = decide ((fam = 0 ∧ src.size = 0 ∧ dst.size = 0 ∧ sp = 0 ∧ dp = 0) ∨ ((fam = 1 ∨ fam = 2) ∧ src.size = sizeF fam ∧ dst.size = sizeF fam ∧ 0 ≤ sp ∧ sp ≤ 65535 ∧ 0 ≤ dp ∧ dp ≤ 65535)) := by rw [← hF]; rfl
  clear hF
  have HFIT := Lib.hid hfit
  clear hfit
  have hbox := Blk.new w #[.bool loc, .int .i64 fam, .string src, .string dst, .int .i64 sp, .int .i64 dp, .slice fa fn fc] 24
  have hbel0 : Below w.heap.size w (w.alloc (.cells #[.bool loc, .int .i64 fam, .string src, .string dst, .int .i64 sp, .int .i64 dp, .slice fa fn fc] 24)) := (Below.refl _ _).alloc (Nat.le_refl _) _
  have b4 := hbox.cell 4
  have b5 := hbox.cell 5
  have hN1 : (w.alloc (.cells #[.bool loc, .int .i64 fam, .string src, .string dst, .int .i64 sp, .int .i64 dp, .slice fa fn fc] 24)).heap.size = w.heap.size + 1 := by simp
  by_cases f0 : fam = 0
  · subst f0
    go_enter Tryd.func16, Tryd.ntmps16
    go_wp2_with fail
    generalize hW : w.alloc (.cells #[.bool loc, .int .i64 0, .string src, .string dst, .int .i64 sp, .int .i64 dp, .slice fa fn fc] 24) = W0 at *
    rw [← hN1]
    have hc2 := two_cells W0 (.string src) (.string dst) 9
    refine (havesize_any 0 [src, dst] W0.heap.size 2 (by simp) _ (fun i hi => by
      match i, hi with
      | 0, _ => exact hc2.1
      | 1, _ => exact hc2.2)).mono ?_
    rintro e w1 ⟨rfl, hb1⟩
    have hb01 : Below W0.heap.size W0 w1 := ((Below.refl W0.heap.size W0).alloc (Nat.le_refl _) _).trans (hb1.mono (by simp))
    have hlt : w.heap.size < W0.heap.size := by omega
    have c4 := (hb01.cell (p := ⟨w.heap.size, 4, none⟩) hlt).trans b4
    have c5 := (hb01.cell (p := ⟨w.heap.size, 5, none⟩) hlt).trans b5
    simp at c4 c5
    have HB1 := Lib.hid (hbel0.trans (hb01.mono (Nat.le_of_lt hlt)))
    clear hb1 hb01 hc2
    by_cases hs : src.size = 0 ∧ dst.size = 0
    · have HS := Lib.hid hs
      have hd : decide (∀ x ∈ [src, dst], (x.size : Int) = 0) = true := decide_eq_true (by
        intro x hx
        simp at hx
        rcases hx with rfl | rfl <;> omega)
      rw [hd]
      go_wp2_with fail
      have hc3 := two_cells w1 (.int .i64 sp) (.int .i64 dp) 3
      refine (within_any 0 [sp, dp] w1.heap.size 2 (by simp) _ (fun i hi => by
        match i, hi with
        | 0, _ => exact hc3.1
        | 1, _ => exact hc3.2)).mono ?_
      rintro e w2 ⟨rfl, hb2⟩
      have HB2 := Lib.hid (HB1.out.trans (((Below.refl w1.heap.size w1).alloc (Nat.le_refl _) (.cells #[.int .i64 sp, .int .i64 dp] 3)).trans (hb2.mono (by simp)) |>.mono HB1.out.size))
      have hR : decide (∀ x ∈ [sp, dp], 0 ≤ x ∧ x ≤ 0) = F := by
        rw [HFIT.out]
        apply decide_eq_decide.2
        have e1 : sizeF 0 = 16 := rfl
        rw [e1]
        constructor
        · intro hx
          have h1 := hx sp (by simp)
          have h2 := hx dp (by simp)
          have h3 := HS.out
          first | omega | (simp only [true_and]; omega)
        · intro hx x hxm
          simp only [List.mem_cons, List.not_mem_nil, or_false] at hxm
          rcases hxm with rfl | rfl <;> omega
      rw [hR]
      clear hb2 hc3 hR
      go_wp2_with fail
      go_ret
      exact ⟨rfl, HB2.out⟩
    · have hd : decide (∀ x ∈ [src, dst], (x.size : Int) = 0) = false := decide_eq_false (by
        intro hx
        have h1 := hx src (by simp)
        have h2 := hx dst (by simp)
        omega)
      rw [hd]
      have HR : Hid (F = false) := Lib.hid (by
        rw [HFIT.out]
        apply decide_eq_false
        have e1 : sizeF 0 = 16 := rfl
        rw [e1]
        omega)
      go_wp2_with fail
      go_ret
      exact ⟨by rw [HR.out]; rfl, HB1.out⟩
  by_cases f1 : fam = 1
  · subst f1
    go_enter Tryd.func16, Tryd.ntmps16
    go_wp2_with fail
    generalize hW : w.alloc (.cells #[.bool loc, .int .i64 1, .string src, .string dst, .int .i64 sp, .int .i64 dp, .slice fa fn fc] 24) = W0 at *
    rw [← hN1]
    have hc2 := two_cells W0 (.string src) (.string dst) 9
    refine (havesize_any 4 [src, dst] W0.heap.size 2 (by simp) _ (fun i hi => by
      match i, hi with
      | 0, _ => exact hc2.1
      | 1, _ => exact hc2.2)).mono ?_
    rintro e w1 ⟨rfl, hb1⟩
    have hb01 : Below W0.heap.size W0 w1 := ((Below.refl W0.heap.size W0).alloc (Nat.le_refl _) _).trans (hb1.mono (by simp))
    have hlt : w.heap.size < W0.heap.size := by omega
    have c4 := (hb01.cell (p := ⟨w.heap.size, 4, none⟩) hlt).trans b4
    have c5 := (hb01.cell (p := ⟨w.heap.size, 5, none⟩) hlt).trans b5
    simp at c4 c5
    have HB1 := Lib.hid (hbel0.trans (hb01.mono (Nat.le_of_lt hlt)))
    clear hb1 hb01 hc2
    by_cases hs : src.size = 4 ∧ dst.size = 4
    · have HS := Lib.hid hs
      have hd : decide (∀ x ∈ [src, dst], (x.size : Int) = 4) = true := decide_eq_true (by
        intro x hx
        simp at hx
        rcases hx with rfl | rfl <;> omega)
      rw [hd]
      go_wp2_with fail
      have hc3 := two_cells w1 (.int .i64 sp) (.int .i64 dp) 3
      refine (within_any 65535 [sp, dp] w1.heap.size 2 (by simp) _ (fun i hi => by
        match i, hi with
        | 0, _ => exact hc3.1
        | 1, _ => exact hc3.2)).mono ?_
      rintro e w2 ⟨rfl, hb2⟩
      have HB2 := Lib.hid (HB1.out.trans (((Below.refl w1.heap.size w1).alloc (Nat.le_refl _) (.cells #[.int .i64 sp, .int .i64 dp] 3)).trans (hb2.mono (by simp)) |>.mono HB1.out.size))
      have hR : decide (∀ x ∈ [sp, dp], 0 ≤ x ∧ x ≤ 65535) = F := by
        rw [HFIT.out]
        apply decide_eq_decide.2
        have e1 : sizeF 1 = 4 := rfl
        rw [e1]
        constructor
        · intro hx
          have h1 := hx sp (by simp)
          have h2 := hx dp (by simp)
          have h3 := HS.out
          first | omega | (simp only [true_or, true_and]; omega)
        · intro hx x hxm
          simp only [List.mem_cons, List.not_mem_nil, or_false] at hxm
          rcases hxm with rfl | rfl <;> omega
      rw [hR]
      clear hb2 hc3 hR
      go_wp2_with fail
      go_ret
      exact ⟨rfl, HB2.out⟩
    · have hd : decide (∀ x ∈ [src, dst], (x.size : Int) = 4) = false := decide_eq_false (by
        intro hx
        have h1 := hx src (by simp)
        have h2 := hx dst (by simp)
        omega)
      rw [hd]
      have HR : Hid (F = false) := Lib.hid (by
        rw [HFIT.out]
        apply decide_eq_false
        have e1 : sizeF 1 = 4 := rfl
        rw [e1]
        omega)
      go_wp2_with fail
      go_ret
      exact ⟨by rw [HR.out]; rfl, HB1.out⟩
  by_cases f2 : fam = 2
  · subst f2
    go_enter Tryd.func16, Tryd.ntmps16
    go_wp2_with fail
    generalize hW : w.alloc (.cells #[.bool loc, .int .i64 2, .string src, .string dst, .int .i64 sp, .int .i64 dp, .slice fa fn fc] 24) = W0 at *
    rw [← hN1]
    have hc2 := two_cells W0 (.string src) (.string dst) 9
    refine (havesize_any 16 [src, dst] W0.heap.size 2 (by simp) _ (fun i hi => by
      match i, hi with
      | 0, _ => exact hc2.1
      | 1, _ => exact hc2.2)).mono ?_
    rintro e w1 ⟨rfl, hb1⟩
    have hb01 : Below W0.heap.size W0 w1 := ((Below.refl W0.heap.size W0).alloc (Nat.le_refl _) _).trans (hb1.mono (by simp))
    have hlt : w.heap.size < W0.heap.size := by omega
    have c4 := (hb01.cell (p := ⟨w.heap.size, 4, none⟩) hlt).trans b4
    have c5 := (hb01.cell (p := ⟨w.heap.size, 5, none⟩) hlt).trans b5
    simp at c4 c5
    have HB1 := Lib.hid (hbel0.trans (hb01.mono (Nat.le_of_lt hlt)))
    clear hb1 hb01 hc2
    by_cases hs : src.size = 16 ∧ dst.size = 16
    · have HS := Lib.hid hs
      have hd : decide (∀ x ∈ [src, dst], (x.size : Int) = 16) = true := decide_eq_true (by
        intro x hx
        simp at hx
        rcases hx with rfl | rfl <;> omega)
      rw [hd]
      go_wp2_with fail
      have hc3 := two_cells w1 (.int .i64 sp) (.int .i64 dp) 3
      refine (within_any 65535 [sp, dp] w1.heap.size 2 (by simp) _ (fun i hi => by
        match i, hi with
        | 0, _ => exact hc3.1
        | 1, _ => exact hc3.2)).mono ?_
      rintro e w2 ⟨rfl, hb2⟩
      have HB2 := Lib.hid (HB1.out.trans (((Below.refl w1.heap.size w1).alloc (Nat.le_refl _) (.cells #[.int .i64 sp, .int .i64 dp] 3)).trans (hb2.mono (by simp)) |>.mono HB1.out.size))
      have hR : decide (∀ x ∈ [sp, dp], 0 ≤ x ∧ x ≤ 65535) = F := by
        rw [HFIT.out]
        apply decide_eq_decide.2
        have e1 : sizeF 2 = 16 := rfl
        rw [e1]
        constructor
        · intro hx
          have h1 := hx sp (by simp)
          have h2 := hx dp (by simp)
          have h3 := HS.out
          first | omega | (simp only [or_true, true_and]; omega)
        · intro hx x hxm
          simp only [List.mem_cons, List.not_mem_nil, or_false] at hxm
          rcases hxm with rfl | rfl <;> omega
      rw [hR]
      clear hb2 hc3 hR
      go_wp2_with fail
      go_ret
      exact ⟨rfl, HB2.out⟩
    · have hd : decide (∀ x ∈ [src, dst], (x.size : Int) = 16) = false := decide_eq_false (by
        intro hx
        have h1 := hx src (by simp)
        have h2 := hx dst (by simp)
        omega)
      rw [hd]
      have HR : Hid (F = false) := Lib.hid (by
        rw [HFIT.out]
        apply decide_eq_false
        have e1 : sizeF 2 = 16 := rfl
        rw [e1]
        omega)
      go_wp2_with fail
      go_ret
      exact ⟨by rw [HR.out]; rfl, HB1.out⟩
  have t0 : (fam == 0) = false := by simpa using f0
  have t1 : (fam == 1) = false := by simpa using f1
  have t2 : (fam == 2) = false := by simpa using f2
  have HR : Hid (F = false) := Lib.hid (by
    rw [HFIT.out]
    apply decide_eq_false
    omega)
  clear f0 f1 f2
  go_enter Tryd.func16, Tryd.ntmps16
  go_wp2_with fail
  go_ret
  exact ⟨by rw [HR.out]; rfl, hbel0⟩

set_option maxRecDepth 100000 in
theorem check_any (h : S17) (w : World) : Calls Tryd.prog 11 #[.agg h.cells] w (Tells (.int .i64 (putE17 h)) w) := by
  obtain ⟨loc, fam, src, dst, sp, dp, fa, fn, fc⟩ := h
  have J := fun W => fits_any ⟨loc, fam, src, dst, sp, dp, fa, fn, fc⟩ W
  have hmay : putE17 ⟨loc, fam, src, dst, sp, dp, fa, fn, fc⟩ = if loc = false ∧ fn = 0 ∧ S17.fits ⟨loc, fam, src, dst, sp, dp, fa, fn, fc⟩ then 0 else 1 := rfl
  obtain ⟨E, hE⟩ : ∃ E, E = putE17 ⟨loc, fam, src, dst, sp, dp, fa, fn, fc⟩ := ⟨_, rfl⟩
  rw [← hE] at hmay ⊢
  have HE := Lib.hid hmay
  clear hmay hE
  unfold S17.cells at J ⊢
  simp only at J ⊢
  have hbel0 : Below w.heap.size w (w.alloc (.cells #[.bool loc, .int .i64 fam, .string src, .string dst, .int .i64 sp, .int .i64 dp, .slice fa fn fc] 24)) := (Below.refl _ _).alloc (Nat.le_refl _) _
  have HB0 := Lib.hid hbel0
  clear hbel0
  obtain ⟨F, hF⟩ : ∃ F : Bool, F = decide (S17.fits ⟨loc, fam, src, dst, sp, dp, fa, fn, fc⟩) := ⟨_, rfl⟩
  rw [← hF] at J
  have HF : Hid (S17.fits ⟨loc, fam, src, dst, sp, dp, fa, fn, fc⟩ ↔ F = true) := Lib.hid (by rw [hF]; simp)
  clear hF
  cases loc with
  | true =>
    go_enter Tryd.func11, Tryd.ntmps11
    go_wp2_with fail
    go_ret
    exact ⟨by rw [HE.out, if_neg (by simp)]; rfl, HB0.out⟩
  | false =>
    by_cases h0 : fn = 0
    · subst h0
      by_cases hf : F = true
      · rw [hf] at J
        have HFT := Lib.hid hf
        clear hf
        go_enter Tryd.func11, Tryd.ntmps11
        go_wp2_with fail
        refine (J _).mono ?_
        rintro e w2 ⟨rfl, hb2⟩
        go_wp2_with fail
        go_ret
        exact ⟨by rw [HE.out, if_pos (by first | exact ⟨rfl, rfl, HF.out.2 HFT.out⟩ | exact ⟨trivial, trivial, HF.out.2 HFT.out⟩)]; rfl, HB0.out.trans (hb2.mono HB0.out.size)⟩
      · have hd : F = false := by simpa using hf
        rw [hd] at J
        have HFT := Lib.hid hf
        clear hd hf
        go_enter Tryd.func11, Tryd.ntmps11
        go_wp2_with fail
        refine (J _).mono ?_
        rintro e w2 ⟨rfl, hb2⟩
        go_wp2_with fail
        go_ret
        exact ⟨by rw [HE.out, if_neg (fun x => HFT.out (HF.out.1 x.2.2))]; rfl, HB0.out.trans (hb2.mono HB0.out.size)⟩
    · have t1 : ((fn : Int) != 0) = true := by simp; omega
      have H00 := Lib.hid h0
      clear h0
      go_enter Tryd.func11, Tryd.ntmps11
      go_wp2_with fail
      go_ret
      exact ⟨by rw [HE.out, if_neg (fun x => H00.out x.2.1)]; rfl, HB0.out⟩

end Go.Proofs.YtpappmbnblaccaaDoor
