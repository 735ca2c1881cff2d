/-
  The document's Put of a line.
-/
import Derived.Test.YtpappmbnblaccaaGreatDoorRef17May
import Derived.Test.YtpappmbnblaccaaGreatDoorVonePlain
import Derived.Test.YtpappmbnblaccaaGreatDoorRef17Digits
import Derived.Test.YtpappmbnblaccaaGreatDoorRef04Print
import Derived.Test.YtpappmbnblaccaaGreatDoorRef04Print16
namespace Go.Proofs.YtpappmbnblaccaaGreatDoor
open Go.RowKit
set_option linter.unusedVariables false

theorem rprint_any (a : ByteArray) (ha : IsA a.data.toList) (w : World) : Calls Tryz.prog 15 #[.string a] w (Tells (.tuple #[.string ⟨(text a.data.toList).toArray⟩, .int .i64 0]) w) := by
  rcases ha with h | h
  · rw [text_4 h]
    exact rprint4_any a (by rw [Array.length_toList] at h; exact h) w
  · rw [text_16 h]
    exact rprint16_any a (by rw [Array.length_toList] at h; exact h) w
/-- A known family's line, piece by piece. -/
theorem lineL_pieces {h : S17} (hf : h.fam = 1 ∨ h.fam = 2) (D : ByteArray) (hD : D.data.toList = digs 10 (2 + 2 * h.fam).toNat) : (⟨(lineL h).toArray⟩ : ByteArray) = (⟨#[80, 82, 79, 88, 89, 32, 84, 67, 80]⟩ : ByteArray) ++ D ++ ⟨#[32]⟩ ++ ⟨(text h.src.data.toList).toArray⟩ ++ ⟨#[32]⟩ ++ ⟨(text h.dst.data.toList).toArray⟩ ++ ⟨#[32]⟩ ++ ⟨(digs 10 h.sp.toNat).toArray⟩ ++ ⟨#[32]⟩ ++ ⟨(digs 10 h.dp.toNat).toArray⟩ ++ ⟨#[13, 10]⟩ := by
  have hf0 : h.fam ≠ 0 := by omega
  have ht : pre17 ++ tword h.fam = [80, 82, 79, 88, 89, 32, 84, 67, 80] ++ digs 10 (2 + 2 * h.fam).toNat := by
    rcases hf with e | e <;> rw [e] <;> rw [digs_small (by decide)] <;> decide
  apply text_ext
  simp only [cat_list, hD]
  unfold lineL
  rw [if_neg hf0]
  show pre17 ++ (tword h.fam ++ 32 :: (text h.src.data.toList ++ 32 :: (text h.dst.data.toList ++ 32 :: (digs 10 h.sp.toNat ++ 32 :: digs 10 h.dp.toNat)))) ++ [13, 10] = _
  have e : ([80, 82, 79, 88, 89, 32, 84, 67, 80] : List UInt8) ++ digs 10 (2 + 2 * h.fam).toNat = pre17 ++ tword h.fam := ht.symm
  rw [e]
  simp

theorem put_on {w W0 W W' : World} (h : Below w.heap.size w W0) (hb : Below W.heap.size W W') (he : W = W0.drew ∨ W = W0 ∨ ∃ n, W = W0.drewN n := by first | exact Or.inl rfl | exact Or.inr (Or.inl rfl) | exact Or.inr (Or.inr ⟨_, rfl⟩)) : Hid (Below w.heap.size w W') := Lib.hid (by
  rcases he with rfl | rfl | ⟨n, rfl⟩
  · exact h.drew.trans (hb.mono h.drew.size)
  · exact h.trans (hb.mono h.size)
  · exact (below_drewN h n).trans (hb.mono (below_drewN h n).size))
set_option maxRecDepth 100000 in
set_option maxHeartbeats 4000000 in
theorem rput17_any (h : S17) (hs : h.src.size ≤ 1000 ∧ h.dst.size ≤ 1000) (w : World) : Calls Tryz.prog 7 #[.agg h.cells] w (Tells (.tuple #[.string ⟨(putS17 h).toArray⟩, .int .i64 (putE17 h)]) w) := by
  have hbox := Blk.new w h.cells 24
  have hbel0 : Below w.heap.size w (w.alloc (.cells h.cells 24)) := (Below.refl _ _).alloc (Nat.le_refl _) _
  have MC := fun W => rmay_any h hs W
  clear hs
  by_cases hm : h.may
  · rw [decide_eq_true hm] at MC
    have HM := Lib.hid hm
    have HMC := Lib.hid MC
    have HK := Lib.hid (fun l hl W hb => @put17_end w (w.alloc (.cells h.cells 24)) W h hm l hl hbel0 hb)
    by_cases hf : h.fam = 0
    · have HL := Lib.hid (show lineL h = [80, 82, 79, 88, 89, 32, 85, 78, 75, 78, 79, 87, 78, 13, 10] by unfold lineL; rw [if_pos hf]; rfl)
      obtain ⟨loc, fam, src, dst, sp, dp, fa, fn, fc⟩ := h
      obtain rfl : fam = 0 := hf
      clear hm MC
      unfold S17.cells at HMC hbox hbel0 ⊢
      simp only at HMC hbox hbel0 ⊢
      have bx := fun W (hb : Below _ _ W) => box17 (h := ⟨loc, 0, src, dst, sp, dp, fa, fn, fc⟩) hbox hb
      simp only at bx
      have HX := Lib.hid bx
      have x := bx _ (Below.refl _ _)
      obtain ⟨x0, x1, x2, x3, x4, x5, x6⟩ := x
      clear bx
      go_enter Tryz.func7, Tryz.ntmps7
      go_wp2_with fail
      clear x0 x1 x2 x3 x4 x5 x6
      refine (HMC.out _).mono ?_
      rintro e w1 ⟨rfl, hb1⟩
      obtain ⟨x0, x1, x2, x3, x4, x5, x6⟩ := HX.out _ hb1
      clear hbox
      have HB1 := Lib.hid hb1
      clear hb1
      go_wp2_with fail
      go_ret2
      exact HK.out _ HL.out _ HB1.out
    · obtain ⟨hia, hib, hp0, hp1, hq0, hq1, hff⟩ := may_isA hm hf
      have HPA := Lib.hid (fun W => rprint_any h.src hia W)
      have HPB := Lib.hid (fun W => rprint_any h.dst hib W)
      have HP := Lib.hid (fun W => rdigits17_any h.sp.toNat (by omega) W)
      have HQ := Lib.hid (fun W => rdigits17_any h.dp.toNat (by omega) W)
      have HLP := Lib.hid (fun D => @lineL_pieces h hff D)
      have sA : (⟨(text h.src.data.toList).toArray⟩ : ByteArray).size ≤ 40 := by rw [list_size]; exact text_len hia
      have sB : (⟨(text h.dst.data.toList).toArray⟩ : ByteArray).size ≤ 40 := by rw [list_size]; exact text_len hib
      have sP : (⟨(digs 10 h.sp.toNat).toArray⟩ : ByteArray).size ≤ 5 := by rw [list_size]; exact digs_length (by decide) 4 _ (by simp; omega)
      have sQ : (⟨(digs 10 h.dp.toNat).toArray⟩ : ByteArray).size ≤ 5 := by rw [list_size]; exact digs_length (by decide) 4 _ (by simp; omega)
      have ep : ((h.sp.toNat : Nat) : Int) = h.sp := by omega
      have eq : ((h.dp.toNat : Nat) : Int) = h.dp := by omega
      rw [ep] at HP
      rw [eq] at HQ
      generalize (⟨(text h.src.data.toList).toArray⟩ : ByteArray) = A at *
      generalize (⟨(text h.dst.data.toList).toArray⟩ : ByteArray) = B at *
      generalize (⟨(digs 10 h.sp.toNat).toArray⟩ : ByteArray) = P at *
      generalize (⟨(digs 10 h.dp.toNat).toArray⟩ : ByteArray) = Q at *
      obtain ⟨loc, fam, src, dst, sp, dp, fa, fn, fc⟩ := h
      clear hm MC hf hia hib ep eq
      unfold S17.cells at HMC hbox hbel0 ⊢
      simp only at HMC hbox hbel0 HPA HPB HP HQ HLP hff hp0 hp1 hq0 hq1 ⊢
      clear hp0 hp1 hq0 hq1
      -- KNOWN
      obtain ⟨D, hD⟩ : ∃ D : ByteArray, D = ⟨(digs 10 (2 + 2 * fam).toNat).toArray⟩ := ⟨_, rfl⟩
      have sD : D.size ≤ 1 := by rw [hD, list_size]; rcases hff with rfl | rfl <;> rw [digs_small (by decide)] <;> exact Nat.le_refl _
      have HD := Lib.hid (fun W => rdigits17_any (2 + 2 * fam).toNat (by omega) W)
      rw [← hD, show (((2 + 2 * fam).toNat : Nat) : Int) = IntKind.i64.wrap (2 + IntKind.i64.wrap (2 * fam)) from by rcases hff with rfl | rfl <;> rfl] at HD
      have HLL := Lib.hid (HLP.out D (by rw [hD]))
      have t0 : (fam == 0) = false := by rcases hff with rfl | rfl <;> rfl
      clear HLP hD hff
      have bx := fun W (hb : Below _ _ W) => box17 (h := ⟨loc, fam, src, dst, sp, dp, fa, fn, fc⟩) hbox hb
      simp only at bx
      have HX := Lib.hid bx
      have x := bx _ (Below.refl _ _)
      obtain ⟨x0, x1, x2, x3, x4, x5, x6⟩ := x
      clear bx
      go_enter Tryz.func7, Tryz.ntmps7
      go_wp2_with fail
      clear x0 x1 x2 x3 x4 x5 x6
      refine (HMC.out _).mono ?_
      rintro e w1 ⟨rfl, hb1⟩
      obtain ⟨x0, x1, x2, x3, x4, x5, x6⟩ := HX.out _ hb1
      go_wp2_with fail
      clear x0 x1 x2 x3 x4 x5 x6
      refine (HPA.out _).mono ?_
      rintro e w2 ⟨rfl, hb2⟩
      have hb12 := hb1.trans (hb2.mono hb1.size)
      obtain ⟨x0, x1, x2, x3, x4, x5, x6⟩ := HX.out _ hb12
      go_wp2_with fail
      clear x0 x1 x2 x3 x4 x5 x6
      refine (HPB.out _).mono ?_
      rintro e w3 ⟨rfl, hb3⟩
      have hb13 := hb12.trans (hb3.mono hb12.size)
      obtain ⟨x0, x1, x2, x3, x4, x5, x6⟩ := HX.out _ hb13
      have HB3 := Lib.hid hb13
      have hlt := Nat.lt_of_lt_of_le hbox.lt hb13.size
      clear x0 x2 x3 x6 hb1 hb2 hb3 hb12 hb13 hbox HX HMC HPA HPB hbel0
      go_wp2_with fail
      have a1 : ¬ (9223372036854775807 < 9 + D.size) := by omega
      have a2 : ¬ (9223372036854775807 < 9 + D.size + 1) := by omega
      have a3 : ¬ (9223372036854775807 < 9 + D.size + 1 + A.size) := by omega
      have a4 : ¬ (9223372036854775807 < 9 + D.size + 1 + A.size + 1) := by omega
      have a5 : ¬ (9223372036854775807 < 9 + D.size + 1 + A.size + 1 + B.size) := by omega
      have a6 : ¬ (9223372036854775807 < 9 + D.size + 1 + A.size + 1 + B.size + 1) := by omega
      have a7 : ¬ (9223372036854775807 < 9 + D.size + 1 + A.size + 1 + B.size + 1 + P.size) := by omega
      have a8 : ¬ (9223372036854775807 < 9 + D.size + 1 + A.size + 1 + B.size + 1 + P.size + 1) := by omega
      have a9 : ¬ (9223372036854775807 < 9 + D.size + 1 + A.size + 1 + B.size + 1 + P.size + 1 + Q.size) := by omega
      have a10 : ¬ (9223372036854775807 < 9 + D.size + 1 + A.size + 1 + B.size + 1 + P.size + 1 + Q.size + 2) := by omega
      have hst : ∀ (W : World), Below w3.heap.size w3 W → Hid (Below w3.heap.size w3 W) ∧ W.cell? ⟨w.heap.size, 1, none⟩ = some (.int .i64 fam) ∧ W.cell? ⟨w.heap.size, 4, none⟩ = some (.int .i64 sp) ∧ W.cell? ⟨w.heap.size, 5, none⟩ = some (.int .i64 dp) := fun W hb => ⟨Lib.hid hb, (hb.cell (p := ⟨w.heap.size, 1, none⟩) hlt).trans x1, (hb.cell (p := ⟨w.heap.size, 4, none⟩) hlt).trans x4, (hb.cell (p := ⟨w.heap.size, 5, none⟩) hlt).trans x5⟩
      have HST := Lib.hid hst
      clear hst sA sB sP sQ sD hlt
      refine wp_region_held_drew (S := fun W => Hid (Below w3.heap.size w3 W) ∧ W.cell? ⟨w.heap.size, 1, none⟩ = some (.int .i64 fam) ∧ W.cell? ⟨w.heap.size, 4, none⟩ = some (.int .i64 sp) ∧ W.cell? ⟨w.heap.size, 5, none⟩ = some (.int .i64 dp)) (by kernel_rfl) ?_ (fun hHeld => ?_)
      · exact HST.out _ (Below.refl _ _).drew
      refine takeH_yes (i := 0) (d := some 26) (v := ?v1) rfl rfl (by kernel_rfl) (by kernel_rfl) (by kernel_rfl) (fun _ _ _ h => h) (by rfl) ?y1 (by assumption) ?_
      case y1 => (intro w hSw; (try dsimp only at hSw); go_simp <;> with_reducible rfl)
      simp only [Act.put, List.setIfInBounds_toArray, List.set_cons_zero, List.set_cons_succ]
      refine takeH_yes (i := 1) (d := some 27) (v := ?v2) rfl rfl (by kernel_rfl) (by kernel_rfl) (by kernel_rfl) (fun _ _ _ h => h) (by rfl) ?y2 (by assumption) ?_
      case y2 => (intro w hSw; (try dsimp only at hSw); go_simp <;> with_reducible rfl)
      simp only [Act.put, List.setIfInBounds_toArray, List.set_cons_zero, List.set_cons_succ]
      refine takeH_yes (i := 2) (d := some 28) (v := ?v3) rfl rfl (by kernel_rfl) (by kernel_rfl) (by kernel_rfl) (fun _ _ _ h => h) (by rfl) ?y3 (by assumption) ?_
      case y3 => (intro w hSw; (try dsimp only at hSw); go_simp <;> with_reducible rfl)
      simp only [Act.put, List.setIfInBounds_toArray, List.set_cons_zero, List.set_cons_succ]
      refine takeH_yes (i := 3) (d := some 29) (v := ?v4) rfl rfl (by kernel_rfl) (by kernel_rfl) (by kernel_rfl) (fun _ _ _ h => h) (by rfl) ?y4 (by assumption) ?_
      case y4 => (intro w hSw; (try dsimp only at hSw); go_simp <;> with_reducible rfl)
      simp only [Act.put, List.setIfInBounds_toArray, List.set_cons_zero, List.set_cons_succ]
      refine takeH_yes (i := 7) (d := some 33) (v := ?v5) rfl rfl (by kernel_rfl) (by kernel_rfl) (by kernel_rfl) (fun _ _ _ h => h) (by rfl) ?y5 (by assumption) ?_
      case y5 => (intro w hSw; (try dsimp only at hSw); go_simp <;> with_reducible rfl)
      simp only [Act.put, List.setIfInBounds_toArray, List.set_cons_zero, List.set_cons_succ]
      refine takeH_yes (i := 10) (d := some 36) (v := ?v6) rfl rfl (by kernel_rfl) (by kernel_rfl) (by kernel_rfl) (fun _ _ _ h => h) (by rfl) ?y6 (by assumption) ?_
      case y6 => (intro w hSw; (try dsimp only at hSw); go_simp <;> with_reducible rfl)
      simp only [Act.put, List.setIfInBounds_toArray, List.set_cons_zero, List.set_cons_succ]
      refine takeH_yes (i := 13) (d := some 39) (v := ?v7) rfl rfl (by kernel_rfl) (by kernel_rfl) (by kernel_rfl) (fun _ _ _ h => h) (by rfl) ?y7 (by assumption) ?_
      case y7 => (intro w hSw; (try dsimp only at hSw); go_simp <;> with_reducible rfl)
      simp only [Act.put, List.setIfInBounds_toArray, List.set_cons_zero, List.set_cons_succ]
      refine takeH_yes (i := 14) (d := some 40) (v := ?v8) rfl rfl (by kernel_rfl) (by kernel_rfl) (by kernel_rfl) (fun _ _ _ h => h) (by rfl) ?y8 (by assumption) ?_
      case y8 => (intro w hSw; (try dsimp only at hSw); go_simp <;> with_reducible rfl)
      simp only [Act.put, List.setIfInBounds_toArray, List.set_cons_zero, List.set_cons_succ]
      refine takeH_yes (i := 18) (d := some 44) (v := ?v9) rfl rfl (by kernel_rfl) (by kernel_rfl) (by kernel_rfl) (fun _ _ _ h => h) (by rfl) ?y9 (by assumption) ?_
      case y9 => (intro w hSw; (try dsimp only at hSw); go_simp <;> with_reducible rfl)
      simp only [Act.put, List.setIfInBounds_toArray, List.set_cons_zero, List.set_cons_succ]
      refine takeH_yes (i := 19) (d := some 45) (v := ?v10) rfl rfl (by kernel_rfl) (by kernel_rfl) (by kernel_rfl) (fun _ _ _ h => h) (by rfl) ?y10 (by assumption) ?_
      case y10 => (intro w hSw; (try dsimp only at hSw); go_simp <;> with_reducible rfl)
      simp only [Act.put, List.setIfInBounds_toArray, List.set_cons_zero, List.set_cons_succ]
      refine wpAnyH_ready (rs := [4]) (by kernel_rfl) (by simp) ?_
      refine AllReadyH.cons rfl (fun K hK => ?_) AllReadyH.nil
      go_simp
      refine (HD.out _).mono ?_
      rintro r wi ⟨rfl, hb⟩
      refine hK.out _ _ ?_ (fun held4 => ?_)
      · have hq := (by assumption : Hid (Below _ _ _) ∧ _ ∧ _ ∧ _).1.out; exact HST.out _ (hq.trans (hb.mono hq.size))
      clear hK K
      try simp only [Act.put, List.setIfInBounds_toArray, List.set_cons_zero, List.set_cons_succ]
      refine takeH_yes (i := 5) (d := some 31) (v := ?v11) rfl rfl (by kernel_rfl) (by kernel_rfl) (by kernel_rfl) (fun _ _ _ h => h) (by rfl) ?y11 (by assumption) ?_
      case y11 => (intro w hSw; (try dsimp only at hSw); go_simp <;> with_reducible rfl)
      simp only [Act.put, List.setIfInBounds_toArray, List.set_cons_zero, List.set_cons_succ]
      refine takeH_yes (i := 6) (d := some 32) (v := ?v12) rfl rfl (by kernel_rfl) (by kernel_rfl) (by kernel_rfl) (fun _ _ _ h => h) (by rfl) ?y12 (by assumption) ?_
      case y12 => (intro w hSw; (try dsimp only at hSw); go_simp <;> with_reducible rfl)
      simp only [Act.put, List.setIfInBounds_toArray, List.set_cons_zero, List.set_cons_succ]
      refine takeH_yes (i := 8) (d := some 34) (v := ?v13) rfl rfl (by kernel_rfl) (by kernel_rfl) (by kernel_rfl) (fun _ _ _ h => h) (by rfl) ?y13 (by assumption) ?_
      case y13 => (intro w hSw; (try dsimp only at hSw); go_simp <;> with_reducible rfl)
      simp only [Act.put, List.setIfInBounds_toArray, List.set_cons_zero, List.set_cons_succ]
      refine takeH_yes (i := 9) (d := some 35) (v := ?v14) rfl rfl (by kernel_rfl) (by kernel_rfl) (by kernel_rfl) (fun _ _ _ h => h) (by rfl) ?y14 (by assumption) ?_
      case y14 => (intro w hSw; (try dsimp only at hSw); go_simp <;> with_reducible rfl)
      simp only [Act.put, List.setIfInBounds_toArray, List.set_cons_zero, List.set_cons_succ]
      refine takeH_yes (i := 11) (d := some 37) (v := ?v15) rfl rfl (by kernel_rfl) (by kernel_rfl) (by kernel_rfl) (fun _ _ _ h => h) (by rfl) ?y15 (by assumption) ?_
      case y15 => (intro w hSw; (try dsimp only at hSw); go_simp <;> with_reducible rfl)
      simp only [Act.put, List.setIfInBounds_toArray, List.set_cons_zero, List.set_cons_succ]
      refine takeH_yes (i := 12) (d := some 38) (v := ?v16) rfl rfl (by kernel_rfl) (by kernel_rfl) (by kernel_rfl) (fun _ _ _ h => h) (by rfl) ?y16 (by assumption) ?_
      case y16 => (intro w hSw; (try dsimp only at hSw); go_simp <;> with_reducible rfl)
      simp only [Act.put, List.setIfInBounds_toArray, List.set_cons_zero, List.set_cons_succ]
      refine wpAnyH_ready (rs := [15]) (by kernel_rfl) (by simp) ?_
      refine AllReadyH.cons rfl (fun K hK => ?_) AllReadyH.nil
      go_simp
      refine (HP.out _).mono ?_
      rintro r wi ⟨rfl, hb⟩
      refine hK.out _ _ ?_ (fun held15 => ?_)
      · have hq := (by assumption : Hid (Below _ _ _) ∧ _ ∧ _ ∧ _).1.out; exact HST.out _ (hq.trans (hb.mono hq.size))
      clear hK K
      try simp only [Act.put, List.setIfInBounds_toArray, List.set_cons_zero, List.set_cons_succ]
      refine takeH_yes (i := 16) (d := some 42) (v := ?v17) rfl rfl (by kernel_rfl) (by kernel_rfl) (by kernel_rfl) (fun _ _ _ h => h) (by rfl) ?y17 (by assumption) ?_
      case y17 => (intro w hSw; (try dsimp only at hSw); go_simp <;> with_reducible rfl)
      simp only [Act.put, List.setIfInBounds_toArray, List.set_cons_zero, List.set_cons_succ]
      refine takeH_yes (i := 17) (d := some 43) (v := ?v18) rfl rfl (by kernel_rfl) (by kernel_rfl) (by kernel_rfl) (fun _ _ _ h => h) (by rfl) ?y18 (by assumption) ?_
      case y18 => (intro w hSw; (try dsimp only at hSw); go_simp <;> with_reducible rfl)
      simp only [Act.put, List.setIfInBounds_toArray, List.set_cons_zero, List.set_cons_succ]
      refine wpAnyH_ready (rs := [20]) (by kernel_rfl) (by simp) ?_
      refine AllReadyH.cons rfl (fun K hK => ?_) AllReadyH.nil
      go_simp
      refine (HQ.out _).mono ?_
      rintro r wi ⟨rfl, hb⟩
      refine hK.out _ _ ?_ (fun held20 => ?_)
      · have hq := (by assumption : Hid (Below _ _ _) ∧ _ ∧ _ ∧ _).1.out; exact HST.out _ (hq.trans (hb.mono hq.size))
      clear hK K
      try simp only [Act.put, List.setIfInBounds_toArray, List.set_cons_zero, List.set_cons_succ]
      refine takeH_yes (i := 21) (d := some 47) (v := ?v19) rfl rfl (by kernel_rfl) (by kernel_rfl) (by kernel_rfl) (fun _ _ _ h => h) (by rfl) ?y19 (by assumption) ?_
      case y19 => (intro w hSw; (try dsimp only at hSw); go_simp <;> with_reducible rfl)
      simp only [Act.put, List.setIfInBounds_toArray, List.set_cons_zero, List.set_cons_succ]
      refine takeH_yes (i := 22) (d := some 48) (v := ?v20) rfl rfl (by kernel_rfl) (by kernel_rfl) (by kernel_rfl) (fun _ _ _ h => h) (by rfl) ?y20 (by assumption) ?_
      case y20 => (intro w hSw; (try dsimp only at hSw); go_simp <;> with_reducible rfl)
      simp only [Act.put, List.setIfInBounds_toArray, List.set_cons_zero, List.set_cons_succ]
      refine takeH_yes (i := 23) (d := some 2) (v := ?v21) rfl rfl (by kernel_rfl) (by kernel_rfl) (by kernel_rfl) (fun _ _ _ h => h) (by rfl) ?y21 (by assumption) ?_
      case y21 => (intro w hSw; (try dsimp only at hSw); go_simp <;> with_reducible rfl)
      simp only [Act.put, List.setIfInBounds_toArray, List.set_cons_zero, List.set_cons_succ]
      refine takeH_yes (i := 24) (d := some 3) (v := ?v22) rfl rfl (by kernel_rfl) (by kernel_rfl) (by kernel_rfl) (fun _ _ _ h => h) (by rfl) ?y22 (by assumption) ?_
      case y22 => (intro w hSw; (try dsimp only at hSw); go_simp <;> with_reducible rfl)
      simp only [Act.put, List.setIfInBounds_toArray, List.set_cons_zero, List.set_cons_succ]
      refine wpAnyH_done (by kernel_rfl) ?_ _
      have HW := held20.1
      clear a1 a2 a3 a4 a5 a6 a7 a8 a9 a10 x1 x4 x5 held4 held15 held20 hHeld
      go_wp2_with fail
      go_ret2
      have hk := HK.out _ rfl _ (HB3.out.trans (HW.out.mono HB3.out.size))
      rw [HLL.out] at hk
      exact hk
  · have HE : Hid (putE17 h = 1 ∧ putS17 h = []) := Lib.hid ⟨if_neg hm, if_neg hm⟩
    rw [decide_eq_false hm] at MC
    have HMC := Lib.hid MC
    have HB0 := Lib.hid hbel0
    rw [HE.out.1, HE.out.2]
    clear hm MC hbel0
    obtain ⟨loc, fam, src, dst, sp, dp, fa, fn, fc⟩ := h
    unfold S17.cells at HMC hbox HB0 ⊢
    simp only at HMC hbox HB0 ⊢
    have x := box17 (h := ⟨loc, fam, src, dst, sp, dp, fa, fn, fc⟩) hbox (Below.refl _ _)
    obtain ⟨x0, x1, x2, x3, x4, x5, x6⟩ := x
    go_enter Tryz.func7, Tryz.ntmps7
    go_wp2_with fail
    clear x0 x1 x2 x3 x4 x5 x6
    refine (HMC.out _).mono ?_
    rintro e w1 ⟨rfl, hb1⟩
    go_wp2_with fail
    go_ret2
    exact ⟨rfl, HB0.out.trans (hb1.mono HB0.out.size)⟩

end Go.Proofs.YtpappmbnblaccaaGreatDoor
