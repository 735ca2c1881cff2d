/-
  VoneTells: the program's answers and the document's.
-/
import Derived.Test.YtpappmbnblaccaaGreatDoorVoneAwake
import Derived.Test.YtpappmbnblaccaaGreatDoorRef17Get
import Derived.Test.YtpappmbnblaccaaGreatDoorRef17Put
import Derived.Deep.CutBlock
namespace Go.Proofs.YtpappmbnblaccaaGreatDoor
open Go.RowKit
set_option linter.unusedVariables false

theorem words_bare {f : Int} {ws : List (List UInt8)} {H : S17} (h : wordsS f ws = some H) : H.bare = H := by
  unfold wordsS at h
  split at h
  · split at h
    · split at h
      · obtain rfl := Option.some.inj h; rfl
      · cases h
    · cases h
  · cases h
theorem line_bare {u : List UInt8} {H : S17} (h : lineS u = some H) : H.bare = H := by
  unfold lineS at h
  split at h
  · unfold saidS at h
    split at h
    · cases h
    · split at h
      · obtain rfl := Option.some.inj h; rfl
      · split at h
        · exact words_bare h
        · split at h
          · exact words_bare h
          · cases h
  · cases h
/-- What is got bears no fields. -/
theorem getH17_bare (b : List UInt8) : (getH17 b).bare = getH17 b := by
  unfold getH17
  split
  · cases h : lineS ((b.take ((nlAt b).toNat + 1)).drop 6) with
    | none => rfl
    | some H => exact line_bare h
  · rfl
/-- Same, of two headers that say the same. -/
theorem same_bare {g k : S17} (h : g.bare = k.bare) (hg : g.fn = 0) (hk : k.fn = 0) (w : World) : Calls Tryz.prog 12 #[.agg g.cells, .agg k.cells] w (Tells (.bool true) w) := by
  obtain ⟨loc, fam, src, dst, sp, dp, fa, fn, fc⟩ := g
  obtain ⟨loc', fam', src', dst', sp', dp', fa', fn', fc'⟩ := k
  obtain rfl : fn = 0 := hg
  obtain rfl : fn' = 0 := hk
  unfold S17.bare at h
  simp only [S17.mk.injEq, and_true] at h
  obtain ⟨rfl, rfl, rfl, rfl, rfl, rfl⟩ := h
  exact same17_any loc fam src dst sp dp fa fa' fc fc' w

/-- While the law asks: the header's block, what both got. -/
structure Tl17 (w W : World) (h g : S17) (N9 N12 : Nat) : Prop where
  bel : Below w.heap.size w W
  a : Blk W w.heap.size h.cells 24
  b : Blk W N9 g.cells 24
  c : Blk W N12 g.cells 24
theorem Tl17.on {w W W' : World} {h g : S17} {N9 N12 : Nat} (t : Tl17 w W h g N9 N12) (hb : Below W.heap.size W W') : Tl17 w W' h g N9 N12 := ⟨t.bel.trans (hb.mono t.bel.size), t.a.on hb, t.b.on hb, t.c.on hb⟩

set_option maxRecDepth 100000 in
set_option maxHeartbeats 4000000 in
theorem tells17_any (h : S17) (b : ByteArray) (w : World) (hg : G17 w) : Calls Tryz.prog 3 #[.agg h.cells, .string b] w (AwakeEnd w) := by
  have hbox := Blk.new w h.cells 24
  have hbel0 : Below w.heap.size w (w.alloc (.cells h.cells 24)) := (Below.refl _ _).alloc (Nat.le_refl _) _
  have bx := fun W (hb : Below _ _ W) => box17 (h := h) hbox hb
  have HX := Lib.hid bx
  have hg0 := hg.on hbel0
  have FW := Lib.hid (few17_any h)
  have PU := Lib.hid (put17_any h)
  have RP := Lib.hid (fun hs => rput17_any h hs)
  have GE := Lib.hid (fun hs => get17_any b hs)
  have RG := Lib.hid (fun hs => rget17_any b hs)
  have CK := Lib.hid (check_any h)
  have MY := Lib.hid (fun hs => rmay_any h hs)
  have HS := Lib.hid (same_bare (g := getH17 b.data.toList) (k := getH17 b.data.toList) rfl (by rw [← getH17_bare]; rfl) (by rw [← getH17_bare]; rfl))
  have HV : Hid ((putE17 h == 0) = decide h.may) := Lib.hid (by
    unfold putE17
    by_cases hm : h.may
    · rw [if_pos hm, decide_eq_true hm]; rfl
    · rw [if_neg hm, decide_eq_false hm]; rfl)
  by_cases hfew : Few17 h
  · by_cases hb3 : b.size ≤ 3000
    · have hs : h.src.size ≤ 1000 ∧ h.dst.size ≤ 1000 := ⟨by have := hfew.1; omega, by have := hfew.2.1; omega⟩
      rw [decide_eq_true hfew] at FW
      replace RP := Lib.hid (RP.out hs)
      replace MY := Lib.hid (MY.out hs)
      replace GE := Lib.hid (GE.out (by omega))
      replace RG := Lib.hid (RG.out (by omega))
      clear hfew hs
      generalize putE17 h = E at *
      generalize (⟨(putS17 h).toArray⟩ : ByteArray) = X at *
      generalize decide h.may = V at *
      generalize getH17 b.data.toList = H at *
      generalize getN17 b.data.toList = n at *
      generalize getE17 b.data.toList = F at *
      unfold S17.cells at hbox hbel0 hg0 HX FW PU RP GE RG CK MY HS ⊢
      have x := HX.out _ (Below.refl _ _)
      obtain ⟨x0, x1, x2, x3, x4, x5, x6⟩ := x
      clear bx
      go_enter Tryz.func3, Tryz.ntmps3
      go_wp2_with fail
      clear x0 x1 x2 x3 x4 x5 x6
      generalize w.alloc _ = w0 at *
      refine (awake17_any w0 hg0).mono ?_
      rintro e w1 ⟨rfl, hb1⟩
      have hg1 := hg0.on hb1
      obtain ⟨x0, x1, x2, x3, x4, x5, x6⟩ := HX.out _ hb1
      go_wp2_with fail
      clear x0 x1 x2 x3 x4 x5 x6
      refine (FW.out w1).mono ?_
      rintro e w2 ⟨rfl, hb2⟩
      have hg2 := hg1.on hb2
      have hb12 := hb1.trans (hb2.mono hb1.size)
      obtain ⟨x0, x1, x2, x3, x4, x5, x6⟩ := HX.out _ hb12
      go_wp2_with fail
      clear x0 x1 x2 x3 x4 x5 x6
      refine (PU.out w2 hg2).mono ?_
      rintro e w3 ⟨rfl, hb3⟩
      have hg3 := hg2.on hb3
      have hb13 := hb12.trans (hb3.mono hb12.size)
      obtain ⟨x0, x1, x2, x3, x4, x5, x6⟩ := HX.out _ hb13
      go_wp2_with fail
      clear x0 x1 x2 x3 x4 x5 x6
      refine (RP.out w3).mono ?_
      rintro e w4 ⟨rfl, hb4⟩
      have hg4 := hg3.on hb4
      have hb14 := hb13.trans (hb4.mono hb13.size)
      have T4 : Below w.heap.size w w4 ∧ Blk w4 w.heap.size h.cells 24 := ⟨hbel0.trans (hb14.mono hbel0.size), hbox.on hb14⟩
      clear hb1 hb2 hb3 hb4 hb12 hb13 hb14 hg0 hg1 hg2 hg3 hbel0 hbox HX
      go_wp2_with fail
      refine (GE.out w4 hg4).mono ?_
      rintro e w5 ⟨rfl, hb5⟩
      have B5 := Blk.new w5 H.cells 24
      have L5 := hb5.alloc hb5.size (.cells H.cells 24)
      unfold S17.cells at B5 L5
      go_wp2_with fail
      generalize w5.alloc _ = w5' at *
      refine (RG.out w5').mono ?_
      rintro e w6 ⟨rfl, hb6⟩
      have L6 := L5.trans (hb6.mono L5.size)
      have T7 : Hid (Tl17 w (w6.alloc (.cells H.cells 24)) h H w5.heap.size w6.heap.size) := Lib.hid
        ⟨(T4.1.trans (L6.mono T4.1.size)).alloc (T4.1.trans (L6.mono T4.1.size)).size _, (T4.2.on L6).alloc _, (Blk.on B5 hb6).alloc _, Blk.new _ _ _⟩
      clear hb5 B5 L5 hb6 L6 T4 hg4
      go_upto_region 9 with (fail)
      unfold S17.cells at T7
      generalize w6.alloc _ = w7 at *
      refine wp_region_held_drew (S := fun W => Tl17 w W h H w5.heap.size w6.heap.size) (by kernel_rfl) ?_ (fun hHeld => ?_)
      · exact T7.out.on (Below.refl _ _).drew
      refine takeH_yes (i := 0) (d := some 47) (v := ?v1) rfl rfl (by kernel_rfl) (by kernel_rfl) (by kernel_rfl) (fun _ _ _ h => h) (by rfl) ?y1 (by assumption) ?_
      case y1 => (intro w hSw; (try dsimp only at hSw); go_simp <;> with_reducible rfl)
      simp only [Act.put, List.setIfInBounds_toArray, List.set_cons_zero, List.set_cons_succ]
      refine takeH_yes (i := 1) (d := some 48) (v := ?v2) rfl rfl (by kernel_rfl) (by kernel_rfl) (by kernel_rfl) (fun _ _ _ h => h) (by rfl) ?y2 (by assumption) ?_
      case y2 => (intro w hSw; (try dsimp only at hSw); go_simp <;> with_reducible rfl)
      simp only [Act.put, List.setIfInBounds_toArray, List.set_cons_zero, List.set_cons_succ]
      refine takeH_yes (i := 2) (d := some 49) (v := .bool true) rfl rfl (by kernel_rfl) (by kernel_rfl) (by kernel_rfl) (fun _ _ _ h => h) (by rfl) ?y3 (by assumption) ?_
      case y3 => (intro w hSw; (try dsimp only at hSw); go_simp <;> with_reducible rfl)
      simp only [Act.put, List.setIfInBounds_toArray, List.set_cons_zero, List.set_cons_succ]
      refine takeH_yes (i := 3) (d := some 50) (v := .bool true) rfl rfl (by kernel_rfl) (by kernel_rfl) (by kernel_rfl) (fun _ _ _ h => h) (by rfl) ?y4 (by assumption) ?_
      case y4 => (intro w hSw; (try dsimp only at hSw); go_simp <;> with_reducible rfl)
      simp only [Act.put, List.setIfInBounds_toArray, List.set_cons_zero, List.set_cons_succ]
      refine takeH_yes (i := 4) (d := some 51) (v := ?v5) rfl rfl (by kernel_rfl) (by kernel_rfl) (by kernel_rfl) (fun _ _ _ h => h) (by rfl) ?y5 (by assumption) ?_
      case y5 => (intro w hSw; (try dsimp only at hSw); go_simp <;> with_reducible rfl)
      simp only [Act.put, List.setIfInBounds_toArray, List.set_cons_zero, List.set_cons_succ]
      refine takeH_yes (i := 5) (d := some 52) (v := ?v6) rfl rfl (by kernel_rfl) (by kernel_rfl) (by kernel_rfl) (fun _ _ _ h => h) (by rfl) ?y6 (by assumption) ?_
      case y6 => (intro w hSw; (try dsimp only at hSw); go_simp <;> with_reducible rfl)
      simp only [Act.put, List.setIfInBounds_toArray, List.set_cons_zero, List.set_cons_succ]
      refine takeH_yes (i := 6) (d := some 53) (v := .bool true) rfl rfl (by kernel_rfl) (by kernel_rfl) (by kernel_rfl) (fun _ _ _ h => h) (by rfl) ?y7 (by assumption) ?_
      case y7 => (intro w hSw; (try dsimp only at hSw); go_simp <;> with_reducible rfl)
      simp only [Act.put, List.setIfInBounds_toArray, List.set_cons_zero, List.set_cons_succ]
      refine takeH_yes (i := 7) (d := some 54) (v := .bool true) rfl rfl (by kernel_rfl) (by kernel_rfl) (by kernel_rfl) (fun _ _ _ h => h) (by rfl) ?y8 (by assumption) ?_
      case y8 => (intro w hSw; (try dsimp only at hSw); go_simp <;> with_reducible rfl)
      simp only [Act.put, List.setIfInBounds_toArray, List.set_cons_zero, List.set_cons_succ]
      refine takeH_yes (i := 8) (d := some 55) (v := .bool true) rfl rfl (by kernel_rfl) (by kernel_rfl) (by kernel_rfl) (fun _ _ _ h => h) (by rfl) ?y9 (by assumption) ?_
      case y9 => (intro w hSw; (try dsimp only at hSw); go_simp <;> with_reducible rfl)
      simp only [Act.put, List.setIfInBounds_toArray, List.set_cons_zero, List.set_cons_succ]
      refine takeH_yes (i := 9) (d := some 56) (v := .agg #[.bool h.loc, .int .i64 h.fam, .string h.src, .string h.dst, .int .i64 h.sp, .int .i64 h.dp, .slice h.fa h.fn h.fc]) rfl rfl (by kernel_rfl) (by kernel_rfl) (by kernel_rfl) (fun _ _ _ h => h) (by rfl) ?y10 (by assumption) ?_
      case y10 => (intro w hSw; (try dsimp only at hSw); (obtain ⟨x0, x1, x2, x3, x4, x5, x6⟩ := box17 hSw.a (Below.refl _ _); go_simp <;> with_reducible rfl))
      simp only [Act.put, List.setIfInBounds_toArray, List.set_cons_zero, List.set_cons_succ]
      refine takeH_yes (i := 12) (d := some 59) (v := .agg #[.bool h.loc, .int .i64 h.fam, .string h.src, .string h.dst, .int .i64 h.sp, .int .i64 h.dp, .slice h.fa h.fn h.fc]) rfl rfl (by kernel_rfl) (by kernel_rfl) (by kernel_rfl) (fun _ _ _ h => h) (by rfl) ?y11 (by assumption) ?_
      case y11 => (intro w hSw; (try dsimp only at hSw); (obtain ⟨x0, x1, x2, x3, x4, x5, x6⟩ := box17 hSw.a (Below.refl _ _); go_simp <;> with_reducible rfl))
      simp only [Act.put, List.setIfInBounds_toArray, List.set_cons_zero, List.set_cons_succ]
      refine wpAnyH_ready (rs := [10]) (by kernel_rfl) (by simp) ?_
      refine AllReadyH.cons rfl (fun K hK => ?_) AllReadyH.nil
      go_simp
      refine (CK.out _).mono ?_
      rintro r wi ⟨rfl, hb⟩
      refine hK.out _ _ ?_ (fun held10 => ?_)
      · have hq := (by assumption : Tl17 _ _ _ _ _ _); exact hq.on hb
      clear hK K
      try simp only [Act.put, List.setIfInBounds_toArray, List.set_cons_zero, List.set_cons_succ]
      refine takeH_yes (i := 11) (d := some 58) (v := ?v12) rfl rfl (by kernel_rfl) (by kernel_rfl) (by kernel_rfl) (fun _ _ _ h => h) (by rfl) ?y12 (by assumption) ?_
      case y12 => (intro w hSw; (try dsimp only at hSw); go_simp <;> with_reducible rfl)
      simp only [Act.put, List.setIfInBounds_toArray, List.set_cons_zero, List.set_cons_succ]
      refine wpAnyH_ready (rs := [13]) (by kernel_rfl) (by simp) ?_
      refine AllReadyH.cons rfl (fun K hK => ?_) AllReadyH.nil
      go_simp
      refine (MY.out _).mono ?_
      rintro r wi ⟨rfl, hb⟩
      refine hK.out _ _ ?_ (fun held13 => ?_)
      · have hq := (by assumption : Tl17 _ _ _ _ _ _); exact hq.on hb
      clear hK K
      try simp only [Act.put, List.setIfInBounds_toArray, List.set_cons_zero, List.set_cons_succ]
      refine takeH_yes (i := 14) (d := some 61) (v := .bool true) rfl rfl (by kernel_rfl) (by kernel_rfl) (by kernel_rfl) (fun _ _ _ h => h) (by rfl) ?y13 (by assumption) ?_
      case y13 => (intro w hSw; (try dsimp only at hSw); (rw [show (E == 0) = V from HV.out] ; go_simp <;> with_reducible rfl))
      simp only [Act.put, List.setIfInBounds_toArray, List.set_cons_zero, List.set_cons_succ]
      refine takeH_yes (i := 15) (d := some 62) (v := .bool true) rfl rfl (by kernel_rfl) (by kernel_rfl) (by kernel_rfl) (fun _ _ _ h => h) (by rfl) ?y14 (by assumption) ?_
      case y14 => (intro w hSw; (try dsimp only at hSw); go_simp <;> with_reducible rfl)
      simp only [Act.put, List.setIfInBounds_toArray, List.set_cons_zero, List.set_cons_succ]
      refine takeH_yes (i := 16) (d := some 63) (v := .bool true) rfl rfl (by kernel_rfl) (by kernel_rfl) (by kernel_rfl) (fun _ _ _ h => h) (by rfl) ?y15 (by assumption) ?_
      case y15 => (intro w hSw; (try dsimp only at hSw); go_simp <;> with_reducible rfl)
      simp only [Act.put, List.setIfInBounds_toArray, List.set_cons_zero, List.set_cons_succ]
      refine takeH_yes (i := 17) (d := some 64) (v := .agg #[.bool H.loc, .int .i64 H.fam, .string H.src, .string H.dst, .int .i64 H.sp, .int .i64 H.dp, .slice H.fa H.fn H.fc]) rfl rfl (by kernel_rfl) (by kernel_rfl) (by kernel_rfl) (fun _ _ _ h => h) (by rfl) ?y16 (by assumption) ?_
      case y16 => (intro w hSw; (try dsimp only at hSw); (obtain ⟨x0, x1, x2, x3, x4, x5, x6⟩ := box17 hSw.b (Below.refl _ _); go_simp <;> with_reducible rfl))
      simp only [Act.put, List.setIfInBounds_toArray, List.set_cons_zero, List.set_cons_succ]
      refine takeH_yes (i := 18) (d := some 65) (v := .agg #[.bool H.loc, .int .i64 H.fam, .string H.src, .string H.dst, .int .i64 H.sp, .int .i64 H.dp, .slice H.fa H.fn H.fc]) rfl rfl (by kernel_rfl) (by kernel_rfl) (by kernel_rfl) (fun _ _ _ h => h) (by rfl) ?y17 (by assumption) ?_
      case y17 => (intro w hSw; (try dsimp only at hSw); (obtain ⟨x0, x1, x2, x3, x4, x5, x6⟩ := box17 hSw.c (Below.refl _ _); go_simp <;> with_reducible rfl))
      simp only [Act.put, List.setIfInBounds_toArray, List.set_cons_zero, List.set_cons_succ]
      refine wpAnyH_ready (rs := [19]) (by kernel_rfl) (by simp) ?_
      refine AllReadyH.cons rfl (fun K hK => ?_) AllReadyH.nil
      go_simp
      refine (HS.out _).mono ?_
      rintro r wi ⟨rfl, hb⟩
      refine hK.out _ _ ?_ (fun held19 => ?_)
      · have hq := (by assumption : Tl17 _ _ _ _ _ _); exact hq.on hb
      clear hK K
      try simp only [Act.put, List.setIfInBounds_toArray, List.set_cons_zero, List.set_cons_succ]
      refine takeH_yes (i := 20) (d := some 67) (v := .bool true) rfl rfl (by kernel_rfl) (by kernel_rfl) (by kernel_rfl) (fun _ _ _ h => h) (by rfl) ?y18 (by assumption) ?_
      case y18 => (intro w hSw; (try dsimp only at hSw); go_simp <;> with_reducible rfl)
      simp only [Act.put, List.setIfInBounds_toArray, List.set_cons_zero, List.set_cons_succ]
      refine takeH_yes (i := 21) (d := some 68) (v := .bool true) rfl rfl (by kernel_rfl) (by kernel_rfl) (by kernel_rfl) (fun _ _ _ h => h) (by rfl) ?y19 (by assumption) ?_
      case y19 => (intro w hSw; (try dsimp only at hSw); go_simp <;> with_reducible rfl)
      simp only [Act.put, List.setIfInBounds_toArray, List.set_cons_zero, List.set_cons_succ]
      refine takeH_yes (i := 22) (d := some 69) (v := ?v20) rfl rfl (by kernel_rfl) (by kernel_rfl) (by kernel_rfl) (fun _ _ _ h => h) (by rfl) ?y20 (by assumption) ?_
      case y20 => (intro w hSw; (try dsimp only at hSw); go_simp <;> with_reducible rfl)
      simp only [Act.put, List.setIfInBounds_toArray, List.set_cons_zero, List.set_cons_succ]
      refine takeH_yes (i := 23) (d := some 70) (v := ?v21) rfl rfl (by kernel_rfl) (by kernel_rfl) (by kernel_rfl) (fun _ _ _ h => h) (by rfl) ?y21 (by assumption) ?_
      case y21 => (intro w hSw; (try dsimp only at hSw); go_simp <;> with_reducible rfl)
      simp only [Act.put, List.setIfInBounds_toArray, List.set_cons_zero, List.set_cons_succ]
      refine takeH_yes (i := 24) (d := some 71) (v := .bool true) rfl rfl (by kernel_rfl) (by kernel_rfl) (by kernel_rfl) (fun _ _ _ h => h) (by rfl) ?y22 (by assumption) ?_
      case y22 => (intro w hSw; (try dsimp only at hSw); go_simp <;> with_reducible rfl)
      simp only [Act.put, List.setIfInBounds_toArray, List.set_cons_zero, List.set_cons_succ]
      refine takeH_yes (i := 25) (d := some 72) (v := .bool true) rfl rfl (by kernel_rfl) (by kernel_rfl) (by kernel_rfl) (fun _ _ _ h => h) (by rfl) ?y23 (by assumption) ?_
      case y23 => (intro w hSw; (try dsimp only at hSw); go_simp <;> with_reducible rfl)
      simp only [Act.put, List.setIfInBounds_toArray, List.set_cons_zero, List.set_cons_succ]
      refine takeH_yes (i := 26) (d := some 73) (v := .bool true) rfl rfl (by kernel_rfl) (by kernel_rfl) (by kernel_rfl) (fun _ _ _ h => h) (by rfl) ?y24 (by assumption) ?_
      case y24 => (intro w hSw; (try dsimp only at hSw); go_simp <;> with_reducible rfl)
      simp only [Act.put, List.setIfInBounds_toArray, List.set_cons_zero, List.set_cons_succ]
      refine takeH_yes (i := 27) (d := some 74) (v := ?v25) rfl rfl (by kernel_rfl) (by kernel_rfl) (by kernel_rfl) (fun _ _ _ h => h) (by rfl) ?y25 (by assumption) ?_
      case y25 => (intro w hSw; (try dsimp only at hSw); go_simp <;> with_reducible rfl)
      simp only [Act.put, List.setIfInBounds_toArray, List.set_cons_zero, List.set_cons_succ]
      refine takeH_yes (i := 28) (d := some 75) (v := ?v26) rfl rfl (by kernel_rfl) (by kernel_rfl) (by kernel_rfl) (fun _ _ _ h => h) (by rfl) ?y26 (by assumption) ?_
      case y26 => (intro w hSw; (try dsimp only at hSw); go_simp <;> with_reducible rfl)
      simp only [Act.put, List.setIfInBounds_toArray, List.set_cons_zero, List.set_cons_succ]
      refine takeH_yes (i := 29) (d := some 76) (v := .bool true) rfl rfl (by kernel_rfl) (by kernel_rfl) (by kernel_rfl) (fun _ _ _ h => h) (by rfl) ?y27 (by assumption) ?_
      case y27 => (intro w hSw; (try dsimp only at hSw); go_simp <;> with_reducible rfl)
      simp only [Act.put, List.setIfInBounds_toArray, List.set_cons_zero, List.set_cons_succ]
      refine takeH_yes (i := 30) (d := some 77) (v := .bool true) rfl rfl (by kernel_rfl) (by kernel_rfl) (by kernel_rfl) (fun _ _ _ h => h) (by rfl) ?y28 (by assumption) ?_
      case y28 => (intro w hSw; (try dsimp only at hSw); go_simp <;> with_reducible rfl)
      simp only [Act.put, List.setIfInBounds_toArray, List.set_cons_zero, List.set_cons_succ]
      refine takeH_yes (i := 31) (d := some 4) (v := .bool true) rfl rfl (by kernel_rfl) (by kernel_rfl) (by kernel_rfl) (fun _ _ _ h => h) (by rfl) ?y29 (by assumption) ?_
      case y29 => (intro w hSw; (try dsimp only at hSw); go_simp <;> with_reducible rfl)
      simp only [Act.put, List.setIfInBounds_toArray, List.set_cons_zero, List.set_cons_succ]
      refine wpAnyH_done (by kernel_rfl) ?_ _
      have L9 := held19.bel
      clear held10 held13 held19 hHeld
      go_wp2_with fail
      go_ret
      exact ⟨rfl, L9⟩
    · have t3 : decide (3000 < b.size) = true := by simp; omega
      clear RP MY GE RG PU CK HS HV
      rw [decide_eq_true hfew] at FW
      clear hfew
      unfold S17.cells at hbox hbel0 hg0 HX FW ⊢
      have x := HX.out _ (Below.refl _ _)
      obtain ⟨x0, x1, x2, x3, x4, x5, x6⟩ := x
      clear bx
      go_enter Tryz.func3, Tryz.ntmps3
      go_wp2_with fail
      clear x0 x1 x2 x3 x4 x5 x6
      generalize w.alloc _ = w0 at *
      refine (awake17_any w0 hg0).mono ?_
      rintro e w1 ⟨rfl, hb1⟩
      obtain ⟨x0, x1, x2, x3, x4, x5, x6⟩ := HX.out _ hb1
      go_wp2_with fail
      clear x0 x1 x2 x3 x4 x5 x6
      refine (FW.out w1).mono ?_
      rintro e w2 ⟨rfl, hb2⟩
      go_wp2_with fail
      go_ret
      exact ⟨rfl, hbel0.trans ((hb1.trans (hb2.mono hb1.size)).mono hbel0.size)⟩
  · clear RP MY GE RG PU CK HS HV
    rw [decide_eq_false hfew] at FW
    clear hfew
    unfold S17.cells at hbox hbel0 hg0 HX FW ⊢
    have x := HX.out _ (Below.refl _ _)
    obtain ⟨x0, x1, x2, x3, x4, x5, x6⟩ := x
    clear bx
    go_enter Tryz.func3, Tryz.ntmps3
    go_wp2_with fail
    clear x0 x1 x2 x3 x4 x5 x6
    generalize w.alloc _ = w0 at *
    refine (awake17_any w0 hg0).mono ?_
    rintro e w1 ⟨rfl, hb1⟩
    obtain ⟨x0, x1, x2, x3, x4, x5, x6⟩ := HX.out _ hb1
    go_wp2_with fail
    clear x0 x1 x2 x3 x4 x5 x6
    refine (FW.out w1).mono ?_
    rintro e w2 ⟨rfl, hb2⟩
    go_wp2_with fail
    go_ret
    exact ⟨rfl, hbel0.trans ((hb1.trans (hb2.mono hb1.size)).mono hbel0.size)⟩

end Go.Proofs.YtpappmbnblaccaaGreatDoor
