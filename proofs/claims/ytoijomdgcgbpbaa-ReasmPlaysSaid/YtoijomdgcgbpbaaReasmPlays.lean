/-
  ReasmPlays returns true at every input.
-/
import Derived.Test.YtoijomdgcgbpbaaReasmPair
import Derived.Test.YtoijomdgcgbpbaaReasmRPay
import Derived.Test.YtoijomdgcgbpbaaReasmF
import Derived.Test.YtoijomdgcgbpbaaTk
namespace Go.Proofs.Ytoijomdgcgbpbaa
open Go.RowKit Go.Shelf
set_option linter.unusedVariables false
set_option linter.unusedSimpArgs false

set_option maxRecDepth 100000 in
set_option maxHeartbeats 2000000 in
theorem plays16_any (s : S16) (a : Option Addr) (n c : Nat) (P : Nat → ByteArray) (w : World) (h : StrsAt w w.heap.size a n P) (hn : n ≤ 140737488355328) (hs : ∀ i, (P i).size ≤ 140737488355328) :
    Calls Try.prog 3 #[.agg s.cells, .slice a n c] w (AwakeEnd w) := by
  have H := Lib.hid h
  have HA := Lib.hid (fun W => awake16_any W)
  have HF := Lib.hid (fun W (h : StrsAt W W.heap.size a n P) => few16_any a n c P W h hn hs)
  have HN := Lib.hid (fun W => newL16 s W)
  have HRI := Lib.hid (fun W => rright16_any s W)
  unfold AwakeEnd at HA
  unfold Tells at HRI
  have hsb := Blk.new w s.cells 23
  have HSB := Lib.hid hsb
  have HB0 := Lib.hid ((Below.refl w.heap.size w).alloc (Nat.le_refl _) (.cells s.cells 23))
  have HS1 := Lib.hid (show (w.alloc (.cells s.cells 23)).heap.size = w.heap.size + 1 by simp)
  obtain ⟨w0, hw0⟩ : ∃ w0, w0 = w.alloc (.cells s.cells 23) := ⟨_, rfl⟩
  rw [← hw0] at HSB HB0 HS1
  unfold S16.cells at hw0 HN HRI ⊢
  clear h hs hsb
  go_enter Try.func3, Try.ntmps3
  go_wp2_with fail
  simp only [← hw0]
  clear hw0
  refine (HA.out w0).mono ?_
  rintro e w1 ⟨rfl, hb1⟩
  have HSB1 := Lib.hid ((hb1.block _ HSB.out.lt).trans HSB.out)
  have HB1 := Lib.hid (HB0.out.trans (hb1.mono HB0.out.size))
  have HZ1 : Hid (w.heap.size + 1 ≤ w1.heap.size) := HS1.out ▸ hb1.size
  clear hb1 HSB HB0 HS1 HA
  go_wp2_with fail
  refine (HF.out w1 ((H.out.below HB1.out).mono HB1.out.size)).mono ?_
  rintro e w2 ⟨f, rfl, hb2, hf⟩
  have HSB2 := Lib.hid ((hb2.block _ (Nat.lt_of_lt_of_le (Nat.lt_succ_self _) HZ1.out)).trans HSB1.out)
  have HB2 := Lib.hid (HB1.out.trans (hb2.mono HB1.out.size))
  have HZ2 : Hid (w.heap.size + 1 ≤ w2.heap.size) := Nat.le_trans HZ1.out hb2.size
  clear hb2 HSB1 HB1 HZ1 HF
  cases f with
  | false =>
    clear hf
    go_wp2_with fail
    go_ret
    exact ⟨rfl, HB2.out⟩
  | true =>
    have HFW := Lib.hid (hf rfl)
    clear hf
    have c0 := (show Blk w2 w.heap.size s.cells 23 from HSB2.out).cell 0
    have c1 := (show Blk w2 w.heap.size s.cells 23 from HSB2.out).cell 1
    have c2 := (show Blk w2 w.heap.size s.cells 23 from HSB2.out).cell 2
    simp only [S16.cells, List.getElem?_toArray, List.getElem?_cons_zero, List.getElem?_cons_succ] at c0 c1 c2
    go_wp2_with fail
    refine (HN.out w2).mono ?_
    rintro e w3 hnew
    have hb3 : Below w2.heap.size w2 w3 := by
      rcases hnew with ⟨_, _, _, _, b⟩ | ⟨_, _, b⟩ <;> exact b
    have HB3 := Lib.hid (HB2.out.trans (hb3.mono HB2.out.size))
    have HSB3 := Lib.hid ((hb3.block _ (Nat.lt_of_lt_of_le (Nat.lt_succ_self _) HZ2.out)).trans HSB2.out)
    have HZ3 : Hid (w.heap.size + 1 ≤ w3.heap.size) := Nat.le_trans HZ2.out hb3.size
    clear c0 c1 c2 hb3 HSB2
    have c0 := (show Blk w3 w.heap.size s.cells 23 from HSB3.out).cell 0
    have c1 := (show Blk w3 w.heap.size s.cells 23 from HSB3.out).cell 1
    have c2 := (show Blk w3 w.heap.size s.cells 23 from HSB3.out).cell 2
    simp only [S16.cells, List.getElem?_toArray, List.getElem?_cons_zero, List.getElem?_cons_succ] at c0 c1 c2
    rcases hnew with ⟨hr, tb, rfl, ht, _⟩ | ⟨hr, rfl, _⟩
    · have hd : decide s.Right = true := decide_eq_true hr
      rw [hd] at HRI
      have HT := Lib.hid ht
      have HR := Lib.hid hr
      clear ht hr hd HN
      go_wp2_with fail
      refine (HRI.out w3).mono ?_
      rintro e w4 ⟨rfl, hb4⟩
      have HT4 := Lib.hid (HT.out.below hb4)
      have HB4 := Lib.hid (HB3.out.trans (hb4.mono HB3.out.size))
      have HSB4 := Lib.hid ((hb4.block _ (Nat.lt_of_lt_of_le (Nat.lt_succ_self _) HZ3.out)).trans HSB3.out)
      clear c0 c1 c2 hb4 HT HSB3 HB3 HRI
      have c0 := (show Blk w4 w.heap.size s.cells 23 from HSB4.out).cell 0
      have c1 := (show Blk w4 w.heap.size s.cells 23 from HSB4.out).cell 1
      have c2 := (show Blk w4 w.heap.size s.cells 23 from HSB4.out).cell 2
      simp only [S16.cells, List.getElem?_toArray, List.getElem?_cons_zero, List.getElem?_cons_succ] at c0 c1 c2
      have B0 := Lib.hid (both16_start (Nat.le_trans (Nat.le_succ _) HZ2.out) HT4.out HB4.out)
      go_upto_region 11 with (fail)
      clear c0 c1 c2 HT4 HB4 HSB4
      generalize w4.alloc (.cells #[.int .i64 s.e, .int .i64 s.b, .int .i64 s.l, .slice none 0 0] 35) = w5 at *
      generalize w4.heap.size = mb at *
      go_wp2_with fail
      go_loopw [8] (fun x wr => ∃ (k : Nat) (l : List E16) (v : Value) (ms : List (R16 × Value)), x = .int .i64 (k : Nat) ∧ k ≤ n ∧ Both16 w wr s tb mb l v ms) (fun x _ => n - (intOf x).toNat)
      case atStart => exact ⟨0, [], _, [], rfl, by omega, B0.out⟩
      case round =>
        obtain ⟨k, l, v, ms, rfl, hk, hb⟩ := hrel
        have BR := Lib.hid hb
        clear hb B0
        by_cases hlt : k < n
        · have t1 : decide ((k : Int) < (n : Int)) = true := decide_eq_true (by omega)
          have HLT := Lib.hid hlt
          obtain ⟨b, off, rfl, hbl, hc⟩ : ∃ b off, a = some ⟨b, off, none⟩ ∧ b < w.heap.size ∧ ∀ i, i < n → w.cell? ⟨b, off + i, none⟩ = some (.string (P i)) := by
            rcases H.out with h | h
            · omega
            · exact h
          have hk0 : (0 : Int) ≤ (k : Int) := by omega
          have hk1 : (k : Int) < (n : Int) := by omega
          have HCK := Lib.hid (hc k hlt)
          have HPS := Lib.hid (HFW.out.2 k hlt)
          have HBL := Lib.hid hbl
          clear hc hbl
          have cp := (BR.out.bel.cell (p := ⟨b, off + k, none⟩) HBL.out).trans HCK.out
          generalize P k = p at *
          have hemp := empty_is p
          have T := Lib.hid BR.out.tab
          have ew : IntKind.i64.wrap ((k : Int) + 1) = ((k + 1 : Nat) : Int) := by rw [IntWalk.i64_in _ (by omega)]; omega
          by_cases hz : p.size = 0
          · rw [decide_eq_true hz] at hemp
            clear hz
            go_wp2_with fail
            refine (ptick16 BR.out).mono ?_
            rintro e w6 ⟨rfl, hh⟩
            have HH := Lib.hid hh
            clear hh BR cp
            go_wp2_with fail
            refine (ptick16r HR.out T.out HH.out).mono ?_
            rintro e w7 ⟨rfl, v2, ms2, bn⟩
            have BN := Lib.hid bn
            clear bn HH T
            generalize l.length - (tick16 s.l.toNat l).length = d at *
            generalize tick16 s.l.toNat l = l2 at *
            have HK1 := Lib.hid (fun W (h : Both16 w W s tb mb l2 v2 ms2) => plen16 h)
            have HK2 := Lib.hid (fun W (h : Both16 w W s tb mb l2 v2 ms2) => pbytes16 h)
            have HK3 := Lib.hid (fun W (h : Both16 w W s tb mb l2 v2 ms2) => pbytes16r h)
            have HK4 := Lib.hid (fun W (h : Both16 w W s tb mb l2 v2 ms2) => popen16 h)
            have HK5 := Lib.hid (fun W (h : Both16 w W s tb mb l2 v2 ms2) => popen16r h)
            unfold Tells at HK1 HK2 HK3 HK4 HK5
            go_upto_region 21 with (fail)
            obtain ⟨va, vc, hv, _⟩ := BN.out.row
            subst hv
            have LAS := Lib.hid (fun W (h : Both16 w W s tb mb l2 (.slice va l2.length vc) ms2) => show (fun WS => WS.cell? ⟨mb, 3, none⟩ = some (.slice va l2.length vc) ∧ Hid (Both16 w WS s tb mb l2 (.slice va l2.length vc) ms2)) W from ⟨by
              obtain ⟨_, _, _, e⟩ := h.row
              exact e, Lib.hid h⟩)
            refine wp_region_held_drew (S := fun WS => WS.cell? ⟨mb, 3, none⟩ = some (.slice va l2.length vc) ∧ Hid (Both16 w WS s tb mb l2 (.slice va l2.length vc) ms2)) (by kernel_rfl) ?_ (fun hHeld => ?_)
            · exact LAS.out _ (BN.out.below (Below.refl _ _).drew)
            clear BN
            refine tk 0 (some 83) rfl rfl ?_
            simp only [Act.put, List.setIfInBounds_toArray, List.set_cons_zero, List.set_cons_succ]
            refine tk 2 (some 85) rfl rfl ?_
            simp only [Act.put, List.setIfInBounds_toArray, List.set_cons_zero, List.set_cons_succ]
            refine tk 3 (some 86) rfl rfl ?_
            simp only [Act.put, List.setIfInBounds_toArray, List.set_cons_zero, List.set_cons_succ]
            refine tk 4 (some 87) rfl rfl ?_
            simp only [Act.put, List.setIfInBounds_toArray, List.set_cons_zero, List.set_cons_succ]
            refine tk 5 (some 88) rfl rfl ?_
            simp only [Act.put, List.setIfInBounds_toArray, List.set_cons_zero, List.set_cons_succ]
            refine tk 6 (some 89) rfl rfl ?_
            simp only [Act.put, List.setIfInBounds_toArray, List.set_cons_zero, List.set_cons_succ]
            refine wpAnyH_ready (rs := [1]) (by kernel_rfl) (by simp) ?_
            refine AllReadyH.cons rfl (fun K hK => ?_) AllReadyH.nil
            go_simp
            refine (HK1.out _ hHeld.2.out).mono ?_
            rintro r wi ⟨rfl, hb⟩
            refine hK.out _ _ ?_ (fun held1 => ?_)
            · exact LAS.out _ (hHeld.2.out.below hb)
            clear hK K
            try simp only [Act.put, List.setIfInBounds_toArray, List.set_cons_zero, List.set_cons_succ]
            refine tk 7 (some 90) rfl rfl ?_
            simp only [Act.put, List.setIfInBounds_toArray, List.set_cons_zero, List.set_cons_succ]
            refine tk 8 (some 91) rfl rfl ?_
            simp only [Act.put, List.setIfInBounds_toArray, List.set_cons_zero, List.set_cons_succ]
            refine tk 9 (some 92) rfl rfl ?_
            simp only [Act.put, List.setIfInBounds_toArray, List.set_cons_zero, List.set_cons_succ]
            refine tk 11 (some 94) rfl rfl ?_
            simp only [Act.put, List.setIfInBounds_toArray, List.set_cons_zero, List.set_cons_succ]
            refine wpAnyH_ready (rs := [10]) (by kernel_rfl) (by simp) ?_
            refine AllReadyH.cons rfl (fun K hK => ?_) AllReadyH.nil
            go_simp
            refine (HK2.out _ held1.2.out).mono ?_
            rintro r wi ⟨rfl, hb⟩
            refine hK.out _ _ ?_ (fun held10 => ?_)
            · exact LAS.out _ (held1.2.out.below hb)
            clear hK K
            try simp only [Act.put, List.setIfInBounds_toArray, List.set_cons_zero, List.set_cons_succ]
            refine wpAnyH_ready (rs := [12]) (by kernel_rfl) (by simp) ?_
            refine AllReadyH.cons rfl (fun K hK => ?_) AllReadyH.nil
            go_simp
            refine (HK3.out _ held10.2.out).mono ?_
            rintro r wi ⟨rfl, hb⟩
            refine hK.out _ _ ?_ (fun held12 => ?_)
            · exact LAS.out _ (held10.2.out.below hb)
            clear hK K
            try simp only [Act.put, List.setIfInBounds_toArray, List.set_cons_zero, List.set_cons_succ]
            refine tk 13 (some 96) rfl rfl ?_
            simp only [Act.put, List.setIfInBounds_toArray, List.set_cons_zero, List.set_cons_succ]
            refine tk 14 (some 97) rfl rfl ?_
            simp only [Act.put, List.setIfInBounds_toArray, List.set_cons_zero, List.set_cons_succ]
            refine tk 15 (some 98) rfl rfl ?_
            simp only [Act.put, List.setIfInBounds_toArray, List.set_cons_zero, List.set_cons_succ]
            refine tk 16 (some 99) rfl rfl ?_
            simp only [Act.put, List.setIfInBounds_toArray, List.set_cons_zero, List.set_cons_succ]
            refine tk 18 (some 101) rfl rfl ?_
            simp only [Act.put, List.setIfInBounds_toArray, List.set_cons_zero, List.set_cons_succ]
            refine wpAnyH_ready (rs := [17]) (by kernel_rfl) (by simp) ?_
            refine AllReadyH.cons rfl (fun K hK => ?_) AllReadyH.nil
            go_simp
            refine (HK4.out _ held12.2.out).mono ?_
            rintro r wi ⟨rfl, hb⟩
            refine hK.out _ _ ?_ (fun held17 => ?_)
            · exact LAS.out _ (held12.2.out.below hb)
            clear hK K
            try simp only [Act.put, List.setIfInBounds_toArray, List.set_cons_zero, List.set_cons_succ]
            refine wpAnyH_ready (rs := [19]) (by kernel_rfl) (by simp) ?_
            refine AllReadyH.cons rfl (fun K hK => ?_) AllReadyH.nil
            go_simp
            refine (HK5.out _ held17.2.out).mono ?_
            rintro r wi ⟨rfl, hb⟩
            refine hK.out _ _ ?_ (fun held19 => ?_)
            · exact LAS.out _ (held17.2.out.below hb)
            clear hK K
            try simp only [Act.put, List.setIfInBounds_toArray, List.set_cons_zero, List.set_cons_succ]
            refine tk 20 (some 103) rfl rfl ?_
            simp only [Act.put, List.setIfInBounds_toArray, List.set_cons_zero, List.set_cons_succ]
            refine tk 21 (some 104) rfl rfl ?_
            simp only [Act.put, List.setIfInBounds_toArray, List.set_cons_zero, List.set_cons_succ]
            refine wpAnyH_done (by kernel_rfl) ?_ _
            have BE := Lib.hid held19.2.out
            clear held19
            go_wp2_with fail
            refine ⟨⟨k + 1, l2, _, ms2, rfl, HLT.out, BE.out⟩, ?_⟩
            have := HLT.out
            simp [intOf]
            omega
          · rw [decide_eq_false hz] at hemp
            clear hz
            have hp : p.size ≤ 1000000 := by have := HPS.out; omega
            go_wp2_with fail
            refine (padd16 p hp BR.out).mono ?_
            rintro e w6 ⟨rfl, hh⟩
            have HH := Lib.hid hh
            have cp6 : Hid (w6.cell? ⟨b, off + k, none⟩ = some (.string p)) := by
              obtain ⟨S, R, q⟩ := hh
              exact (q.bel.cell (p := ⟨b, off + k, none⟩) HBL.out).trans HCK.out
            clear hh BR cp
            have cp := cp6.out
            go_wp2_with fail
            refine (pradd16 p hp HR.out T.out HH.out).mono ?_
            rintro e w7 ⟨rfl, v2, ms2, bn⟩
            have BN := Lib.hid bn
            clear bn HH T cp cp6
            generalize add16 s.e.toNat s.b.toNat l p = r at *
            obtain ⟨⟨q, f⟩, l2⟩ := r
            dsimp only at BN ⊢
            have HK1 := Lib.hid (fun W (h : Both16 w W s tb mb l2 v2 ms2) => plen16 h)
            have HK2 := Lib.hid (fun W (h : Both16 w W s tb mb l2 v2 ms2) => pbytes16 h)
            have HK3 := Lib.hid (fun W (h : Both16 w W s tb mb l2 v2 ms2) => pbytes16r h)
            have HK4 := Lib.hid (fun W (h : Both16 w W s tb mb l2 v2 ms2) => popen16 h)
            have HK5 := Lib.hid (fun W (h : Both16 w W s tb mb l2 v2 ms2) => popen16r h)
            unfold Tells at HK1 HK2 HK3 HK4 HK5
            go_upto_region 21 with (fail)
            obtain ⟨va, vc, hv, _⟩ := BN.out.row
            subst hv
            have LAS := Lib.hid (fun W (h : Both16 w W s tb mb l2 (.slice va l2.length vc) ms2) => show (fun WS => WS.cell? ⟨mb, 3, none⟩ = some (.slice va l2.length vc) ∧ Hid (Both16 w WS s tb mb l2 (.slice va l2.length vc) ms2)) W from ⟨by
              obtain ⟨_, _, _, e⟩ := h.row
              exact e, Lib.hid h⟩)
            refine wp_region_held_drew (S := fun WS => WS.cell? ⟨mb, 3, none⟩ = some (.slice va l2.length vc) ∧ Hid (Both16 w WS s tb mb l2 (.slice va l2.length vc) ms2)) (by kernel_rfl) ?_ (fun hHeld => ?_)
            · exact LAS.out _ (BN.out.below (Below.refl _ _).drew)
            clear BN
            refine tk 0 (some 83) rfl rfl ?_
            simp only [Act.put, List.setIfInBounds_toArray, List.set_cons_zero, List.set_cons_succ]
            refine tk 2 (some 85) rfl rfl ?_
            simp only [Act.put, List.setIfInBounds_toArray, List.set_cons_zero, List.set_cons_succ]
            refine tk 3 (some 86) rfl rfl ?_
            simp only [Act.put, List.setIfInBounds_toArray, List.set_cons_zero, List.set_cons_succ]
            refine tk 4 (some 87) rfl rfl ?_
            simp only [Act.put, List.setIfInBounds_toArray, List.set_cons_zero, List.set_cons_succ]
            refine tk 5 (some 88) rfl rfl ?_
            simp only [Act.put, List.setIfInBounds_toArray, List.set_cons_zero, List.set_cons_succ]
            refine tk 6 (some 89) rfl rfl ?_
            simp only [Act.put, List.setIfInBounds_toArray, List.set_cons_zero, List.set_cons_succ]
            refine wpAnyH_ready (rs := [1]) (by kernel_rfl) (by simp) ?_
            refine AllReadyH.cons rfl (fun K hK => ?_) AllReadyH.nil
            go_simp
            refine (HK1.out _ hHeld.2.out).mono ?_
            rintro r wi ⟨rfl, hb⟩
            refine hK.out _ _ ?_ (fun held1 => ?_)
            · exact LAS.out _ (hHeld.2.out.below hb)
            clear hK K
            try simp only [Act.put, List.setIfInBounds_toArray, List.set_cons_zero, List.set_cons_succ]
            refine tk 7 (some 90) rfl rfl ?_
            simp only [Act.put, List.setIfInBounds_toArray, List.set_cons_zero, List.set_cons_succ]
            refine tk 8 (some 91) rfl rfl ?_
            simp only [Act.put, List.setIfInBounds_toArray, List.set_cons_zero, List.set_cons_succ]
            refine tk 9 (some 92) rfl rfl ?_
            simp only [Act.put, List.setIfInBounds_toArray, List.set_cons_zero, List.set_cons_succ]
            refine tk 11 (some 94) rfl rfl ?_
            simp only [Act.put, List.setIfInBounds_toArray, List.set_cons_zero, List.set_cons_succ]
            refine wpAnyH_ready (rs := [10]) (by kernel_rfl) (by simp) ?_
            refine AllReadyH.cons rfl (fun K hK => ?_) AllReadyH.nil
            go_simp
            refine (HK2.out _ held1.2.out).mono ?_
            rintro r wi ⟨rfl, hb⟩
            refine hK.out _ _ ?_ (fun held10 => ?_)
            · exact LAS.out _ (held1.2.out.below hb)
            clear hK K
            try simp only [Act.put, List.setIfInBounds_toArray, List.set_cons_zero, List.set_cons_succ]
            refine wpAnyH_ready (rs := [12]) (by kernel_rfl) (by simp) ?_
            refine AllReadyH.cons rfl (fun K hK => ?_) AllReadyH.nil
            go_simp
            refine (HK3.out _ held10.2.out).mono ?_
            rintro r wi ⟨rfl, hb⟩
            refine hK.out _ _ ?_ (fun held12 => ?_)
            · exact LAS.out _ (held10.2.out.below hb)
            clear hK K
            try simp only [Act.put, List.setIfInBounds_toArray, List.set_cons_zero, List.set_cons_succ]
            refine tk 13 (some 96) rfl rfl ?_
            simp only [Act.put, List.setIfInBounds_toArray, List.set_cons_zero, List.set_cons_succ]
            refine tk 14 (some 97) rfl rfl ?_
            simp only [Act.put, List.setIfInBounds_toArray, List.set_cons_zero, List.set_cons_succ]
            refine tk 15 (some 98) rfl rfl ?_
            simp only [Act.put, List.setIfInBounds_toArray, List.set_cons_zero, List.set_cons_succ]
            refine tk 16 (some 99) rfl rfl ?_
            simp only [Act.put, List.setIfInBounds_toArray, List.set_cons_zero, List.set_cons_succ]
            refine tk 18 (some 101) rfl rfl ?_
            simp only [Act.put, List.setIfInBounds_toArray, List.set_cons_zero, List.set_cons_succ]
            refine wpAnyH_ready (rs := [17]) (by kernel_rfl) (by simp) ?_
            refine AllReadyH.cons rfl (fun K hK => ?_) AllReadyH.nil
            go_simp
            refine (HK4.out _ held12.2.out).mono ?_
            rintro r wi ⟨rfl, hb⟩
            refine hK.out _ _ ?_ (fun held17 => ?_)
            · exact LAS.out _ (held12.2.out.below hb)
            clear hK K
            try simp only [Act.put, List.setIfInBounds_toArray, List.set_cons_zero, List.set_cons_succ]
            refine wpAnyH_ready (rs := [19]) (by kernel_rfl) (by simp) ?_
            refine AllReadyH.cons rfl (fun K hK => ?_) AllReadyH.nil
            go_simp
            refine (HK5.out _ held17.2.out).mono ?_
            rintro r wi ⟨rfl, hb⟩
            refine hK.out _ _ ?_ (fun held19 => ?_)
            · exact LAS.out _ (held17.2.out.below hb)
            clear hK K
            try simp only [Act.put, List.setIfInBounds_toArray, List.set_cons_zero, List.set_cons_succ]
            refine tk 20 (some 103) rfl rfl ?_
            simp only [Act.put, List.setIfInBounds_toArray, List.set_cons_zero, List.set_cons_succ]
            refine tk 21 (some 104) rfl rfl ?_
            simp only [Act.put, List.setIfInBounds_toArray, List.set_cons_zero, List.set_cons_succ]
            refine wpAnyH_done (by kernel_rfl) ?_ _
            have BE := Lib.hid held19.2.out
            clear held19
            go_wp2_with fail
            refine ⟨⟨k + 1, l2, _, ms2, rfl, HLT.out, BE.out⟩, ?_⟩
            have := HLT.out
            simp [intOf]
            omega
        · have t1 : decide ((k : Int) < (n : Int)) = false := decide_eq_false (by omega)
          go_wp2_with fail
          go_ret
          exact ⟨rfl, BR.out.bel⟩
    · have hd : decide s.Right = false := decide_eq_false hr
      rw [hd] at HRI
      clear hr hd HN
      go_wp2_with fail
      refine (HRI.out w3).mono ?_
      rintro e w4 ⟨rfl, hb4⟩
      have HB4 := Lib.hid (HB3.out.trans (hb4.mono HB3.out.size))
      clear c0 c1 c2 hb4
      go_wp2_with fail
      go_ret
      exact ⟨rfl, HB4.out⟩

end Go.Proofs.Ytoijomdgcgbpbaa
