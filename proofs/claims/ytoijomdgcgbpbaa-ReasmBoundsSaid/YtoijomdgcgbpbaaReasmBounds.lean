/-
  ReasmBounds returns true at every input.
-/
import Derived.Test.YtoijomdgcgbpbaaReasmFew
import Derived.Test.YtoijomdgcgbpbaaReasmBoundsPlain
import Derived.Test.YtoijomdgcgbpbaaGround
namespace Go.Proofs.Ytoijomdgcgbpbaa
open Go.RowKit Go.Shelf
set_option linter.unusedVariables false

/-- The store in its block, the table. -/
structure Bo16 (S : Nat → Prop) (w W : World) (s : S16) (tb E B L : Nat) (l : List E16) : Prop where
  sb : Blk W w.heap.size s.cells 23
  tb : TbL16 S W tb E B L l
  bel : Below w.heap.size w W
theorem Bo16.below {S : Nat → Prop} {w W W' : World} {s : S16} {tb E B L : Nat} {l : List E16} (h : Bo16 S w W s tb E B L l) (hb : Below W.heap.size W W') : Bo16 S w W' s tb E B L l :=
  ⟨(hb.block _ h.sb.lt).trans h.sb, h.tb.below hb, h.bel.trans (hb.mono h.bel.size)⟩
theorem Bo16.all {S : Nat → Prop} {w W : World} {s : S16} {tb E B L : Nat} {l : List E16} (h : Bo16 S w W s tb E B L l) : W.cell? ⟨w.heap.size, 0, none⟩ = some (.int .i64 s.e) ∧ W.cell? ⟨w.heap.size, 1, none⟩ = some (.int .i64 s.b) ∧ W.cell? ⟨w.heap.size, 2, none⟩ = some (.int .i64 s.l) ∧ Hid (Bo16 S w W s tb E B L l) :=
  ⟨h.sb.cell 0, h.sb.cell 1, h.sb.cell 2, Lib.hid h⟩
/-- What a round of Add leaves. -/
theorem Bo16.step {S : Nat → Prop} {w W W' : World} {s : S16} {tb E B L : Nat} {l l' : List E16} (h : Bo16 S w W s tb E B L l) (ht : TbL16 S W' tb E B L l') (k : Kb S W W') (hs : ∀ i, S i → w.heap.size < i) : Bo16 S w W' s tb E B L l' :=
  ⟨(k.block _ h.sb.lt (fun e => by have := hs _ e; omega)).trans h.sb, ht, h.bel.trans ⟨k.os, k.tape, k.output, k.size, fun i hi => k.block i (Nat.lt_of_lt_of_le hi h.bel.size) (fun e => by have := hs _ e; omega)⟩⟩

set_option maxRecDepth 100000 in
set_option maxHeartbeats 1000000 in
theorem bounds16_any (s : S16) (a : Option Addr) (n c : Nat) (P : Nat → ByteArray) (w : World) (h : StrsAt w w.heap.size a n P) (hn : n ≤ 140737488355328) (hs : ∀ i, (P i).size ≤ 140737488355328) :
    Calls Try.prog 4 #[.agg s.cells, .slice a n c] w (AwakeEnd w) := by
  have H := Lib.hid h
  have HA := Lib.hid (fun W => awake16_any W)
  have HF := Lib.hid (fun W (h : StrsAt W W.heap.size a n P) => few16_any a n c P W h hn hs)
  have HN := Lib.hid (fun W => newL16 s W)
  unfold AwakeEnd at HA
  have hsb := Blk.new w s.cells 23
  have HSB := Lib.hid hsb
  have HB0 := Lib.hid ((Below.refl w.heap.size w).alloc (Nat.le_refl _) (.cells s.cells 23))
  have HS1 := Lib.hid (show (w.alloc (.cells s.cells 23)).heap.size = w.heap.size + 1 by simp)
  obtain ⟨w0, hw0⟩ : ∃ w0, w0 = w.alloc (.cells s.cells 23) := ⟨_, rfl⟩
  rw [← hw0] at HSB HB0 HS1
  unfold S16.cells at hw0 HN ⊢
  clear h hs hsb
  go_enter Try.func4, Try.ntmps4
  go_wp2_with fail
  simp only [← hw0]
  clear hw0
  refine (HA.out w0).mono ?_
  rintro e w1 ⟨rfl, hb1⟩
  have HSB1 := Lib.hid ((hb1.block _ HSB.out.lt).trans HSB.out)
  have HB1 := Lib.hid (HB0.out.trans (hb1.mono HB0.out.size))
  have HZ1 : Hid (w.heap.size + 1 ≤ w1.heap.size) := HS1.out ▸ hb1.size
  clear hb1 HSB HB0 HS1 HA
  go_wp2_with fail
  refine (HF.out w1 ((H.out.below HB1.out).mono HB1.out.size)).mono ?_
  rintro e w2 ⟨f, rfl, hb2, hf⟩
  have HSB2 := Lib.hid ((hb2.block _ (Nat.lt_of_lt_of_le (Nat.lt_succ_self _) HZ1.out)).trans HSB1.out)
  have HB2 := Lib.hid (HB1.out.trans (hb2.mono HB1.out.size))
  have HZ2 : Hid (w.heap.size + 1 ≤ w2.heap.size) := Nat.le_trans HZ1.out hb2.size
  clear hb2 HSB1 HB1 HZ1 HF
  cases f with
  | false =>
    clear hf
    go_wp2_with fail
    go_ret
    exact ⟨rfl, HB2.out⟩
  | true =>
    have HFW := Lib.hid (hf rfl)
    clear hf
    have c0 := (show Blk w2 w.heap.size s.cells 23 from HSB2.out).cell 0
    have c1 := (show Blk w2 w.heap.size s.cells 23 from HSB2.out).cell 1
    have c2 := (show Blk w2 w.heap.size s.cells 23 from HSB2.out).cell 2
    simp only [S16.cells, List.getElem?_toArray, List.getElem?_cons_zero, List.getElem?_cons_succ] at c0 c1 c2
    go_wp2_with fail
    refine (HN.out w2).mono ?_
    rintro e w3 hnew
    rcases hnew with ⟨hr, tb, rfl, ht, hb3⟩ | ⟨hr, rfl, hb3⟩
    · have B3 : Hid (Bo16 (fun i => w2.heap.size ≤ i) w w3 s tb s.e.toNat s.b.toNat s.l.toNat []) := ⟨(hb3.block _ (Nat.lt_of_lt_of_le (Nat.lt_succ_self _) HZ2.out)).trans HSB2.out, ht, HB2.out.trans (hb3.mono HB2.out.size)⟩
      have HR := Lib.hid hr
      clear c0 c1 c2 ht hb3 HSB2 HB2 HN hr
      go_wp2_with fail
      go_loopw [7] (fun x wr => ∃ (k : Nat) (l : List E16), x = .int .i64 (k : Nat) ∧ k ≤ n ∧ Bo16 (fun i => w2.heap.size ≤ i) w wr s tb s.e.toNat s.b.toNat s.l.toNat l) (fun x _ => n - (intOf x).toNat)
      case atStart => exact ⟨0, [], rfl, by omega, B3.out⟩
      case round =>
        obtain ⟨k, l, rfl, hk, hb⟩ := hrel
        have BR := Lib.hid hb
        clear hb B3
        by_cases hlt : k < n
        · have t1 : decide ((k : Int) < (n : Int)) = true := decide_eq_true (by omega)
          have HLT := Lib.hid hlt
          have HL := Lib.hid (lenL16 wr BR.out.tb)
          have HL2 := Lib.hid (fun W l (h : TbL16 (fun i => w2.heap.size ≤ i) W tb s.e.toNat s.b.toNat s.l.toNat l) => bytesL16 W h)
          have HL3 := Lib.hid (fun W l (h : TbL16 (fun i => w2.heap.size ≤ i) W tb s.e.toNat s.b.toNat s.l.toNat l) => openL16 W h)
          unfold Tells at HL HL2 HL3
          obtain ⟨b, off, rfl, hbl, hc⟩ : ∃ b off, a = some ⟨b, off, none⟩ ∧ b < w.heap.size ∧ ∀ i, i < n → w.cell? ⟨b, off + i, none⟩ = some (.string (P i)) := by
            rcases H.out with h | h
            · omega
            · exact h
          have hk0 : (0 : Int) ≤ (k : Int) := by omega
          have hk1 : (k : Int) < (n : Int) := by omega
          have HCK := Lib.hid (hc k hlt)
          have HPS := Lib.hid (HFW.out.2 k hlt)
          have HBL := Lib.hid hbl
          clear hc hbl
          go_wp2_with fail
          refine HL.out.mono ?_
          rintro e w4 ⟨rfl, hb4⟩
          have R4 := Lib.hid (BR.out.below hb4)
          clear hb4 HL BR
          go_wp2_with fail
          refine (HL2.out w4 l R4.out.tb).mono ?_
          rintro e w5 ⟨rfl, hb5⟩
          have R5 := Lib.hid (R4.out.below hb5)
          clear hb5 HL2 R4
          go_wp2_with fail
          refine (HL3.out w5 l R5.out.tb).mono ?_
          rintro e w6 ⟨rfl, hb6⟩
          have R6 := Lib.hid (R5.out.below hb6)
          clear hb6 HL3 R5
          have cp := (R6.out.bel.cell (p := ⟨b, off + k, none⟩) HBL.out).trans HCK.out
          generalize P k = p at *
          have HADD := Lib.hid (addL16 p (by have := HPS.out; omega) w6 R6.out.tb)
          have HSAY := Lib.hid (says16 R6.out.tb.tab p)
          generalize hadd : add16 s.e.toNat s.b.toNat l p = r at *
          obtain ⟨⟨q, f⟩, l'⟩ := r
          dsimp only at HADD
          go_wp2_with fail
          refine HADD.out.mono ?_
          rintro e w7 ⟨rfl, ht7, hk7⟩
          have R7 := Lib.hid (R6.out.step ht7 hk7 (fun i hi => by have := HZ2.out; omega))
          clear ht7 hk7 HADD cp
          obtain ⟨hfull, hsame, hfew⟩ := HSAY.out
          rw [hadd] at hfull hsame hfew
          dsimp only at hfull hsame hfew
          clear hadd HSAY
          have T7 := R7.out.tb.tab
          have hE : ((s.e.toNat : Nat) : Int) = s.e := by have := HR.out.1; omega
          have hB : ((s.b.toNat : Nat) : Int) = s.b := by have := HR.out.2.1; omega
          have ho : open16 l' ≤ l'.length := List.countP_le_length
          have t2 : decide (s.e < (l'.length : Int)) = false := decide_eq_false (by have := T7.len; omega)
          have t3 : decide (s.b < (bytes16 l' : Int)) = false := decide_eq_false (by have := T7.bytes; omega)
          have t4 : decide ((l'.length : Int) < (open16 l' : Int)) = false := decide_eq_false (by omega)
          have t5 : decide ((bytes16 l' : Int) < 0) = false := decide_eq_false (by omega)
          obtain ⟨bf, hbf⟩ : ∃ bf : Bool, bf = decide (f = 0) := ⟨_, rfl⟩
          have t6 : ((f : Int) == 0) = bf := by rw [hbf, Bool.eq_iff_iff]; simp
          have t7 : q.toList.isEmpty = !bf := by
            rw [hbf, Bool.eq_iff_iff, List.isEmpty_iff, Bool.not_eq_true', decide_eq_false_iff_not, hfull, Decidable.not_not, ByteArray.toList_eq]
            constructor
            · intro e
              exact text_ext e
            · intro e; rw [e]
          have HBF := Lib.hid hbf
          have HSAME := Lib.hid hsame
          clear hbf hsame hfull hfew T7 hE hB
          have HK1 := Lib.hid (fun W l (h : TbL16 (fun i => w2.heap.size ≤ i) W tb s.e.toNat s.b.toNat s.l.toNat l) => lenL16 W h)
          have HK2 := Lib.hid (fun W l (h : TbL16 (fun i => w2.heap.size ≤ i) W tb s.e.toNat s.b.toNat s.l.toNat l) => bytesL16 W h)
          have HK3 := Lib.hid (fun W l (h : TbL16 (fun i => w2.heap.size ≤ i) W tb s.e.toNat s.b.toNat s.l.toNat l) => openL16 W h)
          unfold Tells at HK1 HK2 HK3
          go_upto_region 13 with (fail)
          -- REGION 13
          refine wp_region_held_drew (S := fun W => W.cell? ⟨w.heap.size, 0, none⟩ = some (.int .i64 s.e) ∧ W.cell? ⟨w.heap.size, 1, none⟩ = some (.int .i64 s.b) ∧ W.cell? ⟨w.heap.size, 2, none⟩ = some (.int .i64 s.l) ∧ Hid (Bo16 (fun i => w2.heap.size ≤ i) w W s tb s.e.toNat s.b.toNat s.l.toNat l')) (by kernel_rfl) ?_ (fun hHeld => ?_)
          · exact (R7.out.below (Below.refl _ _).drew).all
          refine takeH_yes (i := 0) (d := some 53) (v := ?v1) rfl rfl (by kernel_rfl) (by kernel_rfl) (by kernel_rfl) (fun _ _ _ h => h) (by rfl) ?y1 (by assumption) ?_
          case y1 => (intro w hSw; (try dsimp only at hSw); go_simp <;> with_reducible rfl)
          simp only [Act.put, List.setIfInBounds_toArray, List.set_cons_zero, List.set_cons_succ]
          refine takeH_yes (i := 2) (d := some 55) (v := ?v2) rfl rfl (by kernel_rfl) (by kernel_rfl) (by kernel_rfl) (fun _ _ _ h => h) (by rfl) ?y2 (by assumption) ?_
          case y2 => (intro w hSw; (try dsimp only at hSw); go_simp <;> with_reducible rfl)
          simp only [Act.put, List.setIfInBounds_toArray, List.set_cons_zero, List.set_cons_succ]
          refine takeH_yes (i := 3) (d := some 56) (v := ?v3) rfl rfl (by kernel_rfl) (by kernel_rfl) (by kernel_rfl) (fun _ _ _ h => h) (by rfl) ?y3 (by assumption) ?_
          case y3 => (intro w hSw; (try dsimp only at hSw); go_simp <;> with_reducible rfl)
          simp only [Act.put, List.setIfInBounds_toArray, List.set_cons_zero, List.set_cons_succ]
          refine wpAnyH_ready (rs := [1]) (by kernel_rfl) (by simp) ?_
          refine AllReadyH.cons rfl (fun K hK => ?_) AllReadyH.nil
          go_simp
          refine (HK1.out _ l' ((by assumption : _ ∧ _ ∧ _ ∧ Hid (Bo16 _ _ _ _ _ _ _ _ _)).2.2.2.out).tb).mono ?_
          rintro r wi ⟨rfl, hb⟩
          refine hK.out _ _ ?_ (fun held1 => ?_)
          · exact ((by assumption : _ ∧ _ ∧ _ ∧ Hid (Bo16 _ _ _ _ _ _ _ _ _)).2.2.2.out.below hb).all
          clear hK K
          try simp only [Act.put, List.setIfInBounds_toArray, List.set_cons_zero, List.set_cons_succ]
          refine takeH_yes (i := 4) (d := some 57) (v := .bool false) rfl rfl (by kernel_rfl) (by kernel_rfl) (by kernel_rfl) (fun _ _ _ h => h) (by rfl) ?y4 (by assumption) ?_
          case y4 => (intro w hSw; (try dsimp only at hSw); go_simp <;> with_reducible rfl)
          simp only [Act.put, List.setIfInBounds_toArray, List.set_cons_zero, List.set_cons_succ]
          refine takeH_yes (i := 5) (d := some 58) (v := ?v5) rfl rfl (by kernel_rfl) (by kernel_rfl) (by kernel_rfl) (fun _ _ _ h => h) (by rfl) ?y5 (by assumption) ?_
          case y5 => (intro w hSw; (try dsimp only at hSw); go_simp <;> with_reducible rfl)
          simp only [Act.put, List.setIfInBounds_toArray, List.set_cons_zero, List.set_cons_succ]
          refine takeH_yes (i := 6) (d := some 59) (v := ?v6) rfl rfl (by kernel_rfl) (by kernel_rfl) (by kernel_rfl) (fun _ _ _ h => h) (by rfl) ?y6 (by assumption) ?_
          case y6 => (intro w hSw; (try dsimp only at hSw); go_simp <;> with_reducible rfl)
          simp only [Act.put, List.setIfInBounds_toArray, List.set_cons_zero, List.set_cons_succ]
          refine takeH_yes (i := 8) (d := some 61) (v := ?v7) rfl rfl (by kernel_rfl) (by kernel_rfl) (by kernel_rfl) (fun _ _ _ h => h) (by rfl) ?y7 (by assumption) ?_
          case y7 => (intro w hSw; (try dsimp only at hSw); go_simp <;> with_reducible rfl)
          simp only [Act.put, List.setIfInBounds_toArray, List.set_cons_zero, List.set_cons_succ]
          refine takeH_yes (i := 9) (d := some 62) (v := ?v8) rfl rfl (by kernel_rfl) (by kernel_rfl) (by kernel_rfl) (fun _ _ _ h => h) (by rfl) ?y8 (by assumption) ?_
          case y8 => (intro w hSw; (try dsimp only at hSw); go_simp <;> with_reducible rfl)
          simp only [Act.put, List.setIfInBounds_toArray, List.set_cons_zero, List.set_cons_succ]
          refine wpAnyH_ready (rs := [7]) (by kernel_rfl) (by simp) ?_
          refine AllReadyH.cons rfl (fun K hK => ?_) AllReadyH.nil
          go_simp
          refine (HK2.out _ l' ((by assumption : _ ∧ _ ∧ _ ∧ Hid (Bo16 _ _ _ _ _ _ _ _ _)).2.2.2.out).tb).mono ?_
          rintro r wi ⟨rfl, hb⟩
          refine hK.out _ _ ?_ (fun held7 => ?_)
          · exact ((by assumption : _ ∧ _ ∧ _ ∧ Hid (Bo16 _ _ _ _ _ _ _ _ _)).2.2.2.out.below hb).all
          clear hK K
          try simp only [Act.put, List.setIfInBounds_toArray, List.set_cons_zero, List.set_cons_succ]
          refine takeH_yes (i := 10) (d := some 63) (v := .bool false) rfl rfl (by kernel_rfl) (by kernel_rfl) (by kernel_rfl) (fun _ _ _ h => h) (by rfl) ?y9 (by assumption) ?_
          case y9 => (intro w hSw; (try dsimp only at hSw); go_simp <;> with_reducible rfl)
          simp only [Act.put, List.setIfInBounds_toArray, List.set_cons_zero, List.set_cons_succ]
          refine takeH_yes (i := 11) (d := some 64) (v := ?v10) rfl rfl (by kernel_rfl) (by kernel_rfl) (by kernel_rfl) (fun _ _ _ h => h) (by rfl) ?y10 (by assumption) ?_
          case y10 => (intro w hSw; (try dsimp only at hSw); go_simp <;> with_reducible rfl)
          simp only [Act.put, List.setIfInBounds_toArray, List.set_cons_zero, List.set_cons_succ]
          refine takeH_yes (i := 12) (d := some 65) (v := ?v11) rfl rfl (by kernel_rfl) (by kernel_rfl) (by kernel_rfl) (fun _ _ _ h => h) (by rfl) ?y11 (by assumption) ?_
          case y11 => (intro w hSw; (try dsimp only at hSw); go_simp <;> with_reducible rfl)
          simp only [Act.put, List.setIfInBounds_toArray, List.set_cons_zero, List.set_cons_succ]
          refine takeH_yes (i := 13) (d := some 66) (v := ?v12) rfl rfl (by kernel_rfl) (by kernel_rfl) (by kernel_rfl) (fun _ _ _ h => h) (by rfl) ?y12 (by assumption) ?_
          case y12 => (intro w hSw; (try dsimp only at hSw); go_simp <;> with_reducible rfl)
          simp only [Act.put, List.setIfInBounds_toArray, List.set_cons_zero, List.set_cons_succ]
          refine takeH_yes (i := 15) (d := some 68) (v := ?v13) rfl rfl (by kernel_rfl) (by kernel_rfl) (by kernel_rfl) (fun _ _ _ h => h) (by rfl) ?y13 (by assumption) ?_
          case y13 => (intro w hSw; (try dsimp only at hSw); go_simp <;> with_reducible rfl)
          simp only [Act.put, List.setIfInBounds_toArray, List.set_cons_zero, List.set_cons_succ]
          refine wpAnyH_ready (rs := [14]) (by kernel_rfl) (by simp) ?_
          refine AllReadyH.cons rfl (fun K hK => ?_) AllReadyH.nil
          go_simp
          refine (HK3.out _ l' ((by assumption : _ ∧ _ ∧ _ ∧ Hid (Bo16 _ _ _ _ _ _ _ _ _)).2.2.2.out).tb).mono ?_
          rintro r wi ⟨rfl, hb⟩
          refine hK.out _ _ ?_ (fun held14 => ?_)
          · exact ((by assumption : _ ∧ _ ∧ _ ∧ Hid (Bo16 _ _ _ _ _ _ _ _ _)).2.2.2.out.below hb).all
          clear hK K
          try simp only [Act.put, List.setIfInBounds_toArray, List.set_cons_zero, List.set_cons_succ]
          refine wpAnyH_ready (rs := [16]) (by kernel_rfl) (by simp) ?_
          refine AllReadyH.cons rfl (fun K hK => ?_) AllReadyH.nil
          go_simp
          refine (HK1.out _ l' ((by assumption : _ ∧ _ ∧ _ ∧ Hid (Bo16 _ _ _ _ _ _ _ _ _)).2.2.2.out).tb).mono ?_
          rintro r wi ⟨rfl, hb⟩
          refine hK.out _ _ ?_ (fun held16 => ?_)
          · exact ((by assumption : _ ∧ _ ∧ _ ∧ Hid (Bo16 _ _ _ _ _ _ _ _ _)).2.2.2.out.below hb).all
          clear hK K
          try simp only [Act.put, List.setIfInBounds_toArray, List.set_cons_zero, List.set_cons_succ]
          refine takeH_yes (i := 17) (d := some 70) (v := .bool false) rfl rfl (by kernel_rfl) (by kernel_rfl) (by kernel_rfl) (fun _ _ _ h => h) (by rfl) ?y14 (by assumption) ?_
          case y14 => (intro w hSw; (try dsimp only at hSw); go_simp <;> with_reducible rfl)
          simp only [Act.put, List.setIfInBounds_toArray, List.set_cons_zero, List.set_cons_succ]
          refine takeH_yes (i := 18) (d := some 71) (v := ?v15) rfl rfl (by kernel_rfl) (by kernel_rfl) (by kernel_rfl) (fun _ _ _ h => h) (by rfl) ?y15 (by assumption) ?_
          case y15 => (intro w hSw; (try dsimp only at hSw); go_simp <;> with_reducible rfl)
          simp only [Act.put, List.setIfInBounds_toArray, List.set_cons_zero, List.set_cons_succ]
          refine takeH_yes (i := 19) (d := some 72) (v := ?v16) rfl rfl (by kernel_rfl) (by kernel_rfl) (by kernel_rfl) (fun _ _ _ h => h) (by rfl) ?y16 (by assumption) ?_
          case y16 => (intro w hSw; (try dsimp only at hSw); go_simp <;> with_reducible rfl)
          simp only [Act.put, List.setIfInBounds_toArray, List.set_cons_zero, List.set_cons_succ]
          refine takeH_yes (i := 20) (d := some 73) (v := ?v17) rfl rfl (by kernel_rfl) (by kernel_rfl) (by kernel_rfl) (fun _ _ _ h => h) (by rfl) ?y17 (by assumption) ?_
          case y17 => (intro w hSw; (try dsimp only at hSw); go_simp <;> with_reducible rfl)
          simp only [Act.put, List.setIfInBounds_toArray, List.set_cons_zero, List.set_cons_succ]
          refine wpAnyH_ready (rs := [21]) (by kernel_rfl) (by simp) ?_
          refine AllReadyH.cons rfl (fun K hK => ?_) AllReadyH.nil
          go_simp
          refine (HK2.out _ l' ((by assumption : _ ∧ _ ∧ _ ∧ Hid (Bo16 _ _ _ _ _ _ _ _ _)).2.2.2.out).tb).mono ?_
          rintro r wi ⟨rfl, hb⟩
          refine hK.out _ _ ?_ (fun held21 => ?_)
          · exact ((by assumption : _ ∧ _ ∧ _ ∧ Hid (Bo16 _ _ _ _ _ _ _ _ _)).2.2.2.out.below hb).all
          clear hK K
          try simp only [Act.put, List.setIfInBounds_toArray, List.set_cons_zero, List.set_cons_succ]
          refine takeH_yes (i := 22) (d := some 75) (v := .bool false) rfl rfl (by kernel_rfl) (by kernel_rfl) (by kernel_rfl) (fun _ _ _ h => h) (by rfl) ?y18 (by assumption) ?_
          case y18 => (intro w hSw; (try dsimp only at hSw); go_simp <;> with_reducible rfl)
          simp only [Act.put, List.setIfInBounds_toArray, List.set_cons_zero, List.set_cons_succ]
          refine takeH_yes (i := 23) (d := some 76) (v := ?v19) rfl rfl (by kernel_rfl) (by kernel_rfl) (by kernel_rfl) (fun _ _ _ h => h) (by rfl) ?y19 (by assumption) ?_
          case y19 => (intro w hSw; (try dsimp only at hSw); go_simp <;> with_reducible rfl)
          simp only [Act.put, List.setIfInBounds_toArray, List.set_cons_zero, List.set_cons_succ]
          refine takeH_yes (i := 24) (d := some 77) (v := ?v20) rfl rfl (by kernel_rfl) (by kernel_rfl) (by kernel_rfl) (fun _ _ _ h => h) (by rfl) ?y20 (by assumption) ?_
          case y20 => (intro w hSw; (try dsimp only at hSw); go_simp <;> with_reducible rfl)
          simp only [Act.put, List.setIfInBounds_toArray, List.set_cons_zero, List.set_cons_succ]
          refine takeH_yes (i := 25) (d := some 78) (v := ?v21) rfl rfl (by kernel_rfl) (by kernel_rfl) (by kernel_rfl) (fun _ _ _ h => h) (by rfl) ?y21 (by assumption) ?_
          case y21 => (intro w hSw; (try dsimp only at hSw); go_simp <;> with_reducible rfl)
          simp only [Act.put, List.setIfInBounds_toArray, List.set_cons_zero, List.set_cons_succ]
          refine takeH_yes (i := 26) (d := some 79) (v := .bool bf) rfl rfl (by kernel_rfl) (by kernel_rfl) (by kernel_rfl) (fun _ _ _ h => h) (by rfl) ?y22 (by assumption) ?_
          case y22 => (intro w hSw; (try dsimp only at hSw); go_simp <;> with_reducible rfl)
          simp only [Act.put, List.setIfInBounds_toArray, List.set_cons_zero, List.set_cons_succ]
          refine takeH_yes (i := 27) (d := some 80) (v := ?v23) rfl rfl (by kernel_rfl) (by kernel_rfl) (by kernel_rfl) (fun _ _ _ h => h) (by rfl) ?y23 (by assumption) ?_
          case y23 => (intro w hSw; (try dsimp only at hSw); go_simp <;> with_reducible rfl)
          simp only [Act.put, List.setIfInBounds_toArray, List.set_cons_zero, List.set_cons_succ]
          refine takeH_yes (i := 28) (d := some 81) (v := .bool bf) rfl rfl (by kernel_rfl) (by kernel_rfl) (by kernel_rfl) (fun _ _ _ h => h) (by rfl) ?y24 (by assumption) ?_
          case y24 => (intro w hSw; (try dsimp only at hSw); go_simp <;> with_reducible rfl)
          simp only [Act.put, List.setIfInBounds_toArray, List.set_cons_zero, List.set_cons_succ]
          refine takeH_yes (i := 29) (d := some 82) (v := .bool false) rfl rfl (by kernel_rfl) (by kernel_rfl) (by kernel_rfl) (fun _ _ _ h => h) (by rfl) ?y25 (by assumption) ?_
          case y25 => (intro w hSw; (try dsimp only at hSw); go_simp <;> with_reducible rfl)
          simp only [Act.put, List.setIfInBounds_toArray, List.set_cons_zero, List.set_cons_succ]
          refine takeH_yes (i := 30) (d := some 83) (v := ?v26) rfl rfl (by kernel_rfl) (by kernel_rfl) (by kernel_rfl) (fun _ _ _ h => h) (by rfl) ?y26 (by assumption) ?_
          case y26 => (intro w hSw; (try dsimp only at hSw); go_simp <;> with_reducible rfl)
          simp only [Act.put, List.setIfInBounds_toArray, List.set_cons_zero, List.set_cons_succ]
          refine wpAnyH_done (by kernel_rfl) ?_ _
          have R8 := Lib.hid (held21.2.2.2.out)
          clear held1 held7 held14 held16 hHeld
          -- END
          have ew : IntKind.i64.wrap ((k : Int) + 1) = ((k + 1 : Nat) : Int) := by rw [IntWalk.i64_in _ (by omega)]; omega
          have t10 : ((f : Int) != 0) = !bf := by rw [bne, t6]
          clear t2 t3 t4 t5 t6 t7 ho
          cases bf with
          | true =>
            go_wp2_with fail
            refine ⟨⟨k + 1, l', rfl, by have := HLT.out; omega, R8.out⟩, ?_⟩
            have := HLT.out
            simp [intOf]
            omega
          | false =>
            have hf0 : f ≠ 0 := of_decide_eq_false HBF.out.symm
            by_cases hf10 : f = 10
            · have t8 : ((f : Int) != 10) = false := by rw [hf10]; rfl
              go_wp2_with fail
              refine ⟨⟨k + 1, l', rfl, by have := HLT.out; omega, R8.out⟩, ?_⟩
              have := HLT.out
              simp [intOf]
              omega
            · have t8 : ((f : Int) != 10) = true := by simp; omega
              by_cases hf4 : f = 4
              · have t9 : ((f : Int) != 4) = false := by rw [hf4]; rfl
                go_wp2_with fail
                refine ⟨⟨k + 1, l', rfl, by have := HLT.out; omega, R8.out⟩, ?_⟩
                have := HLT.out
                simp [intOf]
                omega
              · have t9 : ((f : Int) != 4) = true := by simp; omega
                obtain rfl := HSAME.out hf0 hf10 hf4
                clear hf0 hf10 hf4
                go_wp2_with fail
                refine (HK1.out _ l' R8.out.tb).mono ?_
                rintro e w9 ⟨rfl, hb9⟩
                have R9 := Lib.hid (R8.out.below hb9)
                clear hb9 R8
                go_wp2_with fail
                refine (HK2.out _ l' R9.out.tb).mono ?_
                rintro e w10 ⟨rfl, hb10⟩
                have R10 := Lib.hid (R9.out.below hb10)
                clear hb10 R9
                go_wp2_with fail
                refine (HK3.out _ l' R10.out.tb).mono ?_
                rintro e w11 ⟨rfl, hb11⟩
                have R11 := Lib.hid (R10.out.below hb11)
                clear hb11 R10
                go_wp2_with fail
                refine ⟨⟨k + 1, l', rfl, by have := HLT.out; omega, R11.out⟩, ?_⟩
                have := HLT.out
                simp [intOf]
                omega
        · have t1 : decide ((k : Int) < (n : Int)) = false := decide_eq_false (by omega)
          go_wp2_with fail
          go_loopw [13] (fun x wr => ∃ (i : Nat) (l : List E16), x = .int .i64 (i : Nat) ∧ i ≤ s.l.toNat ∧ Old16 i l ∧ Bo16 (fun i => w2.heap.size ≤ i) w wr s tb s.e.toNat s.b.toNat s.l.toNat l) (fun x _ => s.l.toNat - (intOf x).toNat)
          case atStart => exact ⟨0, l, rfl, Nat.zero_le _, fun e _ => Nat.zero_le _, BR.out⟩
          case round =>
            obtain ⟨i, l, rfl, hi, hold, hb⟩ := hrel
            have QR := Lib.hid hb
            have HOLD := Lib.hid hold
            have hL : ((s.l.toNat : Nat) : Int) = s.l := by have := HR.out.2.2; omega
            have hL64 : s.l ≤ 64 := HR.out.2.2.2
            clear hb hold BR t1
            have c2 := QR.out.all.2.2.1
            by_cases hil : i < s.l.toNat
            · have t2 : decide ((i : Int) < s.l) = true := decide_eq_true (by omega)
              have ew : IntKind.i64.wrap ((i : Int) + 1) = ((i + 1 : Nat) : Int) := by rw [IntWalk.i64_in _ (by omega)]; omega
              have HT := Lib.hid (tickL16 wr QR.out.tb)
              go_wp2_with fail
              refine HT.out.mono ?_
              rintro e w4 ⟨rfl, ht4, hk4⟩
              have Q4 := Lib.hid (QR.out.step ht4 hk4 (fun i hi => by have := HZ2.out; omega))
              clear ht4 hk4 HT c2
              go_wp2_with fail
              refine ⟨⟨i + 1, _, rfl, by omega, HOLD.out.tick (L := s.l.toNat), Q4.out⟩, ?_⟩
              simp [intOf]
              omega
            · have t2 : decide ((i : Int) < s.l) = false := decide_eq_false (by omega)
              obtain rfl : i = s.l.toNat := by omega
              obtain rfl := HOLD.out.none QR.out.tb.tab
              have HK1 := Lib.hid (fun W (h : TbL16 (fun i => w2.heap.size ≤ i) W tb s.e.toNat s.b.toNat s.l.toNat []) => lenL16 W h)
              have HK2 := Lib.hid (fun W (h : TbL16 (fun i => w2.heap.size ≤ i) W tb s.e.toNat s.b.toNat s.l.toNat []) => bytesL16 W h)
              have HK3 := Lib.hid (fun W (h : TbL16 (fun i => w2.heap.size ≤ i) W tb s.e.toNat s.b.toNat s.l.toNat []) => openL16 W h)
              rw [show (([] : List E16).length) = 0 from rfl] at HK1
              rw [show bytes16 [] = 0 from rfl] at HK2
              rw [show open16 [] = 0 from rfl] at HK3
              unfold Tells at HK1 HK2 HK3
              clear hL hL64 hil HOLD
              go_wp2_with fail
              clear c2
              refine (HK1.out _ QR.out.tb).mono ?_
              rintro e w9 ⟨rfl, hb9⟩
              have R9 := Lib.hid (QR.out.below hb9)
              clear hb9 QR
              go_wp2_with fail
              refine (HK2.out _ R9.out.tb).mono ?_
              rintro e w10 ⟨rfl, hb10⟩
              have R10 := Lib.hid (R9.out.below hb10)
              clear hb10 R9
              go_wp2_with fail
              refine (HK3.out _ R10.out.tb).mono ?_
              rintro e w11 ⟨rfl, hb11⟩
              have R11 := Lib.hid (R10.out.below hb11)
              clear hb11 R10
              go_wp2_with fail
              go_ret
              exact ⟨rfl, R11.out.bel⟩
    · have B3 := Lib.hid (HB2.out.trans (hb3.mono HB2.out.size))
      clear hr hb3 HB2 HN c0 c1 c2
      go_wp2_with fail
      go_ret
      exact ⟨rfl, B3.out⟩

end Go.Proofs.Ytoijomdgcgbpbaa
