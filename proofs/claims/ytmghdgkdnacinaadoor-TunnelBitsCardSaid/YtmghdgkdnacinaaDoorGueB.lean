/-
  Get: the closure, and the call itself. (Written by wip/tools/gengueget.py.)
-/
import Derived.Test.YtmghdgkdnacinaaDoorGueA
import Derived.Test.YtmghdgkdnacinaaDoorUdpA
import Derived.Test.YtmghdgkdnacinaaDoorGround
import Derived.RegionTactic
import Derived.BigRegion
import Derived.Deep.RegionHeld3
namespace Go.Proofs.YtmghdgkdnacinaaDoor
open Go.RowKit
set_option linter.unusedVariables false
set_option linter.unusedSimpArgs false

/-- What the closure leaves. -/
def Got13At (src dst b : ByteArray) (H Y : Nat) (k : Int) (u : World) : Prop := k = (get13E src dst b : Nat) ∧ Blk u H (get13H src dst b).cells 73 ∧ Blk u Y #[.string (get13S src dst b)] 9

/-- While the closure goes on: the datagram's block and its sum's, the answer's. -/
structure Gw13 (u v : World) (R D O H Y : Nat) (d : D8) (n : Nat) (h : H13) : Prop where
  db : Blk v D d.cells 103
  ob : Blk v O #[.int .i64 (n : Nat)] 3
  hb : Blk v H h.cells 73
  yb : Blk v Y #[.string ⟨#[]⟩] 9
  kb : Kb (fun k => (k = H ∨ k = Y) ∨ k = R) u v
  dr : D ≠ R
  or : O ≠ R
  hr : H ≠ R
  yr : Y ≠ R
  dh : D ≠ H
  oh : O ≠ H
  dy : D ≠ Y
  oy : O ≠ Y
  hy : H ≠ Y
theorem Gw13.step {u v v' : World} {R D O H Y n : Nat} {d : D8} {h : H13} (g : Gw13 u v R D O H Y d n h) (hk : Kb (· = R) v v') : Gw13 u v' R D O H Y d n h :=
  ⟨g.db.kb hk g.dr, g.ob.kb hk g.or, g.hb.kb hk g.hr, g.yb.kb hk g.yr, g.kb.trans (hk.mono (fun k _ e => Or.inr e)), g.dr, g.or, g.hr, g.yr, g.dh, g.oh, g.dy, g.oy, g.hy⟩
theorem Gw13.drew {u v : World} {R D O H Y n : Nat} {d : D8} {h : H13} (g : Gw13 u v R D O H Y d n h) : Gw13 u v.drew R D O H Y d n h := g.step (Kb.refl _ v).drew
theorem Gw13.put {u v : World} {R D O H Y n : Nat} {d : D8} {h : H13} (g : Gw13 u v R D O H Y d n h) (k : H13) : Gw13 u ((v.setCell ⟨H, 0, none⟩ (.int .i64 k.port)).setCell ⟨H, 1, none⟩ (.bool k.sum)) R D O H Y d n k :=
  ⟨(g.db.set_other (p := ⟨H, 0, none⟩) g.dh _).set_other (p := ⟨H, 1, none⟩) g.dh _, (g.ob.set_other (p := ⟨H, 0, none⟩) g.oh _).set_other (p := ⟨H, 1, none⟩) g.oh _, (g.hb.set 0 (.int .i64 k.port)).set 1 (.bool k.sum),
    (g.yb.set_other (p := ⟨H, 0, none⟩) g.hy.symm _).set_other (p := ⟨H, 1, none⟩) g.hy.symm _, (g.kb.setCell (p := ⟨H, 0, none⟩) (fun _ => Or.inl (Or.inl rfl)) _).setCell (p := ⟨H, 1, none⟩) (fun _ => Or.inl (Or.inl rfl)) _,
    g.dr, g.or, g.hr, g.yr, g.dh, g.oh, g.dy, g.oy, g.hy⟩
theorem keepG13 {u v : World} {R D O H Y n : Nat} {d : D8} {h : H13} (g : Gw13 u v R D O H Y d n h) : v.cell? ⟨D, 0, none⟩ = some (.int .i64 d.src) ∧ v.cell? ⟨O, 0, none⟩ = some (.int .i64 (n : Nat)) := ⟨g.db.cell 0, g.ob.cell 0⟩
theorem Gw13.stop {u v : World} {R D O H Y n : Nat} {d : D8} {src dst b : ByteArray} {k : Nat} (g : Gw13 u v R D O H Y d n .zero) (h : get13E src dst b = k) (h0 : k ≠ 0) : DoKb (fun k => k = H ∨ k = Y) R u (Got13At src dst b H Y) (.panicked (stopped (k : Nat))) v := by
  subst h
  have ⟨e1, e2⟩ := get13_err h0
  exact ⟨Or.inr ⟨_, rfl, rfl, by rw [e1]; exact g.hb, by rw [e2]; exact g.yb⟩, g.kb⟩

set_option maxRecDepth 100000 in
set_option maxHeartbeats 4000000 in
theorem get131_any (R D O A B C H Y : Nat) (src dst b : ByteArray) (u : World) (hE : get8E b = 0) (hs : src.size ≤ 400000) (hd : dst.size ≤ 400000) (hz : b.size ≤ 900000) (hg : Vers u) (hr : Rd u R (b.extract 8 b.size) 0)
    (hA : Blk u A #[.string src] 9) (hB : Blk u B #[.string dst] 9) (hC : Blk u C #[.string b] 9) (g : Gw13 u u R D O H Y (dat8 b) (numOf b 6 2) .zero) (hgR : 0 ≠ R) :
    Calls Tryd.prog 58 #[.pointer (some ⟨R, 0, none⟩), .pointer (some ⟨D, 0, none⟩), .pointer (some ⟨O, 0, none⟩), .pointer (some ⟨A, 0, none⟩), .pointer (some ⟨B, 0, none⟩), .pointer (some ⟨C, 0, none⟩), .pointer (some ⟨H, 0, none⟩), .pointer (some ⟨Y, 0, none⟩)] u (DoKb (fun k => k = H ∨ k = Y) R u (Got13At src dst b H Y)) := by
  have HE : Hid (get13E src dst b = if numOf b 2 2 ≠ 6080 then 6 else if wrong13 src dst b = true then 5 else in13E (b.extract 8 b.size)) := by
    show get13E src dst b = _
    unfold get13E
    rw [if_neg (by omega)]
  have HSAY : Hid (say13 b = ⟨numOf b 0 2, decide (numOf b 6 2 ≠ 0)⟩) := rfl
  have HW : Hid (wrong13 src dst b = (decide (numOf b 6 2 ≠ 0) && decide (sumD (ph9 17 src dst b) ≠ 0))) := rfl
  have HPZ : Hid ((b.extract 8 b.size).size ≤ 1000000) := by show _ ≤ _; rw [ByteArray.size_extract]; omega
  have HIR := Lib.hid (fun W => isRight13_any src dst b W hs hd hz)
  have HOK := Lib.hid (fun h => get13_ok (src := src) (dst := dst) (b := b) h)
  have G0 := Lib.hid g
  have R0 := Lib.hid hr
  have V0 := Lib.hid hg
  have NR := Lib.hid hgR
  unfold Tells at HIR
  have c1 := g.db.cell 1
  have cO := g.ob.cell 0
  have cA := hA.cell 0
  have cB := hB.cell 0
  have cC := hC.cell 0
  simp only [D8.cells, List.getElem?_toArray, List.getElem?_cons_zero, List.getElem?_cons_succ] at c1 cO cA cB cC
  have e1 : (dat8 b).dst = (numOf b 2 2 : Nat) := rfl
  have HD0 : Hid ((dat8 b).src = (numOf b 0 2 : Nat)) := rfl
  rw [e1] at c1
  clear e1 hE hs hd hz hg hr hA hB hC g hgR
  generalize dat8 b = d at *
  generalize b.extract 8 b.size = p at *
  generalize numOf b 0 2 = m0 at *
  generalize numOf b 2 2 = m1 at *
  generalize numOf b 6 2 = m3 at *
  go_enter Tryd.func58, Tryd.ntmps58
  go_wp2_with fail
  by_cases h1 : m1 = 6080
  case neg =>
    refine (need_no _ _ _ _ (by simp; omega)).mono ?_
    rintro e w' ⟨rfl, rfl⟩
    exact ⟨rfl, G0.out.stop (k := 6) (HE.out.trans (if_pos h1)) (by decide)⟩
  have HE1 := Lib.hid (HE.out.trans (if_neg (fun h => h h1)))
  refine (need_yes _ _ _ _ (by simp; omega)).mono ?_
  rintro e w' ⟨rfl, rfl⟩
  clear HE h1 c1
  by_cases h3 : m3 = 0
  · have t3 : ((m3 : Int) == 0) = true := by simp; omega
    have HE2 : Hid (get13E src dst b = in13E p) := by
      show get13E src dst b = in13E p
      rw [HE1.out, HW.out, h3]; rfl
    have G := G0
    have RV := R0
    have VV := V0
    clear HW HE1 G0 R0 V0 h3
    go_wp2_with fail
    refine (need_yes _ _ _ _ rfl).mono ?_
    rintro e w' ⟨rfl, rfl⟩
    clear cO cA cB cC t3
    go_wp2_with fail
    have HP := Lib.hid (readPacket13_any R p u.drew RV.out.drew HPZ.out (VV.out.drewN 1) NR.out)
    have HQ : Hid (((m3 : Int) != 0) = decide (m3 ≠ 0)) := by
      show ((m3 : Int) != 0) = decide (m3 ≠ 0)
      by_cases h : m3 = 0 <;> simp [h]
    have HIN : Hid (in13 p = in13 p) := rfl
    have ⟨n0, n1⟩ := keepG13 G.out
    obtain ⟨c, hc⟩ : ∃ c, c = ((m3 : Int) != 0) := ⟨_, rfl⟩
    have hc' := hc.symm
    have HC := Lib.hid hc
    clear hc
    generalize in13E p = E at *
    refine wp_region_held_drew (S := (fun W => W.cell? ⟨D, 0, none⟩ = some (.int .i64 d.src) ∧ W.cell? ⟨O, 0, none⟩ = some (.int .i64 (m3 : Nat)))) (by kernel_rfl) ?_ (fun hHeld => ?_)
    · exact ⟨n0, n1⟩
    clear n0 n1
    have G2 : Hid (Gw13 u u.drew R D O H Y d m3 .zero) := Lib.hid G.out.drew
    clear G RV VV
    generalize u.drew = v2 at *
    refine takeH_yes (i := 0) (d := some 24) (v := ?v1) rfl rfl (by kernel_rfl) (by kernel_rfl) (by kernel_rfl) (fun _ _ _ h => h) (by rfl) ?y1 (by assumption) ?_
    case y1 => (intro w hSw; (try dsimp only at hSw); go_simp <;> with_reducible rfl)
    simp only [Act.put, List.setIfInBounds_toArray, List.set_cons_zero, List.set_cons_succ]
    refine takeH_yes (i := 1) (d := some 25) (v := ?v2) rfl rfl (by kernel_rfl) (by kernel_rfl) (by kernel_rfl) (fun _ _ _ h => h) (by rfl) ?y2 (by assumption) ?_
    case y2 => (intro w hSw; (try dsimp only at hSw); go_simp <;> with_reducible rfl)
    simp only [Act.put, List.setIfInBounds_toArray, List.set_cons_zero, List.set_cons_succ]
    refine takeH_yes (i := 2) (d := some 26) (v := ?v3) rfl rfl (by kernel_rfl) (by kernel_rfl) (by kernel_rfl) (fun _ _ _ h => h) (by rfl) ?y3 (by assumption) ?_
    case y3 => (intro w hSw; (try dsimp only at hSw); go_simp <;> with_reducible rfl)
    simp only [Act.put, List.setIfInBounds_toArray, List.set_cons_zero, List.set_cons_succ]
    refine takeH_yes (i := 3) (d := some 27) (v := ?v4) rfl rfl (by kernel_rfl) (by kernel_rfl) (by kernel_rfl) (fun _ _ _ h => h) (by rfl) ?y4 (by assumption) ?_
    case y4 => (intro w hSw; (try dsimp only at hSw); go_simp <;> with_reducible rfl)
    simp only [Act.put, List.setIfInBounds_toArray, List.set_cons_zero, List.set_cons_succ]
    refine takeH_yes (i := 4) (d := some 28) (v := ?v5) rfl rfl (by kernel_rfl) (by kernel_rfl) (by kernel_rfl) (fun _ _ _ h => h) (by rfl) ?y5 (by assumption) ?_
    case y5 => (intro w hSw; (try dsimp only at hSw); go_simp <;> with_reducible rfl)
    simp only [Act.put, List.setIfInBounds_toArray, List.set_cons_zero, List.set_cons_succ]
    refine takeH_yes (i := 5) (d := some 29) (v := ?v6) rfl rfl (by kernel_rfl) (by kernel_rfl) (by kernel_rfl) (fun _ _ _ h => h) (by rfl) ?y6 (by assumption) ?_
    case y6 => (intro w hSw; (try dsimp only at hSw); go_simp <;> with_reducible rfl)
    simp only [Act.put, List.setIfInBounds_toArray, List.set_cons_zero, List.set_cons_succ]
    refine wpAnyH_ready (rs := [6]) (by kernel_rfl) (by simp) ?_
    refine AllReadyH.cons rfl (fun K hK => ?_) AllReadyH.nil
    go_simp
    refine HP.out.mono ?_
    rintro e v3 ⟨k3, ⟨q3, rfl⟩ | ⟨q3, rfl⟩⟩
    case inr => exact ⟨rfl, (G2.out.step k3).stop HE2.out q3⟩
    have G3 := Lib.hid (G2.out.step k3)
    have Q3 := Lib.hid (HE2.out.trans q3)
    clear k3 q3 HP G2
    dsimp only
    refine hK.out _ _ ?_ (fun held6 => ?_)
    · exact keepG13 G3.out
    clear hK K
    try simp only [Act.put, List.setIfInBounds_toArray, List.set_cons_zero, List.set_cons_succ]
    have ⟨z0, z1⟩ := Hc13.of G3.out.hb
    simp only [H13.zero] at z0 z1
    have f0 := G3.out.hb.frozen 0
    have f1 := G3.out.hb.frozen 1
    refine wpAnyH_ready (rs := [7]) (by kernel_rfl) (by simp) ?_
    refine AllReadyH.cons rfl (fun K hK => ?_) AllReadyH.nil
    go_simp
    refine hK.out _ _ ?_ (fun held7 => ?_)
    · exact keepG13 (G3.out.put ⟨d.src, c⟩)
    clear hK K
    try simp only [Act.put, List.setIfInBounds_toArray, List.set_cons_zero, List.set_cons_succ]
    clear z0 z1 f0 f1
    have G4 := Lib.hid (G3.out.put ⟨d.src, c⟩)
    clear G3
    dsimp only at G4
    generalize (v3.setCell ⟨H, 0, none⟩ (.int .i64 d.src)).setCell ⟨H, 1, none⟩ (.bool c) = v4 at *
    have cY := G4.out.yb.cell 0
    have fY := G4.out.yb.frozen 0
    simp at cY
    have G5 := Lib.hid (G4.out.yb.set 0 (.string (in13 p)))
    have G6 := Lib.hid (G4.out.hb.set_other (p := ⟨Y, 0, none⟩) G4.out.hy (.string (in13 p)))
    have G7 := Lib.hid (G4.out.kb.setCell (p := ⟨Y, 0, none⟩) (fun _ => Or.inl (Or.inr rfl)) (.string (in13 p)))
    have G8 := Lib.hid (G4.out.db.set_other (p := ⟨Y, 0, none⟩) G4.out.dy (.string (in13 p)))
    have G9 := Lib.hid (G4.out.ob.set_other (p := ⟨Y, 0, none⟩) G4.out.oy (.string (in13 p)))
    refine wpAnyH_ready (rs := [8]) (by kernel_rfl) (by simp) ?_
    refine AllReadyH.cons rfl (fun K hK => ?_) AllReadyH.nil
    go_simp
    refine hK.out _ _ ?_ (fun held8 => ?_)
    · exact ⟨G8.out.cell 0, G9.out.cell 0⟩
    clear hK K
    try simp only [Act.put, List.setIfInBounds_toArray, List.set_cons_zero, List.set_cons_succ]
    refine wpAnyH_done (by kernel_rfl) ?_ _
    clear cY fY
    go_wp2_with fail
    go_end0
    have ⟨o1, o2⟩ := HOK.out Q3.out
    refine ⟨Or.inl ⟨rfl, by rw [Q3.out]; rfl, ?_, ?_⟩, G7.out⟩
    · rw [o1, HSAY.out, ← HD0.out, ← HQ.out, ← HC.out]; exact G6.out
    · rw [o2]; exact G5.out
  have t3 : ((m3 : Int) == 0) = false := by simp; omega
  have HW2 : Hid (wrong13 src dst b = decide (sumD (ph9 17 src dst b) ≠ 0)) := by
    show wrong13 src dst b = _
    rw [HW.out]; simp [h3]
  clear HW h3
  generalize ph9 17 src dst b = ph at *
  go_wp2_with fail
  refine (HIR.out u).mono ?_
  rintro e v ⟨rfl, hb⟩
  have kv : Kb (· = R) u v := ⟨hb.os, hb.tape, hb.output, hb.size, fun k hk _ => hb.block k hk⟩
  have G := Lib.hid (G0.out.step kv)
  have RV := Lib.hid (show Rd v R p 0 from (hb.block _ R0.out.lt).trans R0.out)
  have VV := Lib.hid (V0.out.on hb)
  clear kv hb HIR G0 R0 V0 cO cA cB cC t3
  by_cases h4 : sumD ph = 0
  case neg =>
    have HE2 : Hid (get13E src dst b = 5) := by
      show get13E src dst b = 5
      rw [HE1.out, HW2.out]; simp [h4]
    rw [decide_eq_false h4]
    clear h4
    go_wp2_with fail
    refine (need_no _ _ _ _ rfl).mono ?_
    rintro e w' ⟨rfl, rfl⟩
    exact ⟨rfl, G.out.stop (k := 5) HE2.out (by decide)⟩
  have HE2 : Hid (get13E src dst b = in13E p) := by
    show get13E src dst b = in13E p
    rw [HE1.out, HW2.out]; simp [h4]
  rw [decide_eq_true h4]
  clear h4 HW2 HE1
  go_wp2_with fail
  refine (need_yes _ _ _ _ rfl).mono ?_
  rintro e w' ⟨rfl, rfl⟩
  go_wp2_with fail
  have HP := Lib.hid (readPacket13_any R p v.drew RV.out.drew HPZ.out (VV.out.drewN 1) NR.out)
  have HQ : Hid (((m3 : Int) != 0) = decide (m3 ≠ 0)) := by
    show ((m3 : Int) != 0) = decide (m3 ≠ 0)
    by_cases h : m3 = 0 <;> simp [h]
  have HIN : Hid (in13 p = in13 p) := rfl
  have ⟨n0, n1⟩ := keepG13 G.out
  obtain ⟨c, hc⟩ : ∃ c, c = ((m3 : Int) != 0) := ⟨_, rfl⟩
  have hc' := hc.symm
  have HC := Lib.hid hc
  clear hc
  generalize in13E p = E at *
  refine wp_region_held_drew (S := (fun W => W.cell? ⟨D, 0, none⟩ = some (.int .i64 d.src) ∧ W.cell? ⟨O, 0, none⟩ = some (.int .i64 (m3 : Nat)))) (by kernel_rfl) ?_ (fun hHeld => ?_)
  · exact ⟨n0, n1⟩
  clear n0 n1
  have G2 : Hid (Gw13 u v.drew R D O H Y d m3 .zero) := Lib.hid G.out.drew
  clear G RV VV
  generalize v.drew = v2 at *
  refine takeH_yes (i := 0) (d := some 24) (v := ?v7) rfl rfl (by kernel_rfl) (by kernel_rfl) (by kernel_rfl) (fun _ _ _ h => h) (by rfl) ?y7 (by assumption) ?_
  case y7 => (intro w hSw; (try dsimp only at hSw); go_simp <;> with_reducible rfl)
  simp only [Act.put, List.setIfInBounds_toArray, List.set_cons_zero, List.set_cons_succ]
  refine takeH_yes (i := 1) (d := some 25) (v := ?v8) rfl rfl (by kernel_rfl) (by kernel_rfl) (by kernel_rfl) (fun _ _ _ h => h) (by rfl) ?y8 (by assumption) ?_
  case y8 => (intro w hSw; (try dsimp only at hSw); go_simp <;> with_reducible rfl)
  simp only [Act.put, List.setIfInBounds_toArray, List.set_cons_zero, List.set_cons_succ]
  refine takeH_yes (i := 2) (d := some 26) (v := ?v9) rfl rfl (by kernel_rfl) (by kernel_rfl) (by kernel_rfl) (fun _ _ _ h => h) (by rfl) ?y9 (by assumption) ?_
  case y9 => (intro w hSw; (try dsimp only at hSw); go_simp <;> with_reducible rfl)
  simp only [Act.put, List.setIfInBounds_toArray, List.set_cons_zero, List.set_cons_succ]
  refine takeH_yes (i := 3) (d := some 27) (v := ?v10) rfl rfl (by kernel_rfl) (by kernel_rfl) (by kernel_rfl) (fun _ _ _ h => h) (by rfl) ?y10 (by assumption) ?_
  case y10 => (intro w hSw; (try dsimp only at hSw); go_simp <;> with_reducible rfl)
  simp only [Act.put, List.setIfInBounds_toArray, List.set_cons_zero, List.set_cons_succ]
  refine takeH_yes (i := 4) (d := some 28) (v := ?v11) rfl rfl (by kernel_rfl) (by kernel_rfl) (by kernel_rfl) (fun _ _ _ h => h) (by rfl) ?y11 (by assumption) ?_
  case y11 => (intro w hSw; (try dsimp only at hSw); go_simp <;> with_reducible rfl)
  simp only [Act.put, List.setIfInBounds_toArray, List.set_cons_zero, List.set_cons_succ]
  refine takeH_yes (i := 5) (d := some 29) (v := ?v12) rfl rfl (by kernel_rfl) (by kernel_rfl) (by kernel_rfl) (fun _ _ _ h => h) (by rfl) ?y12 (by assumption) ?_
  case y12 => (intro w hSw; (try dsimp only at hSw); go_simp <;> with_reducible rfl)
  simp only [Act.put, List.setIfInBounds_toArray, List.set_cons_zero, List.set_cons_succ]
  refine wpAnyH_ready (rs := [6]) (by kernel_rfl) (by simp) ?_
  refine AllReadyH.cons rfl (fun K hK => ?_) AllReadyH.nil
  go_simp
  refine HP.out.mono ?_
  rintro e v3 ⟨k3, ⟨q3, rfl⟩ | ⟨q3, rfl⟩⟩
  case inr => exact ⟨rfl, (G2.out.step k3).stop HE2.out q3⟩
  have G3 := Lib.hid (G2.out.step k3)
  have Q3 := Lib.hid (HE2.out.trans q3)
  clear k3 q3 HP G2
  dsimp only
  refine hK.out _ _ ?_ (fun held6 => ?_)
  · exact keepG13 G3.out
  clear hK K
  try simp only [Act.put, List.setIfInBounds_toArray, List.set_cons_zero, List.set_cons_succ]
  have ⟨z0, z1⟩ := Hc13.of G3.out.hb
  simp only [H13.zero] at z0 z1
  have f0 := G3.out.hb.frozen 0
  have f1 := G3.out.hb.frozen 1
  refine wpAnyH_ready (rs := [7]) (by kernel_rfl) (by simp) ?_
  refine AllReadyH.cons rfl (fun K hK => ?_) AllReadyH.nil
  go_simp
  refine hK.out _ _ ?_ (fun held7 => ?_)
  · exact keepG13 (G3.out.put ⟨d.src, c⟩)
  clear hK K
  try simp only [Act.put, List.setIfInBounds_toArray, List.set_cons_zero, List.set_cons_succ]
  clear z0 z1 f0 f1
  have G4 := Lib.hid (G3.out.put ⟨d.src, c⟩)
  clear G3
  dsimp only at G4
  generalize (v3.setCell ⟨H, 0, none⟩ (.int .i64 d.src)).setCell ⟨H, 1, none⟩ (.bool c) = v4 at *
  have cY := G4.out.yb.cell 0
  have fY := G4.out.yb.frozen 0
  simp at cY
  have G5 := Lib.hid (G4.out.yb.set 0 (.string (in13 p)))
  have G6 := Lib.hid (G4.out.hb.set_other (p := ⟨Y, 0, none⟩) G4.out.hy (.string (in13 p)))
  have G7 := Lib.hid (G4.out.kb.setCell (p := ⟨Y, 0, none⟩) (fun _ => Or.inl (Or.inr rfl)) (.string (in13 p)))
  have G8 := Lib.hid (G4.out.db.set_other (p := ⟨Y, 0, none⟩) G4.out.dy (.string (in13 p)))
  have G9 := Lib.hid (G4.out.ob.set_other (p := ⟨Y, 0, none⟩) G4.out.oy (.string (in13 p)))
  refine wpAnyH_ready (rs := [8]) (by kernel_rfl) (by simp) ?_
  refine AllReadyH.cons rfl (fun K hK => ?_) AllReadyH.nil
  go_simp
  refine hK.out _ _ ?_ (fun held8 => ?_)
  · exact ⟨G8.out.cell 0, G9.out.cell 0⟩
  clear hK K
  try simp only [Act.put, List.setIfInBounds_toArray, List.set_cons_zero, List.set_cons_succ]
  refine wpAnyH_done (by kernel_rfl) ?_ _
  clear cY fY
  go_wp2_with fail
  go_end0
  have ⟨o1, o2⟩ := HOK.out Q3.out
  refine ⟨Or.inl ⟨rfl, by rw [Q3.out]; rfl, ?_, ?_⟩, G7.out⟩
  · rw [o1, HSAY.out, ← HD0.out, ← HQ.out, ← HC.out]; exact G6.out
  · rw [o2]; exact G5.out

end Go.Proofs.YtmghdgkdnacinaaDoor

/-
  Get: the call itself.
-/
namespace Go.Proofs.YtmghdgkdnacinaaDoor
open Go.RowKit
set_option linter.unusedVariables false
set_option linter.unusedSimpArgs false

theorem call13get (args : Array Value) (u : World) : (callFunc 58 args).run Tryd.prog u = .ok (.enter 58 args) u := by kernel_rfl

/-- Four blocks made one behind the other. -/
structure Blks4 (w u : World) (x0 x1 x2 x3 : Array Value) (t0 t1 t2 t3 : TypeId) : Prop where
  b0 : Blk u w.heap.size x0 t0
  b1 : Blk u (w.heap.size + 1) x1 t1
  b2 : Blk u (w.heap.size + 1 + 1) x2 t2
  b3 : Blk u (w.heap.size + 1 + 1 + 1) x3 t3
  bel : Below w.heap.size w u
  size : w.heap.size + 4 ≤ u.heap.size
theorem Blks4.new (w : World) (x0 x1 x2 x3 : Array Value) (t0 t1 t2 t3 : TypeId) : Blks4 w ((((w.alloc (.cells x0 t0)).alloc (.cells x1 t1)).alloc (.cells x2 t2)).alloc (.cells x3 t3)) x0 x1 x2 x3 t0 t1 t2 t3 := by
  have e1 := Blk.new w x0 t0
  have b1 : Below w.heap.size w (w.alloc (.cells x0 t0)) := (Below.refl _ _).alloc (Nat.le_refl _) _
  have s1 : (w.alloc (.cells x0 t0)).heap.size = w.heap.size + 1 := by simp
  generalize w.alloc (.cells x0 t0) = w1 at *
  have e2 := Blk.new w1 x1 t1
  have b2 : Below w.heap.size w (w1.alloc (.cells x1 t1)) := b1.alloc (by omega) _
  have s2 : (w1.alloc (.cells x1 t1)).heap.size = w.heap.size + 1 + 1 := by simp; omega
  have e1' := e1.alloc (.cells x1 t1)
  generalize w1.alloc (.cells x1 t1) = w2 at *
  have e3 := Blk.new w2 x2 t2
  have b3 : Below w.heap.size w (w2.alloc (.cells x2 t2)) := b2.alloc (by omega) _
  have s3 : (w2.alloc (.cells x2 t2)).heap.size = w.heap.size + 1 + 1 + 1 := by simp; omega
  have e1'' := e1'.alloc (.cells x2 t2)
  have e2' := e2.alloc (.cells x2 t2)
  generalize w2.alloc (.cells x2 t2) = w3 at *
  have e4 := Blk.new w3 x3 t3
  rw [s1] at e2'
  rw [s2] at e3
  rw [s3] at e4
  exact ⟨e1''.alloc _, e2'.alloc _, e3.alloc _, e4, b3.alloc (by omega) _, by simp; omega⟩
theorem Blks4.below {w u u' : World} {x0 x1 x2 x3 : Array Value} {t0 t1 t2 t3 : TypeId} (h : Blks4 w u x0 x1 x2 x3 t0 t1 t2 t3) (hb : Below u.heap.size u u') : Blks4 w u' x0 x1 x2 x3 t0 t1 t2 t3 :=
  ⟨(hb.block _ h.b0.lt).trans h.b0, (hb.block _ h.b1.lt).trans h.b1, (hb.block _ h.b2.lt).trans h.b2, (hb.block _ h.b3.lt).trans h.b3, h.bel.trans (hb.mono h.bel.size), by have := hb.size; have := h.size; omega⟩

/-- A head stored into a block, cell by cell. -/
def put13c (v : World) (N : Nat) (h : H13) : World := (v.setCell ⟨N, 0, none⟩ (.int .i64 h.port)).setCell ⟨N, 1, none⟩ (.bool h.sum)
theorem put13c_blk {v : World} {N : Nat} {g : H13} {T : TypeId} (hb : Blk v N g.cells T) (h : H13) : Blk (put13c v N h) N h.cells T :=
  (hb.set 0 (.int .i64 h.port)).set 1 (.bool h.sum)
theorem put13c_below {v : World} {N B : Nat} {a : World} (hb : Below B a v) (hN : B ≤ N) (h : H13) : Below B a (put13c v N h) := (hb.setCell (p := ⟨N, 0, none⟩) hN _).setCell (p := ⟨N, 1, none⟩) hN _

set_option maxRecDepth 100000 in
set_option maxHeartbeats 2000000 in
theorem get13_any (src dst b : ByteArray) (w : World) (hv : Vers w) (hs : src.size ≤ 400000) (hd : dst.size ≤ 400000) (hz : b.size ≤ 900000) :
    Calls Tryd.prog 35 #[.string src, .string dst, .string b] w (Tells (.tuple #[.agg (get13H src dst b).cells, .string (get13S src dst b), .int .i64 (get13E src dst b : Nat)]) w) := by
  have hmf : ∀ (fn : Fn) (first cap : Array Value) (w : World), (Instr.makeFunc fn first cap).run Tryd.prog w = .ok (.func fn first cap) w := fun _ _ _ _ => rfl
  have HU := Lib.hid (fun W => get8_any b W (by omega))
  have B0 := Lib.hid (Blks4.new w #[.string src] #[.string dst] #[.string b] H13.zero.cells 9 9 9 73)
  have V0 := Lib.hid (hv.on B0.out.bel)
  have HVL := Lib.hid hv.lt
  have HS := Lib.hid hs
  have HDs := Lib.hid hd
  have HZ := Lib.hid hz
  clear hv hs hd hz
  unfold Get8End at HU
  unfold Tells
  unfold D8.cells at HU
  go_enter Tryd.func35, Tryd.ntmps35
  go_wp2_with fail
  simp only [show #[Value.int IntKind.i64 0, Value.bool false] = H13.zero.cells from rfl]
  generalize (((w.alloc (.cells #[.string src] 9)).alloc (.cells #[.string dst] 9)).alloc (.cells #[.string b] 9)).alloc (.cells H13.zero.cells 73) = u0 at *
  refine (HU.out u0).mono ?_
  rintro e u1 ⟨rfl, hb⟩
  have B1 := Lib.hid (B0.out.below hb)
  have V1 := Lib.hid (V0.out.on hb)
  clear hb B0 V0 HU
  by_cases h1 : get8E b = 0
  case neg =>
    have HE : Hid (get13E src dst b = get8E b) := by
      show get13E src dst b = get8E b
      unfold get13E
      rw [if_pos h1]
    have HGG := Lib.hid (get13_err (src := src) (dst := dst) (b := b) (by rw [HE.out]; exact h1))
    have t1 : ((get8E b : Int) != 0) = true := by simp; omega
    clear h1
    obtain ⟨cs, hcs⟩ : ∃ cs : Array Value, cs = #[.int .i64 (get8H b).src, .int .i64 (get8H b).dst, .string (get8H b).pay] := ⟨_, rfl⟩
    have zb := (B1.out.b3.alloc (.cells cs 103)).alloc (.cells #[.int .i64 (get8N b : Nat)] 3)
    have bl := ((B1.out.bel.alloc B1.out.bel.size (.cells cs 103))).alloc (by have := B1.out.bel.size; simp; omega) (.cells #[.int .i64 (get8N b : Nat)] 3)
    subst hcs
    have ⟨z0, z1⟩ := Hc13.of zb
    simp only [H13.zero] at z0 z1
    have f0 := zb.frozen 0
    have f1 := zb.frozen 1
    have ZB := Lib.hid (put13c_blk zb H13.zero)
    have BL := Lib.hid (put13c_below bl (show w.heap.size ≤ w.heap.size + 1 + 1 + 1 by omega) H13.zero)
    clear zb bl
    unfold put13c H13.zero at ZB BL
    simp only at ZB BL
    go_wp2_with fail
    have ⟨c0, c1⟩ := Hc13.of ZB.out
    refine ⟨rfl, .tuple #[.agg H13.zero.cells, .string ⟨#[]⟩, .int .i64 (get8E b : Nat)], ?_, by rw [HGG.out.1, HGG.out.2, HE.out], BL.out⟩
    unfold H13.zero H13.cells
    simp [results, Tryd.results35, go_sem, c0, c1]
  have t1 : ((get8E b : Int) != 0) = false := by simp; omega
  have ⟨g1, g2⟩ := get8_ok h1
  rw [g1, g2]
  have HE := Lib.hid h1
  clear h1 g1 g2
  have B2 := Lib.hid (Blks4.new u1 (dat8 b).cells #[.int .i64 (numOf b 6 2 : Nat)] H13.zero.cells #[.string ⟨#[]⟩] 103 3 73 9)
  have B3 := Lib.hid (B1.out.below B2.out.bel)
  have V3 := Lib.hid (V1.out.on B2.out.bel)
  have HP : Hid ((dat8 b).pay = b.extract 8 b.size) := rfl
  go_wp2_with fail
  simp only [show #[Value.int IntKind.i64 0, Value.bool false] = H13.zero.cells from rfl, show #[Value.int IntKind.i64 (dat8 b).src, Value.int IntKind.i64 (dat8 b).dst, Value.string (dat8 b).pay] = (dat8 b).cells from rfl]
  rw [HP.out]
  generalize (((u1.alloc (.cells (dat8 b).cells 103)).alloc (.cells #[.int .i64 (numOf b 6 2 : Nat)] 3)).alloc (.cells H13.zero.cells 73)).alloc (.cells #[.string ⟨#[]⟩] 9) = u2 at *
  obtain ⟨N, hN⟩ : ∃ N, N = u1.heap.size := ⟨_, rfl⟩
  have HN : Hid (w.heap.size + 4 ≤ N) := by have := B1.out.size; show w.heap.size + 4 ≤ N; omega
  have HL : Hid (N + 4 ≤ u2.heap.size) := by have := B2.out.size; show N + 4 ≤ u2.heap.size; omega
  obtain ⟨d0, d1, d2, d3, _, _⟩ := B2.out
  rw [← hN] at d0 d1 d2 d3
  have D0 := Lib.hid d0
  have D1 := Lib.hid d1
  have D2 := Lib.hid d2
  have D3 := Lib.hid d3
  simp only [← hN]
  clear hN B2 V1 B1 d0 d1 d2 d3 HP
  have hH : N + 1 + 1 ≠ N + 1 + 1 + 1 := by omega
  have RD := read_kb (b.extract 8 b.size) 58 #[.pointer (some ⟨N, 0, none⟩), .pointer (some ⟨N + 1, 0, none⟩), .pointer (some ⟨w.heap.size, 0, none⟩), .pointer (some ⟨w.heap.size + 1, 0, none⟩), .pointer (some ⟨w.heap.size + 1 + 1, 0, none⟩), .pointer (some ⟨N + 1 + 1, 0, none⟩), .pointer (some ⟨N + 1 + 1 + 1, 0, none⟩)] u2 (fun k => k = N + 1 + 1 ∨ k = N + 1 + 1 + 1) (Got13At src dst b (N + 1 + 1) (N + 1 + 1 + 1))
    (fun k hk => by have := HL.out; omega) (fun args u => call13get args u) (fun R u hr hR hk => get131_any R N (N + 1) w.heap.size (w.heap.size + 1) (w.heap.size + 1 + 1) (N + 1 + 1) (N + 1 + 1 + 1) src dst b u HE.out HS.out HDs.out HZ.out (V3.out.kb hk (fun f => f)) hr
      (B3.out.b0.kb hk (fun f => f)) (B3.out.b1.kb hk (fun f => f)) (B3.out.b2.kb hk (fun f => f))
      (by have := HL.out; exact ⟨D0.out.kb hk (fun f => f), D1.out.kb hk (fun f => f), D2.out.kb hk (fun f => f), D3.out.kb hk (fun f => f), Kb.refl _ _, by omega, by omega, by omega, by omega, by omega, by omega, by omega, by omega, by omega⟩)
      (by have := HVL.out; have := B3.out.size; omega))
  refine RD.mono ?_
  rintro e w2 ⟨k, w1, rfl, ⟨rfl, hb1, hy1⟩, hk1, hk2⟩
  have hl := HL.out
  have hn := HN.out
  have H2 := Lib.hid (hb1.kb hk2 (by omega))
  have Y2 := Lib.hid (hy1.kb hk2 (by omega))
  have Z2 := Lib.hid ((B3.out.b3.kb hk1 (by omega)).kb hk2 (by omega))
  have L2 : Hid (Below w.heap.size w w2) := by
    show Below w.heap.size w w2
    have hb := B3.out.bel
    exact ⟨hk2.os.trans (hk1.os.trans hb.os), hk2.tape.trans (hk1.tape.trans hb.tape), hk2.output.trans (hk1.output.trans hb.output), Nat.le_trans hb.size (Nat.le_trans hk1.size hk2.size), fun k hk =>
      (hk2.block k (by have := hk1.size; omega) (by omega)).trans ((hk1.block k (by omega) (by omega)).trans (hb.block k hk))⟩
  clear hb1 hy1 hk1 hk2 RD B3 V3 HL HN hl hH hmf HVL D0 D1 D2 D3 HE t1
  have ⟨c0, c1⟩ := Hc13.of H2.out
  have cY := Y2.out.cell 0
  simp at cY
  have ⟨z0, z1⟩ := Hc13.of Z2.out
  simp only [H13.zero] at z0 z1
  have f0 := Z2.out.frozen 0
  have f1 := Z2.out.frozen 1
  have ne1 : ¬ N = w.heap.size := by omega
  have ne2 : ¬ w.heap.size = N := by omega
  generalize hgh : get13H src dst b = h at *
  have HGH := Lib.hid hgh
  clear hgh
  go_wp2_with fail
  go_region
  clear c0 c1 cY z0 z1 f0 f1
  go_wp2_with fail
  have C3 := (put13c_blk Z2.out h).drew
  have L3 := below_drewN (put13c_below L2.out (show w.heap.size ≤ w.heap.size + 1 + 1 + 1 by omega) h) 1
  clear Z2 Y2 H2 L2
  unfold put13c at C3 L3
  have ⟨c0, c1⟩ := Hc13.of C3
  refine ⟨rfl, .tuple #[.agg h.cells, .string (get13S src dst b), .int .i64 (get13E src dst b : Nat)], ?_, by rw [HGH.out], L3⟩
  unfold H13.cells
  simp [results, Tryd.results35, go_sem, c0, c1]

end Go.Proofs.YtmghdgkdnacinaaDoor
