/-
  ReasmApart returns true at every input.
-/
import Derived.Test.YtoijomdgcgbpbaaReasmMix
import Derived.Test.YtoijomdgcgbpbaaOpenBools
import Derived.Deep.QuietTactic
import Derived.BigQuiet
namespace Go.Proofs.Ytoijomdgcgbpbaa
open Go.RowKit Go.Shelf
set_option linter.unusedVariables false

/-- The same header with another number. -/
def H4.with16 (h : H4) (k : Int) : H4 := { h with id := k }

set_option maxRecDepth 100000 in
set_option maxHeartbeats 4000000 in
theorem apart16_any (h : H4) (pa pb : ByteArray) (ot : Int) (m : Int) (oa : Option Addr) (on oc : Nat) (C : Nat → Bool) (w : World) (hp : pa.size ≤ 140737488355328) (hq : pb.size ≤ 140737488355328) (hot : 0 ≤ ot ∧ ot ≤ 65535) (ho : BoolsAt w w.heap.size oa on C) (hon : on ≤ 140737488355328) :
    Calls Try.prog 6 #[.agg h.cells, .string pa, .string pb, .int .u16 ot, .int .i64 m, .slice oa on oc] w (AwakeEnd w) := by
  have HO := Lib.hid ho
  clear ho
  have HA := Lib.hid (awake16_any (w.alloc (.cells h.cells 43)))
  have H1 := Lib.hid (fun W => refput_any h.bare16 pa W hp)
  have H2 := Lib.hid (fun W => refput_any (h.bare16.with16 ot) pb W hq)
  unfold AwakeEnd at HA
  have S1 := Lib.hid (Held.new w h)
  have PT := Lib.hid (put_cases h.bare16 pa)
  have QT := Lib.hid (put_cases (h.bare16.with16 ot) pb)
  have HC := Lib.hid (fun (x : ByteArray) (hx : x.size ≤ 65535) W => cut_any x m W (by omega))
  unfold CutEnd at HC
  have HB0 : Hid (h.bare16.off = 0 ∧ h.bare16.mf = false ∧ (h.bare16.with16 ot).off = 0 ∧ (h.bare16.with16 ot).mf = false) := ⟨rfl, rfl, rfl, rfl⟩
  generalize hP : putS h.bare16 pa = P at *
  generalize hE : putE h.bare16 pa = E at *
  generalize hQ : putS (h.bare16.with16 ot) pb = Q at *
  generalize hF : putE (h.bare16.with16 ot) pb = F at *
  have HPE := Lib.hid (And.intro hP hQ)
  clear hP hE hQ hF
  obtain ⟨w0, hw0⟩ : ∃ w0, w0 = w.alloc (.cells h.cells 43) := ⟨_, rfl⟩
  rw [← hw0] at HA S1
  unfold H4.cells at hw0 H1 H2 ⊢
  dsimp only [H4.bare16, H4.with16] at H1 H2
  go_enter Try.func6, Try.ntmps6
  go_wp2_with fail
  simp only [← hw0]
  clear hw0
  refine HA.out.mono ?_
  rintro e w1 ⟨rfl, hb1⟩
  have S2 := Lib.hid (S1.out.below hb1)
  clear hb1 S1 HA
  have ⟨c0, c1, c2, c3, c4, c5, c6, c7, c8, c9⟩ := Hc.of S2.out.b
  have hsides : (5000 < pa.size ∨ 5000 < pb.size ∨ 1000 < on ∨ ot = h.id) ∨ (¬ 5000 < pa.size ∧ ¬ 5000 < pb.size ∧ ¬ 1000 < on ∧ ¬ ot = h.id) := by omega
  rcases hsides with hs | ⟨h1, h2, h3, h4⟩
  case inl =>
    have hs' : decide ((5000 : Int) < (pa.size : Int)) = true ∨ (decide ((5000 : Int) < (pa.size : Int)) = false ∧ decide ((5000 : Int) < (pb.size : Int)) = true) ∨ (decide ((5000 : Int) < (pa.size : Int)) = false ∧ decide ((5000 : Int) < (pb.size : Int)) = false ∧ decide ((1000 : Int) < (on : Int)) = true) ∨ (decide ((5000 : Int) < (pa.size : Int)) = false ∧ decide ((5000 : Int) < (pb.size : Int)) = false ∧ decide ((1000 : Int) < (on : Int)) = false ∧ (ot == h.id) = true) := by
      simp only [decide_eq_true_eq, decide_eq_false_iff_not, beq_iff_eq]
      omega
    clear hs
    rcases hs' with t1 | ⟨t1, t2⟩ | ⟨t1, t2, t3⟩ | ⟨t1, t2, t3, t4⟩
    all_goals
      go_wp2_with fail
      go_ret
      exact ⟨rfl, S2.out.bel⟩
  have t1 : decide ((5000 : Int) < (pa.size : Int)) = false := decide_eq_false (by omega)
  have t2 : decide ((5000 : Int) < (pb.size : Int)) = false := decide_eq_false (by omega)
  have t3 : decide ((1000 : Int) < (on : Int)) = false := decide_eq_false (by omega)
  have t4 : (ot == h.id) = false := beq_false_of_ne h4
  have f2 := S2.out.b.frozen 2
  have f5 := S2.out.b.frozen 5
  have f6 := S2.out.b.frozen 6
  go_upto_region 7 with (fail)
  have S3 := Lib.hid (S2.out.bare16.alloc (.cells h.bare16.cells 43))
  have NK := Blk.new (((w1.setCell ⟨w.heap.size, 2, none⟩ (.int .i64 0)).setCell ⟨w.heap.size, 6, none⟩ (.bool false)).setCell ⟨w.heap.size, 5, none⟩ (.bool false)) h.bare16.cells 43
  rw [show (((w1.setCell ⟨w.heap.size, 2, none⟩ (.int .i64 0)).setCell ⟨w.heap.size, 6, none⟩ (.bool false)).setCell ⟨w.heap.size, 5, none⟩ (.bool false)).heap.size = w1.heap.size by simp [World.setCell]] at NK
  replace NK := Lib.hid NK
  have hlt := Lib.hid S2.out.lt
  unfold H4.cells at S3 NK
  dsimp only [H4.bare16] at S3 NK
  clear c0 c1 c2 c3 c4 c5 c6 c7 c8 c9 f2 f5 f6 S2 t1 t2 t3 t4
  generalize (((w1.setCell ⟨w.heap.size, 2, none⟩ (.int .i64 0)).setCell ⟨w.heap.size, 6, none⟩ (.bool false)).setCell ⟨w.heap.size, 5, none⟩ (.bool false)).alloc (.cells #[.int .i64 h.tos, .int .i64 h.id, .int .i64 0, .int .i64 h.ttl, .int .i64 h.proto, .bool false, .bool false, .string h.src, .string h.dst, .string h.opt] 43) = w2 at *
  generalize w1.heap.size = kb at *
  have f1 := NK.out.frozen 1
  have g1 := NK.out.cell 1
  simp only [List.getElem?_toArray, List.getElem?_cons_zero, List.getElem?_cons_succ] at g1
  have NK3 := Lib.hid (Blk.set (b := kb) NK.out 1 (.int .i64 ot))
  have S3c : Held w w2 h.bare16 := S3.out
  have S3' : Hid (Held w (w2.setCell ⟨kb, 1, none⟩ (.int .i64 ot)) h.bare16) := ⟨Blk.set_other S3c.b (p := ⟨kb, 1, none⟩) (by have := hlt.out; show w.heap.size ≠ kb; omega) _, S3c.bel.setCell (p := ⟨kb, 1, none⟩) (Nat.le_of_lt hlt.out) _, by simpa [World.setCell] using S3c.lt⟩
  have ⟨c0, c1, c2, c3, c4, c5, c6, c7, c8, c9⟩ := Hc.of S3'.out.b
  dsimp only [H4.bare16] at c0 c1 c2 c3 c4 c5 c6 c7 c8 c9
  clear S3 S3c NK hlt
  go_wp2_with fail
  clear c0 c1 c2 c3 c4 c5 c6 c7 c8 c9 f1 g1
  generalize w2.setCell ⟨kb, 1, none⟩ (.int .i64 ot) = w3 at *
  have BL3 := Lib.hid S3'.out.bel
  clear S3'
  refine (H1.out _).mono ?_
  rintro e w4 ⟨rfl, hb4⟩
  have B4 := Lib.hid (BL3.out.trans (hb4.mono BL3.out.size))
  have NK4 := Lib.hid ((hb4.block _ NK3.out.lt).trans NK3.out)
  clear hb4 BL3 NK3 H1
  have d0 := Blk.cell NK4.out 0
  have d1 := Blk.cell NK4.out 1
  have d2 := Blk.cell NK4.out 2
  have d3 := Blk.cell NK4.out 3
  have d4 := Blk.cell NK4.out 4
  have d5 := Blk.cell NK4.out 5
  have d6 := Blk.cell NK4.out 6
  have d7 := Blk.cell NK4.out 7
  have d8 := Blk.cell NK4.out 8
  have d9 := Blk.cell NK4.out 9
  simp only [List.setIfInBounds_toArray, List.set_cons_zero, List.set_cons_succ, List.getElem?_toArray, List.getElem?_cons_zero, List.getElem?_cons_succ] at d0 d1 d2 d3 d4 d5 d6 d7 d8 d9
  go_wp2_with fail
  clear d0 d1 d2 d3 d4 d5 d6 d7 d8 d9 NK4
  refine (H2.out _).mono ?_
  rintro e w5 ⟨rfl, hb5⟩
  have B5 := Lib.hid (B4.out.trans (hb5.mono B4.out.size))
  clear hb5 B4 H2
  have HKEY : Hid (h.bare16.key ≠ (h.bare16.with16 ot).key) := fun e => h4 (congrArg K16.id e).symm
  generalize h.bare16.with16 ot = HQ at *
  generalize h.bare16 = HP at *
  rcases PT.out with ⟨rfl, hsp⟩ | ⟨hE, rfl⟩
  case inr =>
    have t3 : ((E : Int) != 0) = true := by simp; omega
    go_wp2_with fail
    go_ret
    exact ⟨rfl, B5.out⟩
  rcases QT.out with ⟨rfl, hsq⟩ | ⟨hF, rfl⟩
  case inr =>
    have t3 : ((F : Int) != 0) = true := by simp; omega
    go_wp2_with fail
    go_ret
    exact ⟨rfl, B5.out⟩
  have SP := Lib.hid hsp
  have SQ := Lib.hid hsq
  have hC1 := Lib.hid (HC.out P (by rw [hsp.size]; exact hsp.fit))
  have hC2 := Lib.hid (HC.out Q (by rw [hsq.size]; exact hsq.fit))
  clear hsp hsq PT QT HC h1 h2 h3 h4
  go_wp2_with fail
  refine (hC1.out _).mono ?_
  rintro e w6 ⟨hb6, u1, rfl, hu1⟩
  have B6 := Lib.hid (B5.out.trans (hb6.mono B5.out.size))
  have U1 := Lib.hid hu1
  clear hb6 hu1 hC1 B5
  go_wp2_with fail
  refine (hC2.out _).mono ?_
  rintro e w7 ⟨hb7, u2, rfl, hu2⟩
  have B7 := Lib.hid (B6.out.trans (hb7.mono B6.out.size))
  have V1 := Lib.hid (U1.out.below hb7)
  have V2 := Lib.hid hu2
  clear hb7 hu2 hC2 B6 U1
  by_cases hE : cutE P m = 0
  case neg =>
    have t3 : (((cutE P m : Nat) : Int) != 0) = true := by simp; omega
    go_wp2_with fail
    go_ret
    exact ⟨rfl, B7.out⟩
  by_cases hF : cutE Q m = 0
  case neg =>
    have t3 : (((cutE P m : Nat) : Int) != 0) = false := by simp; omega
    have t4 : (((cutE Q m : Nat) : Int) != 0) = true := by simp; omega
    go_wp2_with fail
    go_ret
    exact ⟨rfl, B7.out⟩
  obtain ⟨p1, X1, s1⟩ := side16 SP.out HPE.out.1.symm HB0.out.1 HB0.out.2.1 hE
  obtain ⟨p2, X2, s2⟩ := side16 SQ.out HPE.out.2.symm HB0.out.2.2.1 HB0.out.2.2.2 hF
  have N1 := Lib.hid (cutL_length P m (by rw [SP.out.size]; have := SP.out.fit; omega))
  have N2 := Lib.hid (cutL_length Q m (by rw [SQ.out.size]; have := SQ.out.fit; omega))
  rw [hE, hF]
  have R1 := Lib.hid s1
  have R2 := Lib.hid s2
  clear SP SQ HPE HB0 hE hF s1 s2
  generalize cutL P m = T1 at *
  generalize cutL Q m = T2 at *
  obtain ⟨v1, g1, rfl, hv1, hc1, hr1⟩ := V1.out.full (by intro e; have := R1.out.some; rw [e] at this; exact absurd this (by decide))
  obtain ⟨v2, g2, rfl, hv2, hc2, hr2⟩ := V2.out.full (by intro e; have := R2.out.some; rw [e] at this; exact absurd this (by decide))
  have VC := Lib.hid (And.intro (And.intro hv1 hv2) (And.intro hc1 hc2))
  clear V1 V2 hv1 hv2 hc1 hc2
  have HRO := Lib.hid (fun W => roomy16_any W)
  have HN := Lib.hid (fun W => newL16 ⟨64, 1048576, 64⟩ W)
  unfold S16.cells at HRO HN
  dsimp only at HRO HN
  go_wp2_with fail
  refine (HRO.out _).mono ?_
  rintro e w8 ⟨rfl, hb8⟩
  have B8 := Lib.hid (B7.out.trans (hb8.mono B7.out.size))
  have VC8 : Hid ((v1 < w8.heap.size ∧ v2 < w8.heap.size) ∧ (∀ (i : Nat) (h : i < T1.length), w8.cell? ⟨v1, i, none⟩ = some (.string (T1[i]'h))) ∧ (∀ (i : Nat) (h : i < T2.length), w8.cell? ⟨v2, i, none⟩ = some (.string (T2[i]'h)))) :=
    ⟨⟨Nat.lt_of_lt_of_le VC.out.1.1 hb8.size, Nat.lt_of_lt_of_le VC.out.1.2 hb8.size⟩, fun i h => (hb8.cell (p := ⟨v1, i, none⟩) VC.out.1.1).trans (VC.out.2.1 i h), fun i h => (hb8.cell (p := ⟨v2, i, none⟩) VC.out.1.2).trans (VC.out.2.2 i h)⟩
  clear hb8 HRO VC B7
  go_wp2_with fail
  refine (HN.out _).mono ?_
  rintro e w9 hn
  rcases hn with ⟨_, tb, rfl, ht, hb9⟩ | ⟨hr, _⟩
  case inr => exact absurd roomy16_right hr
  have A9 : Hid (Apa16 w w8 tb v1 v2 T1 T2 w9 [] (.slice none 0 0) []) :=
    ⟨⟨_, ht, fun i hi => hi, fun g e => by cases e⟩, ⟨rfl, Or.inl ⟨rfl, rfl⟩⟩, B8.out.trans (hb9.mono B8.out.size), hb9.size, fun i h => (hb9.cell (p := ⟨v1, i, none⟩) VC8.out.1.1).trans (VC8.out.2.1 i h), fun i h => (hb9.cell (p := ⟨v2, i, none⟩) VC8.out.1.2).trans (VC8.out.2.2 i h), B8.out.size, VC8.out.1.1, VC8.out.1.2⟩
  clear ht hb9 HN VC8 B8
  go_wp2_with fail
  go_loopw [18, 20, 24, 25] (fun x y z u wr => ∃ (i j : Nat) (l : List E16) (ts : List ByteArray), Left16 v1 T1.length i x ∧ Left16 v2 T2.length j y ∧ u = .int .i64 ((i : Int) + (j : Int)) ∧ i ≤ T1.length ∧ j ≤ T2.length ∧ Mix16 HP.key HQ.key T1 T2 p1 p2 X1 X2 i j l ∧ Done16 P Q T1.length T2.length i j ts ∧ Apa16 w w8 tb v1 v2 T1 T2 wr l z ts) (fun x y _ _ _ => lenOf x + lenOf y)
  case atStart => exact ⟨0, 0, [], [], ⟨_, _, rfl, fun _ => ⟨rfl, hr1⟩⟩, ⟨_, _, rfl, fun _ => ⟨rfl, hr2⟩⟩, rfl, Nat.zero_le _, Nat.zero_le _, Mix16.start R1.out R2.out, Or.inl ⟨R1.out.some, R2.out.some, rfl⟩, A9.out⟩
  case round =>
    obtain ⟨i, j, l, ts, ⟨a1, c1, rfl, hl1⟩, ⟨a2, c2, rfl, hl2⟩, rfl, hi, hj, hmix, hdone, hap⟩ := hrel
    have AP := Lib.hid hap
    have MX := Lib.hid hmix
    have DN := Lib.hid hdone
    have HL1 := Lib.hid hl1
    have HL2 := Lib.hid hl2
    clear hap hmix hdone hl1 hl2 A9
    have ew : IntKind.i64.wrap ((i : Int) + (j : Int) + 1) = (i : Int) + (j : Int) + 1 := by have := N1.out; have := N2.out; exact IntWalk.i64_in _ (by omega)
    have HCO := Lib.hid (fun (n : Nat) (hn : n < on) => show ∃ ob off, oa = some ⟨ob, off, none⟩ ∧ wr.cell? ⟨ob, off + n, none⟩ = some (.bool (C n)) from by
      rcases HO.out.below AP.out.bel with h | ⟨ob, off, e, _, hc⟩
      · omega
      · exact ⟨ob, off, e, hc n hn⟩)
    have hway : (¬ i < T1.length ∧ ¬ j < T2.length) ∨ (i < T1.length ∧ (¬ j < T2.length ∨ (j < T2.length ∧ i + j < on ∧ C (i + j) = true))) ∨ (j < T2.length ∧ (¬ i < T1.length ∨ (i < T1.length ∧ ¬ i + j < on) ∨ (i < T1.length ∧ i + j < on ∧ C (i + j) = false))) := by
      cases C (i + j) <;> simp only [Bool.false_eq_true, and_false, or_false, and_true] <;> omega
    rcases hway with ⟨e1, e2⟩ | ⟨hi1, hcs⟩ | ⟨hi1, hcs⟩
    case inl =>
      obtain ⟨hz1, hz2⟩ : T1.length - i = 0 ∧ T2.length - j = 0 := ⟨by omega, by omega⟩
      obtain ⟨hts, hl⟩ : (ts = [P, Q] ∨ ts = [Q, P]) ∧ ts.length = 2 := by
        rcases DN.out with h | h | h | ⟨_, _, h⟩
        · omega
        · omega
        · omega
        · exact ⟨h, by rcases h with h | h <;> rw [h] <;> rfl⟩
      have hrow := AP.out.row
      rw [hl] at hrow
      obtain ⟨g, cap, hu, hg0, hg1⟩ : ∃ g cap, u24 = .slice (some ⟨g, 0, none⟩) 2 cap ∧ wr.cell? ⟨g, 0, none⟩ = (strs15 ts)[0]? ∧ wr.cell? ⟨g, 1, none⟩ = (strs15 ts)[1]? := by
        rcases hrow.2 with ⟨_, h0⟩ | ⟨g, cap, cur, e, _⟩
        · omega
        · rw [e] at hrow
          exact ⟨g, cap, e, hrow.cellAt 0 (by omega), hrow.cellAt 1 (by omega)⟩
      have BL := Lib.hid AP.out.bel
      clear hrow AP HCO HL1 HL2 DN MX e1 e2
      have s1 := str_eq P
      have s2 := str_eq Q
      subst hu
      rcases hts with rfl | rfl
      · have c0 : wr.cell? ⟨g, 0, none⟩ = some (.string P) := hg0
        have c1' : wr.cell? ⟨g, 1, none⟩ = some (.string Q) := hg1
        clear hg0 hg1
        go_wp2_with fail
        go_ret
        exact ⟨rfl, BL.out⟩
      · have c0 : wr.cell? ⟨g, 0, none⟩ = some (.string Q) := hg0
        have c1' : wr.cell? ⟨g, 1, none⟩ = some (.string P) := hg1
        clear hg0 hg1
        by_cases e : Q = P
        · subst e
          go_wp2_with fail
          go_ret
          exact ⟨rfl, BL.out⟩
        · have s3 : (Q.toList == P.toList) = false := beq_false_of_ne (fun h => e (by
            rw [ByteArray.toList_eq, ByteArray.toList_eq] at h
            exact text_ext h))
          clear e
          go_wp2_with fail
          go_ret
          exact ⟨rfl, BL.out⟩
    case inr.inl =>
      have t0 : decide ((0 : Int) < ((T1.length - i : Nat) : Int)) = true := decide_eq_true (by omega)
      have hfacts : (((T2.length - j : Nat) : Int) == 0) = true ∨ ((((T2.length - j : Nat) : Int) == 0) = false ∧ decide ((i : Int) + (j : Int) < (on : Int)) = true ∧ ∃ ob off, oa = some ⟨ob, off, none⟩ ∧ wr.cell? ⟨ob, off + (i + j), none⟩ = some (.bool true) ∧ (0 : Int) ≤ (i : Int) + (j : Int) ∧ (i : Int) + (j : Int) < (on : Int)) := by
        rcases hcs with e2 | ⟨e2, e3, e4⟩
        · exact Or.inl (by rw [beq_iff_eq]; omega)
        · obtain ⟨ob, off, e, co⟩ := HCO.out _ e3
          rw [e4] at co
          exact Or.inr ⟨beq_false_of_ne (by omega), decide_eq_true (by omega), ob, off, e, co, by omega, by omega⟩
      clear hcs HCO
      obtain ⟨rfl, hc1⟩ := HL1.out hi1
      have u0 : (0 : Int) < ((T1.length - i : Nat) : Int) := by omega
      have u1 : (1 : Int) ≤ ((T1.length - i : Nat) : Int) := by omega
      have cT := AP.out.c1 i hi1
      have hsz := R1.out.size i hi1
      obtain ⟨q, f, l', hadd, hmix', hf⟩ := Mix16.step HKEY.out R1.out R2.out MX.out AP.out.tab16 hi1 hj
      have MX' := Lib.hid hmix'
      have HF := Lib.hid hf
      clear hmix' hf
      have HADD := Lib.hid (fun W (h : Apa16 w w8 tb v1 v2 T1 T2 W l u24 ts) => h.added (T1[i]'hi1) hsz)
      rw [hadd] at HADD
      dsimp only at HADD
      clear hadd hsz
      generalize T1[i]'hi1 = x at *
      rcases hfacts with t2 | ⟨t2, t3, ob, off, rfl, co, u2, u3⟩ <;> rcases Decidable.em (c1 = 1) with hc11 | hc11
      all_goals
        go_upto_region 25 with (fail)
        go_quiet (fail)
        have A10 := Lib.hid (AP.out.below (below_drewN (Below.refl _ _) nq))
        generalize wr.drewN nq = w10 at *
        try clear u2 u3
        try clear t3
        try clear co
        clear cT u0 u1 t2 AP
        try clear t0
        try (have HZ := Lib.hid hz; clear hz)
        go_wp2_with fail
        refine (HADD.out _ A10.out).mono ?_
        rintro e w11 ⟨rfl, hap⟩
        have A11 := Lib.hid hap
        clear hap HADD A10
        rcases HF.out with ⟨hlt, rfl⟩ | ⟨hle, rfl, hqP⟩
        · go_wp2_with fail
          refine ⟨⟨i + 1, j, l', ts, (by first | exact Left16.one hi1 hc1 hc11 _ _ | exact Left16.more hi1 hc1), ⟨_, _, rfl, HL2.out⟩, by rw [show (((i + 1 : Nat) : Int) + (j : Int)) = (i : Int) + (j : Int) + 1 by omega], by omega, hj, MX'.out, DN.out.l hlt, A11.out⟩, ?_⟩
          show T1.length - i - 1 + (T2.length - j) < T1.length - i + (T2.length - j)
          omega
        · have hts : ts.length ≤ 2 := by
            rcases DN.out with ⟨_, _, e⟩ | ⟨_, _, e⟩ | ⟨_, _, e⟩ | ⟨_, _, e | e⟩ <;> rw [e] <;> simp
          have HLE := Lib.hid hle
          have HQP := Lib.hid hqP
          clear hle hqP
          obtain ⟨i0, hi0, hz0, hz1, hz2⟩ := info_parts Try.infoS
          go_wp2_with (at_builtin; refine wpList_append_lies _ rfl _ _ 24 rfl w8.heap.size 9 i0 _ 1 16 (by kernel_rfl) hi0 hz0 hz1 hz2 rfl (by decide) _ _ _ rfl (A11.out.row.alloc _) ⟨w11.heap.size, 0, none⟩ 1 1 [.string _] rfl rfl (new15 w11 _ _) (by simp [Value.oneCell']) (by decide) (by unfold maxLen; omega) (by omega) (by have := A11.out.size; simp; omega) _ rfl ?_; intro g3 cap3 w12 hown hgrow hat3 hlt3; have A12 := Lib.hid (A11.out.app hown hgrow hat3 hlt3); clear hown hgrow hat3 hlt3)
          refine ⟨⟨i + 1, j, l', ts ++ [q], (by first | exact Left16.one hi1 hc1 hc11 _ _ | exact Left16.more hi1 hc1), ⟨_, _, rfl, HL2.out⟩, by rw [show (((i + 1 : Nat) : Int) + (j : Int)) = (i : Int) + (j : Int) + 1 by omega], by omega, hj, MX'.out, (by rw [HQP.out]; exact DN.out.l1 HLE.out), A12.out⟩, ?_⟩
          show T1.length - i - 1 + (T2.length - j) < T1.length - i + (T2.length - j)
          omega
    case inr.inr =>
      have t2 : (((T2.length - j : Nat) : Int) == 0) = false := beq_false_of_ne (by omega)
      have t1 : decide ((0 : Int) < ((T2.length - j : Nat) : Int)) = true := decide_eq_true (by omega)
      have hfacts : T1.length - i = 0 ∨ (decide ((0 : Int) < ((T1.length - i : Nat) : Int)) = true ∧ decide ((i : Int) + (j : Int) < (on : Int)) = false) ∨ (decide ((0 : Int) < ((T1.length - i : Nat) : Int)) = true ∧ decide ((i : Int) + (j : Int) < (on : Int)) = true ∧ ∃ ob off, oa = some ⟨ob, off, none⟩ ∧ wr.cell? ⟨ob, off + (i + j), none⟩ = some (.bool false) ∧ (0 : Int) ≤ (i : Int) + (j : Int) ∧ (i : Int) + (j : Int) < (on : Int)) := by
        rcases hcs with e2 | ⟨e2, e3⟩ | ⟨e2, e3, e4⟩
        · exact Or.inl (by omega)
        · exact Or.inr (Or.inl ⟨decide_eq_true (by omega), decide_eq_false (by omega)⟩)
        · obtain ⟨ob, off, e, co⟩ := HCO.out _ e3
          rw [e4] at co
          exact Or.inr (Or.inr ⟨decide_eq_true (by omega), decide_eq_true (by omega), ob, off, e, co, by omega, by omega⟩)
      clear hcs HCO
      obtain ⟨rfl, hc1⟩ := HL2.out hi1
      have u0 : (0 : Int) < ((T2.length - j : Nat) : Int) := by omega
      have u1 : (1 : Int) ≤ ((T2.length - j : Nat) : Int) := by omega
      have cT := AP.out.c2 j hi1
      have hsz := R2.out.size j hi1
      obtain ⟨q, f, l', hadd, hmix', hf⟩ := Mix16.step (fun e => HKEY.out e.symm) R2.out R1.out MX.out.turn AP.out.tab16 hi1 hi
      have MX' := Lib.hid hmix'
      have HF := Lib.hid hf
      clear hmix' hf
      have HADD := Lib.hid (fun W (h : Apa16 w w8 tb v1 v2 T1 T2 W l u24 ts) => h.added (T2[j]'hi1) hsz)
      rw [hadd] at HADD
      dsimp only at HADD
      clear hadd hsz
      generalize T2[j]'hi1 = x at *
      rcases hfacts with hz | hfacts
      · rcases Decidable.em (c2 = 1) with hc11 | hc11
        all_goals
          go_upto_region 26 with (fail)
          go_quiet (fail)
          have A10 := Lib.hid (AP.out.below (below_drewN (Below.refl _ _) nq))
          generalize wr.drewN nq = w10 at *
          try clear u2 u3
          try clear t3
          try clear co
          clear cT u0 u1 t2 AP
          try clear t0
          have HZ := Lib.hid hz
          clear hz
          go_wp2_with fail
          refine (HADD.out _ A10.out).mono ?_
          rintro e w11 ⟨rfl, hap⟩
          have A11 := Lib.hid hap
          clear hap HADD A10
          rcases HF.out with ⟨hlt, rfl⟩ | ⟨hle, rfl, hqP⟩
          · go_wp2_with fail
            refine ⟨⟨i, j + 1, l', ts, ⟨_, _, rfl, HL1.out⟩, (by first | exact Left16.one hi1 hc1 hc11 _ _ | exact Left16.more hi1 hc1), by rw [show ((i : Int) + ((j + 1 : Nat) : Int)) = (i : Int) + (j : Int) + 1 by omega], hi, by omega, MX'.out.turn, DN.out.r hlt, A11.out⟩, ?_⟩
            show lenOf _ + lenOf _ < lenOf _ + lenOf _
            simp only [lenOf]
            have := HZ.out
            omega
          · have hts : ts.length ≤ 2 := by
              rcases DN.out with ⟨_, _, e⟩ | ⟨_, _, e⟩ | ⟨_, _, e⟩ | ⟨_, _, e | e⟩ <;> rw [e] <;> simp
            have HLE := Lib.hid hle
            have HQP := Lib.hid hqP
            clear hle hqP
            obtain ⟨i0, hi0, hz0, hz1, hz2⟩ := info_parts Try.infoS
            go_wp2_with (at_builtin; refine wpList_append_lies _ rfl _ _ 24 rfl w8.heap.size 9 i0 _ 1 16 (by kernel_rfl) hi0 hz0 hz1 hz2 rfl (by decide) _ _ _ rfl (A11.out.row.alloc _) ⟨w11.heap.size, 0, none⟩ 1 1 [.string _] rfl rfl (new15 w11 _ _) (by simp [Value.oneCell']) (by decide) (by unfold maxLen; omega) (by omega) (by have := A11.out.size; simp; omega) _ rfl ?_; intro g3 cap3 w12 hown hgrow hat3 hlt3; have A12 := Lib.hid (A11.out.app hown hgrow hat3 hlt3); clear hown hgrow hat3 hlt3)
            refine ⟨⟨i, j + 1, l', ts ++ [q], ⟨_, _, rfl, HL1.out⟩, (by first | exact Left16.one hi1 hc1 hc11 _ _ | exact Left16.more hi1 hc1), by rw [show ((i : Int) + ((j + 1 : Nat) : Int)) = (i : Int) + (j : Int) + 1 by omega], hi, by omega, MX'.out.turn, (by rw [HQP.out]; exact DN.out.r1 HLE.out), A12.out⟩, ?_⟩
            show lenOf _ + lenOf _ < lenOf _ + lenOf _
            simp only [lenOf]
            have := HZ.out
            omega

      · rcases hfacts with ⟨t0, t3⟩ | ⟨t0, t3, ob, off, rfl, co, u2, u3⟩ <;> rcases Decidable.em (c2 = 1) with hc11 | hc11
        all_goals
          have w0 : (0 : Int) < ((T1.length - i : Nat) : Int) := of_decide_eq_true t0
          have w1' : ¬ T1.length - i = 0 := by omega
          go_upto_region 26 with (fail)
          go_quiet (fail)
          have A10 := Lib.hid (AP.out.below (below_drewN (Below.refl _ _) nq))
          generalize wr.drewN nq = w10 at *
          try clear u2 u3
          try clear t3
          try clear co
          clear cT u0 u1 t2 AP w0 w1'
          try clear t0
          go_wp2_with fail
          refine (HADD.out _ A10.out).mono ?_
          rintro e w11 ⟨rfl, hap⟩
          have A11 := Lib.hid hap
          clear hap HADD A10
          rcases HF.out with ⟨hlt, rfl⟩ | ⟨hle, rfl, hqP⟩
          · go_wp2_with fail
            refine ⟨⟨i, j + 1, l', ts, ⟨_, _, rfl, HL1.out⟩, (by first | exact Left16.one hi1 hc1 hc11 _ _ | exact Left16.more hi1 hc1), by rw [show ((i : Int) + ((j + 1 : Nat) : Int)) = (i : Int) + (j : Int) + 1 by omega], hi, by omega, MX'.out.turn, DN.out.r hlt, A11.out⟩, ?_⟩
            show T1.length - i + (T2.length - j - 1) < T1.length - i + (T2.length - j)
            omega
          · have hts : ts.length ≤ 2 := by
              rcases DN.out with ⟨_, _, e⟩ | ⟨_, _, e⟩ | ⟨_, _, e⟩ | ⟨_, _, e | e⟩ <;> rw [e] <;> simp
            have HLE := Lib.hid hle
            have HQP := Lib.hid hqP
            clear hle hqP
            obtain ⟨i0, hi0, hz0, hz1, hz2⟩ := info_parts Try.infoS
            go_wp2_with (at_builtin; refine wpList_append_lies _ rfl _ _ 24 rfl w8.heap.size 9 i0 _ 1 16 (by kernel_rfl) hi0 hz0 hz1 hz2 rfl (by decide) _ _ _ rfl (A11.out.row.alloc _) ⟨w11.heap.size, 0, none⟩ 1 1 [.string _] rfl rfl (new15 w11 _ _) (by simp [Value.oneCell']) (by decide) (by unfold maxLen; omega) (by omega) (by have := A11.out.size; simp; omega) _ rfl ?_; intro g3 cap3 w12 hown hgrow hat3 hlt3; have A12 := Lib.hid (A11.out.app hown hgrow hat3 hlt3); clear hown hgrow hat3 hlt3)
            refine ⟨⟨i, j + 1, l', ts ++ [q], ⟨_, _, rfl, HL1.out⟩, (by first | exact Left16.one hi1 hc1 hc11 _ _ | exact Left16.more hi1 hc1), by rw [show ((i : Int) + ((j + 1 : Nat) : Int)) = (i : Int) + (j : Int) + 1 by omega], hi, by omega, MX'.out.turn, (by rw [HQP.out]; exact DN.out.r1 HLE.out), A12.out⟩, ?_⟩
            show T1.length - i + (T2.length - j - 1) < T1.length - i + (T2.length - j)
            omega


end Go.Proofs.Ytoijomdgcgbpbaa
