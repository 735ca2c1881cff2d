/-
  ReasmHoles returns true at every input.
-/
import Derived.Test.YtoijomdgcgbpbaaReasmHole
import Derived.Test.YtoijomdgcgbpbaaReasmRun
import Derived.Test.YtoijomdgcgbpbaaOpenU16s
import Derived.Deep.QuietTactic
import Derived.BigQuiet
namespace Go.Proofs.Ytoijomdgcgbpbaa
open Go.RowKit Go.Shelf
set_option linter.unusedVariables false

theorem two16_right : S16.Right ⟨2, 1048576, 2⟩ := by unfold S16.Right; dsimp only; omega

theorem hole_next {came : Bool} {i on L k r : Nat} (hL : 2 ≤ L) (hr : ¬ i < on → r = i % L) (hk : r = k) (hc : came = true ∨ i ≤ on ∨ (i = on + 1 ∧ on % L = k)) : came = true ∨ i + 1 ≤ on ∨ (i + 1 = on + 1 ∧ on % L = k) := by
  rcases hc with h | h | ⟨h1, h2⟩
  · exact Or.inl h
  · by_cases e : i < on
    · exact Or.inr (Or.inl e)
    · have e2 : i = on := by omega
      subst e2
      exact Or.inr (Or.inr ⟨rfl, (hr e).symm.trans hk⟩)
  · have := hr (by omega)
    rw [h1] at this
    exact absurd (this.symm.trans (hk.trans h2.symm)) (mod_next hL)

set_option maxRecDepth 100000 in
set_option maxHeartbeats 2000000 in
theorem holes16_any (h : H4) (pay : ByteArray) (m lost : Int) (oa : Option Addr) (on oc : Nat) (C : Nat → UInt16) (w : World) (hp : pay.size ≤ 140737488355328) (hl : 0 ≤ lost ∧ lost ≤ 255) (ho : U16sAt w w.heap.size oa on C) (hon : on ≤ 140737488355328) :
    Calls Try.prog 7 #[.agg h.cells, .string pay, .int .i64 m, .int .u8 lost, .slice oa on oc] w (AwakeEnd w) := by
  obtain ⟨an, rfl⟩ : ∃ an : Nat, lost = (an : Int) := ⟨lost.toNat, by omega⟩
  have HO := Lib.hid ho
  clear ho
  have HA := Lib.hid (awake16_any (w.alloc (.cells h.cells 43)))
  have H1 := Lib.hid (fun W => refput_any h.bare16 pay W hp)
  unfold AwakeEnd at HA
  have S1 := Lib.hid (Held.new w h)
  have PT := Lib.hid (put_cases h.bare16 pay)
  have HC := Lib.hid (fun (x : ByteArray) (hx : x.size ≤ 65535) W => cut_any x m W (by omega))
  unfold CutEnd at HC
  have HB0 : Hid (h.bare16.off = 0 ∧ h.bare16.mf = false) := ⟨rfl, rfl⟩
  generalize hP : putS h.bare16 pay = P at *
  generalize hE : putE h.bare16 pay = E at *
  have HPE := Lib.hid hP
  clear hP hE
  obtain ⟨w0, hw0⟩ : ∃ w0, w0 = w.alloc (.cells h.cells 43) := ⟨_, rfl⟩
  rw [← hw0] at HA S1
  unfold H4.cells at hw0 H1 ⊢
  dsimp only [H4.bare16] at H1
  go_enter Try.func7, Try.ntmps7
  go_wp2_with fail
  simp only [← hw0]
  clear hw0
  refine HA.out.mono ?_
  rintro e w1 ⟨rfl, hb1⟩
  have S2 := Lib.hid (S1.out.below hb1)
  clear hb1 S1 HA
  by_cases h1 : 5000 < pay.size
  case pos =>
    have t1 : decide ((5000 : Int) < (pay.size : Int)) = true := decide_eq_true (by omega)
    go_wp2_with fail
    go_ret
    exact ⟨rfl, S2.out.bel⟩
  have t1 : decide ((5000 : Int) < (pay.size : Int)) = false := decide_eq_false (by omega)
  by_cases h2 : 300 < on
  case pos =>
    have t2 : decide ((300 : Int) < (on : Int)) = true := decide_eq_true (by omega)
    go_wp2_with fail
    go_ret
    exact ⟨rfl, S2.out.bel⟩
  have t2 : decide ((300 : Int) < (on : Int)) = false := decide_eq_false (by omega)
  have ⟨c0, c1, c2, c3, c4, c5, c6, c7, c8, c9⟩ := Hc.of S2.out.b
  have f2 := S2.out.b.frozen 2
  have f5 := S2.out.b.frozen 5
  have f6 := S2.out.b.frozen 6
  go_wp2_with fail
  have S3 := Lib.hid S2.out.bare16
  generalize ((w1.setCell ⟨w.heap.size, 2, none⟩ (.int .i64 0)).setCell ⟨w.heap.size, 6, none⟩ (.bool false)).setCell ⟨w.heap.size, 5, none⟩ (.bool false) = w2 at *
  clear c0 c1 c2 c3 c4 c5 c6 c7 c8 c9 f2 f5 f6 S2 t1 t2
  refine (H1.out _).mono ?_
  rintro e w3 ⟨rfl, hb3⟩
  have B3 := Lib.hid (S3.out.bel.trans (hb3.mono S3.out.bel.size))
  clear hb3 S3 H1
  generalize h.bare16 = H at *
  rcases PT.out with ⟨rfl, hsent⟩ | ⟨hE, rfl⟩
  case inr =>
    have t3 : ((E : Int) != 0) = true := by simp; omega
    go_wp2_with fail
    go_ret
    exact ⟨rfl, B3.out⟩
  have SE := Lib.hid hsent
  have hC := HC.out P (by rw [hsent.size]; exact hsent.fit)
  clear hsent PT HC
  by_cases hE : cutE P m = 0
  case neg =>
    have t3 : (((cutE P m : Nat) : Int) != 0) = true := by simp; omega
    go_wp2_with fail
    refine (hC _).mono ?_
    rintro e w4 ⟨hb4, v, rfl, hv⟩
    obtain ⟨va, vc, rfl⟩ := hv.len
    have B4 := Lib.hid (B3.out.trans (hb4.mono B3.out.size))
    clear hb4 hC hv B3
    go_wp2_with fail
    go_ret
    exact ⟨rfl, B4.out⟩
  rw [hE] at hC
  go_wp2_with fail
  refine (hC _).mono ?_
  rintro e w4 ⟨hb4, v, rfl, hv⟩
  have B4 := Lib.hid (B3.out.trans (hb4.mono B3.out.size))
  clear hb4 hC B3
  by_cases h3 : (cutL P m).length < 2
  case pos =>
    have t3 : decide (((cutL P m).length : Int) < 2) = true := decide_eq_true (by omega)
    obtain ⟨va, vc, rfl⟩ := hv.len
    clear hv
    go_wp2_with fail
    go_ret
    exact ⟨rfl, B4.out⟩
  have t3 : decide (((cutL P m).length : Int) < 2) = false := decide_eq_false (by omega)
  by_cases h4 : 600 < (cutL P m).length
  case pos =>
    have t4 : decide ((600 : Int) < ((cutL P m).length : Int)) = true := decide_eq_true (by omega)
    obtain ⟨va, vc, rfl⟩ := hv.len
    clear hv
    go_wp2_with fail
    go_ret
    exact ⟨rfl, B4.out⟩
  have t4 : decide ((600 : Int) < ((cutL P m).length : Int)) = false := decide_eq_false (by omega)
  have LOT := Lib.hid (lot16 SE.out HPE.out.symm HB0.out.1 HB0.out.2 hE (cut16_some SE.out hE (by omega)))
  clear SE HPE HB0 hE
  generalize pos15 P m = pos at *
  generalize cutL P m = T at *
  obtain ⟨vb, vc, rfl, hvb, hvc⟩ := hv.some (by intro e; rw [e] at h3; exact absurd (Nat.zero_lt_succ 1) h3)
  have VC := Lib.hid (And.intro hvb hvc)
  clear hv hvb hvc
  have HN := Lib.hid (fun W => newL16 ⟨2, 1048576, 2⟩ W)
  unfold S16.cells at HN
  dsimp only at HN
  have L2 : 2 ≤ T.length := by omega
  have L6 : T.length ≤ 600 := by omega
  clear h3 h4
  obtain ⟨k, hk, hkm⟩ : ∃ k : Nat, k < T.length ∧ (an : Int).tmod (T.length : Int) = (k : Int) :=
    ⟨an % T.length, Nat.mod_lt _ (by omega), tmod16 _ _⟩
  have t5 : ((T.length : Int) == 0) = false := beq_false_of_ne (by omega)
  go_wp2_with fail
  refine (HN.out _).mono ?_
  rintro e w6 hn
  rcases hn with ⟨_, tb, rfl, ht, hb6⟩ | ⟨hr, _⟩
  case inr => exact absurd two16_right hr
  have R6 : Hid (Run16 w w4 2 1048576 2 tb vb T w6 []) := ⟨ht, B4.out.trans (hb6.mono B4.out.size), hb6.size, fun i h => (hb6.cell (p := ⟨vb, i, none⟩) VC.out.1).trans (VC.out.2 i h), B4.out.size, VC.out.1⟩
  clear ht hb6 HN VC B4 t3 t4 hkm
  go_wp2_with fail
  go_loopw [18, 19] (fun x y wr => ∃ (came : Bool) (i : Nat) (js : List Nat) (l : List E16), x = .bool came ∧ y = .int .i64 (i : Nat) ∧ i ≤ on + T.length ∧ One16 H pay T.length pos js l ∧ k ∉ js ∧ (came = true → js ≠ []) ∧ (came = true ∨ i ≤ on ∨ (i = on + 1 ∧ on % T.length = k)) ∧ Run16 w w4 2 1048576 2 tb vb T wr l) (fun _ y _ => on + T.length - (intOf y).toNat)
  case atStart => exact ⟨false, 0, [], [], rfl, rfl, by omega, One16.nil _ _ _ _, List.not_mem_nil, (fun e => absurd e (by simp)), Or.inr (Or.inl (by omega)), R6.out⟩
  case round =>
    obtain ⟨came, i, js, l, rfl, rfl, hi, ho, hkn, hcm, hcs, hr⟩ := hrel
    have RR := Lib.hid hr
    have OO := Lib.hid ho
    have KN := Lib.hid hkn
    have CM := Lib.hid hcm
    have CS := Lib.hid hcs
    clear hr ho hkn hcm hcs R6
    by_cases hlt : i < on + T.length
    case pos =>
      have t6 : decide ((i : Int) < (on : Int) + (T.length : Int)) = true := decide_eq_true (by omega)
      have t7 : ((i : Int)).tmod (T.length : Int) = ((i % T.length : Nat) : Int) := tmod16 _ _
      have ew : IntKind.i64.wrap ((i : Int) + 1) = ((i + 1 : Nat) : Int) := by rw [IntWalk.i64_in _ (by omega)]; omega
      obtain ⟨r, hr, hrw⟩ : ∃ r : Nat, r < T.length ∧ (i < on → r = (C i).toNat % T.length) ∧ (¬ i < on → r = i % T.length) := by
        by_cases e : i < on
        · exact ⟨(C i).toNat % T.length, Nat.mod_lt _ (by omega), fun _ => rfl, fun h => absurd e h⟩
        · exact ⟨i % T.length, Nat.mod_lt _ (by omega), fun h => absurd h e, fun _ => rfl⟩
      have RW := Lib.hid hrw.2
      by_cases hin : i < on
      case' pos =>
        have t8 : decide ((i : Int) < (on : Int)) = true := decide_eq_true (by omega)
        have t9 : (((C i).toNat : Int)).tmod (T.length : Int) = ((r : Nat) : Int) := by rw [hrw.1 hin]; exact tmod16 _ _
        have u0 : (0 : Int) ≤ (i : Int) := by omega
        have u1 : (i : Int) < (on : Int) := by omega
        obtain ⟨ob, off, rfl, hob, hoc⟩ : ∃ ob off, oa = some ⟨ob, off, none⟩ ∧ ob < w.heap.size ∧ ∀ i, i < on → wr.cell? ⟨ob, off + i, none⟩ = some (.int .u16 ((C i).toNat : Int)) := by
          rcases HO.out.below RR.out.bel with h | h
          · omega
          · exact h
        have co := hoc i hin
        have hC := (C i).toNat_lt
        clear hoc hob
        generalize (C i).toNat = ci at *
      case' neg =>
        have t8 : decide ((i : Int) < (on : Int)) = false := decide_eq_false (by omega)
        rw [← hrw.2 hin] at t7
      all_goals
        clear hrw
        go_upto_region 23 with (fail)
        try clear co u0 u1 hC
        clear t6 t7 t8
        by_cases hrk : r = k
        · have t10 : ((r : Int) == (k : Int)) = true := by rw [hrk]; simp
          go_wp2_with fail
          refine ⟨⟨came, i + 1, js, l, rfl, rfl, by omega, OO.out, KN.out, CM.out, hole_next L2 RW.out hrk CS.out, RR.out⟩, ?_⟩
          simp [intOf]
          omega
        · have t10 : ((r : Int) == (k : Int)) = false := beq_false_of_ne (by omega)
          have v0 : (0 : Int) ≤ (r : Int) := by omega
          have v1 : (r : Int) < (T.length : Int) := by omega
          have cT := RR.out.cell r hr
          have hsz := LOT.out.size r hr
          have ⟨js', l', hadd, ho', hkn', hne'⟩ := OO.out.hole RR.out.tb.tab (by omega) LOT.out.cut hk KN.out hr hrk (LOT.out.is r hr)
          have HADD := Lib.hid (addL16 (T[r]'hr) (by omega) wr RR.out.tb)
          rw [hadd] at HADD
          have OO' := Lib.hid ho'
          have KN' := Lib.hid hkn'
          have NE' := Lib.hid hne'
          clear hadd ho' hkn' hne' hsz
          generalize T[r]'hr = xi at *
          dsimp only at HADD
          go_wp2_with fail
          refine HADD.out.mono ?_
          rintro e w12 ⟨rfl, ht, hk12⟩
          have R12 := Lib.hid (RR.out.add ht hk12)
          clear ht hk12 HADD cT RR
          go_wp2_with fail
          refine ⟨⟨true, i + 1, js', l', rfl, rfl, by omega, OO'.out, KN'.out, fun _ => NE'.out, Or.inl rfl, R12.out⟩, ?_⟩
          simp [intOf]
          omega
    case neg =>
      have t6 : decide ((i : Int) < (on : Int) + (T.length : Int)) = false := decide_eq_false (by omega)
      obtain rfl : came = true := by
        rcases CS.out with h | h | h
        · exact h
        · omega
        · omega
      have ⟨k1, k2, k3, k4⟩ := OO.out.ticks (CM.out rfl)
      have HOP := Lib.hid (openL16 wr RR.out.tb)
      have HLE := Lib.hid (fun W l h => lenL16 (S := fun i => w4.heap.size ≤ i) (tb := tb) (E := 2) (B := 1048576) (L := 2) (l := l) W h)
      have HBY := Lib.hid (fun W l h => bytesL16 (S := fun i => w4.heap.size ≤ i) (tb := tb) (E := 2) (B := 1048576) (L := 2) (l := l) W h)
      have HT1 := Lib.hid (fun W h => tickL16 (S := fun i => w4.heap.size ≤ i) (tb := tb) (E := 2) (B := 1048576) (L := 2) (l := l) W h)
      have HT2 := Lib.hid (fun W h => tickL16 (S := fun i => w4.heap.size ≤ i) (tb := tb) (E := 2) (B := 1048576) (L := 2) (l := tick16 2 l) W h)
      have HL1 := HLE.out
      have HL1 := Lib.hid (fun W h => HLE.out W l h)
      have HL2 := Lib.hid (fun W h => HLE.out W [] h)
      have HB2 := Lib.hid (fun W h => HBY.out W [] h)
      rw [k1] at HOP
      rw [k2, k3] at HT1
      rw [k3, k4] at HT2
      rw [k2] at HL1
      rw [show (([] : List E16).length) = 0 from rfl] at HL2 HT2
      rw [show bytes16 [] = 0 from rfl] at HB2
      unfold Tells at HOP HL1 HL2 HB2
      clear k1 k2 k3 k4 HLE HBY
      generalize tick16 2 l = l1 at *
      go_wp2_with fail
      refine HOP.out.mono ?_
      rintro e w12 ⟨rfl, hb12⟩
      have R12 := Lib.hid (RR.out.below hb12)
      clear hb12 HOP RR
      go_wp2_with fail
      refine (HL1.out _ R12.out.tb).mono ?_
      rintro e w13 ⟨rfl, hb13⟩
      have R13 := Lib.hid (R12.out.below hb13)
      clear hb13 HL1 R12
      go_wp2_with fail
      refine (HT1.out _ R13.out.tb).mono ?_
      rintro e w14 ⟨rfl, ht, hk14⟩
      have R14 := Lib.hid (R13.out.add ht hk14)
      clear ht hk14 HT1 R13
      go_wp2_with fail
      refine (HT2.out _ R14.out.tb).mono ?_
      rintro e w15 ⟨rfl, ht, hk15⟩
      have R15 := Lib.hid (R14.out.add ht hk15)
      clear ht hk15 HT2 R14
      go_wp2_with fail
      refine (HL2.out _ R15.out.tb).mono ?_
      rintro e w16 ⟨rfl, hb16⟩
      have R16 := Lib.hid (R15.out.below hb16)
      clear hb16 HL2 R15
      go_wp2_with fail
      refine (HB2.out _ R16.out.tb).mono ?_
      rintro e w17 ⟨rfl, hb17⟩
      have R17 := Lib.hid (R16.out.below hb17)
      clear hb17 HB2 R16
      go_wp2_with fail
      go_ret
      exact ⟨rfl, R17.out.bel⟩

end Go.Proofs.Ytoijomdgcgbpbaa
