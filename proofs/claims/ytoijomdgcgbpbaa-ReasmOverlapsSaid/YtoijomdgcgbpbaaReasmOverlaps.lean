/-
  ReasmOverlaps returns true at every input.
-/
import Derived.Test.YtoijomdgcgbpbaaReasmRun
import Derived.Deep.QuietTactic
import Derived.BigQuiet
namespace Go.Proofs.Ytoijomdgcgbpbaa
open Go.RowKit Go.Shelf
set_option linter.unusedVariables false

set_option maxRecDepth 100000 in
set_option maxHeartbeats 2000000 in
theorem overlaps16_any (h : H4) (pay : ByteArray) (m at_ by_ : Int) (w : World) (hp : pay.size ≤ 140737488355328) (ha : 0 ≤ at_ ∧ at_ ≤ 255) (hb : 0 ≤ by_ ∧ by_ ≤ 255) :
    Calls Try.prog 8 #[.agg h.cells, .string pay, .int .i64 m, .int .u8 at_, .int .u8 by_] w (AwakeEnd w) := by
  obtain ⟨an, rfl⟩ : ∃ an : Nat, at_ = (an : Int) := ⟨at_.toNat, by omega⟩
  obtain ⟨bc, rfl⟩ : ∃ bc : UInt8, by_ = (bc.toNat : Int) := ⟨UInt8.ofNat by_.toNat, by rw [UInt8.toNat_ofNat']; omega⟩
  have HA := Lib.hid (awake16_any (w.alloc (.cells h.cells 43)))
  have H1 := Lib.hid (fun W => refput_any h.bare16 pay W hp)
  unfold AwakeEnd at HA
  have S1 := Lib.hid (Held.new w h)
  have PT := Lib.hid (put_cases h.bare16 pay)
  have HC := Lib.hid (fun (x : ByteArray) (hx : x.size ≤ 65535) W => cut_any x m W (by omega))
  unfold CutEnd at HC
  have HB0 : Hid (h.bare16.off = 0 ∧ h.bare16.mf = false) := ⟨rfl, rfl⟩
  generalize hP : putS h.bare16 pay = P at *
  generalize hE : putE h.bare16 pay = E at *
  have HPE := Lib.hid hP
  clear hP hE
  obtain ⟨w0, hw0⟩ : ∃ w0, w0 = w.alloc (.cells h.cells 43) := ⟨_, rfl⟩
  rw [← hw0] at HA S1
  unfold H4.cells at hw0 H1 ⊢
  dsimp only [H4.bare16] at H1
  go_enter Try.func8, Try.ntmps8
  go_wp2_with fail
  simp only [← hw0]
  clear hw0
  refine HA.out.mono ?_
  rintro e w1 ⟨rfl, hb1⟩
  have S2 := Lib.hid (S1.out.below hb1)
  clear hb1 S1 HA
  by_cases h1 : 5000 < pay.size
  case pos =>
    have t1 : decide ((5000 : Int) < (pay.size : Int)) = true := decide_eq_true (by omega)
    go_wp2_with fail
    go_ret
    exact ⟨rfl, S2.out.bel⟩
  have t1 : decide ((5000 : Int) < (pay.size : Int)) = false := decide_eq_false (by omega)
  by_cases h2 : (bc.toNat : Int) = 0
  case pos =>
    have t2 : ((bc.toNat : Int) == 0) = true := by simp; omega
    go_wp2_with fail
    go_ret
    exact ⟨rfl, S2.out.bel⟩
  have t2 : ((bc.toNat : Int) == 0) = false := by simp; omega
  have ⟨c0, c1, c2, c3, c4, c5, c6, c7, c8, c9⟩ := Hc.of S2.out.b
  have f2 := S2.out.b.frozen 2
  have f5 := S2.out.b.frozen 5
  have f6 := S2.out.b.frozen 6
  go_wp2_with fail
  have S3 := Lib.hid S2.out.bare16
  generalize ((w1.setCell ⟨w.heap.size, 2, none⟩ (.int .i64 0)).setCell ⟨w.heap.size, 6, none⟩ (.bool false)).setCell ⟨w.heap.size, 5, none⟩ (.bool false) = w2 at *
  clear c0 c1 c2 c3 c4 c5 c6 c7 c8 c9 f2 f5 f6 S2 t1 t2
  refine (H1.out _).mono ?_
  rintro e w3 ⟨rfl, hb3⟩
  have B3 := Lib.hid (S3.out.bel.trans (hb3.mono S3.out.bel.size))
  clear hb3 S3 H1
  generalize h.bare16 = H at *
  rcases PT.out with ⟨rfl, hsent⟩ | ⟨hE, rfl⟩
  case inr =>
    have t3 : ((E : Int) != 0) = true := by simp; omega
    go_wp2_with fail
    go_ret
    exact ⟨rfl, B3.out⟩
  have SE := Lib.hid hsent
  have hC := HC.out P (by rw [hsent.size]; exact hsent.fit)
  clear hsent PT HC
  by_cases hE : cutE P m = 0
  case neg =>
    have t3 : (((cutE P m : Nat) : Int) != 0) = true := by simp; omega
    go_wp2_with fail
    refine (hC _).mono ?_
    rintro e w4 ⟨hb4, v, rfl, hv⟩
    obtain ⟨va, vc, rfl⟩ := hv.len
    have B4 := Lib.hid (B3.out.trans (hb4.mono B3.out.size))
    clear hb4 hC hv B3
    go_wp2_with fail
    go_ret
    exact ⟨rfl, B4.out⟩
  rw [hE] at hC
  go_wp2_with fail
  refine (hC _).mono ?_
  rintro e w4 ⟨hb4, v, rfl, hv⟩
  have B4 := Lib.hid (B3.out.trans (hb4.mono B3.out.size))
  clear hb4 hC B3
  by_cases h3 : (cutL P m).length < 2
  case pos =>
    have t3 : decide (((cutL P m).length : Int) < 2) = true := decide_eq_true (by omega)
    obtain ⟨va, vc, rfl⟩ := hv.len
    clear hv
    go_wp2_with fail
    go_ret
    exact ⟨rfl, B4.out⟩
  have t3 : decide (((cutL P m).length : Int) < 2) = false := decide_eq_false (by omega)
  by_cases h4 : 600 < (cutL P m).length
  case pos =>
    have t4 : decide ((600 : Int) < ((cutL P m).length : Int)) = true := decide_eq_true (by omega)
    obtain ⟨va, vc, rfl⟩ := hv.len
    clear hv
    go_wp2_with fail
    go_ret
    exact ⟨rfl, B4.out⟩
  have t4 : decide ((600 : Int) < ((cutL P m).length : Int)) = false := decide_eq_false (by omega)
  have LOT := Lib.hid (lot16 SE.out HPE.out.symm HB0.out.1 HB0.out.2 hE (cut16_some SE.out hE (by omega)))
  clear SE HPE HB0 hE
  generalize pos15 P m = pos at *
  generalize cutL P m = T at *
  obtain ⟨vb, vc, rfl, hvb, hvc⟩ := hv.some (by intro e; rw [e] at h3; exact absurd (Nat.zero_lt_succ 1) h3)
  have VC := Lib.hid (And.intro hvb hvc)
  clear hv hvb hvc
  have HRO := Lib.hid (fun W => roomy16_any W)
  have HN := Lib.hid (fun W => newL16 ⟨64, 1048576, 64⟩ W)
  unfold S16.cells at HRO HN
  dsimp only at HRO HN
  go_wp2_with fail
  refine (HRO.out _).mono ?_
  rintro e w5 ⟨rfl, hb5⟩
  have B5 := Lib.hid (B4.out.trans (hb5.mono B4.out.size))
  have VC5 : Hid (vb < w5.heap.size ∧ ∀ (i : Nat) (h : i < T.length), w5.cell? ⟨vb, i, none⟩ = some (.string (T[i]'h))) := ⟨Nat.lt_of_lt_of_le VC.out.1 hb5.size, fun i h => (hb5.cell (p := ⟨vb, i, none⟩) VC.out.1).trans (VC.out.2 i h)⟩
  clear hb5 HRO VC B4
  go_wp2_with fail
  refine (HN.out _).mono ?_
  rintro e w6 hn
  rcases hn with ⟨_, tb, rfl, ht, hb6⟩ | ⟨hr, _⟩
  case inr => exact absurd roomy16_right hr
  have R6 : Hid (Run16 w w5 64 1048576 64 tb vb T w6 []) := ⟨ht, B5.out.trans (hb6.mono B5.out.size), hb6.size, fun i h => (hb6.cell (p := ⟨vb, i, none⟩) VC5.out.1).trans (VC5.out.2 i h), B5.out.size, VC5.out.1⟩
  clear ht hb6 HN VC5 B5
  have L2 : 2 ≤ T.length := by omega
  have L6 : T.length ≤ 600 := by omega
  clear h3 h4 t3 t4
  obtain ⟨k, hk, hkm⟩ : ∃ k : Nat, k + 1 < T.length ∧ (an : Int).tmod ((T.length : Int) - 1) = (k : Int) := by
    refine ⟨an % (T.length - 1), by have := Nat.mod_lt an (show 0 < T.length - 1 by omega); omega, ?_⟩
    have e2 : (T.length : Int) - 1 = ((T.length - 1 : Nat) : Int) := by omega
    rw [e2, tmod16]
  have t5 : (((T.length : Int) - 1) == 0) = false := by simp; omega
  have t6 : decide ((k : Int) < (T.length : Int)) = true := decide_eq_true (by omega)
  have cT := R6.out.cell k (by omega)
  have q := LOT.out.is k (by omega)
  have hsz := LOT.out.size k (by omega)
  have BAD := Lib.hid (fun (s : ByteArray) (hs : s.size = (getS (T[k]'(by omega))).size) => bad16 q hs)
  have GS := Lib.hid q.gs
  have HSZ : Hid (0 < (getS (T[k]'(by omega))).size ∧ (getS (T[k]'(by omega))).size ≤ 65535) := by
    have h1 := LOT.out.cut.size (show k < T.length by omega)
    have h2 := LOT.out.cut.up k (by omega)
    have h3 := got15 q.ge
    have e : getS (T[k]'(by omega)) = (pc16 pay T.length pos k).s := q.gs
    rw [e] at h3 ⊢
    exact ⟨by omega, by omega⟩
  have HG := Lib.hid (fun W => refget_any (T[k]'(by omega)) W (by omega))
  unfold RefGot at HG
  rw [q.ge] at HG
  clear q hsz
  generalize T[k]'(by omega) = xk at *
  generalize getH xk = X at *
  generalize getS xk = Y at *
  obtain ⟨x0, x1, x2, x3, x4, x5, x6, x7, x8, x9⟩ := X
  unfold H4.cells at HG
  dsimp only at HG
  go_wp2_with fail
  refine (HG.out _).mono ?_
  rintro e w7 ⟨rfl, hb7⟩
  have q7 := hb7.alloc hb7.size (.cells #[.int .i64 x0, .int .i64 x1, .int .i64 x2, .int .i64 x3, .int .i64 x4, .bool x5, .bool x6, .string x7, .string x8, .string x9] 43)
  have R8 := Lib.hid (R6.out.below q7)
  have NG := Lib.hid (Blk.new w7 #[.int .i64 x0, .int .i64 x1, .int .i64 x2, .int .i64 x3, .int .i64 x4, .bool x5, .bool x6, .string x7, .string x8, .string x9] 43)
  have Z8 : Hid (w7.heap.size < (w7.alloc (.cells #[.int .i64 x0, .int .i64 x1, .int .i64 x2, .int .i64 x3, .int .i64 x4, .bool x5, .bool x6, .string x7, .string x8, .string x9] 43)).heap.size ∧ w6.heap.size ≤ w7.heap.size) := ⟨by simp, hb7.size⟩
  clear q7 hb7 HG cT t5 t6 hkm R6
  obtain ⟨w8, hw8⟩ : ∃ w8, w8 = w7.alloc (.cells #[.int .i64 x0, .int .i64 x1, .int .i64 x2, .int .i64 x3, .int .i64 x4, .bool x5, .bool x6, .string x7, .string x8, .string x9] 43) := ⟨_, rfl⟩
  rw [← hw8] at R8 NG Z8
  obtain ⟨cap, w9, hcv, hby, hkb, hz9⟩ := bytes_conv w8 Y
  have HBY := Lib.hid hby
  have B9 := Lib.hid ((hkb.mono (T := fun k => w8.heap.size ≤ k) (fun _ _ h => h.elim)).below (Nat.le_refl _))
  have NG9 := Lib.hid ((hkb.block _ Z8.out.1 (fun h => h)).trans NG.out)
  clear hby hkb NG
  go_upto_region 19 with (fail)
  simp only [← hw8]
  clear hw8
  have hy0 : 0 < Y.data.toList.length := by have := HSZ.out.1; simpa using this
  have t7 : decide ((0 : Int) < (Y.size : Int)) = true := decide_eq_true (by have := HSZ.out.1; omega)
  have c0 := HBY.out.cell 0 hy0
  have f0 := HBY.out.frozen 0 hy0
  have hxo := xor_u8 Y.data.toList[0] bc
  obtain ⟨cx, hcx⟩ : ∃ cx : UInt8, cx = Y.data.toList[0] ^^^ bc := ⟨_, rfl⟩
  rw [← hcx] at hxo
  have HCX := Lib.hid hcx
  clear hcx
  generalize hcy : Y.data.toList[0] = cy at *
  have HCY := Lib.hid hcy
  clear hcy
  have HN := Lib.hid (HBY.out.set 0 cx (.int .u8 (cx.toNat : Int)) rfl)
  have HL2 := Lib.hid (show (Y.data.toList.set 0 cx).length = Y.size by simp)
  have hcv2 := HN.out.text (cap := cap) HL2.out.symm
  obtain ⟨Z, hZ⟩ : ∃ Z : ByteArray, Z = ⟨(Y.data.toList.set 0 cx).toArray⟩ := ⟨_, rfl⟩
  rw [← hZ] at hcv2
  have hZs : Z.size = Y.size := by rw [hZ, list_size, HL2.out]
  have hZY : Z ≠ Y := by
    rw [hZ, HCX.out, ← HCY.out]
    have := other16 (m := Y.data.toList) bc (b := bc) (l := Y.data.toList) (by intro e; apply h2; rw [e]; rfl) hy0
    exact this
  have HZ := Lib.hid (And.intro hZs hZY)
  clear hZ hZs hZY
  have hne : w7.heap.size ≠ w8.heap.size := by have := Z8.out.1; omega
  have NG10 := Lib.hid (Blk.set_other (p := ⟨w8.heap.size, 0, none⟩) NG9.out (by exact fun e => hne e) (.int .u8 (cx.toNat : Int)))
  have R10 := Lib.hid (R8.out.below (B9.out.setCell (p := ⟨w8.heap.size, 0, none⟩) (Nat.le_refl _) (.int .u8 (cx.toNat : Int))))
  have d0 := NG10.out.cell 0
  have d1 := NG10.out.cell 1
  have d2 := NG10.out.cell 2
  have d3 := NG10.out.cell 3
  have d4 := NG10.out.cell 4
  have d5 := NG10.out.cell 5
  have d6 := NG10.out.cell 6
  have d7 := NG10.out.cell 7
  have d8 := NG10.out.cell 8
  have d9 := NG10.out.cell 9
  simp only [List.getElem?_toArray, List.getElem?_cons_zero, List.getElem?_cons_succ] at d0 d1 d2 d3 d4 d5 d6 d7 d8 d9
  have ⟨hpe, hbad⟩ := BAD.out Z HZ.out.1
  have HPX := Lib.hid (fun W => refput_any ⟨x0, x1, x2, x3, x4, x5, x6, x7, x8, x9⟩ Z W (by have := HZ.out.1; have := HSZ.out.2; omega))
  rw [hpe] at HPX
  have HBAD := Lib.hid hbad
  clear hpe hbad BAD
  generalize putS ⟨x0, x1, x2, x3, x4, x5, x6, x7, x8, x9⟩ Z = bad at *
  unfold H4.cells at HPX
  dsimp only at HPX
  go_wp2_with fail
  generalize w9.setCell ⟨w8.heap.size, 0, none⟩ (.int .u8 (cx.toNat : Int)) = w10 at *
  clear d0 d1 d2 d3 d4 d5 d6 d7 d8 d9 c0 f0 hxo hcv hcv2 t7 HN HL2 NG10 NG9 B9 R8 HBY hne
  refine (HPX.out _).mono ?_
  rintro e w11 ⟨rfl, hb11⟩
  have R11 := Lib.hid (R10.out.below hb11)
  clear hb11 R10 HPX
  go_wp2_with fail
  go_loopw [24] (fun x wr => ∃ (i : Nat) (js : List Nat) (l : List E16), x = .int .i64 (i : Nat) ∧ i + 1 ≤ T.length ∧ One16 H pay T.length pos js l ∧ (∀ j, j ∈ js ↔ j < i) ∧ Run16 w w5 64 1048576 64 tb vb T wr l) (fun x _ => T.length - (intOf x).toNat)
  case atStart => exact ⟨0, [], [], rfl, by omega, One16.nil _ _ _ _, fun j => by simp, R11.out⟩
  case round =>
    obtain ⟨i, js, l, rfl, hi, ho, hjs, hr⟩ := hrel
    have RR := Lib.hid hr
    have OO := Lib.hid ho
    have JS := Lib.hid hjs
    clear hr ho hjs R11
    by_cases hlt : i + 1 < T.length
    case pos =>
      have t8 : decide ((i : Int) < (T.length : Int) - 1) = true := decide_eq_true (by omega)
      have hiT : Hid (i < T.length) := (show i < T.length by omega)
      have u0 : (0 : Int) ≤ (i : Int) := by omega
      have u1 : (i : Int) < (T.length : Int) := by omega
      have cT := RR.out.cell i hiT.out
      have hsz := LOT.out.size i hiT.out
      have ⟨l', hadd, ho'⟩ := (OO.out.add RR.out.tb.tab (by omega) LOT.out.cut hiT.out (fun e => by have := (JS.out i).1 e; omega) (LOT.out.is i hiT.out)).1 ⟨i + 1, hlt, fun e => by
        rcases insN_mem.1 e with e | e
        · omega
        · have := (JS.out _).1 e; omega⟩
      have HADD := Lib.hid (addL16 (T[i]'hiT.out) (by omega) wr RR.out.tb)
      rw [hadd] at HADD
      have OO' := Lib.hid ho'
      clear hadd ho' hsz
      generalize T[i]'hiT.out = xi at *
      dsimp only at HADD
      go_wp2_with fail
      refine HADD.out.mono ?_
      rintro e w12 ⟨rfl, ht, hk12⟩
      have R12 := Lib.hid (RR.out.add ht hk12)
      clear ht hk12 HADD cT RR
      have ew : IntKind.i64.wrap ((i : Int) + 1) = ((i + 1 : Nat) : Int) := by rw [IntWalk.i64_in _ (by omega)]; omega
      go_wp2_with fail
      refine ⟨⟨i + 1, _, l', rfl, by omega, OO'.out, fun j => by rw [insN_mem, JS.out j]; omega, R12.out⟩, ?_⟩
      simp [intOf]
      omega
    case neg =>
      have t8 : decide ((i : Int) < (T.length : Int) - 1) = false := decide_eq_false (by omega)
      obtain rfl : i = T.length - 1 := by omega
      have HB1 := Lib.hid (bytesL16 wr RR.out.tb)
      unfold Tells at HB1
      have hbb := HBAD.out.told RR.out.tb.tab LOT.out.cut OO.out ((JS.out k).2 (by omega)) (by rw [← GS.out]; exact HZ.out.1) (by rw [← GS.out]; exact HZ.out.2)
      have HADD := Lib.hid (fun W h => addL16 (S := fun i => w5.heap.size ≤ i) (tb := tb) (E := 64) (B := 1048576) (L := 64) (l := l) bad (by have := HBAD.out.size; omega) W h)
      rw [hbb] at HADD
      dsimp only at HADD
      have HB2 := Lib.hid (fun W h => bytesL16 (S := fun i => w5.heap.size ≤ i) (tb := tb) (E := 64) (B := 1048576) (L := 64) (l := l) W h)
      unfold Tells at HB2
      clear hbb
      generalize bytes16 l = bl at *
      go_wp2_with fail
      refine HB1.out.mono ?_
      rintro e w12 ⟨rfl, hb12⟩
      have R12 := Lib.hid (RR.out.below hb12)
      clear hb12 HB1 RR
      go_wp2_with fail
      refine (HADD.out _ R12.out.tb).mono ?_
      rintro e w13 ⟨rfl, ht, hk13⟩
      have R13 := Lib.hid (R12.out.add ht hk13)
      clear ht hk13 R12 HADD
      have t9 : ((bl : Int) != (bl : Int)) = false := by simp
      go_wp2_with fail
      refine (HB2.out _ R13.out.tb).mono ?_
      rintro e w14 ⟨rfl, hb14⟩
      have R14 := Lib.hid (R13.out.below hb14)
      clear hb14 R13 HB2
      have hlast : Hid (T.length - 1 < T.length) := (show T.length - 1 < T.length by omega)
      have cT := R14.out.cell (T.length - 1) hlast.out
      have hsz := LOT.out.size (T.length - 1) hlast.out
      have ⟨e', hadd, _⟩ := (OO.out.add R14.out.tb.tab (by omega) LOT.out.cut hlast.out (fun e => by have := (JS.out _).1 e; omega) (LOT.out.is _ hlast.out)).2 (fun j hj => by
        rw [insN_mem, JS.out j]; omega)
      rw [LOT.out.made, LOT.out.ok] at hadd
      have HADD := Lib.hid (fun W h => addL16 (S := fun i => w5.heap.size ≤ i) (tb := tb) (E := 64) (B := 1048576) (L := 64) (l := l) (T[T.length - 1]'hlast.out) (by omega) W h)
      rw [hadd] at HADD
      dsimp only at HADD
      clear hadd hsz
      have u2 : ((T.length : Int) - 1) = ((T.length - 1 : Nat) : Int) := by omega
      generalize T[T.length - 1]'hlast.out = xl at *
      have u0 : (0 : Int) ≤ ((T.length - 1 : Nat) : Int) := by omega
      have u1 : ((T.length - 1 : Nat) : Int) < (T.length : Int) := by omega
      have s1 := str_eq P
      go_wp2_with fail
      refine (HADD.out _ R14.out.tb).mono ?_
      rintro e w15 ⟨rfl, ht, hk15⟩
      have R15 := Lib.hid (R14.out.add ht hk15)
      clear ht hk15 HADD cT R14
      go_wp2_with fail
      go_ret
      exact ⟨rfl, R15.out.bel⟩

end Go.Proofs.Ytoijomdgcgbpbaa
