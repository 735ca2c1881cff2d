/-
  ReasmOnce returns true at every input.
-/
import Derived.Test.YtoijomdgcgbpbaaReasmOnce1
namespace Go.Proofs.Ytoijomdgcgbpbaa
open Go.RowKit Go.Shelf
set_option linter.unusedVariables false

set_option maxRecDepth 100000 in
set_option maxHeartbeats 2000000 in
theorem once16_any (h : H4) (pay : ByteArray) (m : Int) (oa : Option Addr) (on oc : Nat) (C : Nat → UInt16) (w : World) (hp : pay.size ≤ 140737488355328) (ho : U16sAt w w.heap.size oa on C) (hon : on ≤ 140737488355328) :
    Calls Try.prog 5 #[.agg h.cells, .string pay, .int .i64 m, .slice oa on oc] w (AwakeEnd w) := by
  have hmf : ∀ (fn : Fn) (first cap : Array Value) (w : World), (Instr.makeFunc fn first cap).run Try.prog w = .ok (.func fn first cap) w := fun _ _ _ _ => rfl
  have HO := Lib.hid ho
  clear ho
  have HA := Lib.hid (awake16_any (w.alloc (.cells h.cells 43)))
  have H1 := Lib.hid (fun W => refput_any h.half16 pay W hp)
  unfold AwakeEnd at HA
  have S1 := Lib.hid (Held.new w h)
  have PT := Lib.hid (put_cases h.half16 pay)
  have HC := Lib.hid (fun (x : ByteArray) (hx : x.size ≤ 65535) W => cut_any x m W (by omega))
  unfold CutEnd at HC
  have HB0 : Hid (h.half16.off = 0 ∧ h.half16.mf = false) := ⟨rfl, rfl⟩
  generalize hP : putS h.half16 pay = P at *
  generalize hE : putE h.half16 pay = E at *
  have HPE := Lib.hid hP
  clear hP hE
  obtain ⟨w0, hw0⟩ : ∃ w0, w0 = w.alloc (.cells h.cells 43) := ⟨_, rfl⟩
  rw [← hw0] at HA S1
  unfold H4.cells at hw0 H1 ⊢
  dsimp only [H4.half16] at H1
  go_enter Try.func5, Try.ntmps5
  go_wp2_with fail
  simp only [← hw0]
  clear hw0
  refine HA.out.mono ?_
  rintro e w1 ⟨rfl, hb1⟩
  have S2 := Lib.hid (S1.out.below hb1)
  clear hb1 S1 HA
  by_cases h1 : 20000 < pay.size
  case pos =>
    have t1 : decide ((20000 : Int) < (pay.size : Int)) = true := decide_eq_true (by omega)
    go_wp2_with fail
    go_ret
    exact ⟨rfl, S2.out.bel⟩
  have t1 : decide ((20000 : Int) < (pay.size : Int)) = false := decide_eq_false (by omega)
  by_cases h2 : 300 < on
  case pos =>
    have t2 : decide ((300 : Int) < (on : Int)) = true := decide_eq_true (by omega)
    go_wp2_with fail
    go_ret
    exact ⟨rfl, S2.out.bel⟩
  have t2 : decide ((300 : Int) < (on : Int)) = false := decide_eq_false (by omega)
  have ⟨c0, c1, c2, c3, c4, c5, c6, c7, c8, c9⟩ := Hc.of S2.out.b
  have f2 := S2.out.b.frozen 2
  have f6 := S2.out.b.frozen 6
  go_wp2_with fail
  have S3 := Lib.hid S2.out.half16
  generalize (w1.setCell ⟨w.heap.size, 2, none⟩ (.int .i64 0)).setCell ⟨w.heap.size, 6, none⟩ (.bool false) = w2 at *
  clear c0 c1 c2 c3 c4 c5 c6 c7 c8 c9 f2 f6 S2 t1 t2
  refine (H1.out _).mono ?_
  rintro e w3 ⟨rfl, hb3⟩
  have B3 := Lib.hid (S3.out.bel.trans ((hb3.alloc hb3.size (.cells #[.string P] 9)).mono S3.out.bel.size))
  have NP := Lib.hid (Blk.new w3 #[.string P] 9)
  have cp := NP.out.cell 0
  simp only [List.getElem?_toArray, List.getElem?_cons_zero] at cp
  clear hb3 S3 H1
  generalize h.half16 = H at *
  rcases PT.out with ⟨rfl, hsent⟩ | ⟨hE, rfl⟩
  case inr =>
    have t3 : ((E : Int) != 0) = true := by simp; omega
    go_wp2_with fail
    go_ret
    exact ⟨rfl, B3.out⟩
  have SE := Lib.hid hsent
  have hC := HC.out P (by rw [hsent.size]; exact hsent.fit)
  clear hsent PT HC
  by_cases hE : cutE P m = 0
  case neg =>
    have t3 : (((cutE P m : Nat) : Int) != 0) = true := by simp; omega
    go_wp2_with fail
    refine (hC _).mono ?_
    rintro e w4 ⟨hb4, v, rfl, hv⟩
    obtain ⟨va, vc, rfl⟩ := hv.len
    have B4 := Lib.hid (B3.out.trans (hb4.mono B3.out.size))
    clear hb4 hC hv B3
    go_wp2_with fail
    go_ret
    exact ⟨rfl, B4.out⟩
  rw [hE] at hC
  go_wp2_with fail
  refine (hC _).mono ?_
  rintro e w4 ⟨hb4, v, rfl, hv⟩
  have B4 := Lib.hid (B3.out.trans (hb4.mono B3.out.size))
  have NP4 := Lib.hid ((hb4.block _ NP.out.lt).trans NP.out)
  have PL4 : Hid (w3.heap.size < w4.heap.size) := Nat.lt_of_lt_of_le NP.out.lt hb4.size
  clear hb4 hC B3 cp NP
  by_cases h4 : 600 < (cutL P m).length
  case pos =>
    have t4 : decide ((600 : Int) < ((cutL P m).length : Int)) = true := decide_eq_true (by omega)
    obtain ⟨va, vc, rfl⟩ := hv.len
    clear hv
    go_wp2_with fail
    go_ret
    exact ⟨rfl, B4.out⟩
  have t4 : decide ((600 : Int) < ((cutL P m).length : Int)) = false := decide_eq_false (by omega)
  obtain ⟨St, ring⟩ := ring16 SE.out HPE.out.symm HB0.out.1 HB0.out.2 hE
  have RG := Lib.hid ring
  clear SE HPE HB0 hE ring
  generalize cutL P m = T at *
  have h3 := RG.out.some
  obtain ⟨vb, vc, rfl, hvb, hvc⟩ := hv.some (by intro e; rw [e] at h3; exact absurd h3 (by decide))
  have VC := Lib.hid (And.intro hvb hvc)
  clear hv hvb hvc
  have HRO := Lib.hid (fun W => roomy16_any W)
  have HN := Lib.hid (fun W => newL16 ⟨64, 1048576, 64⟩ W)
  unfold S16.cells at HRO HN
  dsimp only at HRO HN
  go_wp2_with fail
  refine (HRO.out _).mono ?_
  rintro e w5 ⟨rfl, hb5⟩
  have B5 := Lib.hid (B4.out.trans (hb5.mono B4.out.size))
  have VC5 : Hid (vb < w5.heap.size ∧ ∀ (i : Nat) (h : i < T.length), w5.cell? ⟨vb, i, none⟩ = some (.string (T[i]'h))) := ⟨Nat.lt_of_lt_of_le VC.out.1 hb5.size, fun i h => (hb5.cell (p := ⟨vb, i, none⟩) VC.out.1).trans (VC.out.2 i h)⟩
  have NP5 := Lib.hid ((hb5.block _ PL4.out).trans NP4.out)
  have PL5 : Hid (w3.heap.size < w5.heap.size) := Nat.lt_of_lt_of_le PL4.out hb5.size
  clear hb5 HRO VC B4 NP4 PL4
  go_wp2_with fail
  refine (HN.out _).mono ?_
  rintro e w6 hn
  rcases hn with ⟨_, tb, rfl, ht, hb6⟩ | ⟨hr, _⟩
  case inr => exact absurd roomy16_right hr
  have hz7 : (w6.alloc (.cells #[.pointer (some ⟨tb, 0, none⟩)] 27)).heap.size = w6.heap.size + 1 := by simp
  have b7 : Below w6.heap.size w6 (w6.alloc (.cells #[.pointer (some ⟨tb, 0, none⟩)] 27)) := (Below.refl _ _).alloc (Nat.le_refl _) _
  have ct := (Blk.new w6 #[.pointer (some ⟨tb, 0, none⟩)] 27).cell 0
  simp only [List.getElem?_toArray, List.getElem?_cons_zero] at ct
  have b8 : Below w6.heap.size w6 ((w6.alloc (.cells #[.pointer (some ⟨tb, 0, none⟩)] 27)).alloc (.cells #[.int .i64 0] 3)) := b7.alloc b7.size _
  have ht8 := (ht.but b7 (by omega)).but ((Below.refl _ (w6.alloc (.cells #[.pointer (some ⟨tb, 0, none⟩)] 27))).alloc (Nat.le_refl _) (.cells #[.int .i64 0] 3)) (by simp)
  have R8 : Hid (Onc16 w w5 tb vb w6.heap.size (w6.heap.size + 1) w3.heap.size T P ((w6.alloc (.cells #[.pointer (some ⟨tb, 0, none⟩)] 27)).alloc (.cells #[.int .i64 0] 3)) (made1 false) []) := by
    have hz6 := hb6.size
    rw [hz7] at ht8
    refine ⟨ht8, B5.out.trans ((hb6.trans (b8.mono hz6)).mono B5.out.size), Nat.le_trans hz6 b8.size, fun i h => ?_, B5.out.size, VC5.out.1, (Blk.new w6 _ _).alloc _, ?_, ?_, PL5.out, hz6, by omega, by omega⟩
    · exact ((hb6.trans (b8.mono hz6)).cell (p := ⟨vb, i, none⟩) VC5.out.1).trans (VC5.out.2 i h)
    · have := Blk.new (w6.alloc (.cells #[.pointer (some ⟨tb, 0, none⟩)] 27)) #[.int .i64 0] 3
      rw [hz7] at this
      exact this
    · exact ((hb6.trans (b8.mono hz6)).block _ PL5.out).trans NP5.out
  clear ht ht8 b7 b8 hb6 HN VC5 B5 NP5 PL5
  go_upto_region 17 with (fail)
  have L6 : T.length ≤ 600 := by omega
  clear ct hz7 h3 h4 t4
  have L1 : 0 < T.length := RG.out.some
  generalize (w6.alloc (.cells #[.pointer (some ⟨tb, 0, none⟩)] 27)).alloc (.cells #[.int .i64 0] 3) = w8 at *
  generalize w6.heap.size + 1 = mB at *
  generalize w6.heap.size = tB at *
  generalize w3.heap.size = pB at *
  have t5 : ((T.length : Int) == 0) = false := beq_false_of_ne (by omega)
  have HCL := Lib.hid (fun (d d' : Bool) (l l' : List E16) (x q : ByteArray) (f : Nat) (hx : x.size ≤ 65535) (hadd : add16 64 1048576 l x = ((q, f), l')) (hc : (f = 10 ∧ d = false ∧ d' = false) ∨ (f = 0 ∧ q = P ∧ d = false ∧ d' = true) ∨ (f = 12 ∧ d = true ∧ d' = true)) (W : World) (h : Onc16 w w5 tb vb tB mB pB T P W (made1 d) l) => once1_any x q f hx hadd hc W h)
  go_wp2_with fail
  go_loopw [17] (fun x wr => ∃ (i : Nat) (js : List Nat) (d : Bool) (l : List E16), x = .int .i64 (i : Nat) ∧ i ≤ on ∧ St js d l ∧ Onc16 w w5 tb vb tB mB pB T P wr (made1 d) l) (fun x _ => on - (intOf x).toNat)
  case atStart => exact ⟨0, [], false, [], rfl, by omega, RG.out.start, R8.out⟩
  case round =>
    obtain ⟨i, js, d, l, rfl, hi, hst, hr⟩ := hrel
    have RR := Lib.hid hr
    have ST := Lib.hid hst
    clear hr hst R8
    by_cases hlt : i < on
    case pos =>
      have t6 : decide ((i : Int) < (on : Int)) = true := decide_eq_true (by omega)
      have ew : IntKind.i64.wrap ((i : Int) + 1) = ((i + 1 : Nat) : Int) := by rw [IntWalk.i64_in _ (by omega)]; omega
      have u0 : (0 : Int) ≤ (i : Int) := by omega
      have u1 : (i : Int) < (on : Int) := by omega
      obtain ⟨ob, off, rfl, hob, hoc⟩ : ∃ ob off, oa = some ⟨ob, off, none⟩ ∧ ob < w.heap.size ∧ ∀ i, i < on → wr.cell? ⟨ob, off + i, none⟩ = some (.int .u16 ((C i).toNat : Int)) := by
        rcases HO.out.below RR.out.bel with h | h
        · omega
        · exact h
      have co := hoc i hlt
      have hC := (C i).toNat_lt
      clear hoc hob
      obtain ⟨r, hr, hrw⟩ : ∃ r : Nat, r < T.length ∧ (((C i).toNat : Int)).tmod (T.length : Int) = ((r : Nat) : Int) := ⟨(C i).toNat % T.length, Nat.mod_lt _ (by omega), tmod16 _ _⟩
      generalize (C i).toNat = ci at *
      have v0 : (0 : Int) ≤ (r : Int) := by omega
      have v1 : (r : Int) < (T.length : Int) := by omega
      have cT := RR.out.cell r hr
      have hsz := RG.out.size r hr
      obtain ⟨q, f, l', d', hadd, hst', hcase⟩ := RG.out.step js d l r hr RR.out.tab.tab ST.out
      have HCALL := Lib.hid (HCL.out d d' l l' _ q f hsz hadd hcase wr RR.out)
      have ST' := Lib.hid hst'
      clear hadd hst' hcase hsz
      generalize T[r]'hr = xi at *
      go_wp2_with fail
      refine HCALL.out.mono ?_
      rintro e w12 ⟨rfl, hr12⟩
      have R12 := Lib.hid hr12
      clear hr12 HCALL cT RR co
      go_wp2_with fail
      refine ⟨⟨i + 1, _, d', l', rfl, by omega, ST'.out, R12.out⟩, ?_⟩
      simp [intOf]
      omega
    case neg =>
      have t6 : decide ((i : Int) < (on : Int)) = false := decide_eq_false (by omega)
      go_wp2_with fail
      go_loopw [18] (fun x wr => ∃ (i : Nat) (y : Int) (js : List Nat) (d : Bool) (l : List E16), x = .int .i64 y ∧ y = (i : Int) - 1 ∧ i ≤ T.length ∧ St js d l ∧ (∀ j, i ≤ j → j < T.length → j ∈ js) ∧ Onc16 w w5 tb vb tB mB pB T P wr (made1 d) l) (fun x _ => (intOf x + 1).toNat)
      case atStart => exact ⟨T.length, _, js, d, l, rfl, rfl, Nat.le_refl _, ST.out, fun j h1 h2 => by omega, RR.out⟩
      case round =>
        obtain ⟨i, y, js, d, l, rfl, hy, hi, hst, hjs, hr⟩ := hrel
        have RR2 := Lib.hid hr
        have ST2 := Lib.hid hst
        have JS := Lib.hid hjs
        clear hr hst hjs RR ST
        by_cases hpos : 0 < i
        case pos =>
          obtain ⟨k, rfl⟩ : ∃ k, i = k + 1 := ⟨i - 1, by omega⟩
          obtain rfl : y = (k : Int) := by omega
          clear hy
          have t7 : decide ((0 : Int) ≤ (k : Int)) = true := decide_eq_true (by omega)
          have ew : IntKind.i64.wrap ((k : Int) - 1) = (k : Int) - 1 := IntWalk.i64_in _ (by omega)
          have v0 : (0 : Int) ≤ (k : Int) := by omega
          have v1 : (k : Int) < (T.length : Int) := by omega
          have hkl : k < T.length := by omega
          have cT := RR2.out.cell k hkl
          have hsz := RG.out.size k hkl
          obtain ⟨q, f, l', d', hadd, hst', hcase⟩ := RG.out.step js d l k hkl RR2.out.tab.tab ST2.out
          have HCALL := Lib.hid (HCL.out d d' l l' _ q f hsz hadd hcase wr RR2.out)
          have ST' := Lib.hid hst'
          clear hadd hst' hcase hsz
          generalize T[k]'hkl = xi at *
          go_wp2_with fail
          refine HCALL.out.mono ?_
          rintro e w12 ⟨rfl, hr12⟩
          have R12 := Lib.hid hr12
          clear hr12 HCALL cT RR2
          go_wp2_with fail
          refine ⟨⟨k, _, _, d', l', rfl, rfl, by omega, ST'.out, fun j h1 h2 => ?_, R12.out⟩, ?_⟩
          · by_cases e : j = k
            · rw [e]; exact List.mem_cons_self ..
            · exact List.mem_cons_of_mem _ (JS.out j (by omega) h2)
          · show (((k : Int) - 1) + 1).toNat < ((k : Int) + 1).toNat
            omega
        case neg =>
          obtain rfl : i = 0 := by omega
          have t7 : decide ((0 : Int) ≤ y) = false := decide_eq_false (by omega)
          clear hy
          obtain rfl : d = true := RG.out.all js d l ST2.out (fun j hj => JS.out j (Nat.zero_le _) hj)
          have ⟨k1, k2, k3⟩ := RG.out.over js l ST2.out
          have HB := Lib.hid (fun W h => bytesL16 (S := fun i => (w5.heap.size ≤ i ∧ i ≠ tB) ∧ i ≠ mB) (tb := tb) (E := 64) (B := 1048576) (L := 64) (l := l) W h)
          have HOP := Lib.hid (fun W h => openL16 (S := fun i => (w5.heap.size ≤ i ∧ i ≠ tB) ∧ i ≠ mB) (tb := tb) (E := 64) (B := 1048576) (L := 64) (l := l) W h)
          have HL := Lib.hid (fun W h => lenL16 (S := fun i => (w5.heap.size ≤ i ∧ i ≠ tB) ∧ i ≠ mB) (tb := tb) (E := 64) (B := 1048576) (L := 64) (l := l) W h)
          rw [k1] at HB
          rw [k2] at HOP
          rw [k3] at HL
          unfold Tells at HB HOP HL
          clear k1 k2 k3
          have c1 := RR2.out.bm.cell 0
          have c2 := RR2.out.bt.cell 0
          unfold made1 at c1
          simp only [List.getElem?_toArray, List.getElem?_cons_zero] at c1 c2
          go_wp2_with fail
          clear c1 c2
          refine (HB.out _ RR2.out.tab).mono ?_
          rintro e w13 ⟨rfl, hb13⟩
          have R13 := Lib.hid (RR2.out.below hb13)
          have c2 := R13.out.bt.cell 0
          simp only [List.getElem?_toArray, List.getElem?_cons_zero] at c2
          clear hb13 HB RR2
          go_wp2_with fail
          clear c2
          refine (HOP.out _ R13.out.tab).mono ?_
          rintro e w14 ⟨rfl, hb14⟩
          have R14 := Lib.hid (R13.out.below hb14)
          have c2 := R14.out.bt.cell 0
          simp only [List.getElem?_toArray, List.getElem?_cons_zero] at c2
          clear hb14 HOP R13
          go_wp2_with fail
          clear c2
          refine (HL.out _ R14.out.tab).mono ?_
          rintro e w15 ⟨rfl, hb15⟩
          have R15 := Lib.hid (R14.out.below hb15)
          clear hb15 HL R14
          go_wp2_with fail
          go_ret
          exact ⟨rfl, R15.out.bel⟩

end Go.Proofs.Ytoijomdgcgbpbaa
