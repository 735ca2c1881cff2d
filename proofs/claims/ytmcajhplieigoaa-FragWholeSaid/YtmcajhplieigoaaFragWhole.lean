/-
  FragWhole returns true at every input.
-/
import Derived.Test.YtmcajhplieigoaaFragAwake
import Derived.Test.YtmcajhplieigoaaFragPlain
import Derived.Deep.QuietTactic
import Derived.BigQuiet
namespace Go.Proofs.Ytmcajhplieigoaa
open Go.RowKit Go.Shelf
set_option linter.unusedVariables false

/-- What holds of piece i, in one. -/
theorem piece15_all {p : ByteArray} {m : Int} (h : cutE p m = 0) (i : Nat) (hi : i < (cutL p m).length) :
    ∃ (O : Int) (F : Bool) (B : ByteArray), getE ((cutL p m)[i]'hi) = 0 ∧ getH ((cutL p m)[i]'hi) = ⟨(getH p).tos, (getH p).id, O, (getH p).ttl, (getH p).proto, (getH p).df, F, (getH p).src, (getH p).dst, (getH p).opt⟩ ∧
      getS ((cutL p m)[i]'hi) = B ∧ O = (getH p).off + ((pos15 p m i : Nat) : Int) / 8 ∧ F = ((getH p).mf || decide (i + 1 < (cutL p m).length)) ∧ B = (getS p).extract (pos15 p m i) (pos15 p m (i + 1)) ∧ B.size = pos15 p m (i + 1) - pos15 p m i ∧
      (((cutL p m)[i]'hi).size : Int) ≤ m ∧ pos15 p m i ≤ pos15 p m (i + 1) ∧ pos15 p m (i + 1) ≤ (getS p).size ∧ (i + 1 < (cutL p m).length → B.size ≠ 0 ∧ B.size % 8 = 0) ∧
      cutE ((cutL p m)[i]'hi) m = 0 ∧ cutL ((cutL p m)[i]'hi) m = [(cutL p m)[i]'hi] ∧ 0 ≤ (getH p).off ∧ (getH p).off ≤ 8191 := by
  have q := piece15 h i hi
  have ha := q.again h
  have hu := q.up
  have ht := q.top
  have ho := q.off
  have hB : ((getS p).extract (pos15 p m i) (pos15 p m (i + 1))).size = pos15 p m (i + 1) - pos15 p m i := by rw [ByteArray.size_extract]; omega
  refine ⟨(getH p).off + ((pos15 p m i / 8 : Nat) : Int), (getH p).mf || decide (i + 1 < (cutL p m).length), _, q.ge, q.gh, q.gs, by omega, rfl, rfl, hB, q.le, hu, ht, ?_, ha.1, ha.2, ho.1, by omega⟩
  intro hl
  have hm := q.mid hl
  rw [hB]
  omega

theorem join15 (S : ByteArray) {a b : Nat} (h : a ≤ b) (hb : b ≤ S.size) : S.extract 0 a ++ S.extract a b = S.extract 0 b := by
  rw [ByteArray.extract_append_extract]
  congr 1 <;> omega

theorem full15 (S : ByteArray) : S.extract 0 S.size = S := by
  apply text_ext
  rw [extract_list, List.take_of_length_le (by simp), List.drop_zero]

theorem nil15 (S : ByteArray) : S.extract 0 0 = ⟨#[]⟩ := by
  apply text_ext
  rw [extract_list]
  simp

set_option maxRecDepth 100000 in
set_option maxHeartbeats 2000000 in
theorem fragwhole_any (p : ByteArray) (m : Int) (w : World) (hp : p.size ≤ 140737488355328) :
    Calls Try.prog 4 #[.string p, .int .i64 m] w (AwakeEnd w) := by
  have HA := Lib.hid (awake_any w)
  by_cases h1 : 70000 < p.size
  case pos =>
    have t1 : decide ((70000 : Int) < (p.size : Int)) = true := decide_eq_true (by omega)
    go_enter Try.func4, Try.ntmps4
    go_wp2_with fail
    refine HA.out.mono ?_
    rintro e w1 ⟨rfl, hb1⟩
    have B1 := Lib.hid hb1
    clear hb1
    go_wp2_with fail
    go_ret
    exact ⟨rfl, B1.out⟩
  have t1 : decide ((70000 : Int) < (p.size : Int)) = false := decide_eq_false (by omega)
  by_cases h2 : 3000 < p.size ∧ m < 400
  case pos =>
    have t2 : decide ((3000 : Int) < (p.size : Int)) = true := decide_eq_true (by omega)
    have t3 : decide (m < 400) = true := decide_eq_true h2.2
    clear h2
    go_enter Try.func4, Try.ntmps4
    go_wp2_with fail
    refine HA.out.mono ?_
    rintro e w1 ⟨rfl, hb1⟩
    have B1 := Lib.hid hb1
    clear hb1
    go_wp2_with fail
    go_ret
    exact ⟨rfl, B1.out⟩
  have t23 : decide ((3000 : Int) < (p.size : Int)) = false ∨ (decide ((3000 : Int) < (p.size : Int)) = true ∧ decide (m < 400) = false) := by
    simp only [decide_eq_true_eq, decide_eq_false_iff_not]; omega
  clear h2
  have HC := Lib.hid (fun W => cut_any p m W (by omega))
  have HG := Lib.hid (fun W => get_any p W (by omega))
  unfold CutEnd at HC
  unfold GetEnd at HG
  by_cases hE : cutE p m = 0
  case neg =>
    have hl := cutL_err hE
    rw [hl] at HC
    have t4 : (((cutE p m : Nat) : Int) != 0) = true := by simp; omega
    generalize cutE p m = E at *
    rcases t23 with t2 | ⟨t2, t3⟩
    all_goals
      go_enter Try.func4, Try.ntmps4
      go_wp2_with fail
      refine HA.out.mono ?_
      rintro e w1 ⟨rfl, hb1⟩
      have B1 := Lib.hid hb1
      clear hb1 HA
      go_wp2_with fail
      refine (HC.out _).mono ?_
      rintro e w2 ⟨hb2, v1, rfl, hv1⟩
      obtain ⟨va, vc, rfl⟩ := hv1.none rfl
      have B2 := Lib.hid (B1.out.trans (hb2.mono B1.out.size))
      clear hb2 hv1 B1 HC HG
      go_wp2_with fail
      go_ret
      exact ⟨rfl, B2.out⟩
  have hlen0 := cutL_pos hE
  have HPC := Lib.hid (piece15_all hE)
  have hp0 := pos15_zero hlen0
  have hpE := pos15_end p m
  obtain ⟨hg, h28, h65, hrst⟩ := cut15_ok hE
  clear hrst
  have HGT := got15 hg
  have hLL := cutL_length p m (by omega)
  have hSz : (getS p).size ≤ 65535 := by omega
  rw [hg] at HG
  rw [hE] at HC
  have HZ := Lib.hid hp0
  have HZE := Lib.hid hpE
  clear HGT hp0 hpE hg
  generalize pos15 p m = PS at *
  generalize getH p = H at *
  generalize getS p = S at *
  generalize hLe : cutL p m = L at *
  obtain ⟨ht, hi, ho, httl, hpr, hdf, hmf, hsr, hds, hop⟩ := H
  have HCA := Lib.hid (fun (x : ByteArray) (h : (x.size : Int) ≤ m) W => cut_any x m W (by omega))
  have HGA := Lib.hid (fun (x : ByteArray) (h : (x.size : Int) ≤ m) W => get_any x W (by omega))
  unfold CutEnd at HCA
  unfold GetEnd at HGA
  unfold H4.cells at HG HGA
  dsimp only at HG HPC
  rcases t23 with t2 | ⟨t2, t3⟩
  all_goals
    go_enter Try.func4, Try.ntmps4
    go_wp2_with fail
    refine HA.out.mono ?_
    rintro e w1 ⟨rfl, hb1⟩
    have B1 := Lib.hid hb1
    clear hb1 HA
    go_wp2_with fail
    refine (HC.out _).mono ?_
    rintro e w2 ⟨hb2, v1, rfl, hv1⟩
    have B2 := Lib.hid (B1.out.trans (hb2.mono B1.out.size))
    obtain ⟨vb, vc, rfl, hvb, hvc⟩ := hv1.some (by intro e; rw [e] at hlen0; exact absurd hlen0 (by decide))
    have VC := Lib.hid hvc
    have VB := Lib.hid hvb
    have tz : ((L.length : Int) == 0) = false := beq_false_of_ne (by omega)
    clear hb2 hv1 hvc B1 HC hvb
    go_wp2_with fail
    refine (HG.out _).mono ?_
    rintro e w3 ⟨rfl, hb3⟩
    have N3 := Lib.hid (Blk.new w3 (H4.cells ⟨ht, hi, ho, httl, hpr, hdf, hmf, hsr, hds, hop⟩) 33)
    have B3 := Lib.hid (B2.out.trans ((hb3.alloc hb3.size (.cells (H4.cells ⟨ht, hi, ho, httl, hpr, hdf, hmf, hsr, hds, hop⟩) 33)).mono B2.out.size))
    have VC3 : Hid (∀ i (h : i < L.length), (w3.alloc (.cells (H4.cells ⟨ht, hi, ho, httl, hpr, hdf, hmf, hsr, hds, hop⟩) 33)).cell? ⟨vb, i, none⟩ = some (.string (L[i]'h))) :=
      fun i h => ((hb3.alloc hb3.size (.cells (H4.cells ⟨ht, hi, ho, httl, hpr, hdf, hmf, hsr, hds, hop⟩) 33)).cell (p := ⟨vb, i, none⟩) VB.out).trans (VC.out i h)
    have VB3 : Hid (vb < w3.heap.size) := Nat.lt_of_lt_of_le VB.out hb3.size
    unfold H4.cells at N3 B3 VC3
    dsimp only at N3 B3 VC3
    clear hb3 B2 HG VC VB
    go_wp2_with fail
    have HW := Lib.hid (show (w3.alloc (.cells (H4.cells ⟨ht, hi, ho, httl, hpr, hdf, hmf, hsr, hds, hop⟩) 33)).heap.size = w3.heap.size + 1 by simp)
    unfold H4.cells at HW
    dsimp only at HW
    generalize hw4 : w3.alloc (.cells #[.int .i64 ht, .int .i64 hi, .int .i64 ho, .int .i64 httl, .int .i64 hpr, .bool hdf, .bool hmf, .string hsr, .string hds, .string hop] 33) = w4 at *
    clear hw4
    generalize w3.heap.size = bh at *
    go_loopw [10, 11] (fun tx i wr => ∃ k : Nat, k ≤ L.length ∧ tx = .string (S.extract 0 (PS k)) ∧ i = .int .i64 k ∧ Below w4.heap.size w4 wr) (fun _ i _ => L.length - (intOf i).toNat)
    case atStart => exact ⟨0, Nat.zero_le _, by rw [HZ.out, nil15], rfl, Below.refl _ _⟩
    case round =>
      obtain ⟨k, hk, rfl, rfl, hb⟩ := hrel
      have KB := Lib.hid hb
      have KH := Lib.hid ((hb.block bh (by have := HW.out; omega)).trans N3.out)
      have KL : Hid (w4.heap.size = bh + 1) := HW.out
      have BB := Lib.hid (B3.out.trans (hb.mono B3.out.size))
      by_cases hlt : k < L.length
      · have tk : decide ((k : Int) < (L.length : Int)) = true := decide_eq_true (by omega)
        have d1 := (hb.cell (p := ⟨vb, k, none⟩) (by have := VB3.out; have := HW.out; show vb < _; omega)).trans (VC3.out k hlt)
        have hpc := HPC.out k hlt
        have HGk := HGA.out (L[k]'hlt)
        have HCk := HCA.out (L[k]'hlt)
        generalize L[k]'hlt = T at *
        obtain ⟨O, F, B, e1, e2, e3, e4, e5, e6, e7, e8, e9, e10, e11, e12, e13, e14, e15⟩ := hpc
        replace HGk := HGk e8
        replace HCk := HCk e8
        rw [e1, e2, e3] at HGk
        rw [e12, e13] at HCk
        dsimp only at HGk
        have HGk := Lib.hid HGk
        have HCk := Lib.hid HCk
        have hAz : (S.extract 0 (PS k)).size = PS k := by rw [ByteArray.size_extract]; omega
        have HJ := Lib.hid (join15 S e9 e10)
        rw [← e6] at HJ
        have hBz : B.size ≤ 65535 := by omega
        have hTz : T.size ≤ 65535 := by omega
        have hkL : Hid (k + 1 ≤ L.length) := hlt
        generalize hA : S.extract 0 (PS k) = A at *
        have hAz2 : A.size ≤ 65535 := by omega
        have u4 : (O != ho + (A.size : Int) / 8) = false := by rw [hAz, e4]; simp
        have u2 : decide (m < (T.size : Int)) = false := decide_eq_false (by omega)
        have E5 := Lib.hid e5
        have E11 := Lib.hid e11
        clear hb e1 e2 e3 e12 e13 e4 e5 e6 e7 e9 e10 e11 hA hAz
        go_wp2_with fail
        refine (HGk.out _).mono ?_
        rintro e w5 ⟨rfl, hb5⟩
        have NG5 := Lib.hid (Blk.new w5 #[.int .i64 ht, .int .i64 hi, .int .i64 O, .int .i64 httl, .int .i64 hpr, .bool hdf, .bool F, .string hsr, .string hds, .string hop] 33)
        have q5 := hb5.alloc hb5.size (.cells #[.int .i64 ht, .int .i64 hi, .int .i64 O, .int .i64 httl, .int .i64 hpr, .bool hdf, .bool F, .string hsr, .string hds, .string hop] 33)
        have KB5 := Lib.hid (KB.out.trans (q5.mono KB.out.size))
        have d1' := (q5.cell (p := ⟨vb, k, none⟩) (by have := VB3.out; have := KL.out; have := KB.out.size; show vb < _; omega)).trans d1
        have lt5 : Hid (w4.heap.size ≤ w5.heap.size) := Nat.le_trans KB.out.size hb5.size
        clear hb5 q5 d1 HGk
        go_wp2_with fail
        generalize w5.alloc (.cells #[.int .i64 ht, .int .i64 hi, .int .i64 O, .int .i64 httl, .int .i64 hpr, .bool hdf, .bool F, .string hsr, .string hds, .string hop] 33) = w6 at *
        generalize w5.heap.size = bg at *
        refine (HCk.out _).mono ?_
        rintro e w7 ⟨hb7, v7, rfl, hv7⟩
        obtain ⟨vg, vgc, rfl, hvg, hvgc⟩ := hv7.some (by simp)
        have d2 := hvgc 0 (by simp)
        simp only [List.getElem_cons_zero] at d2
        have NG7 := (hb7.block _ NG5.out.lt).trans NG5.out
        have d1'' := (hb7.cell (p := ⟨vb, k, none⟩) (by have := VB3.out; have := KL.out; have := KB5.out.size; show vb < _; omega)).trans d1'
        have KB7 := Lib.hid (KB5.out.trans (hb7.mono KB5.out.size))
        have KH7 := (KB7.out.block bh (by have := KL.out; omega)).trans N3.out
        have NG : Hid (Blk w7 bg #[.int .i64 ht, .int .i64 hi, .int .i64 O, .int .i64 httl, .int .i64 hpr, .bool hdf, .bool F, .string hsr, .string hds, .string hop] 33) := NG7
        have KH : Hid (Blk w7 bh #[.int .i64 ht, .int .i64 hi, .int .i64 ho, .int .i64 httl, .int .i64 hpr, .bool hdf, .bool hmf, .string hsr, .string hds, .string hop] 33) := KH7
        have gO := NG.out.cell 2
        have hO := KH.out.cell 2
        have sT := str_ne T
        simp at gO hO
        clear hb7 hv7 hvgc d1' NG5 KB5 HCk NG7 KH7
        go_wp2_with fail
        go_quiet (fail)
        have NG2 := Lib.hid (NG.out.drewN nq)
        have KH2 := Lib.hid (KH.out.drewN nq)
        have KB8 := Lib.hid (below_drewN KB7.out nq)
        clear NG KH KB7 gO hO d1'' d2 sT u2 u4
        generalize w7.drewN nq = w8 at *
        have c0 := NG2.out.cell 0
        have c1 := NG2.out.cell 1
        have c2 := NG2.out.cell 2
        have c3 := NG2.out.cell 3
        have c4 := NG2.out.cell 4
        have c5 := NG2.out.cell 5
        have c6 := NG2.out.cell 6
        have c7 := NG2.out.cell 7
        have c8 := NG2.out.cell 8
        have c9 := NG2.out.cell 9
        have d0 := KH2.out.cell 0
        have d1 := KH2.out.cell 1
        have d2 := KH2.out.cell 2
        have d3 := KH2.out.cell 3
        have d4 := KH2.out.cell 4
        have d5 := KH2.out.cell 5
        have d6 := KH2.out.cell 6
        have d7 := KH2.out.cell 7
        have d8 := KH2.out.cell 8
        have d9 := KH2.out.cell 9
        have f2 := NG2.out.frozen 2
        have f6 := NG2.out.frozen 6
        simp at c0 c1 c2 c3 c4 c5 c6 c7 c8 c9 d0 d1 d2 d3 d4 d5 d6 d7 d8 d9
        have hne : bg ≠ bh := by have := lt5.out; have := KL.out; omega
        have E4a : (A.size : Int) ≤ 65535 := by omega
        by_cases hl : k + 1 < L.length
        case' pos =>
          have tl : ((k : Int) == (L.length : Int) - 1) = false := beq_false_of_ne (by omega)
          obtain ⟨b1, b2⟩ := E11.out hl
          have t5 : ((B.size : Int) % 8 != 0) = false := by simp; omega
          have t6 : ((B.size : Int) == 0) = false := beq_false_of_ne (by omega)
          have hF : F = true := by rw [E5.out, decide_eq_true hl, Bool.or_true]
          subst hF
        case' neg =>
          have tl : ((k : Int) == (L.length : Int) - 1) = true := by rw [beq_iff_eq]; omega
          have hF : hmf = F := by rw [E5.out, decide_eq_false hl, Bool.or_false]
          subst hF
        all_goals
          clear E5 E11 hl
          cases hmf with
          | true =>
            have NG3 : Hid (Blk ((w8.setCell ⟨bg, 2, none⟩ (.int .i64 ho)).setCell ⟨bg, 6, none⟩ (.bool true)).drew bg #[.int .i64 ht, .int .i64 hi, .int .i64 ho, .int .i64 httl, .int .i64 hpr, .bool hdf, .bool true, .string hsr, .string hds, .string hop] 33) :=
              ((NG2.out.set 2 (.int .i64 ho)).set 6 _).drew
            have KH3 : Hid (Blk ((w8.setCell ⟨bg, 2, none⟩ (.int .i64 ho)).setCell ⟨bg, 6, none⟩ (.bool true)).drew bh #[.int .i64 ht, .int .i64 hi, .int .i64 ho, .int .i64 httl, .int .i64 hpr, .bool hdf, .bool true, .string hsr, .string hds, .string hop] 33) :=
              ((KH2.out.set_other (p := ⟨bg, 2, none⟩) (by exact fun e => hne e.symm) _).set_other (p := ⟨bg, 6, none⟩) (by exact fun e => hne e.symm) _).drew
            have KB9 : Hid (Below w4.heap.size w4 ((w8.setCell ⟨bg, 2, none⟩ (.int .i64 ho)).setCell ⟨bg, 6, none⟩ (.bool true)).drew) :=
              ((KB8.out.setCell (p := ⟨bg, 2, none⟩) lt5.out _).setCell (p := ⟨bg, 6, none⟩) lt5.out _).drew
            have s1 := str_ne hsr
            have s2 := str_ne hds
            have s3 := str_ne hop
            have s4 := str_eq hsr
            have s5 := str_eq hds
            have s6 := str_eq hop
            go_wp2_with fail
            go_region
            clear c0 c1 c2 c3 c4 c5 c6 c7 c8 c9 d0 d1 d2 d3 d4 d5 d6 d7 d8 d9 f2 f6 NG2 KH2 KB8
            generalize ((w8.setCell ⟨bg, 2, none⟩ (.int .i64 ho)).setCell ⟨bg, 6, none⟩ (.bool true)).drew = w9 at *
            have c0 := NG3.out.cell 0
            have c1 := NG3.out.cell 1
            have c2 := NG3.out.cell 2
            have c3 := NG3.out.cell 3
            have c4 := NG3.out.cell 4
            have c5 := NG3.out.cell 5
            have c6 := NG3.out.cell 6
            have c7 := NG3.out.cell 7
            have c8 := NG3.out.cell 8
            have c9 := NG3.out.cell 9
            have d0 := KH3.out.cell 0
            have d1 := KH3.out.cell 1
            have d2 := KH3.out.cell 2
            have d3 := KH3.out.cell 3
            have d4 := KH3.out.cell 4
            have d5 := KH3.out.cell 5
            have d6 := KH3.out.cell 6
            have d7 := KH3.out.cell 7
            have d8 := KH3.out.cell 8
            have d9 := KH3.out.cell 9
            simp at c0 c1 c2 c3 c4 c5 c6 c7 c8 c9 d0 d1 d2 d3 d4 d5 d6 d7 d8 d9
            go_wp2_with fail
            exact ⟨⟨k + 1, hkL.out, by rw [HJ.out], by go_num, KB9.out⟩, by simp [intOf]; have := hkL.out; omega⟩
          | false =>
            have NG3 : Hid (Blk ((w8.setCell ⟨bg, 2, none⟩ (.int .i64 ho)).setCell ⟨bg, 6, none⟩ (.bool false)).drew bg #[.int .i64 ht, .int .i64 hi, .int .i64 ho, .int .i64 httl, .int .i64 hpr, .bool hdf, .bool false, .string hsr, .string hds, .string hop] 33) :=
              ((NG2.out.set 2 (.int .i64 ho)).set 6 _).drew
            have KH3 : Hid (Blk ((w8.setCell ⟨bg, 2, none⟩ (.int .i64 ho)).setCell ⟨bg, 6, none⟩ (.bool false)).drew bh #[.int .i64 ht, .int .i64 hi, .int .i64 ho, .int .i64 httl, .int .i64 hpr, .bool hdf, .bool false, .string hsr, .string hds, .string hop] 33) :=
              ((KH2.out.set_other (p := ⟨bg, 2, none⟩) (by exact fun e => hne e.symm) _).set_other (p := ⟨bg, 6, none⟩) (by exact fun e => hne e.symm) _).drew
            have KB9 : Hid (Below w4.heap.size w4 ((w8.setCell ⟨bg, 2, none⟩ (.int .i64 ho)).setCell ⟨bg, 6, none⟩ (.bool false)).drew) :=
              ((KB8.out.setCell (p := ⟨bg, 2, none⟩) lt5.out _).setCell (p := ⟨bg, 6, none⟩) lt5.out _).drew
            have s1 := str_ne hsr
            have s2 := str_ne hds
            have s3 := str_ne hop
            have s4 := str_eq hsr
            have s5 := str_eq hds
            have s6 := str_eq hop
            go_wp2_with fail
            go_region
            clear c0 c1 c2 c3 c4 c5 c6 c7 c8 c9 d0 d1 d2 d3 d4 d5 d6 d7 d8 d9 f2 f6 NG2 KH2 KB8
            generalize ((w8.setCell ⟨bg, 2, none⟩ (.int .i64 ho)).setCell ⟨bg, 6, none⟩ (.bool false)).drew = w9 at *
            have c0 := NG3.out.cell 0
            have c1 := NG3.out.cell 1
            have c2 := NG3.out.cell 2
            have c3 := NG3.out.cell 3
            have c4 := NG3.out.cell 4
            have c5 := NG3.out.cell 5
            have c6 := NG3.out.cell 6
            have c7 := NG3.out.cell 7
            have c8 := NG3.out.cell 8
            have c9 := NG3.out.cell 9
            have d0 := KH3.out.cell 0
            have d1 := KH3.out.cell 1
            have d2 := KH3.out.cell 2
            have d3 := KH3.out.cell 3
            have d4 := KH3.out.cell 4
            have d5 := KH3.out.cell 5
            have d6 := KH3.out.cell 6
            have d7 := KH3.out.cell 7
            have d8 := KH3.out.cell 8
            have d9 := KH3.out.cell 9
            simp at c0 c1 c2 c3 c4 c5 c6 c7 c8 c9 d0 d1 d2 d3 d4 d5 d6 d7 d8 d9
            go_wp2_with fail
            exact ⟨⟨k + 1, hkL.out, by rw [HJ.out], by go_num, KB9.out⟩, by simp [intOf]; have := hkL.out; omega⟩
      · have tk : decide ((k : Int) < (L.length : Int)) = false := decide_eq_false (by omega)
        have hke : k = L.length := by omega
        subst hke
        rw [HZE.out, full15]
        have hs := str_eq S
        clear hb
        go_wp2_with fail
        go_ret
        exact ⟨rfl, BB.out⟩

end Go.Proofs.Ytmcajhplieigoaa
