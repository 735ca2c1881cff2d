/-
  FragTwice returns true at every input.
-/
import Derived.Test.YtmcajhplieigoaaFragAwake
import Derived.Test.YtmcajhplieigoaaFragPlain
import Derived.Deep.QuietTactic
import Derived.BigQuiet
namespace Go.Proofs.Ytmcajhplieigoaa
open Go.RowKit Go.Shelf
set_option linter.unusedVariables false

theorem inner15 (S : ByteArray) {a b c d : Nat} (h : c ≤ d) (hd : d ≤ b - a) (hab : a ≤ b) : (S.extract a b).extract c d = S.extract (a + c) (a + d) := by
  rw [ByteArray.extract_extract, show min (a + d) b = a + d by omega]

/-- A piece's piece y, which has the bytes A to A2 of the packet's payload S. -/
structure Twice15 (h : H4) (S y : ByteArray) (A A2 : Nat) (O : Int) (F : Bool) (B : ByteArray) : Prop where
  ge : getE y = 0
  gh : getH y = ⟨h.tos, h.id, O, h.ttl, h.proto, h.df, F, h.src, h.dst, h.opt⟩
  gs : getS y = B
  size : y.size ≤ 65535
  at_ : (O - h.off) * 8 = (A : Int)
  next : A + B.size = A2
  top : A2 ≤ S.size
  is : S.extract A (A + B.size) = B
  mf : F = (h.mf || decide (A2 < S.size))
  o : 0 ≤ O ∧ O ≤ 8191
  off : 0 ≤ h.off ∧ h.off ≤ 8191

theorem twice15 {p : ByteArray} {a b : Int} {i : Nat} {x : ByteArray} (q : Piece15 p a i x) (hx : cutE x b = 0) :
    ∃ PS : Nat → Nat, PS 0 = 0 ∧ pos15 p a i + PS (cutL x b).length = pos15 p a (i + 1) ∧ ∀ (j : Nat) (hj : j < (cutL x b).length), ∃ O F B, Twice15 (getH p) (getS p) ((cutL x b)[j]'hj) (pos15 p a i + PS j) (pos15 p a i + PS (j + 1)) O F B := by
  have hup := q.up
  have htop := q.top
  have hmod := q.mod
  have hmore := q.more
  have hoff := q.off
  have hxs : (getS x).size = pos15 p a (i + 1) - pos15 p a i := by rw [q.gs, ByteArray.size_extract]; omega
  refine ⟨pos15 x b, pos15_zero (cutL_pos hx), by rw [pos15_end, hxs]; omega, fun j hj => ?_⟩
  have r := piece15 hx j hj
  generalize (cutL x b)[j]'hj = y at *
  obtain ⟨_, _, h65, _⟩ := cut15_ok hx
  have rup := r.up
  have rtop := r.top
  have rmod := r.mod
  have rmore := r.more
  have roff := r.off
  have rle := r.le
  have hB : ((getS x).extract (pos15 x b j) (pos15 x b (j + 1))).size = pos15 x b (j + 1) - pos15 x b j := by rw [ByteArray.size_extract]; omega
  have hxo : (getH x).off = (getH p).off + ((pos15 p a i / 8 : Nat) : Int) := by rw [q.gh]; rfl
  rw [hxo] at roff
  refine ⟨(getH p).off + ((pos15 p a i / 8 : Nat) : Int) + ((pos15 x b j / 8 : Nat) : Int), (getH p).mf || decide (pos15 p a i + pos15 x b (j + 1) < (getS p).size), _, ⟨r.ge, ?_, r.gs, by omega, by omega, by rw [hB]; omega, by omega, ?_, rfl, by omega, by omega⟩⟩
  · rw [r.gh, q.gh]
    have hmf : (((getH p).mf || decide (i + 1 < (cutL p a).length)) || decide (j + 1 < (cutL x b).length)) = ((getH p).mf || decide (pos15 p a i + pos15 x b (j + 1) < (getS p).size)) := by
      cases (getH p).mf with
      | true => simp
      | false =>
        rw [Bool.false_or, Bool.false_or, Bool.eq_iff_iff]
        simp only [Bool.or_eq_true, decide_eq_true_eq]
        omega
    unfold H4.at15
    dsimp only
    rw [hmf]
  · rw [hB, q.gs, inner15 _ rup (by omega) hup, show pos15 p a i + pos15 x b j + (pos15 x b (j + 1) - pos15 x b j) = pos15 p a i + pos15 x b (j + 1) by omega]

set_option maxRecDepth 100000 in
set_option maxHeartbeats 2000000 in
theorem fragtwice_any (p : ByteArray) (a b : Int) (w : World) (hp : p.size ≤ 140737488355328) :
    Calls Try.prog 5 #[.string p, .int .i64 a, .int .i64 b] w (AwakeEnd w) := by
  have HA := Lib.hid (awake_any w)
  by_cases h1 : 2000 < p.size
  case pos =>
    have t1 : decide ((2000 : Int) < (p.size : Int)) = true := decide_eq_true (by omega)
    go_enter Try.func5, Try.ntmps5
    go_wp2_with fail
    refine HA.out.mono ?_
    rintro e w1 ⟨rfl, hb1⟩
    have B1 := Lib.hid hb1
    clear hb1
    go_wp2_with fail
    go_ret
    exact ⟨rfl, B1.out⟩
  have t1 : decide ((2000 : Int) < (p.size : Int)) = false := decide_eq_false (by omega)
  have HC := Lib.hid (fun W => cut_any p a W (by omega))
  have HG := Lib.hid (fun W => get_any p W (by omega))
  unfold CutEnd at HC
  unfold GetEnd at HG
  by_cases hE : cutE p a = 0
  case neg =>
    have t4 : (((cutE p a : Nat) : Int) != 0) = true := by simp; omega
    generalize cutE p a = E at *
    unfold H4.cells at HG
    go_enter Try.func5, Try.ntmps5
    go_wp2_with fail
    refine HA.out.mono ?_
    rintro e w1 ⟨rfl, hb1⟩
    have B1 := Lib.hid hb1
    clear hb1 HA
    go_wp2_with fail
    refine (HC.out _).mono ?_
    rintro e w2 ⟨hb2, v1, rfl, hv1⟩
    obtain ⟨va, vc, rfl⟩ := hv1.len
    have B2 := Lib.hid (B1.out.trans (hb2.mono B1.out.size))
    clear hb2 hv1 B1 HC
    go_wp2_with fail
    refine (HG.out _).mono ?_
    rintro e w3 ⟨rfl, hb3⟩
    have B3 := Lib.hid (B2.out.trans (hb3.mono B2.out.size))
    clear hb3 B2 HG
    go_wp2_with fail
    go_ret
    exact ⟨rfl, B3.out.alloc B3.out.size _⟩
  have hlen0 := cutL_pos hE
  have HZ := Lib.hid (pos15_zero hlen0)
  have HZE := Lib.hid (pos15_end p a)
  have HX := Lib.hid (fun (i : Nat) (hi : i < (cutL p a).length) (hx : cutE ((cutL p a)[i]'hi) b = 0) => twice15 (piece15 hE i hi) hx)
  have HXS := Lib.hid (fun (i : Nat) (hi : i < (cutL p a).length) => (piece15 hE i hi).le)
  have HXP := Lib.hid (fun (i : Nat) (hi : i < (cutL p a).length) => And.intro (piece15 hE i hi).up (piece15 hE i hi).top)
  obtain ⟨hg, h28, h65, hrst⟩ := cut15_ok hE
  clear hrst
  have HGT := got15 hg
  have hLL := cutL_length p a (by omega)
  have hSz : (getS p).size ≤ 65535 := by omega
  rw [hg] at HG
  rw [hE] at HC
  clear HGT hg
  generalize pos15 p a = P0 at *
  generalize getH p = H at *
  generalize getS p = S at *
  generalize cutL p a = L at *
  obtain ⟨ht, hi, ho, httl, hpr, hdf, hmf, hsr, hds, hop⟩ := H
  have HCB := Lib.hid (fun (x : ByteArray) (h : (x.size : Int) ≤ a) W => cut_any x b W (by omega))
  have HGB := Lib.hid (fun (x : ByteArray) (h : x.size ≤ 65535) W => get_any x W (by omega))
  unfold CutEnd at HCB
  unfold GetEnd at HGB
  unfold H4.cells at HG HGB
  dsimp only at HG
  go_enter Try.func5, Try.ntmps5
  go_wp2_with fail
  refine HA.out.mono ?_
  rintro e w1 ⟨rfl, hb1⟩
  have B1 := Lib.hid hb1
  clear hb1 HA
  go_wp2_with fail
  refine (HC.out _).mono ?_
  rintro e w2 ⟨hb2, v1, rfl, hv1⟩
  have B2 := Lib.hid (B1.out.trans (hb2.mono B1.out.size))
  obtain ⟨vb, vc, rfl, hvb, hvc⟩ := hv1.some (by intro e; rw [e] at hlen0; exact absurd hlen0 (by decide))
  have VC := Lib.hid hvc
  have VB := Lib.hid hvb
  clear hb2 hv1 hvc B1 HC hvb
  go_wp2_with fail
  refine (HG.out _).mono ?_
  rintro e w3 ⟨rfl, hb3⟩
  have N3 := Lib.hid (Blk.new w3 (H4.cells ⟨ht, hi, ho, httl, hpr, hdf, hmf, hsr, hds, hop⟩) 33)
  have B3 := Lib.hid (B2.out.trans ((hb3.alloc hb3.size (.cells (H4.cells ⟨ht, hi, ho, httl, hpr, hdf, hmf, hsr, hds, hop⟩) 33)).mono B2.out.size))
  have VC3 : Hid (∀ i (h : i < L.length), (w3.alloc (.cells (H4.cells ⟨ht, hi, ho, httl, hpr, hdf, hmf, hsr, hds, hop⟩) 33)).cell? ⟨vb, i, none⟩ = some (.string (L[i]'h))) :=
    fun i h => ((hb3.alloc hb3.size (.cells (H4.cells ⟨ht, hi, ho, httl, hpr, hdf, hmf, hsr, hds, hop⟩) 33)).cell (p := ⟨vb, i, none⟩) VB.out).trans (VC.out i h)
  have VB3 : Hid (vb < w3.heap.size) := Nat.lt_of_lt_of_le VB.out hb3.size
  have HW := Lib.hid (show (w3.alloc (.cells (H4.cells ⟨ht, hi, ho, httl, hpr, hdf, hmf, hsr, hds, hop⟩) 33)).heap.size = w3.heap.size + 1 by simp)
  unfold H4.cells at N3 B3 VC3 HW
  dsimp only at N3 B3 VC3 HW
  clear hb3 B2 HG VC VB
  go_wp2_with fail
  generalize hw4 : w3.alloc (.cells #[.int .i64 ht, .int .i64 hi, .int .i64 ho, .int .i64 httl, .int .i64 hpr, .bool hdf, .bool hmf, .string hsr, .string hds, .string hop] 33) = w4 at *
  clear hw4
  generalize w3.heap.size = bh at *
  go_loopw [12, 13] (fun at_ i wr => ∃ k : Nat, k ≤ L.length ∧ at_ = .int .i64 ((P0 k : Nat) : Int) ∧ i = .int .i64 k ∧ Below w4.heap.size w4 wr) (fun _ i _ => L.length - (intOf i).toNat)
  case atStart => exact ⟨0, Nat.zero_le _, by rw [HZ.out]; rfl, rfl, Below.refl _ _⟩
  case round =>
    obtain ⟨k, hk, rfl, rfl, hb⟩ := hrel
    have KB := Lib.hid hb
    have KL : Hid (w4.heap.size = bh + 1) := HW.out
    have BB := Lib.hid (B3.out.trans (hb.mono B3.out.size))
    by_cases hlt : k < L.length
    · have tk : decide ((k : Int) < (L.length : Int)) = true := decide_eq_true (by omega)
      have d1 := (hb.cell (p := ⟨vb, k, none⟩) (by have := VB3.out; have := HW.out; show vb < _; omega)).trans (VC3.out k hlt)
      have HXk := Lib.hid (HX.out k hlt)
      have HXSk := HXS.out k hlt
      have HXPk := HXP.out k hlt
      have HCk := HCB.out (L[k]'hlt)
      generalize L[k]'hlt = T at *
      replace HCk := HCk HXSk
      have HCk := Lib.hid HCk
      have hkL : Hid (k + 1 ≤ L.length) := hlt
      generalize hP : P0 k = P at *
      clear hb
      go_wp2_with fail
      refine (HCk.out _).mono ?_
      rintro e w5 ⟨hb5, v5, rfl, hv5⟩
      have KB5 := Lib.hid (KB.out.trans (hb5.mono KB.out.size))
      have BB5 := Lib.hid (B3.out.trans (KB5.out.mono B3.out.size))
      by_cases hx : cutE T b = 0
      case neg =>
        have t5 : (((cutE T b : Nat) : Int) != 0) = true := by simp; omega
        obtain ⟨vg, vgc, rfl⟩ := hv5.len
        clear hb5 hv5 HCk d1
        go_wp2_with fail
        go_ret
        exact ⟨rfl, BB5.out⟩
      have t5 : (((cutE T b : Nat) : Int) != 0) = false := by rw [hx]; rfl
      have hMpos := cutL_pos hx
      obtain ⟨PS, ps0, psE, hT⟩ := HXk.out hx
      obtain ⟨vg, vgc, rfl, hvg, hvgc⟩ := hv5.some (by intro e; rw [e] at hMpos; exact absurd hMpos (by decide))
      have hML := cutL_length T b (by omega)
      generalize cutL T b = M at *
      generalize cutE T b = E5 at *
      have VG5 := Lib.hid hvgc
      have VG := Lib.hid hvg
      have HT := Lib.hid hT
      have PE := Lib.hid psE
      have PZ := Lib.hid ps0
      clear hb5 hv5 HCk d1 hvgc hT hvg HXk psE ps0 hx
      go_wp2_with fail
      go_loopw [12, 16] (fun at_ j wr2 => ∃ q : Nat, q ≤ M.length ∧ at_ = .int .i64 ((P + PS q : Nat) : Int) ∧ j = .int .i64 q ∧ Below w5.heap.size w5 wr2) (fun _ j _ => M.length - (intOf j).toNat)
      case atStart => exact ⟨0, Nat.zero_le _, by rw [PZ.out]; rfl, rfl, Below.refl _ _⟩
      case round =>
        obtain ⟨q, hq, rfl, rfl, hb6⟩ := hrel
        have KI := Lib.hid hb6
        have KB6 := Lib.hid (KB5.out.trans (hb6.mono KB5.out.size))
        have BB6 := Lib.hid (B3.out.trans (KB6.out.mono B3.out.size))
        by_cases hlq : q < M.length
        · have tq : decide ((q : Int) < (M.length : Int)) = true := decide_eq_true (by omega)
          have hqL : Hid (q + 1 ≤ M.length) := hlq
          have d2 := (hb6.cell (p := ⟨vg, q, none⟩) VG.out).trans (VG5.out q hlq)
          obtain ⟨O, F, B, tw⟩ := HT.out q hlq
          have hG := HGB.out (M[q]'hlq) tw.size
          generalize M[q]'hlq = Y at *
          rw [tw.ge, tw.gh, tw.gs] at hG
          dsimp only at hG
          have HGk := Lib.hid hG
          have hnext := Lib.hid tw.next
          have htop := tw.top
          have hat := tw.at_
          have his := tw.is
          have hmfE := Lib.hid tw.mf
          have ⟨o1, o2⟩ := tw.o
          have ⟨o3, o4⟩ := tw.off
          dsimp only at hat o3 o4 hmfE
          have hn1 := hnext.out
          have b1 : (B.size : Int) ≤ 65535 := by omega
          have hA0 : P + PS q ≤ 65535 := by omega
          have b3 : ((P + PS q : Nat) : Int) + (B.size : Int) ≤ (S.size : Int) := by omega
          have hmfE2 : Hid (F = (hmf || decide (((P + PS q : Nat) : Int) + (B.size : Int) < (S.size : Int)))) := by
            have e := hmfE.out
            have e2 : decide (P + PS (q + 1) < S.size) = decide (((P + PS q : Nat) : Int) + (B.size : Int) < (S.size : Int)) := by
              rw [Bool.eq_iff_iff]; simp only [decide_eq_true_eq]; omega
            rw [e2] at e; exact e
          have HQ : Hid (((P + PS q : Nat) : Int) + (B.size : Int) = ((P + PS (q + 1) : Nat) : Int)) := by show _ = _; omega
          clear tw hb6 hG hmfE hnext hn1 htop
          generalize P + PS q = A at *
          have hAt := Lib.hid hat
          have u1 : ((O - ho) * 8 != (A : Int)) = false := by rw [hat]; simp
          have u2 : decide ((S.size : Int) < (A : Int) + (B.size : Int)) = false := decide_eq_false (by omega)
          have u3 := str_ne B
          clear hat
          go_wp2_with fail
          refine (HGk.out _).mono ?_
          rintro e w7 ⟨rfl, hb7⟩
          have q7 := hb7.alloc hb7.size (.cells #[.int .i64 ht, .int .i64 hi, .int .i64 O, .int .i64 httl, .int .i64 hpr, .bool hdf, .bool F, .string hsr, .string hds, .string hop] 33)
          have NG := Lib.hid (Blk.new w7 #[.int .i64 ht, .int .i64 hi, .int .i64 O, .int .i64 httl, .int .i64 hpr, .bool hdf, .bool F, .string hsr, .string hds, .string hop] 33)
          have KI7 := Lib.hid (KI.out.trans (q7.mono KI.out.size))
          have KB7 := Lib.hid (KB5.out.trans (KI7.out.mono KB5.out.size))
          have KH := Lib.hid ((KB7.out.block bh (by have := KL.out; omega)).trans N3.out)
          have BB7 := Lib.hid (B3.out.trans (KB7.out.mono B3.out.size))
          clear hb7 q7 HGk d2 KI KB6 BB6
          go_upto_region 20 with (fail)
          generalize w7.alloc (.cells #[.int .i64 ht, .int .i64 hi, .int .i64 O, .int .i64 httl, .int .i64 hpr, .bool hdf, .bool F, .string hsr, .string hds, .string hop] 33) = w8 at *
          generalize w7.heap.size = bg at *
          have c2 := NG.out.cell 2
          have c6 := NG.out.cell 6
          have d2 := Blk.cell KH.out 2
          have d6 := Blk.cell KH.out 6
          simp at c2 c6 d2 d6
          have hmfE3 := hmfE2.out
          by_cases hd : (A : Int) + (B.size : Int) < (S.size : Int)
          case' pos =>
            have td : decide ((A : Int) + (B.size : Int) < (S.size : Int)) = true := decide_eq_true hd
          case' neg =>
            have td : decide ((A : Int) + (B.size : Int) < (S.size : Int)) = false := decide_eq_false hd
          all_goals
            rw [td] at hmfE3
            cases hmf
            all_goals
              simp only [Bool.true_or, Bool.false_or] at hmfE3
              subst hmfE3
              go_wp2_with fail
              exact ⟨⟨q + 1, hqL.out, by rw [HQ.out], by go_num, KI7.out⟩, by simp [intOf]; have := hqL.out; omega⟩
        · have tq : decide ((q : Int) < (M.length : Int)) = false := decide_eq_false (by omega)
          have hqe : q = M.length := by omega
          subst hqe
          rw [PE.out]
          clear hb6
          go_wp2_with fail
          exact ⟨⟨k + 1, hkL.out, rfl, by go_num, KB6.out⟩, by simp [intOf]; have := hkL.out; omega⟩
    · have tk : decide ((k : Int) < (L.length : Int)) = false := decide_eq_false (by omega)
      have hke : k = L.length := by omega
      subst hke
      rw [HZE.out]
      clear hb
      go_wp2_with fail
      go_ret
      exact ⟨rfl, BB.out⟩

end Go.Proofs.Ytmcajhplieigoaa
