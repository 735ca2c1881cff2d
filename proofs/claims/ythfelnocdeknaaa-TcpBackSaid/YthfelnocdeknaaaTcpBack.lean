/-
  TcpBack returns true at every input.
-/
import Derived.Test.YthfelnocdeknaaaTcpAwake
import Derived.Test.YthfelnocdeknaaaTcpPut
import Derived.Test.YthfelnocdeknaaaTcpGet
import Derived.Deep.CutBlock
import Derived.Deep.DeepCutAuto
namespace Go.Proofs.Ythfelnocdeknaaa
open Go.RowKit
set_option linter.unusedVariables false

theorem put7_cases (h : S7) (sum : Int) (hw : h.Wf) : (put7E h sum = 0 ∧ Sent7 h sum (put7S h sum)) ∨ (put7E h sum ≠ 0 ∧ put7S h sum = ⟨#[]⟩) := by
  rcases put7_told h sum with ⟨e, hok, hn, hs⟩ | ⟨e, hs⟩
  · exact Or.inl ⟨e, by rw [hs]; exact put7_get h sum hok hw hn⟩
  · exact Or.inr ⟨e, hs⟩
theorem str_eq7 (s : ByteArray) : (s.toList == s.toList) = true := by simp

set_option maxRecDepth 100000 in
set_option maxHeartbeats 4000000 in
theorem back7_any (h : S7) (sum : Int) (p : ByteArray) (w : World) (hwf : h.Wf) (hp2 : p.size ≤ 140737488355328) :
    Calls Try.prog 5 #[.agg h.cells, .int .i64 sum, .string p] w (AwakeEnd w) := by
  have HA := Lib.hid (awake7_any (w.alloc (.cells h.cells 24)))
  have HF := Lib.hid (fun W => few7_any h W)
  have H1 := Lib.hid (fun W hp => put7_any h sum W hwf hp)
  have S1 := Lib.hid (Held7.new w h)
  have FW := Lib.hid ((S7.few_iff h).1)
  have PT := Lib.hid (put7_cases h sum hwf)
  generalize h.few = fw at *
  unfold Put7End at H1
  generalize put7S h sum = P at *
  generalize put7E h sum = E at *
  unfold S7.cells at HA HF H1 S1 ⊢
  go_enter Try.func5, Try.ntmps5
  go_wp2_with fail
  refine HA.out.mono ?_
  rintro e w1 ⟨rfl, hb1⟩
  have S2 := Lib.hid (S1.out.below hb1)
  clear hb1 S1 HA
  have ⟨c0, c1, c2, c3, c4, c5, c6, c7, c8⟩ := Hc7.of S2.out.b
  go_wp2_with fail
  refine (HF.out _).mono ?_
  rintro e w2 ⟨rfl, hb2⟩
  have S3 := Lib.hid (S2.out.below hb2)
  clear hb2 S2 HF c0 c1 c2 c3 c4 c5 c6 c7 c8
  cases fw
  · go_wp2_with fail
    go_ret
    exact ⟨rfl, S3.out.bel⟩
  have hfew := FW.out rfl
  by_cases h8 : p.size ≤ 5000
  case neg =>
    have t8 : decide ((5000 : Int) < (p.size : Int)) = true := by simp; omega
    go_wp2_with fail
    go_ret
    exact ⟨rfl, S3.out.bel⟩
  have t8 : decide ((5000 : Int) < (p.size : Int)) = false := by simp; omega
  have H2 := Lib.hid (fun W => H1.out W (by omega))
  have HFW := Lib.hid hfew
  clear H1 FW hfew
  have ⟨c0, c1, c2, c3, c4, c5, c6, c7, c8⟩ := Hc7.of S3.out.b
  go_wp2_with fail
  refine (H2.out _).mono ?_
  rintro e w3 ⟨rfl, hb3⟩
  have S4 := Lib.hid (S3.out.below hb3)
  clear hb3 S3 H2 c0 c1 c2 c3 c4 c5 c6 c7 c8 t8
  go_upto_if 34 with (fail)
  go_cut [7] (fun v wx => Hid (Below w.heap.size w wx))
  case first =>
    rcases PT.out with ⟨rfl, hsent⟩ | ⟨hE, rfl⟩
    · have hPs : P.size ≤ 6000 := by rw [hsent.size]; have := hsent.ok.few; have := HFW.out; omega
      have G1 := Lib.hid (fun W => get7_any P W (by omega))
      have R1 := Lib.hid (fun W => right_call h.opt W (by have := HFW.out; unfold maxLen; omega))
      unfold Get7End at G1
      have hg := hsent.got
      cases hr : rightL h.opt.data.toList with
      | true =>
        rw [hr, if_pos rfl] at hg
        have hgo := get7_ok hg
        rw [hgo.1, hgo.2, hsent.hd, hsent.num, hg] at G1
        rw [hr] at R1
        clear hsent PT hg hgo hr hPs
        unfold S7.cells at G1
        go_wp2_with fail
        refine (G1.out _).mono ?_
        rintro e w4 ⟨rfl, hb4⟩
        have S5 := Lib.hid (S4.out.below hb4)
        clear hb4 S4 G1
        have ⟨c0, c1, c2, c3, c4, c5, c6, c7, c8⟩ := Hc7.of S5.out.b
        have lN := S5.out.lt
        go_wp2_with fail
        refine (R1.out _).mono ?_
        rintro e w5 ⟨rfl, hb5⟩
        have GB : Hid (Blk w5 w4.heap.size h.cells 24) := (hb5.block _ (Blk.new w4 h.cells 24).lt).trans (Blk.new w4 h.cells 24)
        have S6 := Lib.hid ((S5.out.alloc (.cells h.cells 24)).below hb5)
        clear hb5 S5 R1 c0 c1 c2 c3 c4 c5 c6 c7 c8 lN
        have ⟨c0, c1, c2, c3, c4, c5, c6, c7, c8⟩ := Hc7.of S6.out.b
        have ⟨d0, d1, d2, d3, d4, d5, d6, d7, d8⟩ := Hc7.of GB.out
        go_wp2_with fail
        go_meet
        exact Lib.hid S6.out.bel
      | false =>
        rw [hr, if_neg (by decide)] at hg
        have hgo := get7_err (b := P) (by omega)
        rw [hgo.1, hgo.2, hg] at G1
        rw [hr] at R1
        clear hsent PT hg hgo hr hPs
        unfold S7.zero S7.cells at G1
        simp only at G1
        go_wp2_with fail
        refine (G1.out _).mono ?_
        rintro e w4 ⟨rfl, hb4⟩
        have S5 := Lib.hid (S4.out.below hb4)
        clear hb4 S4 G1
        have ⟨c0, c1, c2, c3, c4, c5, c6, c7, c8⟩ := Hc7.of S5.out.b
        have lN := S5.out.lt
        go_wp2_with fail
        refine (R1.out _).mono ?_
        rintro e w5 ⟨rfl, hb5⟩
        have S6 := Lib.hid ((S5.out.alloc (.cells S7.zero.cells 24)).below hb5)
        clear hb5 S5 R1 c0 c1 c2 c3 c4 c5 c6 c7 c8 lN
        go_wp2_with fail
        go_meet
        exact Lib.hid S6.out.bel
    · have tE : ((E : Int) == 0) = false := by simp; omega
      clear PT hE
      go_wp2_with fail
      go_meet
      exact Lib.hid S4.out.bel
  case rest =>
  have B4 := hcut
  clear hcut PT S4
  have G1 := Lib.hid (fun W => get7_any p W (by omega))
  unfold Get7End at G1
  by_cases hg : get7E p = 0
  case neg =>
    have he := get7_err hg
    rw [he.1, he.2] at G1
    have tg : ((get7E p : Int) != 0) = true := by simp; omega
    generalize get7E p = E2 at *
    clear hg he
    unfold S7.zero S7.cells at G1
    simp only at G1
    go_wp2_with fail
    refine (G1.out _).mono ?_
    rintro e w5 ⟨rfl, hb5⟩
    have B5 := Lib.hid (B4.out.trans (hb5.mono B4.out.size))
    clear hb5 B4 G1
    go_wp2_with fail
    go_ret
    exact ⟨rfl, B5.out.alloc B5.out.size _⟩
  have hgood := get7E_zero.1 hg
  have hgo := get7_ok hg
  rw [hgo.1, hgo.2, hg] at G1
  have hgp := get7_put p hgood
  have hpo := put7_ok hgp.1 hgp.2.1
  have hps : (seg7 p).pay.size ≤ 1000000 := by show (p.extract (off7 p) p.size).size ≤ 1000000; rw [ByteArray.size_extract]; omega
  have H2 := Lib.hid (fun W => put7_any (seg7 p) (numOf p 16 2 : Int) W (seg7_wf p hgood.short) hps)
  unfold Put7End at H2
  rw [hpo.1, hpo.2, hgp.2.2] at H2
  clear hg hgood hgo hgp hpo hps
  generalize seg7 p = hd at *
  generalize numOf p 16 2 = n2 at *
  have ts := str_eq7 p
  unfold S7.cells at G1 H2
  go_wp2_with fail
  refine (G1.out _).mono ?_
  rintro e w5 ⟨rfl, hb5⟩
  have B5 := Lib.hid (B4.out.trans (hb5.mono B4.out.size))
  clear hb5 B4 G1
  go_wp2_with fail
  refine (H2.out _).mono ?_
  rintro e w6 ⟨rfl, hb6⟩
  have B6 := Lib.hid ((B5.out.alloc B5.out.size _).trans (hb6.mono (B5.out.alloc B5.out.size _).size))
  clear hb6 B5 H2
  go_wp2_with fail
  go_ret
  exact ⟨rfl, B6.out⟩

end Go.Proofs.Ythfelnocdeknaaa
