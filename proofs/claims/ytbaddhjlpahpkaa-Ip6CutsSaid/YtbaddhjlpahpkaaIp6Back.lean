/-
  Ip6Back returns true at every input.
-/
import Derived.Test.YtbaddhjlpahpkaaIp6Awake
import Derived.Test.YtbaddhjlpahpkaaIp6Get
import Derived.Test.YtbaddhjlpahpkaaIp6Plain
import Derived.Deep.CutBlock
import Derived.Deep.DeepCutAuto
namespace Go.Proofs.Ytbaddhjlpahpkaa
open Go.RowKit
set_option linter.unusedVariables false

theorem str_eq6 (s : ByteArray) : (s.toList == s.toList) = true := by simp
theorem str_ne6 (s : ByteArray) : (s.toList != s.toList) = false := by simp

set_option maxRecDepth 100000 in
set_option maxHeartbeats 2000000 in
theorem back6_any (h : H6) (pay p : ByteArray) (w : World) (hp1 : pay.size ≤ 140737488355328) (hp2 : p.size ≤ 140737488355328) :
    Calls Try.prog 4 #[.agg h.cells, .string pay, .string p] w (AwakeEnd w) := by
  have HA := Lib.hid (awake6_any (w.alloc (.cells h.cells 23)))
  have HF := Lib.hid (fun W => few6_any h W)
  have H1 := Lib.hid (fun W => put6_any h pay W)
  have S1 := Lib.hid (Held6.new w h)
  generalize h.few = fw at *
  unfold Put6End at H1
  have PT := Lib.hid (put6_cases h pay)
  generalize put6S h pay = P at *
  generalize put6E h pay = E at *
  unfold H6.cells at HA HF H1 S1 ⊢
  go_enter Try.func4, Try.ntmps4
  go_wp2_with fail
  refine HA.out.mono ?_
  rintro e w1 ⟨rfl, hb1⟩
  have S2 := Lib.hid (S1.out.below hb1)
  clear hb1 S1 HA
  have ⟨c0, c1, c2, c3, c4, c5⟩ := Hc6.of S2.out.b
  go_wp2_with fail
  refine (HF.out _).mono ?_
  rintro e w2 ⟨rfl, hb2⟩
  have S3 := Lib.hid (S2.out.below hb2)
  clear hb2 S2 HF c0 c1 c2 c3 c4 c5
  cases fw
  · go_wp2_with fail
    go_ret
    exact ⟨rfl, S3.out.bel⟩
  by_cases h7 : pay.size ≤ 70000
  case neg =>
    have t7 : decide ((70000 : Int) < (pay.size : Int)) = true := by simp; omega
    go_wp2_with fail
    go_ret
    exact ⟨rfl, S3.out.bel⟩
  have t7 : decide ((70000 : Int) < (pay.size : Int)) = false := by simp; omega
  by_cases h8 : p.size ≤ 70000
  case neg =>
    have t8 : decide ((70000 : Int) < (p.size : Int)) = true := by simp; omega
    go_wp2_with fail
    go_ret
    exact ⟨rfl, S3.out.bel⟩
  have t8 : decide ((70000 : Int) < (p.size : Int)) = false := by simp; omega
  have ⟨c0, c1, c2, c3, c4, c5⟩ := Hc6.of S3.out.b
  go_wp2_with fail
  refine (H1.out _).mono ?_
  rintro e w3 ⟨rfl, hb3⟩
  have S4 := Lib.hid (S3.out.below hb3)
  clear hb3 S3 H1 c0 c1 c2 c3 c4 c5 t7 t8
  go_upto_if 39 with (fail)
  go_cut [7] (fun v wx => Hid (Below w.heap.size w wx))
  case first =>
    rcases PT.out with ⟨rfl, hsent⟩ | ⟨hE, rfl⟩
    · have hPs : P.size ≤ 70000 := by rw [hsent.size]; have := hsent.fit; omega
      have hl : ((P.size : Int) != 40 + (pay.size : Int)) = false := by simp; have := hsent.size; omega
      have G1 := Lib.hid (fun W => get6_any P W (by omega))
      unfold Get6End at G1
      rw [hsent.got.2.1, hsent.got.2.2, hsent.got.1] at G1
      clear hsent PT
      go_wp2_with fail
      refine (G1.out _).mono ?_
      rintro e w4 ⟨rfl, hb4⟩
      have S5 := Lib.hid (S4.out.below hb4)
      clear hb4 S4 G1
      have ⟨c0, c1, c2, c3, c4, c5⟩ := Hc6.of S5.out.b
      have lN := S5.out.lt
      have ts := str_ne6 pay
      unfold H6.cells
      go_wp2_with fail
      go_meet
      exact Lib.hid (S5.out.alloc _).bel
    · have tE : ((E : Int) == 0) = false := by simp; omega
      clear PT hE
      go_wp2_with fail
      go_meet
      exact Lib.hid S4.out.bel
  case rest =>
  have B4 := hcut
  clear hcut PT S4
  have G1 := Lib.hid (fun W => get6_any p W (by omega))
  unfold Get6End at G1
  by_cases hg : get6E p = 0
  case neg =>
    have he := get6_err hg
    rw [he.1, he.2] at G1
    have tg : ((get6E p : Int) != 0) = true := by simp; omega
    generalize get6E p = E2 at *
    clear hg he
    unfold H6.zero H6.cells at G1
    simp only at G1
    go_wp2_with fail
    refine (G1.out _).mono ?_
    rintro e w5 ⟨rfl, hb5⟩
    have B5 := Lib.hid (B4.out.trans (hb5.mono B4.out.size))
    clear hb5 B4 G1
    go_wp2_with fail
    go_ret
    exact ⟨rfl, B5.out.alloc B5.out.size _⟩
  have hgood := get6E_zero.1 hg
  have GH : get6H p = hdr6 p := by unfold get6H; rw [if_pos hg]
  have GS : get6S p = p.extract 40 p.size := by unfold get6S; rw [if_pos hg]
  rw [GH, GS, hg] at G1
  have hgp := get6_put p hgood
  have hpo := put6_ok hgp.1 hgp.2.1
  have H2 := Lib.hid (fun W => put6_any (hdr6 p) (p.extract 40 p.size) W)
  unfold Put6End at H2
  rw [hpo.1, hpo.2, hgp.2.2] at H2
  clear hg hgood GH GS hgp hpo
  generalize hdr6 p = hd at *
  generalize p.extract 40 p.size = pay2 at *
  have ts := str_eq6 p
  unfold H6.cells at G1 H2
  go_wp2_with fail
  refine (G1.out _).mono ?_
  rintro e w5 ⟨rfl, hb5⟩
  have B5 := Lib.hid (B4.out.trans (hb5.mono B4.out.size))
  clear hb5 B4 G1
  go_wp2_with fail
  refine (H2.out _).mono ?_
  rintro e w6 ⟨rfl, hb6⟩
  have B6 := Lib.hid ((B5.out.alloc B5.out.size _).trans (hb6.mono (B5.out.alloc B5.out.size _).size))
  clear hb6 B5 H2
  go_wp2_with fail
  go_ret
  exact ⟨rfl, B6.out⟩

end Go.Proofs.Ytbaddhjlpahpkaa
