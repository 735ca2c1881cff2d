/-
  Ip4Back returns true at every input.
-/
import Derived.Test.YtdljioacbpabbaaIp4Held
import Derived.Deep.CutBlock
import Derived.Deep.DeepCutAuto
namespace Go.Proofs.Ytdljioacbpabbaa
open Go.RowKit
set_option linter.unusedVariables false

set_option maxRecDepth 100000 in
set_option maxHeartbeats 2000000 in
theorem back_any (h : H4) (pay p : ByteArray) (w : World) (hp1 : pay.size ≤ 140737488355328) (hp2 : p.size ≤ 140737488355328) :
    Calls Try.prog 5 #[.agg h.cells, .string pay, .string p] w (AwakeEnd w) := by
  have HA := Lib.hid (awake_any (w.alloc (.cells h.cells 23)))
  have HF := Lib.hid (fun W => few_any h W)
  have H1 := Lib.hid (fun W => put_any h pay W hp1)
  have S1 := Lib.hid (Held.new w h)
  generalize h.few = fw at *
  unfold PutEnd at H1
  have PT := Lib.hid (put_cases h pay)
  generalize putS h pay = P at *
  generalize putE h pay = E at *
  unfold H4.cells at HA HF H1 S1 ⊢
  go_enter Try.func5, Try.ntmps5
  go_wp2_with fail
  refine HA.out.mono ?_
  rintro e w1 ⟨rfl, hb1⟩
  have S2 := Lib.hid (S1.out.below hb1)
  clear hb1 S1 HA
  have ⟨c0, c1, c2, c3, c4, c5, c6, c7, c8, c9⟩ := Hc.of S2.out.b
  go_wp2_with fail
  refine (HF.out _).mono ?_
  rintro e w2 ⟨rfl, hb2⟩
  have S3 := Lib.hid (S2.out.below hb2)
  clear hb2 S2 HF c0 c1 c2 c3 c4 c5 c6 c7 c8 c9
  cases fw
  · go_wp2_with fail
    go_ret
    exact ⟨rfl, S3.out.bel⟩
  by_cases h7 : pay.size ≤ 70000
  case neg =>
    have t7 : decide ((70000 : Int) < (pay.size : Int)) = true := by simp; omega
    go_wp2_with fail
    go_ret
    exact ⟨rfl, S3.out.bel⟩
  have t7 : decide ((70000 : Int) < (pay.size : Int)) = false := by simp; omega
  by_cases h8 : p.size ≤ 70000
  case neg =>
    have t8 : decide ((70000 : Int) < (p.size : Int)) = true := by simp; omega
    go_wp2_with fail
    go_ret
    exact ⟨rfl, S3.out.bel⟩
  have t8 : decide ((70000 : Int) < (p.size : Int)) = false := by simp; omega
  have ⟨c0, c1, c2, c3, c4, c5, c6, c7, c8, c9⟩ := Hc.of S3.out.b
  go_wp2_with fail
  refine (H1.out _).mono ?_
  rintro e w3 ⟨rfl, hb3⟩
  have S4 := Lib.hid (S3.out.below hb3)
  clear hb3 S3 H1 c0 c1 c2 c3 c4 c5 c6 c7 c8 c9 t7 t8
  go_upto_if 39 with (fail)
  go_cut [7] (fun v wx => Hid (Below w.heap.size w wx))
  case first =>
    rcases PT.out with ⟨rfl, hsent⟩ | ⟨hE, rfl⟩
    · have hPs : P.size ≤ 65535 := by rw [hsent.size]; exact hsent.fit
      have G1 := Lib.hid (fun W => get_any P W (by omega))
      unfold GetEnd at G1
      rw [hsent.gh, hsent.gs, hsent.ge] at G1
      clear hsent PT
      go_wp2_with fail
      refine (G1.out _).mono ?_
      rintro e w4 ⟨rfl, hb4⟩
      have S5 := Lib.hid (S4.out.below hb4)
      clear hb4 S4 G1
      have ⟨c0, c1, c2, c3, c4, c5, c6, c7, c8, c9⟩ := Hc.of S5.out.b
      have lN := S5.out.lt
      have ts := str_ne pay
      unfold H4.cells
      go_wp2_with fail
      go_meet
      exact Lib.hid (S5.out.alloc _).bel
    · have tE : ((E : Int) == 0) = false := by simp; omega
      clear PT hE
      go_wp2_with fail
      go_meet
      exact Lib.hid S4.out.bel
  case rest =>
  have B4 := hcut
  clear hcut PT S4
  have G1 := Lib.hid (fun W => get_any p W (by omega))
  unfold GetEnd at G1
  by_cases hg : getE p = 0
  case neg =>
    have he := get_err hg
    rw [he.1, he.2] at G1
    have tg : ((getE p : Int) != 0) = true := by simp; omega
    generalize getE p = E2 at *
    clear hg he
    unfold H4.zero H4.cells at G1
    simp only at G1
    go_wp2_with fail
    refine (G1.out _).mono ?_
    rintro e w5 ⟨rfl, hb5⟩
    have B5 := Lib.hid (B4.out.trans (hb5.mono B4.out.size))
    clear hb5 B4 G1
    go_wp2_with fail
    go_ret
    exact ⟨rfl, B5.out.alloc B5.out.size _⟩
  have hgood := getE_zero.1 hg
  have h20 := hgood.short
  have GH : getH p = hdr p := by unfold getH; rw [if_pos hg]
  have GS : getS p = p.extract (hsz p) p.size := by unfold getS; rw [if_pos hg]
  rw [GH, GS, hg] at G1
  have i10 : 10 < p.size := by omega
  have i11 : 11 < p.size := by omega
  have GP := Lib.hid (get_put p hgood i10 i11)
  have PS : (p.extract (hsz p) p.size).size ≤ 140737488355328 := by rw [ByteArray.size_extract]; omega
  have H2 := Lib.hid (fun W => put_any (hdr p) (p.extract (hsz p) p.size) W PS)
  unfold PutEnd at H2
  clear hg hgood GH GS PS
  have b10 : (10 : Int) < (p.size : Int) := by omega
  have b11 : (11 : Int) < (p.size : Int) := by omega
  go_wp2_with fail
  refine (G1.out _).mono ?_
  rintro e w5 ⟨rfl, hb5⟩
  have B5 := Lib.hid (B4.out.trans (hb5.mono B4.out.size))
  clear hb5 B4 G1
  by_cases hff : p[10].toNat = 255 ∧ p[11].toNat = 255
  · have t10 : ((p[10].toNat : Int) == 255) = true := by simp; omega
    have t11 : ((p[11].toNat : Int) == 255) = true := by simp; omega
    generalize hdr p = hd at *
    unfold H4.cells
    go_wp2_with fail
    go_ret
    exact ⟨rfl, B5.out.alloc B5.out.size _⟩
  have hgp := GP.out hff
  have hpo := put_ok hgp.1 (by rw [hgp.2.1]; exact hgp.2.2.1)
  rw [hpo.1, hpo.2, hgp.2.2.2] at H2
  clear hgp hpo GP
  generalize hdr p = hd at *
  generalize p.extract (hsz p) p.size = pay2 at *
  have ts := str_eq p
  unfold H4.cells at H2 ⊢
  by_cases h10 : p[10].toNat = 255
  · have t10 : ((p[10].toNat : Int) == 255) = true := by simp; omega
    have t11 : ((p[11].toNat : Int) == 255) = false := by simp; omega
    clear hff h10
    go_wp2_with fail
    refine (H2.out _).mono ?_
    rintro e w6 ⟨rfl, hb6⟩
    have B6 := Lib.hid ((B5.out.alloc B5.out.size _).trans (hb6.mono (B5.out.alloc B5.out.size _).size))
    clear hb6 B5 H2
    go_wp2_with fail
    go_ret
    exact ⟨rfl, B6.out⟩
  · have t10 : ((p[10].toNat : Int) == 255) = false := by simp; omega
    clear hff h10
    go_wp2_with fail
    refine (H2.out _).mono ?_
    rintro e w6 ⟨rfl, hb6⟩
    have B6 := Lib.hid ((B5.out.alloc B5.out.size _).trans (hb6.mono (B5.out.alloc B5.out.size _).size))
    clear hb6 B5 H2
    go_wp2_with fail
    go_ret
    exact ⟨rfl, B6.out⟩

end Go.Proofs.Ytdljioacbpabbaa
