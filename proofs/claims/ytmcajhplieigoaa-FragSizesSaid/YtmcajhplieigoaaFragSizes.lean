/-
  FragSizes returns true at every input.
-/
import Derived.Test.YtmcajhplieigoaaFragAwake
import Derived.Test.YtmcajhplieigoaaFragPlain
namespace Go.Proofs.Ytmcajhplieigoaa
open Go.RowKit Go.Shelf
set_option linter.unusedVariables false

set_option maxRecDepth 100000 in
set_option maxHeartbeats 1000000 in
theorem fragsizes_any (p : ByteArray) (a b : Int) (w : World) (hp : p.size ≤ 140737488355328) :
    Calls Try.prog 6 #[.string p, .int .i64 a, .int .i64 b] w (AwakeEnd w) := by
  have HA := Lib.hid (awake_any w)
  by_cases h1 : 3000 < p.size
  case pos =>
    have t1 : decide ((3000 : Int) < (p.size : Int)) = true := decide_eq_true (by omega)
    go_enter Try.func6, Try.ntmps6
    go_wp2_with fail
    refine HA.out.mono ?_
    rintro e w1 ⟨rfl, hb1⟩
    have B1 := Lib.hid hb1
    clear hb1
    go_wp2_with fail
    go_ret
    exact ⟨rfl, B1.out⟩
  have t1 : decide ((3000 : Int) < (p.size : Int)) = false := decide_eq_false (by omega)
  by_cases h2 : b < a
  case pos =>
    have t2 : decide (b < a) = true := decide_eq_true h2
    go_enter Try.func6, Try.ntmps6
    go_wp2_with fail
    refine HA.out.mono ?_
    rintro e w1 ⟨rfl, hb1⟩
    have B1 := Lib.hid hb1
    clear hb1
    go_wp2_with fail
    go_ret
    exact ⟨rfl, B1.out⟩
  have t2 : decide (b < a) = false := decide_eq_false h2
  have HC := Lib.hid (fun W => cut_any p a W (by omega))
  have HC2 := Lib.hid (fun W => cut_any p b W (by omega))
  have HG := Lib.hid (fun W => get_any p W (by omega))
  unfold CutEnd at HC HC2
  unfold GetEnd at HG
  by_cases hE : cutE p a = 0
  case neg =>
    have hl := cutL_err hE
    rw [hl] at HC
    have t3 : (((cutE p a : Nat) : Int) != 0) = true := by simp; omega
    generalize cutE p a = E at *
    go_enter Try.func6, Try.ntmps6
    go_wp2_with fail
    refine HA.out.mono ?_
    rintro e w1 ⟨rfl, hb1⟩
    have B1 := Lib.hid hb1
    clear hb1 HA
    go_wp2_with fail
    refine (HC.out _).mono ?_
    rintro e w2 ⟨hb2, v1, rfl, hv1⟩
    obtain ⟨va, vc, rfl⟩ := hv1.none rfl
    have B2 := Lib.hid (B1.out.trans (hb2.mono B1.out.size))
    clear hb2 hv1 B1 HC HC2 HG
    go_wp2_with fail
    go_ret
    exact ⟨rfl, B2.out⟩
  have hlen0 := cutL_pos hE
  have HGR := Lib.hid (fun i (hi : i < (cutL p a).length) (h : i + 1 < (cutL p a).length) => (piece15 hE i hi).great hE h)
  have HCN := Lib.hid (count15 hE)
  have HSM := Lib.hid (cutL_small hE)
  have HB := Lib.hid (greater15 hE (show a ≤ b by omega))
  obtain ⟨hg, h28, h65, hrst⟩ := cut15_ok hE
  clear hrst
  have HGT := Lib.hid (got15 hg)
  have hps := HGT.out.2.2.1
  have hLL := cutL_length p a (by omega)
  have hLL2 := cutL_length p b (by omega)
  have hz := HGT.out.2.2.2.2
  rw [hg] at HG
  rw [hE] at HC
  have hpt : pt15 (hsz p) a = (n15 p a : Nat) := pt15_nat _ _
  have HPT := Lib.hid (fun W => part_any (hsz p) a W (by omega) (by omega))
  rw [hpt] at HPT
  have hrest : (p.size : Int) - ((getS p).size : Int) = (hsz p : Nat) := by omega
  clear hps
  generalize hH : getH p = H at *
  generalize hS : getS p = S at *
  generalize hn : n15 p a = n at *
  generalize cutL p a = L at *
  unfold H4.cells at HG
  go_enter Try.func6, Try.ntmps6
  go_wp2_with fail
  refine HA.out.mono ?_
  rintro e w1 ⟨rfl, hb1⟩
  have B1 := Lib.hid hb1
  clear hb1 HA
  go_wp2_with fail
  refine (HC.out _).mono ?_
  rintro e w2 ⟨hb2, v1, rfl, hv1⟩
  have B2 := Lib.hid (B1.out.trans (hb2.mono B1.out.size))
  obtain ⟨vb, vc, rfl, hvb, hvc⟩ := hv1.some (by intro e; rw [e] at hlen0; exact absurd hlen0 (by decide))
  have VC := Lib.hid hvc
  clear hb2 hv1 hvc B1 HC
  go_wp2_with fail
  refine (HG.out _).mono ?_
  rintro e w3 ⟨rfl, hb3⟩
  have B3 := Lib.hid (B2.out.trans (hb3.mono B2.out.size))
  have K3 := Lib.hid hb3
  clear hb3 B2 HG
  go_wp2_with fail
  refine (HPT.out _).mono ?_
  rintro e w4 ⟨rfl, hb4⟩
  have B4 := Lib.hid (B3.out.trans ((Below.alloc (Below.refl _ w3) B3.out.size _).trans (hb4.mono (by have := B3.out.size; simp; omega))))
  have K4 := Lib.hid (K3.out.trans ((Below.alloc (Below.refl _ w3) K3.out.size _).trans (hb4.mono (by have := K3.out.size; simp; omega))))
  have VC4 : Hid (∀ i (h : i < L.length), w4.cell? ⟨vb, i, none⟩ = some (.string (L[i]'h))) := fun i h => (K4.out.cell (p := ⟨vb, i, none⟩) hvb).trans (VC.out i h)
  have HV4 : Hid (vb < w4.heap.size) := Nat.lt_of_lt_of_le hvb K4.out.size
  have hn2 : n ≤ 65535 := by
    have h3 := HCN.out
    by_cases h : a < p.size
    · have := h3 h
      have h4 : n = pn15 (hsz p) a.toNat := hn.symm
      have h5 := pn15_le (hsz p) a.toNat
      omega
    · have h4 : n = pn15 (hsz p) a.toNat := hn.symm
      have h5 := pn15_le (hsz p) a.toNat
      omega
  have hS3 : S.size ≤ 3000 := by omega
  clear K3 B3 VC hvb hb4 HPT K4
  have hLpos : 0 < L.length := hlen0
  clear hlen0 hpt
  by_cases hsm : (p.size : Int) ≤ a
  case' pos =>
    have hL := HSM.out hsm
    have t3 : decide (a < (p.size : Int)) = false := decide_eq_false (by omega)
    have t4 : decide ((p.size : Int) ≤ a) = true := decide_eq_true hsm
    have t5 : ((L.length : Int) != 1) = false := by rw [hL]; rfl
    have d0 : w4.cell? ⟨vb, 0, none⟩ = some (.string p) := by
      have h := VC4.out 0 hLpos
      have h2 : L[0]'hLpos = p := by simp only [hL, List.getElem_cons_zero]
      rw [h2] at h; exact h
    have hs := str_ne p
    clear hL
  case' neg =>
    obtain ⟨hn8, hcn⟩ := HCN.out (by omega)
    have t3 : decide (a < (p.size : Int)) = true := decide_eq_true (by omega)
    have t4 : decide ((p.size : Int) ≤ a) = false := decide_eq_false hsm
    have t5 : decide ((n : Int) < 8) = false := decide_eq_false (by omega)
    have t6 : ((L.length : Int) != ((S.size : Int) + (n : Int) - 1) / (n : Int)) = false := by
      have e : ((S.size : Int) + (n : Int) - 1) = ((S.size + n - 1 : Nat) : Int) := by omega
      rw [e, hcn]; simp
    clear hcn
  all_goals
    clear HSM HCN
    go_wp2_with fail
    go_loopw [13] (fun i wr => ∃ k : Nat, k ≤ L.length ∧ i = .int .i64 k ∧ Below w4.heap.size w4 wr) (fun i _ => L.length - (intOf i).toNat)
    case atStart => exact ⟨0, Nat.zero_le _, rfl, Below.refl _ _⟩
    case round =>
      obtain ⟨k, hk, rfl, hb⟩ := hrel
      have KB := Lib.hid hb
      have HKL : Hid (k ≤ L.length) := hk
      by_cases hlt : k + 1 < L.length
      · have tk : decide ((k : Int) + 1 < (L.length : Int)) = true := decide_eq_true (by omega)
        have hkl : k < L.length := by omega
        have d1 := (hb.cell (p := ⟨vb, k, none⟩) HV4.out).trans (VC4.out k hkl)
        have hgr := HGR.out k hkl hlt
        generalize L[k]'hkl = T at *
        have u1 : ((T.size : Int) != (hsz p : Int) + (n : Int)) = false := by simp; omega
        have u2 : decide ((T.size : Int) + 8 ≤ a) = false := decide_eq_false (by omega)
        have u3 : T.size ≤ 100000 := by omega
        clear hb hgr
        go_wp2_with fail
        exact ⟨⟨k + 1, hkl, by go_num, KB.out⟩, by simp [intOf]; omega⟩
      · have tk : decide ((k : Int) + 1 < (L.length : Int)) = false := decide_eq_false (by omega)
        clear hb
        have hB := HB.out
        have htx := fun (W' : World) (v' : Value) (h : TextsAt W' v' (cutL p b)) => h.len
        have HTX := Lib.hid htx
        clear htx HB
        rcases hB with ⟨hbb, hEb⟩ | hEb | ⟨hEb, hle⟩
        case' inl =>
          have c1 : decide (65535 < b) = true := decide_eq_true hbb
          have hcl := cutL_err (p := p) (m := b) (by rw [hEb]; decide)
        case' inr.inl =>
          have hcl := cutL_err (p := p) (m := b) (by rw [hEb]; decide)
          by_cases hbb : 65535 < b
          case' pos => have c1 : decide (65535 < b) = true := decide_eq_true hbb
          case' neg => have c1 : decide (65535 < b) = false := decide_eq_false hbb
        case' inr.inr =>
          have c1 : decide (((cutL p b).length : Int) ≤ (L.length : Int)) = true := decide_eq_true (by omega)
        all_goals
          rw [hEb] at HC2
          go_wp2_with fail
          refine (HC2.out _).mono ?_
          rintro e w5 ⟨hb5, v5, rfl, hv5⟩
          have KB5 := Lib.hid (KB.out.trans (hb5.mono KB.out.size))
          obtain ⟨x5, y5, rfl⟩ := HTX.out _ _ hv5
          clear hb5 hv5 HC2 HTX KB
          go_wp2_with fail
          go_ret
          exact ⟨rfl, B4.out.trans (KB5.out.mono B4.out.size)⟩

end Go.Proofs.Ytmcajhplieigoaa
