/-
  FragCuts returns true at every input.
-/
import Derived.Test.YtmcajhplieigoaaFragAwake
import Derived.Test.YtmcajhplieigoaaFragRef
namespace Go.Proofs.Ytmcajhplieigoaa
open Go.RowKit Go.Shelf
set_option linter.unusedVariables false

theorem us15_use (m s : Int) : us15 m s = if s < m then m - s else 0 := rfl

set_option maxRecDepth 100000 in
set_option maxHeartbeats 1000000 in
theorem fragcuts_any (p : ByteArray) (m hd sz : Int) (w : World) (hp : p.size ≤ 140737488355328) :
    Calls Try.prog 3 #[.string p, .int .i64 m, .int .i64 hd, .int .i64 sz] w (AwakeEnd w) := by
  have HA := Lib.hid (awake_any w)
  by_cases h1 : 70000 < p.size
  case pos =>
    have th1 : decide (70000 < (p.size : Int)) = true := decide_eq_true (by omega)
    go_enter Try.func3, Try.ntmps3
    go_wp2_with fail
    refine HA.out.mono ?_
    rintro e w1 ⟨rfl, hb1⟩
    have B1 := Lib.hid hb1
    clear hb1
    go_wp2_with fail
    go_ret
    exact ⟨rfl, B1.out⟩
  have th1 : decide (70000 < (p.size : Int)) = false := decide_eq_false (by omega)
  by_cases h2 : 3000 < p.size
  case pos =>
    have th2 : decide ((3000 : Int) < (p.size : Int)) = true := decide_eq_true (by omega)
    by_cases h2' : m < 400
    case pos =>
      have th2' : decide (m < 400) = true := decide_eq_true h2'
      go_enter Try.func3, Try.ntmps3
      go_wp2_with fail
      refine HA.out.mono ?_
      rintro e w1 ⟨rfl, hb1⟩
      have B1 := Lib.hid hb1
      clear hb1
      go_wp2_with fail
      go_ret
      exact ⟨rfl, B1.out⟩
    have th2' : decide (m < 400) = false := decide_eq_false h2'
    clear h2 h2'
    by_cases h3 : hd < 0
    case pos =>
      have th3 : decide (hd < 0) = true := decide_eq_true h3
      go_enter Try.func3, Try.ntmps3
      go_wp2_with fail
      refine HA.out.mono ?_
      rintro e w1 ⟨rfl, hb1⟩
      have B1 := Lib.hid hb1
      clear hb1
      go_wp2_with fail
      go_ret
      exact ⟨rfl, B1.out⟩
    have th3 : decide (hd < 0) = false := decide_eq_false h3
    by_cases h4 : 1048576 < hd
    case pos =>
      have th4 : decide (1048576 < hd) = true := decide_eq_true h4
      go_enter Try.func3, Try.ntmps3
      go_wp2_with fail
      refine HA.out.mono ?_
      rintro e w1 ⟨rfl, hb1⟩
      have B1 := Lib.hid hb1
      clear hb1
      go_wp2_with fail
      go_ret
      exact ⟨rfl, B1.out⟩
    have th4 : decide (1048576 < hd) = false := decide_eq_false h4
    by_cases h5 : m < -1099511627776
    case pos =>
      have th5 : decide (m < -1099511627776) = true := decide_eq_true h5
      go_enter Try.func3, Try.ntmps3
      go_wp2_with fail
      refine HA.out.mono ?_
      rintro e w1 ⟨rfl, hb1⟩
      have B1 := Lib.hid hb1
      clear hb1
      go_wp2_with fail
      go_ret
      exact ⟨rfl, B1.out⟩
    have th5 : decide (m < -1099511627776) = false := decide_eq_false h5
    by_cases h6 : 1099511627776 < m
    case pos =>
      have th6 : decide (1099511627776 < m) = true := decide_eq_true h6
      go_enter Try.func3, Try.ntmps3
      go_wp2_with fail
      refine HA.out.mono ?_
      rintro e w1 ⟨rfl, hb1⟩
      have B1 := Lib.hid hb1
      clear hb1
      go_wp2_with fail
      go_ret
      exact ⟨rfl, B1.out⟩
    have th6 : decide (1099511627776 < m) = false := decide_eq_false h6
    by_cases h7 : sz < -1099511627776
    case pos =>
      have th7 : decide (sz < -1099511627776) = true := decide_eq_true h7
      go_enter Try.func3, Try.ntmps3
      go_wp2_with fail
      refine HA.out.mono ?_
      rintro e w1 ⟨rfl, hb1⟩
      have B1 := Lib.hid hb1
      clear hb1
      go_wp2_with fail
      go_ret
      exact ⟨rfl, B1.out⟩
    have th7 : decide (sz < -1099511627776) = false := decide_eq_false h7
    by_cases h8 : 1099511627776 < sz
    case pos =>
      have th8 : decide (1099511627776 < sz) = true := decide_eq_true h8
      go_enter Try.func3, Try.ntmps3
      go_wp2_with fail
      refine HA.out.mono ?_
      rintro e w1 ⟨rfl, hb1⟩
      have B1 := Lib.hid hb1
      clear hb1
      go_wp2_with fail
      go_ret
      exact ⟨rfl, B1.out⟩
    have th8 : decide (1099511627776 < sz) = false := decide_eq_false h8
    have HC := Lib.hid (fun W => cut_any p m W (by omega))
    have HR := Lib.hid (fun W => refcut_any p m W (by omega))
    have HP := Lib.hid (fun W => part_any hd m W (by omega) (by omega))
    have HQ := Lib.hid (fun W => refpart_any hd m W (by omega) (by omega))
    have HU := Lib.hid (fun W => usable_any m sz W (by omega) (by omega))
    have HT := Lib.hid (fun (W : World) (v1 v2 : Value) (h1 : TextsAt W v1 (cutL p m)) (h2 : TextsAt W v2 (cutL p m)) => reftexts_any W v1 v2 (cutL p m) h1 h2 (cutL_length p m (by omega)))
    unfold CutEnd at HC HR
    have te : (((cutE p m : Nat) : Int) == ((cutE p m : Nat) : Int)) = true := by simp
    have tp : (pt15 hd m == pt15 hd m) = true := by simp
    generalize cutE p m = E at *
    generalize cutL p m = L at *
    generalize pt15 hd m = PT at *
    go_enter Try.func3, Try.ntmps3
    go_wp2_with fail
    refine HA.out.mono ?_
    rintro e w1 ⟨rfl, hb1⟩
    have B1 := Lib.hid hb1
    clear hb1 HA
    go_wp2_with fail
    refine (HC.out _).mono ?_
    rintro e w2 ⟨hb2, v1, rfl, hv1⟩
    have B2 := Lib.hid (B1.out.trans (hb2.mono B1.out.size))
    have V1 := Lib.hid hv1
    clear hb2 hv1 B1 HC
    go_wp2_with fail
    refine (HR.out _).mono ?_
    rintro e w3 ⟨hb3, v2, rfl, hv2⟩
    have B3 := Lib.hid (B2.out.trans (hb3.mono B2.out.size))
    have V3 := Lib.hid (V1.out.below hb3)
    have V2 := Lib.hid hv2
    clear hb3 hv2 B2 HR V1
    by_cases hu : sz < m
    case' pos => have hus : us15 m sz = m - sz := us15_lt m sz hu
    case' neg => have hus : us15 m sz = 0 := us15_le m sz hu
    case' pos => have tu : decide (sz < m) = true := decide_eq_true hu
    case' neg => have tu : decide (sz < m) = false := decide_eq_false hu
    all_goals
      rw [hus] at HU
      clear hus hu
      go_wp2_with fail
      refine (HT.out _ _ _ V3.out V2.out).mono ?_
      rintro e w4 ⟨rfl, hb4⟩
      have B4 := Lib.hid (B3.out.trans (hb4.mono B3.out.size))
      clear hb4 B3 V3 V2 HT
      by_cases hm0 : m < 0
      · have tm : decide (m < 0) = true := decide_eq_true hm0
        go_wp2_with fail
        refine (HU.out _).mono ?_
        rintro e w5 ⟨rfl, hb5⟩
        have B5 := Lib.hid (B4.out.trans (hb5.mono B4.out.size))
        clear hb5 B4
        go_wp2_with fail
        go_ret
        exact ⟨rfl, B5.out⟩
      · have tm : decide (m < 0) = false := decide_eq_false hm0
        go_wp2_with fail
        refine (HP.out _).mono ?_
        rintro e w5 ⟨rfl, hb5⟩
        have B5 := Lib.hid (B4.out.trans (hb5.mono B4.out.size))
        clear hb5 B4
        go_wp2_with fail
        refine (HQ.out _).mono ?_
        rintro e w6 ⟨rfl, hb6⟩
        have B6 := Lib.hid (B5.out.trans (hb6.mono B5.out.size))
        clear hb6 B5
        go_wp2_with fail
        refine (HU.out _).mono ?_
        rintro e w7 ⟨rfl, hb7⟩
        have B7 := Lib.hid (B6.out.trans (hb7.mono B6.out.size))
        clear hb7 B6
        go_wp2_with fail
        go_ret
        exact ⟨rfl, B7.out⟩
  have th2 : decide ((3000 : Int) < (p.size : Int)) = false := decide_eq_false (by omega)
  clear h2
  by_cases h3 : hd < 0
  case pos =>
    have th3 : decide (hd < 0) = true := decide_eq_true (by omega)
    go_enter Try.func3, Try.ntmps3
    go_wp2_with fail
    refine HA.out.mono ?_
    rintro e w1 ⟨rfl, hb1⟩
    have B1 := Lib.hid hb1
    clear hb1
    go_wp2_with fail
    go_ret
    exact ⟨rfl, B1.out⟩
  have th3 : decide (hd < 0) = false := decide_eq_false (by omega)
  by_cases h4 : 1048576 < hd
  case pos =>
    have th4 : decide (1048576 < hd) = true := decide_eq_true (by omega)
    go_enter Try.func3, Try.ntmps3
    go_wp2_with fail
    refine HA.out.mono ?_
    rintro e w1 ⟨rfl, hb1⟩
    have B1 := Lib.hid hb1
    clear hb1
    go_wp2_with fail
    go_ret
    exact ⟨rfl, B1.out⟩
  have th4 : decide (1048576 < hd) = false := decide_eq_false (by omega)
  by_cases h5 : m < -1099511627776
  case pos =>
    have th5 : decide (m < -1099511627776) = true := decide_eq_true (by omega)
    go_enter Try.func3, Try.ntmps3
    go_wp2_with fail
    refine HA.out.mono ?_
    rintro e w1 ⟨rfl, hb1⟩
    have B1 := Lib.hid hb1
    clear hb1
    go_wp2_with fail
    go_ret
    exact ⟨rfl, B1.out⟩
  have th5 : decide (m < -1099511627776) = false := decide_eq_false (by omega)
  by_cases h6 : 1099511627776 < m
  case pos =>
    have th6 : decide (1099511627776 < m) = true := decide_eq_true (by omega)
    go_enter Try.func3, Try.ntmps3
    go_wp2_with fail
    refine HA.out.mono ?_
    rintro e w1 ⟨rfl, hb1⟩
    have B1 := Lib.hid hb1
    clear hb1
    go_wp2_with fail
    go_ret
    exact ⟨rfl, B1.out⟩
  have th6 : decide (1099511627776 < m) = false := decide_eq_false (by omega)
  by_cases h7 : sz < -1099511627776
  case pos =>
    have th7 : decide (sz < -1099511627776) = true := decide_eq_true (by omega)
    go_enter Try.func3, Try.ntmps3
    go_wp2_with fail
    refine HA.out.mono ?_
    rintro e w1 ⟨rfl, hb1⟩
    have B1 := Lib.hid hb1
    clear hb1
    go_wp2_with fail
    go_ret
    exact ⟨rfl, B1.out⟩
  have th7 : decide (sz < -1099511627776) = false := decide_eq_false (by omega)
  by_cases h8 : 1099511627776 < sz
  case pos =>
    have th8 : decide (1099511627776 < sz) = true := decide_eq_true (by omega)
    go_enter Try.func3, Try.ntmps3
    go_wp2_with fail
    refine HA.out.mono ?_
    rintro e w1 ⟨rfl, hb1⟩
    have B1 := Lib.hid hb1
    clear hb1
    go_wp2_with fail
    go_ret
    exact ⟨rfl, B1.out⟩
  have th8 : decide (1099511627776 < sz) = false := decide_eq_false (by omega)
  by_cases h3 : hd < 0
  case pos =>
    have th3 : decide (hd < 0) = true := decide_eq_true h3
    go_enter Try.func3, Try.ntmps3
    go_wp2_with fail
    refine HA.out.mono ?_
    rintro e w1 ⟨rfl, hb1⟩
    have B1 := Lib.hid hb1
    clear hb1
    go_wp2_with fail
    go_ret
    exact ⟨rfl, B1.out⟩
  have th3 : decide (hd < 0) = false := decide_eq_false h3
  by_cases h4 : 1048576 < hd
  case pos =>
    have th4 : decide (1048576 < hd) = true := decide_eq_true h4
    go_enter Try.func3, Try.ntmps3
    go_wp2_with fail
    refine HA.out.mono ?_
    rintro e w1 ⟨rfl, hb1⟩
    have B1 := Lib.hid hb1
    clear hb1
    go_wp2_with fail
    go_ret
    exact ⟨rfl, B1.out⟩
  have th4 : decide (1048576 < hd) = false := decide_eq_false h4
  by_cases h5 : m < -1099511627776
  case pos =>
    have th5 : decide (m < -1099511627776) = true := decide_eq_true h5
    go_enter Try.func3, Try.ntmps3
    go_wp2_with fail
    refine HA.out.mono ?_
    rintro e w1 ⟨rfl, hb1⟩
    have B1 := Lib.hid hb1
    clear hb1
    go_wp2_with fail
    go_ret
    exact ⟨rfl, B1.out⟩
  have th5 : decide (m < -1099511627776) = false := decide_eq_false h5
  by_cases h6 : 1099511627776 < m
  case pos =>
    have th6 : decide (1099511627776 < m) = true := decide_eq_true h6
    go_enter Try.func3, Try.ntmps3
    go_wp2_with fail
    refine HA.out.mono ?_
    rintro e w1 ⟨rfl, hb1⟩
    have B1 := Lib.hid hb1
    clear hb1
    go_wp2_with fail
    go_ret
    exact ⟨rfl, B1.out⟩
  have th6 : decide (1099511627776 < m) = false := decide_eq_false h6
  by_cases h7 : sz < -1099511627776
  case pos =>
    have th7 : decide (sz < -1099511627776) = true := decide_eq_true h7
    go_enter Try.func3, Try.ntmps3
    go_wp2_with fail
    refine HA.out.mono ?_
    rintro e w1 ⟨rfl, hb1⟩
    have B1 := Lib.hid hb1
    clear hb1
    go_wp2_with fail
    go_ret
    exact ⟨rfl, B1.out⟩
  have th7 : decide (sz < -1099511627776) = false := decide_eq_false h7
  by_cases h8 : 1099511627776 < sz
  case pos =>
    have th8 : decide (1099511627776 < sz) = true := decide_eq_true h8
    go_enter Try.func3, Try.ntmps3
    go_wp2_with fail
    refine HA.out.mono ?_
    rintro e w1 ⟨rfl, hb1⟩
    have B1 := Lib.hid hb1
    clear hb1
    go_wp2_with fail
    go_ret
    exact ⟨rfl, B1.out⟩
  have th8 : decide (1099511627776 < sz) = false := decide_eq_false h8
  have HC := Lib.hid (fun W => cut_any p m W (by omega))
  have HR := Lib.hid (fun W => refcut_any p m W (by omega))
  have HP := Lib.hid (fun W => part_any hd m W (by omega) (by omega))
  have HQ := Lib.hid (fun W => refpart_any hd m W (by omega) (by omega))
  have HU := Lib.hid (fun W => usable_any m sz W (by omega) (by omega))
  have HT := Lib.hid (fun (W : World) (v1 v2 : Value) (h1 : TextsAt W v1 (cutL p m)) (h2 : TextsAt W v2 (cutL p m)) => reftexts_any W v1 v2 (cutL p m) h1 h2 (cutL_length p m (by omega)))
  unfold CutEnd at HC HR
  have te : (((cutE p m : Nat) : Int) == ((cutE p m : Nat) : Int)) = true := by simp
  have tp : (pt15 hd m == pt15 hd m) = true := by simp
  generalize cutE p m = E at *
  generalize cutL p m = L at *
  generalize pt15 hd m = PT at *
  go_enter Try.func3, Try.ntmps3
  go_wp2_with fail
  refine HA.out.mono ?_
  rintro e w1 ⟨rfl, hb1⟩
  have B1 := Lib.hid hb1
  clear hb1 HA
  go_wp2_with fail
  refine (HC.out _).mono ?_
  rintro e w2 ⟨hb2, v1, rfl, hv1⟩
  have B2 := Lib.hid (B1.out.trans (hb2.mono B1.out.size))
  have V1 := Lib.hid hv1
  clear hb2 hv1 B1 HC
  go_wp2_with fail
  refine (HR.out _).mono ?_
  rintro e w3 ⟨hb3, v2, rfl, hv2⟩
  have B3 := Lib.hid (B2.out.trans (hb3.mono B2.out.size))
  have V3 := Lib.hid (V1.out.below hb3)
  have V2 := Lib.hid hv2
  clear hb3 hv2 B2 HR V1
  by_cases hu : sz < m
  case' pos => have hus : us15 m sz = m - sz := us15_lt m sz hu
  case' neg => have hus : us15 m sz = 0 := us15_le m sz hu
  case' pos => have tu : decide (sz < m) = true := decide_eq_true hu
  case' neg => have tu : decide (sz < m) = false := decide_eq_false hu
  all_goals
    rw [hus] at HU
    clear hus hu
    go_wp2_with fail
    refine (HT.out _ _ _ V3.out V2.out).mono ?_
    rintro e w4 ⟨rfl, hb4⟩
    have B4 := Lib.hid (B3.out.trans (hb4.mono B3.out.size))
    clear hb4 B3 V3 V2 HT
    by_cases hm0 : m < 0
    · have tm : decide (m < 0) = true := decide_eq_true hm0
      go_wp2_with fail
      refine (HU.out _).mono ?_
      rintro e w5 ⟨rfl, hb5⟩
      have B5 := Lib.hid (B4.out.trans (hb5.mono B4.out.size))
      clear hb5 B4
      go_wp2_with fail
      go_ret
      exact ⟨rfl, B5.out⟩
    · have tm : decide (m < 0) = false := decide_eq_false hm0
      go_wp2_with fail
      refine (HP.out _).mono ?_
      rintro e w5 ⟨rfl, hb5⟩
      have B5 := Lib.hid (B4.out.trans (hb5.mono B4.out.size))
      clear hb5 B4
      go_wp2_with fail
      refine (HQ.out _).mono ?_
      rintro e w6 ⟨rfl, hb6⟩
      have B6 := Lib.hid (B5.out.trans (hb6.mono B5.out.size))
      clear hb6 B5
      go_wp2_with fail
      refine (HU.out _).mono ?_
      rintro e w7 ⟨rfl, hb7⟩
      have B7 := Lib.hid (B6.out.trans (hb7.mono B6.out.size))
      clear hb7 B6
      go_wp2_with fail
      go_ret
      exact ⟨rfl, B7.out⟩

end Go.Proofs.Ytmcajhplieigoaa
