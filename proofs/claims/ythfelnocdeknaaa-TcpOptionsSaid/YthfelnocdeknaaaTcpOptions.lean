/-
  TcpOptions returns true at every input.
-/
import Derived.Test.YthfelnocdeknaaaTcpAwake
import Derived.Test.YthfelnocdeknaaaTcpRefMss
namespace Go.Proofs.Ythfelnocdeknaaa
open Go.RowKit
set_option linter.unusedVariables false

set_option maxRecDepth 100000 in
set_option maxHeartbeats 2000000 in
theorem options_any (o : ByteArray) (w : World) (hz : o.size ≤ 140737488355328) :
    Calls Try.prog 4 #[.string o] w (AwakeEnd w) := by
  have HA := Lib.hid (awake7_any w)
  go_enter Try.func4, Try.ntmps4
  go_wp2_with fail
  refine HA.out.mono ?_
  rintro e w1 ⟨rfl, hb1⟩
  have B1 := Lib.hid hb1
  clear hb1 HA
  by_cases h7 : o.size ≤ 1000
  case neg =>
    have t7 : decide ((1000 : Int) < (o.size : Int)) = true := by simp; omega
    go_wp2_with fail
    go_ret
    exact ⟨rfl, B1.out⟩
  have t7 : decide ((1000 : Int) < (o.size : Int)) = false := by simp; omega
  have HW := Lib.hid (fun W => refwalk_any o W (by omega))
  have HM := Lib.hid (fun W => mss_call o W (by unfold maxLen; omega))
  have HN := Lib.hid (fun W => refmss_any o W (by omega))
  have HR := Lib.hid (fun W => right_call o W (by unfold maxLen; omega))
  unfold MssEnd at HM
  unfold RefMssEnd at HN
  unfold WalkEnd at HW
  go_wp2_with fail
  refine (HW.out _).mono ?_
  clear HW
  generalize mN (mssL o.data.toList) = a at *
  generalize mA (mssL o.data.toList) = b at *
  generalize (mssL o.data.toList).isSome = c at *
  generalize rightL o.data.toList = d at *
  rintro e w2 ⟨hb2, ⟨hd, v, rfl, -⟩ | ⟨hd, rfl⟩⟩
  all_goals
    have B2 := Lib.hid (B1.out.trans (hb2.mono B1.out.size))
    clear hb2 B1
    go_wp2_with fail
    refine (HM.out _).mono ?_
    rintro e w3 ⟨rfl, hb3⟩
    have B3 := Lib.hid (B2.out.trans (hb3.mono B2.out.size))
    clear hb3 B2 HM
    go_wp2_with fail
    refine (HN.out _).mono ?_
    rintro e w4 ⟨rfl, hb4⟩
    have B4 := Lib.hid (B3.out.trans (hb4.mono B3.out.size))
    clear hb4 B3 HN
    subst hd
    go_wp2_with fail
    refine (HR.out _).mono ?_
    rintro e w5 ⟨rfl, hb5⟩
    have B5 := Lib.hid (B4.out.trans (hb5.mono B4.out.size))
    clear hb5 B4 HR
    have tc : (c == c) = true := by simp
    go_wp2_with fail
    go_ret
    exact ⟨by simp, B5.out⟩

end Go.Proofs.Ythfelnocdeknaaa
