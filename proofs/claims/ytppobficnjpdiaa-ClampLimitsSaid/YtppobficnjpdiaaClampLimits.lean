/-
  ClampLimits returns true at every input.
-/
import Derived.Test.YtppobficnjpdiaaClampAwake
namespace Go.Proofs.Ytppobficnjpdiaa
open Go.RowKit
set_option linter.unusedVariables false

set_option maxRecDepth 100000 in
set_option maxHeartbeats 1000000 in
theorem climits_far (p : ByteArray) (a b mtu over : Nat) (w : World) (hp : p.size ≤ 140737488355328) (h5 : 5000 < p.size) :
    Calls Try.prog 6 #[.string p, .int .u16 (a : Nat), .int .u16 (b : Nat), .int .u16 (mtu : Nat), .int .u16 (over : Nat)] w (AwakeEnd w) := by
  have HA := Lib.hid (awakeK_any w)
  go_enter Try.func6, Try.ntmps6
  go_wp2_with fail
  refine HA.out.mono ?_
  rintro e w1 ⟨rfl, hb1⟩
  have B1 := Lib.hid hb1
  clear hb1 HA
  go_wp2_with fail
  go_ret
  exact ⟨rfl, B1.out⟩

set_option maxRecDepth 100000 in
set_option maxHeartbeats 1000000 in
theorem climits_near (p : ByteArray) (a b mtu over : Nat) (w : World) (h5 : p.size ≤ 5000) (ha : a ≤ 65535) (hb : b ≤ 65535) (hm : mtu ≤ 65535) (ho : over ≤ 65535) (f6 f4 n4 : Nat)
    (e4 : nearK ((mtu : Int) - over - 40) = f4) (e6 : nearK ((mtu : Int) - over - 60) = f6) (en : nearK ((mtu : Int) - ((over : Int) + 1) - 40) = n4)
    (D E : Int) (e44 : IntKind.i64.wrap ((mtu : Int) - over) = D) (e45 : IntKind.i64.wrap (D - 60) = E)
    (h : (f4 = 0 ∧ f6 = 0 ∧ n4 = 0 ∧ E ≤ 0) ∨ (f4 = 1 ∧ f6 = 0 ∧ n4 = 0 ∧ E ≤ 0) ∨ (0 < n4 ∧ f6 = 0 ∧ f4 = n4 + 1 ∧ f4 ≤ 65535 ∧ E ≤ 0) ∨ (0 < n4 ∧ 0 < f6 ∧ f4 = n4 + 1 ∧ f4 ≤ 65535 ∧ E = f6)) :
    Calls Try.prog 6 #[.string p, .int .u16 (a : Nat), .int .u16 (b : Nat), .int .u16 (mtu : Nat), .int .u16 (over : Nat)] w (AwakeEnd w) := by
  have HA := Lib.hid (awakeK_any w)
  have G1 := Lib.hid (fun W => limit_any mtu over false W (by omega) (by omega) (by omega) (by omega))
  have G2 := Lib.hid (fun W => limit_any mtu over true W (by omega) (by omega) (by omega) (by omega))
  have G3 := Lib.hid (fun W => limit_any mtu ((over : Int) + 1) false W (by omega) (by omega) (by omega) (by omega))
  simp only [if_true, Bool.false_eq_true, if_false] at G1 G2 G3
  rw [e4] at G1
  rw [e6] at G2
  rw [en] at G3
  clear e4 e6 en
  have sz := clampK_size p a ha
  have na : nearK (a : Int) = a := by unfold nearK; omega
  have nb : nearK (b : Int) = b := by unfold nearK; omega
  have nm : nearK ((min a b : Nat) : Int) = min a b := by unfold nearK; omega
  have C1 := Lib.hid (fun W => clamp_any p a W (by omega))
  have C2 := Lib.hid (fun W => clamp_any (clampK p a) b W (by omega))
  have C3 := Lib.hid (fun W => clamp_any p (min a b : Nat) W (by omega))
  rw [na] at C1
  rw [nb, clampK_twice p a b ha hb] at C2
  rw [nm] at C3
  clear sz na nb nm
  unfold Tells at C1 C2 C3
  generalize clampK p (min a b) = R at *
  generalize clampK p a = Q at *
  rcases Nat.lt_or_ge b a with hab | hab
  rotate_left
  · rw [Nat.min_eq_left hab] at C3
    rcases h with ⟨k2, k3, k4, k5⟩ | ⟨k2, k3, k4, k5⟩ | ⟨k1, k2, k3, k4, k5⟩ | ⟨k1, k2, k3, k4, k5⟩
    · subst k2 k3 k4
      go_enter Try.func6, Try.ntmps6
      go_wp2_with fail
      refine HA.out.mono ?_
      rintro e w1 ⟨rfl, hb1⟩
      have B1 := Lib.hid hb1
      clear hb1 HA
      go_wp2_with fail
      refine (G1.out _).mono ?_
      rintro e w' ⟨rfl, rfl⟩
      go_wp2_with fail
      refine (G2.out _).mono ?_
      rintro e w' ⟨rfl, rfl⟩
      go_wp2_with fail
      refine (G3.out _).mono ?_
      rintro e w' ⟨rfl, rfl⟩
      go_wp2_with fail
      refine (C1.out _).mono ?_
      rintro e w2 ⟨rfl, hb2⟩
      have B2 := Lib.hid (B1.out.trans (hb2.mono B1.out.size))
      clear hb2 B1
      go_wp2_with fail
      refine (C2.out _).mono ?_
      rintro e w3 ⟨rfl, hb3⟩
      have B3 := Lib.hid (B2.out.trans (hb3.mono B2.out.size))
      clear hb3 B2
      go_wp2_with fail
      refine (C3.out _).mono ?_
      rintro e w4 ⟨rfl, hb4⟩
      have B4 := Lib.hid (B3.out.trans (hb4.mono B3.out.size))
      clear hb4 B3
      go_wp2_with fail
      go_ret
      exact ⟨rfl, B4.out⟩
    · subst k2 k3 k4
      go_enter Try.func6, Try.ntmps6
      go_wp2_with fail
      refine HA.out.mono ?_
      rintro e w1 ⟨rfl, hb1⟩
      have B1 := Lib.hid hb1
      clear hb1 HA
      go_wp2_with fail
      refine (G1.out _).mono ?_
      rintro e w' ⟨rfl, rfl⟩
      go_wp2_with fail
      refine (G2.out _).mono ?_
      rintro e w' ⟨rfl, rfl⟩
      go_wp2_with fail
      refine (G3.out _).mono ?_
      rintro e w' ⟨rfl, rfl⟩
      go_wp2_with fail
      refine (C1.out _).mono ?_
      rintro e w2 ⟨rfl, hb2⟩
      have B2 := Lib.hid (B1.out.trans (hb2.mono B1.out.size))
      clear hb2 B1
      go_wp2_with fail
      refine (C2.out _).mono ?_
      rintro e w3 ⟨rfl, hb3⟩
      have B3 := Lib.hid (B2.out.trans (hb3.mono B2.out.size))
      clear hb3 B2
      go_wp2_with fail
      refine (C3.out _).mono ?_
      rintro e w4 ⟨rfl, hb4⟩
      have B4 := Lib.hid (B3.out.trans (hb4.mono B3.out.size))
      clear hb4 B3
      go_wp2_with fail
      go_ret
      exact ⟨rfl, B4.out⟩
    · have e52 : IntKind.i64.wrap ((f4 : Int) - 1) = (n4 : Int) := (IntWalk.i64_in _ (by omega)).trans (by omega)
      have t2 : ((f4 : Int) == 0) = false := by simp; omega
      have t3 : ¬ f4 = 0 := by omega
      have t4 : 0 < f4 := by omega
      subst k2
      clear k3 k4
      go_enter Try.func6, Try.ntmps6
      go_wp2_with fail
      refine HA.out.mono ?_
      rintro e w1 ⟨rfl, hb1⟩
      have B1 := Lib.hid hb1
      clear hb1 HA
      go_wp2_with fail
      refine (G1.out _).mono ?_
      rintro e w' ⟨rfl, rfl⟩
      go_wp2_with fail
      refine (G2.out _).mono ?_
      rintro e w' ⟨rfl, rfl⟩
      go_wp2_with fail
      refine (G3.out _).mono ?_
      rintro e w' ⟨rfl, rfl⟩
      go_wp2_with fail
      refine (C1.out _).mono ?_
      rintro e w2 ⟨rfl, hb2⟩
      have B2 := Lib.hid (B1.out.trans (hb2.mono B1.out.size))
      clear hb2 B1
      go_wp2_with fail
      refine (C2.out _).mono ?_
      rintro e w3 ⟨rfl, hb3⟩
      have B3 := Lib.hid (B2.out.trans (hb3.mono B2.out.size))
      clear hb3 B2
      go_wp2_with fail
      refine (C3.out _).mono ?_
      rintro e w4 ⟨rfl, hb4⟩
      have B4 := Lib.hid (B3.out.trans (hb4.mono B3.out.size))
      clear hb4 B3
      go_wp2_with fail
      go_ret
      exact ⟨rfl, B4.out⟩
    · have e52 : IntKind.i64.wrap ((f4 : Int) - 1) = (n4 : Int) := (IntWalk.i64_in _ (by omega)).trans (by omega)
      have t2 : ((f4 : Int) == 0) = false := by simp; omega
      have t3 : ¬ f4 = 0 := by omega
      have t4 : 0 < f4 := by omega
      subst k5
      clear k3 k4
      go_enter Try.func6, Try.ntmps6
      go_wp2_with fail
      refine HA.out.mono ?_
      rintro e w1 ⟨rfl, hb1⟩
      have B1 := Lib.hid hb1
      clear hb1 HA
      go_wp2_with fail
      refine (G1.out _).mono ?_
      rintro e w' ⟨rfl, rfl⟩
      go_wp2_with fail
      refine (G2.out _).mono ?_
      rintro e w' ⟨rfl, rfl⟩
      go_wp2_with fail
      refine (G3.out _).mono ?_
      rintro e w' ⟨rfl, rfl⟩
      go_wp2_with fail
      refine (C1.out _).mono ?_
      rintro e w2 ⟨rfl, hb2⟩
      have B2 := Lib.hid (B1.out.trans (hb2.mono B1.out.size))
      clear hb2 B1
      go_wp2_with fail
      refine (C2.out _).mono ?_
      rintro e w3 ⟨rfl, hb3⟩
      have B3 := Lib.hid (B2.out.trans (hb3.mono B2.out.size))
      clear hb3 B2
      go_wp2_with fail
      refine (C3.out _).mono ?_
      rintro e w4 ⟨rfl, hb4⟩
      have B4 := Lib.hid (B3.out.trans (hb4.mono B3.out.size))
      clear hb4 B3
      go_wp2_with fail
      go_ret
      exact ⟨rfl, B4.out⟩
  · rw [Nat.min_eq_right (Nat.le_of_lt hab)] at C3
    rcases h with ⟨k2, k3, k4, k5⟩ | ⟨k2, k3, k4, k5⟩ | ⟨k1, k2, k3, k4, k5⟩ | ⟨k1, k2, k3, k4, k5⟩
    · subst k2 k3 k4
      go_enter Try.func6, Try.ntmps6
      go_wp2_with fail
      refine HA.out.mono ?_
      rintro e w1 ⟨rfl, hb1⟩
      have B1 := Lib.hid hb1
      clear hb1 HA
      go_wp2_with fail
      refine (G1.out _).mono ?_
      rintro e w' ⟨rfl, rfl⟩
      go_wp2_with fail
      refine (G2.out _).mono ?_
      rintro e w' ⟨rfl, rfl⟩
      go_wp2_with fail
      refine (G3.out _).mono ?_
      rintro e w' ⟨rfl, rfl⟩
      go_wp2_with fail
      refine (C1.out _).mono ?_
      rintro e w2 ⟨rfl, hb2⟩
      have B2 := Lib.hid (B1.out.trans (hb2.mono B1.out.size))
      clear hb2 B1
      go_wp2_with fail
      refine (C2.out _).mono ?_
      rintro e w3 ⟨rfl, hb3⟩
      have B3 := Lib.hid (B2.out.trans (hb3.mono B2.out.size))
      clear hb3 B2
      go_wp2_with fail
      refine (C3.out _).mono ?_
      rintro e w4 ⟨rfl, hb4⟩
      have B4 := Lib.hid (B3.out.trans (hb4.mono B3.out.size))
      clear hb4 B3
      go_wp2_with fail
      go_ret
      exact ⟨rfl, B4.out⟩
    · subst k2 k3 k4
      go_enter Try.func6, Try.ntmps6
      go_wp2_with fail
      refine HA.out.mono ?_
      rintro e w1 ⟨rfl, hb1⟩
      have B1 := Lib.hid hb1
      clear hb1 HA
      go_wp2_with fail
      refine (G1.out _).mono ?_
      rintro e w' ⟨rfl, rfl⟩
      go_wp2_with fail
      refine (G2.out _).mono ?_
      rintro e w' ⟨rfl, rfl⟩
      go_wp2_with fail
      refine (G3.out _).mono ?_
      rintro e w' ⟨rfl, rfl⟩
      go_wp2_with fail
      refine (C1.out _).mono ?_
      rintro e w2 ⟨rfl, hb2⟩
      have B2 := Lib.hid (B1.out.trans (hb2.mono B1.out.size))
      clear hb2 B1
      go_wp2_with fail
      refine (C2.out _).mono ?_
      rintro e w3 ⟨rfl, hb3⟩
      have B3 := Lib.hid (B2.out.trans (hb3.mono B2.out.size))
      clear hb3 B2
      go_wp2_with fail
      refine (C3.out _).mono ?_
      rintro e w4 ⟨rfl, hb4⟩
      have B4 := Lib.hid (B3.out.trans (hb4.mono B3.out.size))
      clear hb4 B3
      go_wp2_with fail
      go_ret
      exact ⟨rfl, B4.out⟩
    · have e52 : IntKind.i64.wrap ((f4 : Int) - 1) = (n4 : Int) := (IntWalk.i64_in _ (by omega)).trans (by omega)
      have t2 : ((f4 : Int) == 0) = false := by simp; omega
      have t3 : ¬ f4 = 0 := by omega
      have t4 : 0 < f4 := by omega
      subst k2
      clear k3 k4
      go_enter Try.func6, Try.ntmps6
      go_wp2_with fail
      refine HA.out.mono ?_
      rintro e w1 ⟨rfl, hb1⟩
      have B1 := Lib.hid hb1
      clear hb1 HA
      go_wp2_with fail
      refine (G1.out _).mono ?_
      rintro e w' ⟨rfl, rfl⟩
      go_wp2_with fail
      refine (G2.out _).mono ?_
      rintro e w' ⟨rfl, rfl⟩
      go_wp2_with fail
      refine (G3.out _).mono ?_
      rintro e w' ⟨rfl, rfl⟩
      go_wp2_with fail
      refine (C1.out _).mono ?_
      rintro e w2 ⟨rfl, hb2⟩
      have B2 := Lib.hid (B1.out.trans (hb2.mono B1.out.size))
      clear hb2 B1
      go_wp2_with fail
      refine (C2.out _).mono ?_
      rintro e w3 ⟨rfl, hb3⟩
      have B3 := Lib.hid (B2.out.trans (hb3.mono B2.out.size))
      clear hb3 B2
      go_wp2_with fail
      refine (C3.out _).mono ?_
      rintro e w4 ⟨rfl, hb4⟩
      have B4 := Lib.hid (B3.out.trans (hb4.mono B3.out.size))
      clear hb4 B3
      go_wp2_with fail
      go_ret
      exact ⟨rfl, B4.out⟩
    · have e52 : IntKind.i64.wrap ((f4 : Int) - 1) = (n4 : Int) := (IntWalk.i64_in _ (by omega)).trans (by omega)
      have t2 : ((f4 : Int) == 0) = false := by simp; omega
      have t3 : ¬ f4 = 0 := by omega
      have t4 : 0 < f4 := by omega
      subst k5
      clear k3 k4
      go_enter Try.func6, Try.ntmps6
      go_wp2_with fail
      refine HA.out.mono ?_
      rintro e w1 ⟨rfl, hb1⟩
      have B1 := Lib.hid hb1
      clear hb1 HA
      go_wp2_with fail
      refine (G1.out _).mono ?_
      rintro e w' ⟨rfl, rfl⟩
      go_wp2_with fail
      refine (G2.out _).mono ?_
      rintro e w' ⟨rfl, rfl⟩
      go_wp2_with fail
      refine (G3.out _).mono ?_
      rintro e w' ⟨rfl, rfl⟩
      go_wp2_with fail
      refine (C1.out _).mono ?_
      rintro e w2 ⟨rfl, hb2⟩
      have B2 := Lib.hid (B1.out.trans (hb2.mono B1.out.size))
      clear hb2 B1
      go_wp2_with fail
      refine (C2.out _).mono ?_
      rintro e w3 ⟨rfl, hb3⟩
      have B3 := Lib.hid (B2.out.trans (hb3.mono B2.out.size))
      clear hb3 B2
      go_wp2_with fail
      refine (C3.out _).mono ?_
      rintro e w4 ⟨rfl, hb4⟩
      have B4 := Lib.hid (B3.out.trans (hb4.mono B3.out.size))
      clear hb4 B3
      go_wp2_with fail
      go_ret
      exact ⟨rfl, B4.out⟩

theorem climits_any (p : ByteArray) (a b mtu over : Int) (w : World) (hp : p.size ≤ 140737488355328) (ha : 0 ≤ a ∧ a ≤ 65535) (hb : 0 ≤ b ∧ b ≤ 65535) (hm : 0 ≤ mtu ∧ mtu ≤ 65535) (ho : 0 ≤ over ∧ over ≤ 65535) :
    Calls Try.prog 6 #[.string p, .int .u16 a, .int .u16 b, .int .u16 mtu, .int .u16 over] w (AwakeEnd w) := by
  obtain ⟨a, rfl⟩ := Int.eq_ofNat_of_zero_le ha.1
  obtain ⟨b, rfl⟩ := Int.eq_ofNat_of_zero_le hb.1
  obtain ⟨mtu, rfl⟩ := Int.eq_ofNat_of_zero_le hm.1
  obtain ⟨over, rfl⟩ := Int.eq_ofNat_of_zero_le ho.1
  by_cases h5 : 5000 < p.size
  · exact climits_far p a b mtu over w hp h5
  · exact climits_near p a b mtu over w (by omega) (by omega) (by omega) (by omega) (by omega) _ _ _ rfl rfl rfl ((mtu : Int) - over) ((mtu : Int) - over - 60) (IntWalk.i64_in _ (by omega)) (IntWalk.i64_in _ (by omega)) (by unfold nearK; omega)

end Go.Proofs.Ytppobficnjpdiaa
