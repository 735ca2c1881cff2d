/-
  ClampTells returns true at every input.
-/
import Derived.Test.YtppobficnjpdiaaClampAwake
import Derived.Test.YtppobficnjpdiaaClampRefDo
namespace Go.Proofs.Ytppobficnjpdiaa
open Go.RowKit
set_option linter.unusedVariables false

set_option maxRecDepth 100000 in
set_option maxHeartbeats 1000000 in
theorem ctells_out (p : ByteArray) (lim mtu over : Int) (six : Bool) (w : World) (hp : p.size ≤ 140737488355328) (h : 5000 < p.size ∨ (p.size ≤ 5000 ∧ (mtu < -1099511627776 ∨ (-1099511627776 ≤ mtu ∧ (1099511627776 < mtu ∨ (mtu ≤ 1099511627776 ∧ (over < -1099511627776 ∨ (-1099511627776 ≤ over ∧ 1099511627776 < over)))))))) :
    Calls Try.prog 3 #[.string p, .int .i64 lim, .int .i64 mtu, .int .i64 over, .bool six] w (AwakeEnd w) := by
  have HA := Lib.hid (awakeK_any w)
  rcases h with h | ⟨h, h1 | ⟨h1, h2 | ⟨h2, h3 | ⟨h3, h4⟩⟩⟩⟩
  all_goals
    go_enter Try.func3, Try.ntmps3
    go_wp2_with fail
    refine HA.out.mono ?_
    rintro e w1 ⟨rfl, hb1⟩
    have B1 := Lib.hid hb1
    clear hb1 HA
    go_wp2_with fail
    go_ret
    exact ⟨rfl, B1.out⟩

set_option maxRecDepth 100000 in
set_option maxHeartbeats 1000000 in
theorem ctells_any (p : ByteArray) (lim mtu over : Int) (six : Bool) (w : World) (hp : p.size ≤ 140737488355328) :
    Calls Try.prog 3 #[.string p, .int .i64 lim, .int .i64 mtu, .int .i64 over, .bool six] w (AwakeEnd w) := by
  by_cases h5 : 5000 < p.size
  case pos => exact ctells_out p lim mtu over six w hp (Or.inl h5)
  by_cases h : (-1099511627776 ≤ mtu ∧ mtu ≤ 1099511627776) ∧ (-1099511627776 ≤ over ∧ over ≤ 1099511627776)
  case neg => exact ctells_out p lim mtu over six w hp (by omega)
  obtain ⟨⟨k1, k2⟩, ⟨k3, k4⟩⟩ := h
  have HA := Lib.hid (awakeK_any w)
  have G1 := Lib.hid (fun W => mss_any' p W (by omega))
  have G2 := Lib.hid (fun W => rmss_any p W (by omega))
  have G3 := Lib.hid (fun W => clamp_any p lim W (by omega))
  have G4 := Lib.hid (fun W => rclamp_any p lim W (by omega))
  have G5 := Lib.hid (fun W => limit_any mtu over six W k1 k2 k3 k4)
  have G6 := Lib.hid (fun W => rlimit_any mtu over six W k1 k2 k3 k4)
  unfold Tells at G1 G2 G3 G4
  generalize (mssK p).is_ = n at *
  generalize hasK p = h at *
  generalize clampK p (nearK lim) = Q at *
  generalize nearK (mtu - over - if six then 60 else 40) = l at *
  go_enter Try.func3, Try.ntmps3
  go_wp2_with fail
  refine HA.out.mono ?_
  rintro e w1 ⟨rfl, hb1⟩
  have B1 := Lib.hid hb1
  clear hb1 HA
  go_wp2_with fail
  refine (G1.out _).mono ?_
  rintro e w2 ⟨rfl, hb2⟩
  have B2 := Lib.hid (B1.out.trans (hb2.mono B1.out.size))
  clear hb2 B1 G1
  go_wp2_with fail
  refine (G2.out _).mono ?_
  rintro e w3 ⟨rfl, hb3⟩
  have B3 := Lib.hid (B2.out.trans (hb3.mono B2.out.size))
  clear hb3 B2 G2
  go_wp2_with fail
  refine (G3.out _).mono ?_
  rintro e w4 ⟨rfl, hb4⟩
  have B4 := Lib.hid (B3.out.trans (hb4.mono B3.out.size))
  clear hb4 B3 G3
  go_wp2_with fail
  refine (G4.out _).mono ?_
  rintro e w5 ⟨rfl, hb5⟩
  have B5 := Lib.hid (B4.out.trans (hb5.mono B4.out.size))
  clear hb5 B4 G4
  go_wp2_with fail
  refine (G5.out _).mono ?_
  rintro e w' ⟨rfl, rfl⟩
  go_wp2_with fail
  refine (G6.out _).mono ?_
  rintro e w' ⟨rfl, rfl⟩
  go_wp2_with fail
  go_ret
  exact ⟨rfl, B5.out⟩

end Go.Proofs.Ytppobficnjpdiaa
