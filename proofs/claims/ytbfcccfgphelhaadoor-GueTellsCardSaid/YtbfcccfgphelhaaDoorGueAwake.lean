/-
  The laws' 'awake' and 'few'.
-/
import Derived.Test.YtbfcccfgphelhaaDoorGueGetDo
import Derived.Test.YtbfcccfgphelhaaDoorGueRefPut
import Derived.Test.YtbfcccfgphelhaaDoorGueRefGet
namespace Go.Proofs.YtbfcccfgphelhaaDoor
open Go.RowKit
set_option linter.unusedVariables false

theorem ex13_v : v11 ⟨#[69, 120, 121, 122]⟩ = .four := v11_four (by decide) (by decide +kernel)
theorem ex13_e : put13E 5 ⟨#[69, 120, 121, 122]⟩ = 0 := by
  unfold put13E
  rw [ex13_v, if_neg (by decide), D8.err_zero]
  refine ⟨by show (0 : Int) ≤ 5 ∧ (5 : Int) ≤ 65535; omega, by show (0 : Int) ≤ 6080 ∧ (6080 : Int) ≤ 65535; omega, ?_⟩
  show (pay13 _).size ≤ 65527
  rw [pay13_size]
  decide
theorem ex13_s (src dst : ByteArray) : put13S ⟨5, false⟩ src dst ⟨#[69, 120, 121, 122]⟩ = ⟨#[0, 5, 23, 192, 0, 16, 0, 0, 0, 4, 0, 0, 69, 120, 121, 122]⟩ := by
  unfold put13S
  rw [if_pos ex13_e]
  show bare13 5 ⟨#[69, 120, 121, 122]⟩ = _
  unfold bare13 dg13 pay13
  rw [ex13_v]
  decide +kernel

set_option maxRecDepth 100000 in
set_option maxHeartbeats 1000000 in
theorem awake13_any (w : World) (hv : Vers w) (hp : Places w) : Calls Tryd.prog 7 #[] w (AwakeEnd w) := by
  have h1 := put13_any ⟨5, false⟩ ⟨#[97, 98, 99, 100]⟩ ⟨#[101, 102, 103, 104]⟩ ⟨#[69, 120, 121, 122]⟩ w hv hp (by decide) (by decide) (by decide)
  rw [ex13_s, ex13_e] at h1
  unfold Tells at h1
  unfold H13.cells at h1
  simp only [show ((0 : Nat) : Int) = 0 from rfl] at h1
  have H1 := Lib.hid h1
  clear h1 hv hp
  go_enter Tryd.func7, Tryd.ntmps7
  go_wp2_with fail
  refine H1.out.mono ?_
  rintro e w1 ⟨rfl, hb1⟩
  have B1 := Lib.hid hb1
  clear hb1 H1
  go_wp2_with fail
  go_ret
  exact ⟨rfl, B1.out⟩

def few13 (a b c d : ByteArray) : Bool := decide (a.size ≤ 300) && decide (b.size ≤ 300) && decide (c.size ≤ 70000) && decide (d.size ≤ 70000)
theorem few13_iff (a b c d : ByteArray) : few13 a b c d = true ↔ a.size ≤ 300 ∧ b.size ≤ 300 ∧ c.size ≤ 70000 ∧ d.size ≤ 70000 := by
  simp [few13, and_assoc]
set_option maxHeartbeats 1000000 in
theorem few13_any (a b c d : ByteArray) (w : World) : Calls Tryd.prog 8 #[.string a, .string b, .string c, .string d] w fun e w' => e = .returned (.bool (few13 a b c d)) ∧ w' = w := by
  have e1 : decide ((a.size : Int) ≤ 300) = decide (a.size ≤ 300) := decide_eq_decide.2 (by omega)
  have e2 : decide ((b.size : Int) ≤ 300) = decide (b.size ≤ 300) := decide_eq_decide.2 (by omega)
  have e3 : decide ((c.size : Int) ≤ 70000) = decide (c.size ≤ 70000) := decide_eq_decide.2 (by omega)
  have e4 : decide ((d.size : Int) ≤ 70000) = decide (d.size ≤ 70000) := decide_eq_decide.2 (by omega)
  unfold few13
  generalize decide (a.size ≤ 300) = x1 at *
  generalize decide (b.size ≤ 300) = x2 at *
  generalize decide (c.size ≤ 70000) = x3 at *
  generalize decide (d.size ≤ 70000) = x4 at *
  cases x1 <;> cases x2 <;> cases x3
  all_goals
    go_enter Tryd.func8, Tryd.ntmps8
    go_wp2_with fail
    go_ret
    exact ⟨rfl, rfl⟩

end Go.Proofs.YtbfcccfgphelhaaDoor
