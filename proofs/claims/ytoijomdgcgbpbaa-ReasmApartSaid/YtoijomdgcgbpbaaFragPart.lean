/-
  Usable and Part: how many bytes of payload a piece has; and the document's.
-/
import Derived.Test.YtoijomdgcgbpbaaFragSpec
namespace Go.Proofs.Ytoijomdgcgbpbaa
open Go.RowKit
set_option linter.unusedVariables false

/-- What is left, and how much of it a piece has. -/
def us15 (m s : Int) : Int := if s < m then m - s else 0
def pt15 (a m : Int) : Int := us15 m a / 8 * 8
theorem us15_le (m s : Int) (h : ¬ s < m) : us15 m s = 0 := by unfold us15; rw [if_neg h]
theorem us15_lt (m s : Int) (h : s < m) : us15 m s = m - s := by unfold us15; rw [if_pos h]
theorem us15_nn (m s : Int) : 0 ≤ us15 m s := by unfold us15; split <;> omega
theorem pt15_nat (a : Nat) (m : Int) : pt15 a m = (pn15 a m.toNat : Nat) := by
  unfold pt15 pn15 us15
  split <;> omega

theorem usable_any (m s : Int) (w : World) (hm : -1099511627776 ≤ m ∧ m ≤ 1099511627776) (hs : -1099511627776 ≤ s ∧ s ≤ 1099511627776) :
    Calls Try.prog 65 #[.int .i64 m, .int .i64 s] w (Tells (.int .i64 (us15 m s)) w) := by
  have e1 : IntKind.i64.wrap (m - s) = m - s := IntWalk.i64_in _ (by omega)
  by_cases h : m - s < 0
  · rw [us15_le m s (by omega)]
    go_enter Try.func65, Try.ntmps65
    go_wp2_with fail
    go_ret
    exact ⟨rfl, Below.refl _ _⟩
  · have hu : us15 m s = m - s := by unfold us15; split <;> omega
    rw [hu]
    have t1 : 0 ≤ m - s := by omega
    clear h hu
    go_enter Try.func65, Try.ntmps65
    go_wp2_with fail
    go_ret
    exact ⟨rfl, Below.refl _ _⟩

theorem part_any (a m : Int) (w : World) (hm : -1099511627776 ≤ m ∧ m ≤ 1099511627776) (ha : -1099511627776 ≤ a ∧ a ≤ 1099511627776) :
    Calls Try.prog 43 #[.int .i64 a, .int .i64 m] w (Tells (.int .i64 (pt15 a m)) w) := by
  have HU := Lib.hid (usable_any m a w hm ha)
  have h0 := us15_nn m a
  have h1 : us15 m a ≤ 2199023255552 := by unfold us15; split <;> omega
  have HP : Hid (pt15 a m = us15 m a / 8 * 8) := rfl
  generalize pt15 a m = R at *
  generalize us15 m a = U at *
  have e1 : IntKind.i64.wrap (Int.tdiv U 8) = U / 8 := by rw [Int.tdiv_eq_ediv_of_nonneg h0]; exact IntWalk.i64_in _ (by omega)
  have e2 : IntKind.i64.wrap (U / 8 * 8) = U / 8 * 8 := IntWalk.i64_in _ (by omega)
  go_enter Try.func43, Try.ntmps43
  go_wp2_with fail
  refine HU.out.mono ?_
  rintro e w1 ⟨rfl, hb⟩
  go_wp2_with fail
  go_ret
  exact ⟨by rw [HP.out]; rfl, hb⟩

theorem refpart_any (a m : Int) (w : World) (hm : -1099511627776 ≤ m ∧ m ≤ 1099511627776) (ha : -1099511627776 ≤ a ∧ a ≤ 1099511627776) :
    Calls Try.prog 47 #[.int .i64 a, .int .i64 m] w (Tells (.int .i64 (pt15 a m)) w) := by
  unfold pt15
  by_cases h : a < m
  · rw [us15_lt m a h]
    have e0 : IntKind.i64.wrap (m - a) = m - a := IntWalk.i64_in _ (by omega)
    have h0 : 0 ≤ m - a := by omega
    have h1 : m - a ≤ 2199023255552 := by omega
    have t1 : decide (a < m) = true := by simp; omega
    have e1 : IntKind.i64.wrap (Int.tdiv (m - a) 8) = (m - a) / 8 := by rw [Int.tdiv_eq_ediv_of_nonneg h0]; exact IntWalk.i64_in _ (by omega)
    have e2 : IntKind.i64.wrap ((m - a) / 8 * 8) = (m - a) / 8 * 8 := IntWalk.i64_in _ (by omega)
    go_enter Try.func47, Try.ntmps47
    go_wp2_with fail
    go_ret
    exact ⟨rfl, Below.refl _ _⟩
  · rw [us15_le m a h]
    have t1 : decide (a < m) = false := by simp; omega
    go_enter Try.func47, Try.ntmps47
    go_wp2_with fail
    go_ret
    exact ⟨rfl, Below.refl _ _⟩

end Go.Proofs.Ytoijomdgcgbpbaa
