/-
  The document's own answers: May, num, and its Put's refusals.
-/
import Derived.Test.YthfelnocdeknaaaTcpCheck
import Derived.Test.YthfelnocdeknaaaBytes
import Derived.Test.YthfelnocdeknaaaValue
import Derived.IntWalk
namespace Go.Proofs.Ythfelnocdeknaaa
open Go.RowKit
set_option linter.unusedVariables false

theorem in7_any (n m : Int) (w : World) :
    Calls Try.prog 26 #[.int .i64 n, .int .i64 0, .int .i64 m] w fun e w' => e = .returned (.bool (inR n m)) ∧ w' = w := by
  unfold inR
  by_cases h0 : 0 ≤ n
  · have t0 : decide ((0 : Int) ≤ n) = true := by simp; omega
    go_enter Try.func26, Try.ntmps26
    go_wp2_with fail
    go_ret
    exact ⟨by rw [t0]; rfl, rfl⟩
  · have t0 : decide ((0 : Int) ≤ n) = false := by simp; omega
    go_enter Try.func26, Try.ntmps26
    go_wp2_with fail
    go_ret
    exact ⟨rfl, rfl⟩

set_option maxRecDepth 100000 in
set_option maxHeartbeats 1000000 in
theorem may7_any (h : S7) (w : World) : Calls Try.prog 15 #[.agg h.cells] w fun e w' => e = .returned (.bool h.ok) ∧ Below w.heap.size w w' := by
  have S1 := Lib.hid (Held7.new w h)
  have ⟨c0, c1, c2, c3, c4, c5, c6, c7, c8⟩ := Hc7.of S1.out.b
  have HO : Hid (h.ok = (inR h.src 65535 && inR h.dst 65535 && inR h.win 65535 && inR h.urg 65535 && inR h.flg 255 && decide (h.opt.size ≤ 40) && decide (h.opt.size % 4 = 0))) := rfl
  unfold S7.cells at S1 c0 c1 c2 c3 c4 c5 c6 c7 c8 ⊢
  go_enter Try.func15, Try.ntmps15
  go_wp2_with fail
  refine (in7_any _ _ _).mono ?_
  rintro e w' ⟨rfl, rfl⟩
  cases i0 : inR h.src 65535 with
  | false =>
    go_wp2_with fail
    go_ret
    exact ⟨by rw [HO.out, i0]; rfl, S1.out.bel⟩
  | true =>
  go_wp2_with fail
  refine (in7_any _ _ _).mono ?_
  rintro e w' ⟨rfl, rfl⟩
  cases i1 : inR h.dst 65535 with
  | false =>
    go_wp2_with fail
    go_ret
    exact ⟨by rw [HO.out, i0, i1]; rfl, S1.out.bel⟩
  | true =>
  go_wp2_with fail
  refine (in7_any _ _ _).mono ?_
  rintro e w' ⟨rfl, rfl⟩
  cases i2 : inR h.win 65535 with
  | false =>
    go_wp2_with fail
    go_ret
    exact ⟨by rw [HO.out, i0, i1, i2]; rfl, S1.out.bel⟩
  | true =>
  go_wp2_with fail
  refine (in7_any _ _ _).mono ?_
  rintro e w' ⟨rfl, rfl⟩
  cases i3 : inR h.urg 65535 with
  | false =>
    go_wp2_with fail
    go_ret
    exact ⟨by rw [HO.out, i0, i1, i2, i3]; rfl, S1.out.bel⟩
  | true =>
  go_wp2_with fail
  refine (in7_any _ _ _).mono ?_
  rintro e w' ⟨rfl, rfl⟩
  cases i4 : inR h.flg 255 with
  | false =>
    go_wp2_with fail
    go_ret
    exact ⟨by rw [HO.out, i0, i1, i2, i3, i4]; rfl, S1.out.bel⟩
  | true =>
  rw [i0, i1, i2, i3, i4] at HO
  simp only [Bool.true_and] at HO
  by_cases h40 : h.opt.size ≤ 40
  case neg =>
    rw [decide_eq_false h40, Bool.false_and] at HO
    have t1 : decide ((h.opt.size : Int) ≤ 40) = false := by simp; omega
    clear h40
    go_wp2_with fail
    go_ret
    exact ⟨by rw [HO.out]; rfl, S1.out.bel⟩
  have t1 : decide ((h.opt.size : Int) ≤ 40) = true := by simp; omega
  rw [decide_eq_true h40, Bool.true_and] at HO
  by_cases h4 : h.opt.size % 4 = 0
  case neg =>
    rw [decide_eq_false h4] at HO
    have t2 : ((h.opt.size : Int) % 4 == 0) = false := by simp; omega
    clear h4
    go_wp2_with fail
    go_ret
    exact ⟨by rw [HO.out]; rfl, S1.out.bel⟩
  rw [decide_eq_true h4] at HO
  have t2 : ((h.opt.size : Int) % 4 == 0) = true := by simp; omega
  clear h4
  go_wp2_with fail
  go_ret
  exact ⟨by rw [HO.out]; rfl, S1.out.bel⟩

set_option maxHeartbeats 400000 in
/-- A number's bytes, under a name. -/
theorem num7_x (m : Int) (n k : Nat) (kk : Int) (x : ByteArray) (hkk : kk = (k : Nat)) (hm : m = (n : Nat)) (hn : n < 9223372036854775808) (hk : k ≤ 8) (hx : x = ⟨(be n k).toArray⟩) (w : World) :
    Calls Try.prog 27 #[.int .i64 m, .int .i64 kk] w fun e w' => e = .returned (.string x) ∧ Below w.heap.size w w' := by
  subst hm hx hkk
  have q : IntKind.u64.wrap (n : Int) = (n : Int) := wrap_u64 _ (by omega) (by omega)
  have HB := Lib.hid (fun W => bytes_any n k W (by omega) hk)
  go_enter Try.func27, Try.ntmps27
  go_wp2_with fail
  refine (HB.out _).mono ?_
  rintro e w1 ⟨rfl, hb⟩
  go_wp2_with fail
  go_ret
  exact ⟨rfl, hb⟩

set_option maxHeartbeats 400000 in
theorem refput7_refused (h : S7) (sum : Int) (w : World) (hn : (h.ok && inR sum 65535) = false) :
    Calls Try.prog 11 #[.agg h.cells, .int .i64 sum] w fun e w' => e = .returned (.tuple #[.string ⟨#[]⟩, .int .i64 1]) ∧ Below w.heap.size w w' := by
  have hc := may7_any h (w.alloc (.cells h.cells 24))
  have S1 := Lib.hid (Held7.new w h)
  cases hok : h.ok with
  | false =>
    rw [hok] at hc
    have HC := Lib.hid hc
    clear hc hok hn
    unfold S7.cells at HC S1 ⊢
    go_enter Try.func11, Try.ntmps11
    go_wp2_with fail
    refine HC.out.mono ?_
    rintro e w1 ⟨rfl, hb⟩
    have S2 := Lib.hid (S1.out.below hb)
    clear S1 HC hb
    go_wp2_with fail
    go_ret2
    exact ⟨rfl, S2.out.bel⟩
  | true =>
    rw [hok] at hc
    rw [hok, Bool.true_and] at hn
    have HC := Lib.hid hc
    have HN := Lib.hid hn
    clear hc hok hn
    unfold S7.cells at HC S1 ⊢
    go_enter Try.func11, Try.ntmps11
    go_wp2_with fail
    refine HC.out.mono ?_
    rintro e w1 ⟨rfl, hb⟩
    have S2 := Lib.hid (S1.out.below hb)
    clear S1 HC hb
    go_wp2_with fail
    refine (in7_any _ _ _).mono ?_
    rintro e w2 ⟨rfl, rfl⟩
    rw [HN.out]
    go_wp2_with fail
    go_ret2
    exact ⟨rfl, S2.out.bel⟩

end Go.Proofs.Ythfelnocdeknaaa
