/-
  Check: may a segment be? And the laws' few.
-/
import Derived.Test.YthfelnocdeknaaaTcpSpec
namespace Go.Proofs.Ythfelnocdeknaaa
open Go.RowKit
set_option linter.unusedVariables false

/-- A segment in a block of the call's own. -/
structure Held7 (w u : World) (h : S7) : Prop where
  b : Blk u w.heap.size h.cells 24
  bel : Below w.heap.size w u
theorem Held7.new (w : World) (h : S7) : Held7 w (w.alloc (.cells h.cells 24)) h := ⟨Blk.new w _ _, (Below.refl _ _).alloc (Nat.le_refl _) _⟩
theorem Held7.below {w u u' : World} {h : S7} (s : Held7 w u h) (hb : Below u.heap.size u u') : Held7 w u' h :=
  ⟨(hb.block _ s.b.lt).trans s.b, s.bel.trans (hb.mono s.bel.size)⟩
theorem Held7.alloc {w u : World} {h : S7} (s : Held7 w u h) (o : Obj) : Held7 w (u.alloc o) h := ⟨s.b.alloc o, s.bel.alloc s.bel.size o⟩
theorem Held7.lt {w u : World} {h : S7} (s : Held7 w u h) : w.heap.size < u.heap.size := s.b.lt

set_option maxHeartbeats 400000 in
theorem within_any (n m : Int) (w : World) : Calls Try.prog 20 #[.int .i64 n, .int .i64 m] w fun e w' => e = .returned (.bool (inR n m)) ∧ w' = w := by
  unfold inR
  by_cases h0 : 0 ≤ n
  · have t0 : decide ((0 : Int) ≤ n) = true := by simp; omega
    go_enter Try.func20, Try.ntmps20
    go_wp2_with fail
    go_ret
    exact ⟨by rw [t0]; rfl, rfl⟩
  · have t0 : decide ((0 : Int) ≤ n) = false := by simp; omega
    go_enter Try.func20, Try.ntmps20
    go_wp2_with fail
    go_ret
    exact ⟨rfl, rfl⟩

def Check7End (h : S7) (w : World) (e : Ending) (w' : World) : Prop := e = .returned (.int .i64 (h.err : Nat)) ∧ Below w.heap.size w w'

set_option maxRecDepth 100000 in
set_option maxHeartbeats 1000000 in
theorem check7_any (h : S7) (w : World) : Calls Try.prog 14 #[.agg h.cells] w (Check7End h w) := by
  have S1 := Lib.hid (Held7.new w h)
  have ⟨c0, c1, c2, c3, c4, c5, c6, c7, c8⟩ := Hc7.of S1.out.b
  have H0 := Lib.hid (fun e => S7.err_ok (h := h) e)
  have H1 := Lib.hid (fun e => S7.err_no (h := h) e)
  have HO : Hid (h.ok = (inR h.src 65535 && inR h.dst 65535 && inR h.win 65535 && inR h.urg 65535 && inR h.flg 255 && decide (h.opt.size ≤ 40) && decide (h.opt.size % 4 = 0))) := rfl
  unfold S7.cells at S1 c0 c1 c2 c3 c4 c5 c6 c7 c8 ⊢
  unfold Check7End
  go_enter Try.func14, Try.ntmps14
  go_wp2_with fail
  refine (within_any _ _ _).mono ?_
  rintro e w' ⟨rfl, rfl⟩
  cases i0 : inR h.src 65535 with
  | false =>
    go_wp2_with fail
    go_ret
    exact ⟨by rw [H1.out (by rw [HO.out, i0]; rfl)]; rfl, S1.out.bel⟩
  | true =>
  go_wp2_with fail
  refine (within_any _ _ _).mono ?_
  rintro e w' ⟨rfl, rfl⟩
  cases i1 : inR h.dst 65535 with
  | false =>
    go_wp2_with fail
    go_ret
    exact ⟨by rw [H1.out (by rw [HO.out, i0, i1]; rfl)]; rfl, S1.out.bel⟩
  | true =>
  go_wp2_with fail
  refine (within_any _ _ _).mono ?_
  rintro e w' ⟨rfl, rfl⟩
  cases i2 : inR h.win 65535 with
  | false =>
    go_wp2_with fail
    go_ret
    exact ⟨by rw [H1.out (by rw [HO.out, i0, i1, i2]; rfl)]; rfl, S1.out.bel⟩
  | true =>
  go_wp2_with fail
  refine (within_any _ _ _).mono ?_
  rintro e w' ⟨rfl, rfl⟩
  cases i3 : inR h.urg 65535 with
  | false =>
    go_wp2_with fail
    go_ret
    exact ⟨by rw [H1.out (by rw [HO.out, i0, i1, i2, i3]; rfl)]; rfl, S1.out.bel⟩
  | true =>
  go_wp2_with fail
  refine (within_any _ _ _).mono ?_
  rintro e w' ⟨rfl, rfl⟩
  cases i4 : inR h.flg 255 with
  | false =>
    go_wp2_with fail
    go_ret
    exact ⟨by rw [H1.out (by rw [HO.out, i0, i1, i2, i3, i4]; rfl)]; rfl, S1.out.bel⟩
  | true =>
  rw [i0, i1, i2, i3, i4] at HO
  simp only [Bool.true_and] at HO
  by_cases h40 : h.opt.size ≤ 40
  case neg =>
    have HF := Lib.hid (H1.out (by rw [HO.out, decide_eq_false h40]; rfl))
    have t1 : decide ((40 : Int) < (h.opt.size : Int)) = true := by simp; omega
    clear h40
    go_wp2_with fail
    go_ret
    exact ⟨by rw [HF.out]; rfl, S1.out.bel⟩
  have t1 : decide ((40 : Int) < (h.opt.size : Int)) = false := by simp; omega
  rw [decide_eq_true h40, Bool.true_and] at HO
  by_cases h4 : h.opt.size % 4 = 0
  case neg =>
    have HF := Lib.hid (H1.out (by rw [HO.out, decide_eq_false h4]))
    have t2 : ((h.opt.size : Int) % 4 != 0) = true := by simp; omega
    clear h4
    go_wp2_with fail
    go_ret
    exact ⟨by rw [HF.out]; rfl, S1.out.bel⟩
  have HF := Lib.hid (H0.out (by rw [HO.out, decide_eq_true h4]))
  have t2 : ((h.opt.size : Int) % 4 != 0) = false := by simp; omega
  clear h4
  go_wp2_with fail
  go_ret
  exact ⟨by rw [HF.out]; rfl, S1.out.bel⟩

set_option maxHeartbeats 400000 in
theorem few7_any (h : S7) (w : World) : Calls Try.prog 9 #[.agg h.cells] w fun e w' => e = .returned (.bool h.few) ∧ Below w.heap.size w w' := by
  have S1 := Lib.hid (Held7.new w h)
  have ⟨c0, c1, c2, c3, c4, c5, c6, c7, c8⟩ := Hc7.of S1.out.b
  have HF : Hid (h.few = (decide (h.opt.size ≤ 300) && decide (h.pay.size ≤ 5000))) := rfl
  unfold S7.cells at S1 c0 c1 c2 c3 c4 c5 c6 c7 c8 ⊢
  by_cases h3 : h.opt.size ≤ 300
  · have t1 : decide ((h.opt.size : Int) ≤ 300) = true := by simp; omega
    rw [decide_eq_true h3, Bool.true_and] at HF
    have HP : Hid (decide (h.pay.size ≤ 5000) = decide ((h.pay.size : Int) ≤ 5000)) := by
      show decide (h.pay.size ≤ 5000) = decide ((h.pay.size : Int) ≤ 5000)
      rw [decide_eq_decide]; omega
    generalize hq : decide ((h.pay.size : Int) ≤ 5000) = q at *
    go_enter Try.func9, Try.ntmps9
    go_wp2_with fail
    go_ret
    exact ⟨by rw [HF.out, HP.out]; rfl, S1.out.bel⟩
  · have t1 : decide ((h.opt.size : Int) ≤ 300) = false := by simp; omega
    rw [decide_eq_false h3, Bool.false_and] at HF
    go_enter Try.func9, Try.ntmps9
    go_wp2_with fail
    go_ret
    exact ⟨by rw [HF.out]; rfl, S1.out.bel⟩

end Go.Proofs.Ythfelnocdeknaaa
