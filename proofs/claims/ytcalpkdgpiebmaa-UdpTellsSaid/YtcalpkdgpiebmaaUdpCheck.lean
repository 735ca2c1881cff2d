/-
  Check: may a datagram be?
-/
import Derived.Test.YtcalpkdgpiebmaaUdpSpec
namespace Go.Proofs.Ytcalpkdgpiebmaa
open Go.RowKit
set_option linter.unusedVariables false

/-- A datagram in a block of the call's own. -/
structure Held8 (w u : World) (h : D8) : Prop where
  b : Blk u w.heap.size h.cells 23
  bel : Below w.heap.size w u
theorem Held8.new (w : World) (h : D8) : Held8 w (w.alloc (.cells h.cells 23)) h := ⟨Blk.new w _ _, (Below.refl _ _).alloc (Nat.le_refl _) _⟩
theorem Held8.below {w u u' : World} {h : D8} (s : Held8 w u h) (hb : Below u.heap.size u u') : Held8 w u' h :=
  ⟨(hb.block _ s.b.lt).trans s.b, s.bel.trans (hb.mono s.bel.size)⟩
theorem Held8.alloc {w u : World} {h : D8} (s : Held8 w u h) (o : Obj) : Held8 w (u.alloc o) h := ⟨s.b.alloc o, s.bel.alloc s.bel.size o⟩
theorem Held8.lt {w u : World} {h : D8} (s : Held8 w u h) : w.heap.size < u.heap.size := s.b.lt

set_option maxHeartbeats 400000 in
theorem isWord8_any (n : Int) (w : World) : Calls Try.prog 13 #[.int .i64 n] w fun e w' => e = .returned (.bool (in8 n)) ∧ w' = w := by
  unfold in8
  by_cases h0 : 0 ≤ n
  · have t0 : decide ((0 : Int) ≤ n) = true := by simp; omega
    go_enter Try.func13, Try.ntmps13
    go_wp2_with fail
    go_ret
    exact ⟨by rw [t0]; rfl, rfl⟩
  · have t0 : decide ((0 : Int) ≤ n) = false := by simp; omega
    go_enter Try.func13, Try.ntmps13
    go_wp2_with fail
    go_ret
    exact ⟨rfl, rfl⟩

def Check8End (h : D8) (w : World) (e : Ending) (w' : World) : Prop := e = .returned (.int .i64 (h.err : Nat)) ∧ Below w.heap.size w w'

set_option maxRecDepth 100000 in
set_option maxHeartbeats 1000000 in
theorem check8_any (h : D8) (w : World) : Calls Try.prog 11 #[.agg h.cells] w (Check8End h w) := by
  have S1 := Lib.hid (Held8.new w h)
  have ⟨c0, c1, c2⟩ := Hc8.of S1.out.b
  have H1 := Lib.hid (fun e => D8.err_port (h := h) e)
  have H4 := Lib.hid (fun e => D8.err_long (h := h) e)
  have H0 := Lib.hid (fun e => D8.err_ok (h := h) e)
  unfold D8.cells at S1 c0 c1 c2 ⊢
  unfold Check8End
  go_enter Try.func11, Try.ntmps11
  go_wp2_with fail
  refine (isWord8_any _ _).mono ?_
  rintro e w' ⟨rfl, rfl⟩
  cases i0 : in8 h.src with
  | false =>
    go_wp2_with fail
    go_ret
    exact ⟨by rw [H1.out (by rw [i0]; rfl)]; rfl, S1.out.bel⟩
  | true =>
  go_wp2_with fail
  refine (isWord8_any _ _).mono ?_
  rintro e w' ⟨rfl, rfl⟩
  cases i1 : in8 h.dst with
  | false =>
    go_wp2_with fail
    go_ret
    exact ⟨by rw [H1.out (by rw [i0, i1]; rfl)]; rfl, S1.out.bel⟩
  | true =>
  by_cases hl : h.pay.size ≤ 65527
  case neg =>
    have HF := Lib.hid (H4.out (by rw [i0, i1]; rfl) hl)
    have t1 : decide ((65527 : Int) < (h.pay.size : Int)) = true := by simp; omega
    clear hl
    go_wp2_with fail
    go_ret
    exact ⟨by rw [HF.out]; rfl, S1.out.bel⟩
  have HF := Lib.hid (H0.out (by rw [i0, i1]; rfl) hl)
  have t1 : decide ((65527 : Int) < (h.pay.size : Int)) = false := by simp; omega
  clear hl
  go_wp2_with fail
  go_ret
  exact ⟨by rw [HF.out]; rfl, S1.out.bel⟩

/-- A head's numbers, told by their places. -/
theorem idx8_0 (a b c d : Value) (u : World) : (Instr.index 44 (.agg #[a, b, c, d]) (.int .i64 0)).run Try.prog u = .ok a u := by kernel_rfl
theorem idx8_1 (a b c d : Value) (u : World) : (Instr.index 44 (.agg #[a, b, c, d]) (.int .i64 1)).run Try.prog u = .ok b u := by kernel_rfl
theorem idx8_2 (a b c d : Value) (u : World) : (Instr.index 44 (.agg #[a, b, c, d]) (.int .i64 2)).run Try.prog u = .ok c u := by kernel_rfl
theorem idx8_3 (a b c d : Value) (u : World) : (Instr.index 44 (.agg #[a, b, c, d]) (.int .i64 3)).run Try.prog u = .ok d u := by kernel_rfl

end Go.Proofs.Ytcalpkdgpiebmaa
