/-
  The document's own answers: Right, and its Put.
-/
import Derived.Test.YtbaddhjlpahpkaaIp6Check
import Derived.Test.YtbaddhjlpahpkaaBytes
import Derived.Test.YtbaddhjlpahpkaaValue
import Derived.IntWalk
namespace Go.Proofs.Ytbaddhjlpahpkaa
open Go.RowKit
set_option linter.unusedVariables false

theorem in6_b (n lo hi : Int) (b : Bool) (w : World) (hb : (decide (lo ≤ n) && decide (n ≤ hi)) = b) :
    Calls Try.prog 26 #[.int .i64 n, .int .i64 lo, .int .i64 hi] w fun e w' => e = .returned (.bool b) ∧ w = w' := by
  have HB := Lib.hid hb
  clear hb
  by_cases h1 : lo ≤ n
  · go_enter Try.func26, Try.ntmps26
    go_wp2_with fail
    go_ret
    exact ⟨by rw [← HB.out, decide_eq_true h1]; rfl, rfl⟩
  · go_enter Try.func26, Try.ntmps26
    go_wp2_with fail
    go_ret
    exact ⟨by rw [← HB.out, decide_eq_false (show ¬ lo ≤ n by omega)]; rfl, rfl⟩

set_option maxHeartbeats 1000000 in
theorem refright6_any (h : H6) (w : World) :
    Calls Try.prog 13 #[.agg h.cells] w fun e w' => e = .returned (.bool h.ok) ∧ Below w.heap.size w w' := by
  have HL := Lib.hid ((Below.refl w.heap.size w).alloc (Nat.le_refl _) (.cells h.cells 23))
  have F0 := Lib.hid (h.ok_step 0 (by decide))
  have F1 := Lib.hid (h.ok_step 1 (by decide))
  have F2 := Lib.hid (h.ok_step 2 (by decide))
  have F3 := Lib.hid (h.ok_step 3 (by decide))
  have F4 := Lib.hid (h.ok_step 4 (by decide))
  have I0 := Lib.hid (fun b W (e : h.fine 0 = b) => in6_b h.cls 0 255 b W e)
  have I1 := Lib.hid (fun b W (e : h.fine 1 = b) => in6_b h.nxt 0 255 b W e)
  have I2 := Lib.hid (fun b W (e : h.fine 2 = b) => in6_b h.hops 0 255 b W e)
  have I3 := Lib.hid (fun b W (e : h.fine 3 = b) => in6_b h.lab 0 1048575 b W e)
  have E4 : Hid (((h.src.size : Int) == 16) = h.fine 4) := by
    show ((h.src.size : Int) == 16) = h.fine 4
    unfold H6.fine; simp only; rw [Bool.eq_iff_iff]; simp
  have E5 : Hid (((h.dst.size : Int) == 16) = h.fine 5) := by
    show ((h.dst.size : Int) == 16) = h.fine 5
    unfold H6.fine; simp only; rw [Bool.eq_iff_iff]; simp
  have FA : Hid (h.ok = (h.fine 0 && h.fine 1 && h.fine 2 && h.fine 3 && h.fine 4 && h.fine 5)) := rfl
  generalize h.ok = ok at *
  generalize h.fine 0 = b0 at *
  generalize h.fine 1 = b1 at *
  generalize h.fine 2 = b2 at *
  generalize h.fine 3 = b3 at *
  generalize h.fine 4 = b4 at *
  generalize h.fine 5 = b5 at *
  unfold H6.cells at HL ⊢
  go_enter Try.func13, Try.ntmps13
  go_wp2_with fail
  refine (I0.out b0 _ rfl).mono ?_
  rintro e w' ⟨rfl, rfl⟩
  cases b0
  · have e1 := Lib.hid (F0.out rfl)
    go_wp2_with fail
    go_ret
    exact ⟨by rw [e1.out]; rfl, HL.out⟩
  go_wp2_with fail
  refine (I1.out b1 _ rfl).mono ?_
  rintro e w' ⟨rfl, rfl⟩
  cases b1
  · have e1 := Lib.hid (F1.out rfl)
    go_wp2_with fail
    go_ret
    exact ⟨by rw [e1.out]; rfl, HL.out⟩
  go_wp2_with fail
  refine (I2.out b2 _ rfl).mono ?_
  rintro e w' ⟨rfl, rfl⟩
  cases b2
  · have e1 := Lib.hid (F2.out rfl)
    go_wp2_with fail
    go_ret
    exact ⟨by rw [e1.out]; rfl, HL.out⟩
  go_wp2_with fail
  refine (I3.out b3 _ rfl).mono ?_
  rintro e w' ⟨rfl, rfl⟩
  cases b3
  · have e1 := Lib.hid (F3.out rfl)
    go_wp2_with fail
    go_ret
    exact ⟨by rw [e1.out]; rfl, HL.out⟩
  have e4 := E4.out
  cases b4
  · have e1 := Lib.hid (F4.out rfl)
    go_wp2_with fail
    go_ret
    exact ⟨by rw [e1.out]; rfl, HL.out⟩
  have e5 := E5.out
  have e1 := FA
  go_wp2_with fail
  go_ret
  exact ⟨by rw [e1.out]; rfl, HL.out⟩

set_option maxHeartbeats 400000 in
theorem refput6_range (h : H6) (pay : ByteArray) (w : World) (hok : h.ok = false) :
    Calls Try.prog 9 #[.agg h.cells, .string pay] w fun e w' => e = .returned (.tuple #[.string ⟨#[]⟩, .int .i64 1]) ∧ Below w.heap.size w w' := by
  have hc := refright6_any h (w.alloc (.cells h.cells 23))
  rw [hok] at hc
  have HC := Lib.hid hc
  have S1 := Lib.hid (Held6.new w h)
  clear hc hok
  unfold H6.cells at HC S1 ⊢
  go_enter Try.func9, Try.ntmps9
  go_wp2_with fail
  refine HC.out.mono ?_
  rintro e w1 ⟨rfl, hb⟩
  have S2 := Lib.hid (S1.out.below hb)
  clear S1 HC hb
  go_wp2_with fail
  go_ret2
  exact ⟨rfl, S2.out.bel⟩

set_option maxHeartbeats 400000 in
theorem refput6_big (h : H6) (pay : ByteArray) (w : World) (hok : h.Ok) (hn : 65535 < pay.size) :
    Calls Try.prog 9 #[.agg h.cells, .string pay] w fun e w' => e = .returned (.tuple #[.string ⟨#[]⟩, .int .i64 4]) ∧ Below w.heap.size w w' := by
  have hc := refright6_any h (w.alloc (.cells h.cells 23))
  rw [(H6.ok_iff h).2 hok] at hc
  have HC := Lib.hid hc
  have S1 := Lib.hid (Held6.new w h)
  have t1 : decide ((65535 : Int) < (pay.size : Int)) = true := by simp; omega
  clear hc hok hn
  unfold H6.cells at HC S1 ⊢
  go_enter Try.func9, Try.ntmps9
  go_wp2_with fail
  refine HC.out.mono ?_
  rintro e w1 ⟨rfl, hb⟩
  have S2 := Lib.hid (S1.out.below hb)
  clear S1 HC hb
  go_wp2_with fail
  go_ret2
  exact ⟨rfl, S2.out.bel⟩

end Go.Proofs.Ytbaddhjlpahpkaa
