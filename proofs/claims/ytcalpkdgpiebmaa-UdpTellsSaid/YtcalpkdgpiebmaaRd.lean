/-
  The reader's small calls: how many bytes are left, how many were read, what must be, and the next n bytes.
-/
import Derived.Test.YtcalpkdgpiebmaaMem
namespace Go.Proofs.Ytcalpkdgpiebmaa
open Go.RowKit
set_option linter.unusedVariables false

/-- The reader's block: what it reads, how many bytes were read. -/
def Rd (w : World) (b : Nat) (s : ByteArray) (i : Nat) : Prop := Blk w b #[.string s, .int .i64 i] 63

set_option maxHeartbeats 400000 in
/-- Left. -/
theorem left_any (b : Nat) (s : ByteArray) (i : Nat) (w : World) (hr : Rd w b s i) (hi : i ≤ s.size) (hs : s.size ≤ maxLen) :
    Calls Try.prog 30 #[.pointer (some ⟨b, 0, none⟩)] w fun e w' => e = .returned (.int .i64 ((s.size : Int) - i)) ∧ ∃ n, w' = w.drewN n := by
  have c0 := hr.cell 0
  have c1 := hr.cell 1
  simp at c0 c1
  unfold maxLen at hs
  clear hr
  go_enter Try.func30, Try.ntmps30
  go_wp2
  go_quiet (fail)
  go_wp2
  go_ret
  exact ⟨rfl, _, rfl⟩

set_option maxHeartbeats 400000 in
/-- Need, of what is. -/
theorem need_yes (r : Value) (x : Bool) (k : Int) (w : World) (hx : x = true) :
    Calls Try.prog 22 #[r, .bool x, .int .i64 k] w fun e w' => e = .returned (.tuple #[]) ∧ w = w' := by
  subst hx
  go_enter Try.func22, Try.ntmps22
  go_wp2
  go_end0
  exact ⟨rfl, rfl⟩

/-- What a stopped reading's panic carries. -/
def stopped (k : Int) : List PanicEntry := [{ v := .iface 60 (.agg #[.int .i64 k]), recovered := false }]

set_option maxHeartbeats 400000 in
/-- Need, of what isn't. -/
theorem need_no (r : Value) (x : Bool) (k : Int) (w : World) (hx : x = false) :
    Calls Try.prog 22 #[r, .bool x, .int .i64 k] w fun e w' => e = .panicked (stopped k) ∧ w = w' := by
  subst hx
  go_enter Try.func22, Try.ntmps22
  go_wp2
  exact ⟨rfl, rfl, rfl⟩

set_option maxHeartbeats 400000 in
/-- Take, where the bytes are there. -/
theorem take_nat (b : Nat) (s : ByteArray) (i k : Nat) (w : World) (hr : Rd w b s i) (hi : i + k ≤ s.size) (hs : s.size ≤ maxLen) :
    Calls Try.prog 29 #[.pointer (some ⟨b, 0, none⟩), .int .i64 k] w fun e w' => e = .returned (.string (s.extract i (i + k))) ∧ ∃ n, w' = (w.drewN n).setCell ⟨b, 1, none⟩ (.int .i64 ((i + k : Nat) : Int)) := by
  have c0 := hr.cell 0
  have c1 := hr.cell 1
  have f1 := hr.frozen 1
  simp at c0 c1
  have hs' := hs
  unfold maxLen at hs'
  go_enter Try.func29, Try.ntmps29
  go_wp2_with fail
  refine (left_any b s i _ hr (by omega) hs).mono ?_
  rintro e w' ⟨rfl, n1, rfl⟩
  go_wp2_with fail
  refine (need_yes _ _ _ _ (by simp; omega)).mono ?_
  rintro e w' ⟨rfl, rfl⟩
  go_wp2_with fail
  go_quiet (fail)
  go_wp2
  go_ret
  exact ⟨rfl, _, rfl⟩

/-- Take, where the bytes are there, of a number as it comes. -/
theorem take_yes (b : Nat) (s : ByteArray) (i : Nat) (n : Int) (w : World) (hr : Rd w b s i) (h0 : 0 ≤ n) (hi : i ≤ s.size) (hn : n ≤ (s.size : Int) - i) (hs : s.size ≤ maxLen) :
    Calls Try.prog 29 #[.pointer (some ⟨b, 0, none⟩), .int .i64 n] w fun e w' => e = .returned (.string (s.extract i (i + n.toNat))) ∧ ∃ m, w' = (w.drewN m).setCell ⟨b, 1, none⟩ (.int .i64 ((i + n.toNat : Nat) : Int)) := by
  obtain ⟨k, rfl⟩ := Int.eq_ofNat_of_zero_le h0
  rw [Int.toNat_natCast]
  exact take_nat b s i k w hr (by omega) hs

set_option maxHeartbeats 400000 in
/-- Take, of a number below 0. -/
theorem take_neg (b : Nat) (n : Int) (w : World) (hn : n < 0) :
    Calls Try.prog 29 #[.pointer (some ⟨b, 0, none⟩), .int .i64 n] w fun e w' => e = .panicked (stopped 2) ∧ ∃ m, w' = w.drewN m := by
  go_enter Try.func29, Try.ntmps29
  go_wp2_with fail
  refine (need_no _ _ _ _ (by simp)).mono ?_
  rintro e w' ⟨rfl, rfl⟩
  exact ⟨rfl, rfl, 0, rfl⟩

set_option maxHeartbeats 400000 in
/-- Take, where the bytes aren't there. -/
theorem take_short (b : Nat) (s : ByteArray) (i : Nat) (n : Int) (w : World) (hr : Rd w b s i) (h0 : 0 ≤ n) (hi : i ≤ s.size) (hn : (s.size : Int) - i < n) (hs : s.size ≤ maxLen) :
    Calls Try.prog 29 #[.pointer (some ⟨b, 0, none⟩), .int .i64 n] w fun e w' => e = .panicked (stopped 2) ∧ ∃ m, w' = w.drewN m := by
  go_enter Try.func29, Try.ntmps29
  go_wp2_with fail
  refine (left_any b s i _ hr (by omega) hs).mono ?_
  rintro e w' ⟨rfl, n1, rfl⟩
  go_wp2_with fail
  refine (need_no _ _ _ _ (by simp; omega)).mono ?_
  rintro e w' ⟨rfl, rfl⟩
  exact ⟨rfl, rfl, n1, rfl⟩

/-- Take, where it stops. -/
theorem take_no (b : Nat) (s : ByteArray) (i : Nat) (n : Int) (w : World) (hr : Rd w b s i) (hi : i ≤ s.size) (hn : n < 0 ∨ (s.size : Int) - i < n) (hs : s.size ≤ maxLen) :
    Calls Try.prog 29 #[.pointer (some ⟨b, 0, none⟩), .int .i64 n] w fun e w' => e = .panicked (stopped 2) ∧ ∃ m, w' = w.drewN m := by
  by_cases h0 : n < 0
  · exact take_neg b n w h0
  · exact take_short b s i n w hr (by omega) hi (by omega) hs

set_option maxHeartbeats 400000 in
/-- Rest. -/
theorem rest_any (b : Nat) (s : ByteArray) (i : Nat) (w : World) (hr : Rd w b s i) (hi : i ≤ s.size) (hs : s.size ≤ maxLen) :
    Calls Try.prog 23 #[.pointer (some ⟨b, 0, none⟩)] w fun e w' => e = .returned (.string (s.extract i s.size)) ∧ ∃ m, w' = (w.drewN m).setCell ⟨b, 1, none⟩ (.int .i64 (s.size : Int)) := by
  go_enter Try.func23, Try.ntmps23
  go_wp2_with fail
  refine (left_any b s i _ hr hi hs).mono ?_
  rintro e w' ⟨rfl, n1, rfl⟩
  go_wp2_with fail
  refine (take_yes b s i ((s.size : Int) - i) (w.drewN n1) (hr.drewN n1) (by omega) hi (by omega) hs).mono ?_
  rintro e w' ⟨rfl, n2, rfl⟩
  rw [show i + ((s.size : Int) - i).toNat = s.size from by omega]
  go_wp2_with fail
  go_ret
  exact ⟨rfl, n1 + n2, rfl⟩

end Go.Proofs.Ytcalpkdgpiebmaa
