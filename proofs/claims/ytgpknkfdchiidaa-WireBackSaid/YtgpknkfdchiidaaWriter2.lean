/-
  The writer's numbers by their kinds; what any calls write.
-/
import Derived.Test.YtgpknkfdchiidaaWriter1
import Derived.Test.YtgpknkfdchiidaaCalls1
namespace Go.Proofs.Ytgpknkfdchiidaa
open Go.RowKit
set_option linter.unusedVariables false

theorem wrap_u64_any (m : Int) : IntKind.u64.wrap m = m % 18446744073709551616 := by
  simp [IntKind.wrap, IntKind.signed, IntKind.bits]
theorem wrap_i64_any (m : Int) : IntKind.i64.wrap m = if 9223372036854775808 ≤ m % 18446744073709551616 then m % 18446744073709551616 - 18446744073709551616 else m % 18446744073709551616 := by
  simp [IntKind.wrap, IntKind.signed, IntKind.bits]
theorem wrap_back (n : Nat) (h : n < 18446744073709551616) : IntKind.u64.wrap (IntKind.i64.wrap (n : Int)) = n := by
  rw [wrap_u64_any, wrap_i64_any]
  split <;> omega
theorem wrap_u32 (n : Nat) : IntKind.u32.wrap (n : Int) = ((n % 4294967296 : Nat) : Int) := by
  simp [IntKind.wrap, IntKind.signed, IntKind.bits]

theorem be_mod (n size : Nat) : be (n % 256 ^ size) size = be n size := by
  unfold be
  apply List.map_congr_left
  intro i hi
  have hi' : i < size := List.mem_range.1 hi
  congr 1
  have e : 256 ^ size = 256 ^ (size - 1 - i) * (256 * 256 ^ i) := by
    rw [← Nat.pow_succ', ← Nat.pow_add]; congr 1; omega
  rw [e, Nat.mod_mul_right_div_self, Nat.mod_mul_right_mod]

set_option maxHeartbeats 400000 in
theorem wu8_any (b base : Nat) (bs : List UInt8) (m : Int) (n : Nat) (w : World) (hw : Wr w b base bs) (hm : IntKind.u64.wrap m = n) (hn : n < 18446744073709551616) (hl : bs.length + 8 ≤ 140737488355328) :
    Calls Try.prog 36 #[.pointer (some ⟨b, 0, none⟩), .int .i64 m] w fun e w' => e = .returned (.tuple #[]) ∧ Wr w' b base (bs ++ be n 1) ∧ Kb (fun k => k = b ∨ base ≤ k) w w' := by
  go_enter Try.func36, Try.ntmps36
  go_wp2_with fail
  refine (wnumber_any b base bs n 1 _ hw hn (by omega) (by omega)).mono ?_
  rintro e w' ⟨rfl, h1, h2⟩
  have H1 := Lib.hid h1
  have H2 := Lib.hid h2
  clear h1 h2
  go_wp2_with fail
  go_end0
  exact ⟨rfl, H1.out, H2.out⟩
set_option maxHeartbeats 400000 in
theorem wu16_any (b base : Nat) (bs : List UInt8) (m : Int) (n : Nat) (w : World) (hw : Wr w b base bs) (hm : IntKind.u64.wrap m = n) (hn : n < 18446744073709551616) (hl : bs.length + 8 ≤ 140737488355328) :
    Calls Try.prog 37 #[.pointer (some ⟨b, 0, none⟩), .int .i64 m] w fun e w' => e = .returned (.tuple #[]) ∧ Wr w' b base (bs ++ be n 2) ∧ Kb (fun k => k = b ∨ base ≤ k) w w' := by
  go_enter Try.func37, Try.ntmps37
  go_wp2_with fail
  refine (wnumber_any b base bs n 2 _ hw hn (by omega) (by omega)).mono ?_
  rintro e w' ⟨rfl, h1, h2⟩
  have H1 := Lib.hid h1
  have H2 := Lib.hid h2
  clear h1 h2
  go_wp2_with fail
  go_end0
  exact ⟨rfl, H1.out, H2.out⟩
set_option maxHeartbeats 400000 in
theorem wu32_any (b base : Nat) (bs : List UInt8) (m : Int) (n : Nat) (w : World) (hw : Wr w b base bs) (hm : IntKind.u64.wrap m = n) (hn : n < 18446744073709551616) (hl : bs.length + 8 ≤ 140737488355328) :
    Calls Try.prog 38 #[.pointer (some ⟨b, 0, none⟩), .int .u32 m] w fun e w' => e = .returned (.tuple #[]) ∧ Wr w' b base (bs ++ be n 4) ∧ Kb (fun k => k = b ∨ base ≤ k) w w' := by
  go_enter Try.func38, Try.ntmps38
  go_wp2_with fail
  refine (wnumber_any b base bs n 4 _ hw hn (by omega) (by omega)).mono ?_
  rintro e w' ⟨rfl, h1, h2⟩
  have H1 := Lib.hid h1
  have H2 := Lib.hid h2
  clear h1 h2
  go_wp2_with fail
  go_end0
  exact ⟨rfl, H1.out, H2.out⟩
set_option maxHeartbeats 400000 in
theorem wu64_any (b base : Nat) (bs : List UInt8) (n : Nat) (w : World) (hw : Wr w b base bs) (hn : n < 18446744073709551616) (hl : bs.length + 8 ≤ 140737488355328) :
    Calls Try.prog 39 #[.pointer (some ⟨b, 0, none⟩), .int .u64 n] w fun e w' => e = .returned (.tuple #[]) ∧ Wr w' b base (bs ++ be n 8) ∧ Kb (fun k => k = b ∨ base ≤ k) w w' := by
  go_enter Try.func39, Try.ntmps39
  go_wp2_with fail
  refine (wnumber_any b base bs n 8 _ hw hn (by omega) (by omega)).mono ?_
  rintro e w' ⟨rfl, h1, h2⟩
  have H1 := Lib.hid h1
  have H2 := Lib.hid h2
  clear h1 h2
  go_wp2_with fail
  go_end0
  exact ⟨rfl, H1.out, H2.out⟩

/-- What a call writes. -/
def piece (c : CallD) : List UInt8 :=
  if c.kind = 0 then be c.n 1 else if c.kind = 1 then be c.n 2 else if c.kind = 2 then be c.n 4 else if c.kind = 3 then be c.n 8 else c.s.data.toList
/-- What the first i calls write. -/
def pieces (C : Nat → CallD) : Nat → List UInt8
  | 0 => []
  | i + 1 => pieces C i ++ piece (C i)
theorem piece_le (c : CallD) : (piece c).length ≤ 8 + c.s.size := by
  unfold piece
  split
  · rw [be_length]; omega
  split
  · rw [be_length]; omega
  split
  · rw [be_length]; omega
  split
  · rw [be_length]; omega
  · simp
theorem pieces_le (C : Nat → CallD) (i : Nat) : (pieces C i).length ≤ 8 * i + tot C i := by
  induction i with
  | zero => simp [pieces]
  | succ i ih => have := piece_le (C i); simp [pieces, tot]; omega

end Go.Proofs.Ytgpknkfdchiidaa
