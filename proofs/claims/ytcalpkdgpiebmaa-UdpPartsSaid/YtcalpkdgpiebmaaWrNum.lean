/-
  The writer's numbers by their kinds; what any calls write.
-/
import Derived.Test.YtcalpkdgpiebmaaWr
import Derived.Test.YtcalpkdgpiebmaaTexts
namespace Go.Proofs.Ytcalpkdgpiebmaa
open Go.RowKit
set_option linter.unusedVariables false

theorem wrap_u64_any (m : Int) : IntKind.u64.wrap m = m % 18446744073709551616 := by
  simp [IntKind.wrap, IntKind.signed, IntKind.bits]
theorem wrap_i64_any (m : Int) : IntKind.i64.wrap m = if 9223372036854775808 ≤ m % 18446744073709551616 then m % 18446744073709551616 - 18446744073709551616 else m % 18446744073709551616 := by
  simp [IntKind.wrap, IntKind.signed, IntKind.bits]
theorem wrap_back (n : Nat) (h : n < 18446744073709551616) : IntKind.u64.wrap (IntKind.i64.wrap (n : Int)) = n := by
  rw [wrap_u64_any, wrap_i64_any]
  split <;> omega
theorem wrap_u32w (n : Nat) : IntKind.u32.wrap (n : Int) = ((n % 4294967296 : Nat) : Int) := by
  simp [IntKind.wrap, IntKind.signed, IntKind.bits]

theorem be_mod (n size : Nat) : be (n % 256 ^ size) size = be n size := by
  unfold be
  apply List.map_congr_left
  intro i hi
  have hi' : i < size := List.mem_range.1 hi
  congr 1
  have e : 256 ^ size = 256 ^ (size - 1 - i) * (256 * 256 ^ i) := by
    rw [← Nat.pow_succ', ← Nat.pow_add]; congr 1; omega
  rw [e, Nat.mod_mul_right_div_self, Nat.mod_mul_right_mod]

set_option maxHeartbeats 400000 in
theorem wu16_any (b base : Nat) (bs : List UInt8) (m : Int) (n : Nat) (w : World) (hw : Wr w b base bs) (hm : IntKind.u64.wrap m = n) (hn : n < 18446744073709551616) (hl : bs.length + 8 ≤ 140737488355328) :
    Calls Try.prog 14 #[.pointer (some ⟨b, 0, none⟩), .int .i64 m] w fun e w' => e = .returned (.tuple #[]) ∧ Wr w' b base (bs ++ be n 2) ∧ Kb (fun k => k = b ∨ base ≤ k) w w' := by
  go_enter Try.func14, Try.ntmps14
  go_wp2_with fail
  refine (wnumber_any b base bs n 2 _ hw hn (by omega) (by omega)).mono ?_
  rintro e w' ⟨rfl, h1, h2⟩
  have H1 := Lib.hid h1
  have H2 := Lib.hid h2
  clear h1 h2
  go_wp2_with fail
  go_end0
  exact ⟨rfl, H1.out, H2.out⟩
theorem own_len {w : World} {base : Nat} {e : TypeId} {size : Nat} {v : Value} {n : Nat} {xs : List Value} (h : w.ownsRow base e size v n xs) : ∃ a c, v = .slice a n c := by
  rcases h.2 with ⟨h1, h0⟩ | ⟨g, cap, cur, h1, _⟩
  · subst h0; exact ⟨_, _, h1⟩
  · exact ⟨_, _, h1⟩


theorem row_conv {w : World} {base : Nat} {v : Value} {bs : List UInt8} (h : w.ownsRow base 5 1 v bs.length (cellsOf bs)) :
    (convert 40 9 v).run Try.prog w = .ok (.string ⟨bs.toArray⟩) w := by
  have hc := h.2
  rcases hc with ⟨rfl, h0⟩ | ⟨g, cap, cur, rfl, _⟩
  · rw [List.length_eq_zero_iff.1 h0]
    exact run_convert_bytes_nil w 40 5 Try.underlying40 Try.underlying5 0 0 9 Try.underlying9
  · refine run_convert_bytes_back w 40 9 5 ⟨g, 0, none⟩ cap bs Try.underlying40 Try.underlying5 Try.underlying9 fun j hj => ?_
    exact h.cells (g := g) rfl j _ (by simp [cellsOf, hj])

set_option maxHeartbeats 400000 in
theorem wstring_any (b base : Nat) (bs : List UInt8) (w : World) (hw : Wr w b base bs) :
    Calls Try.prog 16 #[.pointer (some ⟨b, 0, none⟩)] w fun e w' => e = .returned (.string ⟨bs.toArray⟩) ∧ w = w' := by
  obtain ⟨v, hv, hown⟩ := hw.blk
  have hcv := row_conv hown
  obtain ⟨va, vc, rfl⟩ := own_len hown
  have cV := hv.cell 0
  simp at cV
  clear hv hown hw
  go_enter Try.func16, Try.ntmps16
  go_wp2_with fail
  go_ret
  exact ⟨rfl, rfl⟩

end Go.Proofs.Ytcalpkdgpiebmaa
