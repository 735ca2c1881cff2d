/-
  The document's sum: bit by bit.
-/
import Derived.Test.YtoeamalmijnfkaaCrcFed
namespace Go.Proofs.Ytoeamalmijnfkaa
open Go.RowKit
set_option linter.unusedVariables false

theorem st_mod (x : BitVec 32) : (x.toNat % 2 = 1 ∧ bits .xor .u32 ((x.toNat : Int) / 2) 2197175160 = ((st x).toNat : Int)) ∨ (x.toNat % 2 = 0 ∧ (x.toNat : Int) / 2 = ((st x).toNat : Int)) := by
  have h1 : bits .and .u32 (x.toNat : Int) 1 = ((x &&& 1#32).toNat : Int) := u32_and x 1#32
  have h3 : (x &&& 1#32).toNat = x.toNat % 2 := by
    rw [BitVec.toNat_and, show (1#32).toNat = 2 ^ 1 - 1 from rfl, Nat.and_two_pow_sub_one_eq_mod]
  rcases st_code x with ⟨h, k⟩ | ⟨h, k⟩
  · exact Or.inl ⟨by omega, k⟩
  · exact Or.inr ⟨by omega, k⟩
def SameEnd (v : Value) (w : World) (e : Ending) (w' : World) : Prop := e = .returned v ∧ w = w'
set_option maxHeartbeats 400000 in
theorem refStep_any (x : BitVec 32) (w : World) : Calls Try.prog 14 #[.int .u32 (x.toNat : Int)] w (SameEnd (.int .u32 ((st x).toNat : Int)) w) := by
  have hl := x.isLt
  rcases st_mod x with ⟨h1, h2⟩ | ⟨h1, h2⟩
  · have t1 : ((x.toNat : Int) % 2 == 1) = true := by simp; omega
    clear h1
    generalize (st x).toNat = y at *
    generalize x.toNat = n at *
    go_enter Try.func14, Try.ntmps14
    go_wp2_with fail
    go_ret
    exact ⟨rfl, rfl⟩
  · have t1 : ((x.toNat : Int) % 2 == 1) = false := by simp; omega
    clear h1
    have H2 := Lib.hid h2
    clear h2
    generalize (st x).toNat = y at *
    generalize x.toNat = n at *
    go_enter Try.func14, Try.ntmps14
    go_wp2_with fail
    go_ret
    exact ⟨by rw [H2.out]; rfl, rfl⟩

theorem not_sub (x : BitVec 32) : (4294967295 : Int) - (x.toNat : Int) = ((~~~ x).toNat : Int) := by
  have := x.isLt
  rw [BitVec.toNat_not]
  omega
set_option maxRecDepth 100000 in
set_option maxHeartbeats 1000000 in
theorem refUpdate_any (x : BitVec 32) (s : ByteArray) (w : World) (hs : s.size ≤ 140737488355328) :
    Calls Try.prog 11 #[.int .u32 (x.toNat : Int), .string s] w (SameEnd (.int .u32 ((updC x s.data.toList).toNat : Int)) w) := by
  have HX := Lib.hid (not_sub x)
  have hxl : x.toNat ≤ 4294967295 := by have := x.isLt; omega
  go_enter Try.func11, Try.ntmps11
  go_wp2_with fail
  rw [HX.out]
  go_loop [5, 6] (fun r i => ∃ k : Nat, k ≤ s.size ∧ i = .int .i64 k ∧ r = .int .u32 ((feed (~~~ x) (s.data.toList.take k)).toNat : Int)) (fun _ i => s.size - (intOf i).toNat)
  case atStart => exact ⟨0, Nat.zero_le _, rfl, by simp [feed_nil]⟩
  case round =>
    obtain ⟨k, hk, rfl, rfl⟩ := hrel
    by_cases hlt : k < s.size
    · have HS := Lib.hid (show feed (~~~ x) (s.data.toList.take (k + 1)) = stN 8 (feed (~~~ x) (s.data.toList.take k) ^^^ wide s[k]) by
        rw [crc_take_snoc s k hlt, feed_snoc]; rfl)
      generalize feed (~~~ x) (s.data.toList.take k) = y at *
      have hx := u32_xor y (wide s[k])
      rw [wide_nat] at hx
      generalize y ^^^ wide s[k] = z at *
      have hcl := s[k].toNat_lt
      go_wp2_with fail
      clear hx
      go_loop [5, 7] (fun r i => ∃ m : Nat, m ≤ 8 ∧ i = .int .i64 m ∧ r = .int .u32 ((stN m z).toNat : Int)) (fun _ i => 8 - (intOf i).toNat)
      case atStart => exact ⟨0, Nat.zero_le _, rfl, rfl⟩
      case round =>
        obtain ⟨m, hm, rfl, rfl⟩ := hrel
        by_cases hml : m < 8
        · have HN := Lib.hid (stN_succ' m z)
          generalize stN m z = x1 at *
          go_wp2_with fail
          refine (refStep_any _ _).mono ?_
          rintro e w' ⟨rfl, rfl⟩
          generalize st x1 = x2 at *
          go_wp2_with fail
          exact ⟨⟨m + 1, by omega, by go_num, by rw [HN.out]⟩, by simp [intOf]; omega⟩
        · have HN : Hid (feed (~~~ x) (s.data.toList.take (k + 1)) = stN m z) := by
            show feed (~~~ x) (s.data.toList.take (k + 1)) = stN m z
            rw [HS.out, show m = 8 by omega]
          generalize stN m z = x1 at *
          go_wp2_with fail
          exact ⟨⟨k + 1, by omega, by go_num, by rw [HN.out]⟩, by simp [intOf]; omega⟩
    · have HE : Hid (feed (~~~ x) (s.data.toList.take k) = feed (~~~ x) s.data.toList) := by
        show feed (~~~ x) (s.data.toList.take k) = feed (~~~ x) s.data.toList
        rw [List.take_of_length_le (by simp; omega)]
      have HU : Hid ((4294967295 : Int) - ((feed (~~~ x) (s.data.toList.take k)).toNat : Int) = ((updC x s.data.toList).toNat : Int)) := by
        show (4294967295 : Int) - ((feed (~~~ x) (s.data.toList.take k)).toNat : Int) = ((updC x s.data.toList).toNat : Int)
        rw [not_sub, HE.out]; rfl
      generalize feed (~~~ x) (s.data.toList.take k) = y at *
      have hyl : y.toNat ≤ 4294967295 := by have := y.isLt; omega
      go_wp2_with fail
      go_ret
      exact ⟨by rw [HU.out]; rfl, rfl⟩
set_option maxHeartbeats 400000 in
theorem refSum_any (s : ByteArray) (w : World) (hs : s.size ≤ 140737488355328) :
    Calls Try.prog 9 #[.string s] w (SameEnd (.int .u32 ((crcD s.data.toList).toNat : Int)) w) := by
  go_enter Try.func9, Try.ntmps9
  go_wp2_with fail
  refine (refUpdate_any 0#32 s _ hs).mono ?_
  rintro e w' ⟨rfl, rfl⟩
  go_wp2_with fail
  go_ret
  exact ⟨rfl, rfl⟩
end Go.Proofs.Ytoeamalmijnfkaa
