/-
  The register, fed with a text.
-/
import Derived.Test.YtoeamalmijnfkaaCrcTable
import Derived.Test.YtoeamalmijnfkaaStrs
import Derived.Test.YtoeamalmijnfkaaTexts
namespace Go.Proofs.Ytoeamalmijnfkaa
open Go.RowKit
set_option linter.unusedVariables false

theorem crc_take_snoc (s : ByteArray) (k : Nat) (h : k < s.size) : s.data.toList.take (k + 1) = s.data.toList.take k ++ [s[k]] := by
  rw [List.take_succ_eq_append_getElem (by simpa using h)]; rfl

/-- fed's end. -/
def FedEnd (x : BitVec 32) (w : World) (e : Ending) (w' : World) : Prop := e = .returned (.int .u32 (x.toNat : Int)) ∧ Below w.heap.size w w'

/-- Half a byte, as the code moves it. -/
theorem half_code (x : BitVec 32) : ∃ k : Nat, k < 16 ∧ bits .and .u32 (x.toNat : Int) 15 = (k : Int) ∧ bits .xor .u32 ((x.toNat : Int) / 16) ((stN 4 (BitVec.ofNat 32 k)).toNat : Int) = ((stN 4 x).toNat : Int) := by
  refine ⟨(x &&& 15#32).toNat, ?_, u32_and x 15#32, ?_⟩
  · rw [BitVec.toNat_and, show (15#32).toNat = 2 ^ 4 - 1 from rfl, Nat.and_two_pow_sub_one_eq_mod]; omega
  · have h2 : (x.toNat : Int) / (16 : Int) = ((x >>> 4).toNat : Int) := by rw [u32_shr x 4]; rfl
    rw [h2, BitVec.ofNat_toNat, BitVec.setWidth_eq, u32_xor, half]

set_option maxRecDepth 100000 in
set_option maxHeartbeats 1000000 in
theorem fed_any (x0 : BitVec 32) (s : ByteArray) (w : World) (hs : s.size ≤ 140737488355328) :
    Calls Try.prog 13 #[.agg tab, .int .u32 (x0.toNat : Int), .string s] w (FedEnd (feed x0 s.data.toList) w) := by
  have HT := Lib.hid (show tab = tabTo 16 from rfl)
  have HB0 := Lib.hid (Blk.new w tab 33)
  go_enter Try.func13, Try.ntmps13
  go_wp2_with fail
  have HBel := Lib.hid ((Below.refl w.heap.size w).alloc (Nat.le_refl _) (.cells tab 33))
  generalize (w.alloc (.cells tab 33)) = W1 at *
  go_loop [1, 10] (fun r i => ∃ k : Nat, k ≤ s.size ∧ i = .int .i64 k ∧ r = .int .u32 ((feed x0 (s.data.toList.take k)).toNat : Int)) (fun _ i => s.size - (intOf i).toNat)
  case atStart => exact ⟨0, Nat.zero_le _, rfl, by simp [feed_nil]⟩
  case round =>
    obtain ⟨k, hk, rfl, rfl⟩ := hrel
    by_cases hlt : k < s.size
    · have HS := Lib.hid (show feed x0 (s.data.toList.take (k + 1)) = stN 4 (stN 4 (feed x0 (s.data.toList.take k) ^^^ wide s[k])) by
        rw [crc_take_snoc s k hlt, feed_snoc, ← stN_add]; rfl)
      generalize feed x0 (s.data.toList.take k) = y at *
      have hx := u32_xor y (wide s[k])
      rw [wide_nat] at hx
      generalize y ^^^ wide s[k] = z at *
      have hcl := s[k].toNat_lt
      go_wp2_with fail
      clear hx
      go_loop [1, 19] (fun r i => ∃ m : Nat, m ≤ 2 ∧ i = .int .i64 m ∧ r = .int .u32 ((stN (4 * m) z).toNat : Int)) (fun _ i => 2 - (intOf i).toNat)
      case atStart => exact ⟨0, Nat.zero_le _, rfl, rfl⟩
      case round =>
        obtain ⟨m, hm, rfl, rfl⟩ := hrel
        by_cases hml : m < 2
        · have HN := Lib.hid (show stN (4 * (m + 1)) z = stN 4 (stN (4 * m) z) by rw [← stN_add]; congr 1)
          generalize stN (4 * m) z = x at *
          obtain ⟨j, hj, ha, hx⟩ := half_code x
          have c0 := (HB0.out.cell j).trans (tab_at j hj)
          generalize stN 4 (BitVec.ofNat 32 j) = t at *
          have hxl := x.isLt
          generalize x.toNat = xn at *
          go_wp2_with fail
          exact ⟨⟨m + 1, by omega, by go_num, by rw [HN.out]⟩, by simp [intOf]; omega⟩
        · have hm2 := Lib.hid (show m = 2 by omega)
          have HN : Hid (feed x0 (s.data.toList.take (k + 1)) = stN (4 * m) z) := by
            show feed x0 (s.data.toList.take (k + 1)) = stN (4 * m) z
            rw [HS.out, hm2.out, ← stN_add]
          generalize stN (4 * m) z = x at *
          go_wp2_with fail
          exact ⟨⟨k + 1, by omega, by go_num, by rw [HN.out]⟩, by simp [intOf]; omega⟩
    · have hks := Lib.hid (show k = s.size by omega)
      have HE : Hid (feed x0 (s.data.toList.take k) = feed x0 s.data.toList) := by
        show feed x0 (s.data.toList.take k) = feed x0 s.data.toList
        rw [List.take_of_length_le (by have := hks.out; simp; omega)]
      generalize feed x0 (s.data.toList.take k) = y at *
      go_wp2_with fail
      go_ret
      exact ⟨by rw [HE.out]; rfl, HBel.out⟩
end Go.Proofs.Ytoeamalmijnfkaa
