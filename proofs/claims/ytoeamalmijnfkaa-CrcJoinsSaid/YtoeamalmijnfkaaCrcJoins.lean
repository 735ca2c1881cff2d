/-
  CrcJoins, walked.
-/
import Derived.Test.YtoeamalmijnfkaaCrcUse
import Derived.Test.YtoeamalmijnfkaaOpenBytes
namespace Go.Proofs.Ytoeamalmijnfkaa
open Go.RowKit
set_option linter.unusedVariables false

theorem cut_text (R : ByteArray) (k : Nat) : (R.extract 0 k).data.toList ++ (R.extract k R.size).data.toList = R.data.toList := by
  rw [extract_list, extract_list, List.drop_zero, List.take_of_length_le (i := R.size) (by simp), List.take_append_drop]

set_option maxRecDepth 100000 in
set_option maxHeartbeats 1000000 in
theorem crcJoins_any (s : ByteArray) (a : Option Addr) (len cap : Nat) (C : Nat → UInt8) (w : World) (hs : s.size ≤ 140737488355328) (hlen : len ≤ 140737488355328) (hC : BytesAt w w.heap.size a len C) :
    Calls Try.prog 6 #[.string s, .slice a len cap] w (LawEnd w) := by
  have HC := Lib.hid hC
  clear hC
  go_enter Try.func6, Try.ntmps6
  go_wp2_with fail
  refine (crcAwake_any _).mono ?_
  rintro e w1 ⟨rfl, hb1⟩
  have HB1 := Lib.hid hb1
  clear hb1
  by_cases c1 : 3000 < s.size
  · go_wp2_with fail
    go_ret
    exact ⟨rfl, HB1.out⟩
  by_cases c2 : 100 < len
  · go_wp2_with fail
    go_ret
    exact ⟨rfl, HB1.out⟩
  clear hs hlen
  go_wp2_with fail
  refine (crc_nil _ _ _).mono ?_
  rintro e w2 ⟨rfl, hb2⟩
  have HB2 := Lib.hid (HB1.out.trans (hb2.mono HB1.out.size))
  clear hb2
  go_wp2_with fail
  go_loopw [5, 6, 7] (fun n r i wr => ∃ (k : Nat) (x : BitVec 32) (R : ByteArray), k ≤ len ∧ i = .int .i64 k ∧ n = .int .u32 (x.toNat : Int) ∧ r = .string R ∧ R.size ≤ 3000 ∧ Hid (updC x R.data.toList = crcD s.data.toList) ∧ Hid (Below w.heap.size w wr)) (fun _ _ i _ => len - (intOf i).toNat)
  case atStart => exact ⟨0, 0#32, s, Nat.zero_le _, rfl, rfl, rfl, by omega, Lib.hid rfl, HB2⟩
  case round =>
    obtain ⟨k, x, R, hk, rfl, rfl, rfl, hR, hx, hbel⟩ := hrel
    by_cases hlt : k < len
    · obtain h0 | ⟨cb, off, rfl, hcb, hc⟩ := HC.out
      · omega
      have cP := (hbel.out.cell (p := ⟨cb, off + k, none⟩) hcb).trans (hc k hlt)
      clear hc
      have hcl := (C k).toNat_lt
      generalize (C k).toNat = c at *
      by_cases hcr : c < R.size
      · have hcr2 : ¬ R.size ≤ c := by omega
        have HJ := Lib.hid (show updC (updC x (R.extract 0 c).data.toList) (R.extract c R.size).data.toList = crcD s.data.toList by rw [← updC_cat, cut_text, hx.out])
        have hz1 : (R.extract 0 c).size ≤ 3000 := by rw [ByteArray.size_extract]; omega
        have hz2 : (R.extract c R.size).size ≤ 3000 := by rw [ByteArray.size_extract]; omega
        go_wp2_with fail
        refine (crcUpdate_any x _ _ (by omega)).mono ?_
        rintro e w3 ⟨rfl, hb3⟩
        have HB3 := Lib.hid (hbel.out.trans (hb3.mono hbel.out.size))
        clear hb3
        generalize updC x (R.extract 0 c).data.toList = y at *
        go_wp2_with fail
        go_roundw
        case rel => exact ⟨k + 1, y, R.extract c R.size, by omega, by go_num, rfl, rfl, hz2, HJ, HB3⟩
        case measure => simp [intOf]; omega
      · have hcr2 : R.size ≤ c := by omega
        have HJ := Lib.hid (show updC (updC x R.data.toList) ByteArray.empty.data.toList = crcD s.data.toList by rw [show ByteArray.empty.data.toList = [] from rfl, updC_nil, hx.out])
        go_wp2_with fail
        refine (crcUpdate_any x R _ (by omega)).mono ?_
        rintro e w3 ⟨rfl, hb3⟩
        have HB3 := Lib.hid (hbel.out.trans (hb3.mono hbel.out.size))
        clear hb3
        generalize updC x R.data.toList = y at *
        go_wp2_with fail
        go_roundw
        case rel => exact ⟨k + 1, y, ByteArray.empty, by omega, by go_num, rfl, rfl, by simp, HJ, HB3⟩
        case measure => simp [intOf]; omega
    · clear HC
      go_wp2_with fail
      refine (crcUpdate_any x R _ (by omega)).mono ?_
      rintro e w3 ⟨rfl, hb3⟩
      have HB3 := Lib.hid (hbel.out.trans (hb3.mono hbel.out.size))
      clear hb3
      rw [hx.out]
      generalize hn : crcD s.data.toList = n at *
      have HN := Lib.hid hn
      clear hn
      go_wp2_with fail
      refine (crc_1 s _ _ rfl (by omega)).mono ?_
      rintro e w4 ⟨rfl, hb4⟩
      have HB4 := Lib.hid (HB3.out.trans (hb4.mono HB3.out.size))
      clear hb4
      rw [HN.out]
      go_wp2_with fail
      refine (crc_1 s _ _ rfl (by omega)).mono ?_
      rintro e w5 ⟨rfl, hb5⟩
      have HB5 := Lib.hid (HB4.out.trans (hb5.mono HB4.out.size))
      clear hb5
      rw [HN.out]
      go_wp2_with fail
      refine (crcUpdate_any n ⟨#[]⟩ _ (by decide)).mono ?_
      rintro e w6 ⟨rfl, hb6⟩
      have HB6 := Lib.hid (HB5.out.trans (hb6.mono HB5.out.size))
      clear hb6
      rw [show updC n (⟨#[]⟩ : ByteArray).data.toList = n from updC_nil n]
      go_wp2_with fail
      refine (crc_1 s _ _ rfl (by omega)).mono ?_
      rintro e w7 ⟨rfl, hb7⟩
      have HB7 := Lib.hid (HB6.out.trans (hb7.mono HB6.out.size))
      clear hb7
      rw [HN.out]
      go_wp2_with fail
      go_ret
      exact ⟨rfl, HB7.out⟩
end Go.Proofs.Ytoeamalmijnfkaa
