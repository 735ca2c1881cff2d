/-
  CrcBursts, walked.
-/
import Derived.Test.YtoeamalmijnfkaaCrcFlip
namespace Go.Proofs.Ytoeamalmijnfkaa
open Go.RowKit
set_option linter.unusedVariables false

set_option maxRecDepth 100000 in
set_option maxHeartbeats 4000000 in
theorem crcBursts_any (s : ByteArray) (a : Int) (y : BitVec 32) (w : World) (hs : s.size ≤ 140737488355328) :
    Calls Try.prog 4 #[.string s, .int .i64 a, .int .u32 (y.toNat : Int)] w (LawEnd w) := by
  go_enter Try.func4, Try.ntmps4
  go_wp2_with fail
  refine (crcAwake_any _).mono ?_
  rintro e w1 ⟨rfl, hb1⟩
  have HB1 := Lib.hid hb1
  clear hb1
  by_cases g0 : 500 < s.size
  · go_wp2_with fail
    go_ret
    exact ⟨rfl, HB1.out⟩
  by_cases g1 : y = 0#32
  · have t1 : ((y.toNat : Int) == 0) = true := by rw [g1]; rfl
    clear g1
    go_wp2_with fail
    go_ret
    exact ⟨rfl, HB1.out⟩
  have t1 : ((y.toNat : Int) == 0) = false := by
    simp only [beq_eq_false_iff_ne, ne_eq]
    intro h
    exact g1 (BitVec.eq_of_toNat_eq (by simpa using h))
  have G1 := Lib.hid g1
  clear g1
  by_cases g2 : a < 0
  · go_wp2_with fail
    go_ret
    exact ⟨rfl, HB1.out⟩
  by_cases g3 : 8 * (s.size : Int) ≤ a
  · go_wp2_with fail
    go_ret
    exact ⟨rfl, HB1.out⟩
  obtain ⟨ka, rfl⟩ := Int.eq_ofNat_of_zero_le (show 0 ≤ a by omega)
  clear hs
  obtain ⟨cap, w5, hcv, hby, hkb, hz5⟩ := bytes_conv w1 s
  have hz1 := HB1.out.size
  have H0 := Lib.hid (show Held w w1.heap.size w5 s.size s.data.toList s.data.toList (stN (8 * s.size - ka) (lowB y 0)) from ⟨hby, by simp, by simp [lowB, stN_zero], HB1.out.trans ((hkb.mono (T := fun k => w.heap.size ≤ k) (fun _ _ h => h.elim)).below hz1)⟩)
  have hN : w.heap.size ≤ w1.heap.size := hz1
  clear hby hkb hz5 hz1
  go_wp2_with fail
  clear hcv t1
  generalize hN1 : w1.heap.size = N at *
  clear hN1
  go_loopw [8] (fun i wr => ∃ (k : Nat) (l : List UInt8), k ≤ 32 ∧ i = .int .i64 k ∧ Hid (Held w N wr s.size s.data.toList l (stN (8 * s.size - ka) (lowB y k)))) (fun i _ => 32 - (intOf i).toNat)
  case atStart => exact ⟨0, _, Nat.zero_le _, rfl, H0⟩
  case round =>
    obtain ⟨k, l, hk, rfl, hH⟩ := hrel
    clear H0
    by_cases hlt : k < 32
    · have hbc := bit_code y k
      cases hyk : y.getLsbD k
      · rw [hyk] at hbc
        have HYK := Lib.hid hyk
        clear hyk
        simp only [Bool.false_eq_true, if_false] at hbc
        have HL := Lib.hid (lowB_clear y k HYK.out)
        go_wp2_with fail
        exact ⟨⟨k + 1, l, by omega, by go_num, by rw [HL.out]; exact hH⟩, by simp [intOf]; omega⟩
      · rw [hyk] at hbc
        have HYK := Lib.hid hyk
        clear hyk
        simp only [if_true] at hbc
        by_cases g4 : 8 * s.size ≤ ka + k
        · have g5 : 8 * (s.size : Int) ≤ (ka : Int) + (k : Int) := by omega
          clear g4
          go_wp2_with fail
          go_ret
          exact ⟨rfl, hH.out.bel⟩
        · have g5 : (ka : Int) + (k : Int) < 8 * (s.size : Int) := by omega
          go_wp2_with fail
          have HL := Lib.hid (lowB_set y k (8 * s.size - ka) HYK.out hlt (by omega))
          obtain ⟨q1, r1, cy1, bv1, cx1, hq1, hr1, hy1, hF1, hf1⟩ := flip_facts l (ka + k) (by rw [hH.out.len]; omega) (by rw [hH.out.len]; omega)
          have c1 := hH.out.blk.cell q1 hq1
          have f1 := hH.out.blk.frozen q1 hq1
          rw [hy1] at c1
          have H1 := Lib.hid (hH.out.flip (by omega) q1 (ka + k) cx1 hf1)
          have hqs1 : q1 < s.size := by have := hH.out.len; omega
          clear hf1 hy1
          obtain ⟨x1, x2, x3, x4, x5, x6, x7, x8⟩ := hF1
          simp only [Int.natCast_add] at x1 x2 x3 x4 x5 x6
          have y1 : (0 : Int) ≤ q1 := by omega
          have y2 : (q1 : Int) < s.size := by omega
          have y3 : (0 : Int) ≤ r1 := by omega
          go_region
          clear x1 x2 x3 x4 x5 x6 x7 x8 c1 f1 y1 y2 y3
          generalize (l.set q1 cx1) = l1 at *
          generalize World.drew _ = wf1 at *
          have hz1 := H1.out.bel.size
          clear hbc
          have H2 : Hid (Held w N wf1 s.size s.data.toList l1 (stN (8 * s.size - ka) (lowB y (k + 1)))) := by
            show Held w N wf1 s.size s.data.toList l1 (stN (8 * s.size - ka) (lowB y (k + 1)))
            have := H1.out
            rwa [← Nat.sub_sub, HL.out] at this
          clear H1 HL
          go_wp2_with fail
          go_roundw
          case rel => exact ⟨k + 1, l1, by omega, by go_num, H2⟩
          case measure => simp [intOf]; omega
    · have hk32 := Lib.hid (show k = 32 by omega)
      have H1 : Hid (Held w N wr s.size s.data.toList l (stN (8 * s.size - ka) y)) := by
        show Held w N wr s.size s.data.toList l (stN (8 * s.size - ka) y)
        have := hH.out
        rwa [hk32.out, lowB_all] at this
      have HNE := Lib.hid (crcD_ne s.data.toList l _ H1.out.sum (fun h => G1.out (stN_inj0 _ _ h)))
      have hcv := H1.out.blk.text (cap := cap) H1.out.len.symm
      have hYs : (⟨l.toArray⟩ : ByteArray).size ≤ 500 := by rw [list_size, H1.out.len]; omega
      have HYL : Hid ((⟨l.toArray⟩ : ByteArray).data.toList = l) := by show (⟨l.toArray⟩ : ByteArray).data.toList = l; simp
      generalize (⟨l.toArray⟩ : ByteArray) = Y at *
      go_wp2_with fail
      clear hcv
      refine (crc_1 Y _ _ (by simp) (by omega)).mono ?_
      rintro e w8 ⟨rfl, hb8⟩
      have HB8 := Lib.hid (H1.out.bel.trans (hb8.mono H1.out.bel.size))
      clear hb8
      rw [HYL.out]
      generalize crcD l = n1 at *
      go_wp2_with fail
      refine (crc_1 s _ _ (by simp) (by omega)).mono ?_
      rintro e w9 ⟨rfl, hb9⟩
      have HB9 := Lib.hid (HB8.out.trans (hb9.mono HB8.out.size))
      clear hb9
      generalize crcD s.data.toList = n2 at *
      have hne : ((n1.toNat : Int) != (n2.toNat : Int)) = true := by
        have := HNE.out
        simp only [bne_iff_ne, ne_eq, Int.natCast_inj]
        exact fun h => this (BitVec.eq_of_toNat_eq h)
      go_wp2_with fail
      go_ret
      exact ⟨rfl, HB9.out⟩
end Go.Proofs.Ytoeamalmijnfkaa
