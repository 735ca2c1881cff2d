/-
  CrcBits, walked.
-/
import Derived.Test.YtoeamalmijnfkaaCrcFlip
namespace Go.Proofs.Ytoeamalmijnfkaa
open Go.RowKit
set_option linter.unusedVariables false


set_option maxRecDepth 100000 in
set_option maxHeartbeats 4000000 in
theorem crcBits_any (s : ByteArray) (a b c : Int) (w : World) (hs : s.size ≤ 140737488355328) :
    Calls Try.prog 5 #[.string s, .int .i64 a, .int .i64 b, .int .i64 c] w (LawEnd w) := by
  go_enter Try.func5, Try.ntmps5
  go_wp2_with fail
  refine (crcAwake_any _).mono ?_
  rintro e w1 ⟨rfl, hb1⟩
  have HB1 := Lib.hid hb1
  clear hb1
  by_cases g0 : 500 < s.size
  · go_wp2_with fail
    go_ret
    exact ⟨rfl, HB1.out⟩
  by_cases g1 : a < 0
  · go_wp2_with fail
    go_ret
    exact ⟨rfl, HB1.out⟩
  by_cases g2 : b < 0
  · go_wp2_with fail
    go_ret
    exact ⟨rfl, HB1.out⟩
  by_cases g3 : c < 0
  · go_wp2_with fail
    go_ret
    exact ⟨rfl, HB1.out⟩
  by_cases g4 : 8 * (s.size : Int) ≤ a
  · go_wp2_with fail
    go_ret
    exact ⟨rfl, HB1.out⟩
  by_cases g5 : 8 * (s.size : Int) ≤ b
  · go_wp2_with fail
    go_ret
    exact ⟨rfl, HB1.out⟩
  by_cases g6 : 8 * (s.size : Int) ≤ c
  · go_wp2_with fail
    go_ret
    exact ⟨rfl, HB1.out⟩
  obtain ⟨ka, rfl⟩ := Int.eq_ofNat_of_zero_le (show 0 ≤ a by omega)
  obtain ⟨kb, rfl⟩ := Int.eq_ofNat_of_zero_le (show 0 ≤ b by omega)
  obtain ⟨kc, rfl⟩ := Int.eq_ofNat_of_zero_le (show 0 ≤ c by omega)
  clear hs
  obtain ⟨cap, w5, hcv, hby, hkb, hz5⟩ := bytes_conv w1 s
  have hz1 := HB1.out.size
  have H0 := Lib.hid (show Held w w1.heap.size w5 s.size s.data.toList s.data.toList 0#32 from ⟨hby, by simp, by simp, HB1.out.trans ((hkb.mono (T := fun k => w.heap.size ≤ k) (fun _ _ h => h.elim)).below hz1)⟩)
  have hN : w.heap.size ≤ w1.heap.size := hz1
  clear hby hkb hz5 hz1
  go_wp2_with fail
  clear hcv
  generalize hN1 : w1.heap.size = N at *
  clear hN1
  obtain ⟨q1, r1, cy1, bv1, cx1, hq1, hr1, hy1, hF1, hf1⟩ := flip_facts s.data.toList ka (by rw [H0.out.len]; omega) (by rw [H0.out.len]; omega)
  have c1 := H0.out.blk.cell q1 hq1
  have f1 := H0.out.blk.frozen q1 hq1
  rw [hy1] at c1
  have H1 := Lib.hid (H0.out.flip (by omega) q1 ka cx1 hf1)
  have hqs1 : q1 < s.size := by have := H0.out.len; omega
  clear hf1 hy1
  obtain ⟨x1, x2, x3, x4, x5, x6, x7, x8⟩ := hF1
  have y1 : (0 : Int) ≤ q1 := by omega
  have y2 : (q1 : Int) < s.size := by omega
  have y3 : (0 : Int) ≤ r1 := by omega
  go_region
  clear x1 x2 x3 x4 x5 x6 x7 x8 c1 f1 y1 y2 y3
  generalize (s.data.toList.set q1 cx1) = l1 at *
  generalize World.drew _ = wf1 at *
  have hz1 := H1.out.bel.size
  by_cases hba : kb = ka
  · subst hba
    by_cases hca : kc = kb
    · subst hca
      skip
      have HNE := Lib.hid (crcD_ne s.data.toList l1 _ H1.out.sum (by rw [BitVec.zero_xor]; exact E_ne _))
      have hcv := H1.out.blk.text (cap := cap) H1.out.len.symm
      have hYs : (⟨l1.toArray⟩ : ByteArray).size ≤ 500 := by rw [list_size, H1.out.len]; omega
      have HYL : Hid ((⟨l1.toArray⟩ : ByteArray).data.toList = l1) := by show (⟨l1.toArray⟩ : ByteArray).data.toList = l1; simp
      generalize (⟨l1.toArray⟩ : ByteArray) = Y at *
      go_wp2_with fail
      clear hcv
      refine (crc_1 Y _ _ (by simp) (by omega)).mono ?_
      rintro e w8 ⟨rfl, hb8⟩
      have HB8 := Lib.hid (H1.out.bel.trans (hb8.mono H1.out.bel.size))
      clear hb8
      rw [HYL.out]
      generalize crcD l1 = n1 at *
      go_wp2_with fail
      refine (crc_1 s _ _ (by simp) (by omega)).mono ?_
      rintro e w9 ⟨rfl, hb9⟩
      have HB9 := Lib.hid (HB8.out.trans (hb9.mono HB8.out.size))
      clear hb9
      generalize crcD s.data.toList = n2 at *
      have hne : ((n1.toNat : Int) != (n2.toNat : Int)) = true := by
        have := HNE.out
        simp only [bne_iff_ne, ne_eq, Int.natCast_inj]
        exact fun h => this (BitVec.eq_of_toNat_eq h)
      go_wp2_with fail
      go_ret
      exact ⟨rfl, HB9.out⟩
    · have t1 : ((kc : Int) != (kb : Int)) = true := by simp; omega
      go_wp2_with fail
      clear t1
      obtain ⟨q2, r2, cy2, bv2, cx2, hq2, hr2, hy2, hF2, hf2⟩ := flip_facts l1 kc (by rw [H1.out.len]; omega) (by rw [H1.out.len]; omega)
      have c2 := H1.out.blk.cell q2 hq2
      have f2 := H1.out.blk.frozen q2 hq2
      rw [hy2] at c2
      have H2 := Lib.hid (H1.out.flip (by omega) q2 kc cx2 hf2)
      have hqs2 : q2 < s.size := by have := H1.out.len; omega
      clear hf2 hy2
      obtain ⟨x1, x2, x3, x4, x5, x6, x7, x8⟩ := hF2
      have y1 : (0 : Int) ≤ q2 := by omega
      have y2 : (q2 : Int) < s.size := by omega
      have y3 : (0 : Int) ≤ r2 := by omega
      go_region
      clear x1 x2 x3 x4 x5 x6 x7 x8 c2 f2 y1 y2 y3
      generalize (l1.set q2 cx2) = l2 at *
      generalize World.drew _ = wf2 at *
      have hz2 := H2.out.bel.size
      have HNE := Lib.hid (crcD_ne s.data.toList l2 _ H2.out.sum (by rw [BitVec.zero_xor]; exact E_apart _ _ (by omega) (by omega) (by omega)))
      have hcv := H2.out.blk.text (cap := cap) H2.out.len.symm
      have hYs : (⟨l2.toArray⟩ : ByteArray).size ≤ 500 := by rw [list_size, H2.out.len]; omega
      have HYL : Hid ((⟨l2.toArray⟩ : ByteArray).data.toList = l2) := by show (⟨l2.toArray⟩ : ByteArray).data.toList = l2; simp
      generalize (⟨l2.toArray⟩ : ByteArray) = Y at *
      go_wp2_with fail
      clear hcv
      refine (crc_1 Y _ _ (by simp) (by omega)).mono ?_
      rintro e w8 ⟨rfl, hb8⟩
      have HB8 := Lib.hid (H2.out.bel.trans (hb8.mono H2.out.bel.size))
      clear hb8
      rw [HYL.out]
      generalize crcD l2 = n1 at *
      go_wp2_with fail
      refine (crc_1 s _ _ (by simp) (by omega)).mono ?_
      rintro e w9 ⟨rfl, hb9⟩
      have HB9 := Lib.hid (HB8.out.trans (hb9.mono HB8.out.size))
      clear hb9
      generalize crcD s.data.toList = n2 at *
      have hne : ((n1.toNat : Int) != (n2.toNat : Int)) = true := by
        have := HNE.out
        simp only [bne_iff_ne, ne_eq, Int.natCast_inj]
        exact fun h => this (BitVec.eq_of_toNat_eq h)
      go_wp2_with fail
      go_ret
      exact ⟨rfl, HB9.out⟩
  · have t1 : ((kb : Int) != (ka : Int)) = true := by simp; omega
    go_wp2_with fail
    clear t1
    obtain ⟨q2, r2, cy2, bv2, cx2, hq2, hr2, hy2, hF2, hf2⟩ := flip_facts l1 kb (by rw [H1.out.len]; omega) (by rw [H1.out.len]; omega)
    have c2 := H1.out.blk.cell q2 hq2
    have f2 := H1.out.blk.frozen q2 hq2
    rw [hy2] at c2
    have H2 := Lib.hid (H1.out.flip (by omega) q2 kb cx2 hf2)
    have hqs2 : q2 < s.size := by have := H1.out.len; omega
    clear hf2 hy2
    obtain ⟨x1, x2, x3, x4, x5, x6, x7, x8⟩ := hF2
    have y1 : (0 : Int) ≤ q2 := by omega
    have y2 : (q2 : Int) < s.size := by omega
    have y3 : (0 : Int) ≤ r2 := by omega
    go_region
    clear x1 x2 x3 x4 x5 x6 x7 x8 c2 f2 y1 y2 y3
    generalize (l1.set q2 cx2) = l2 at *
    generalize World.drew _ = wf2 at *
    have hz2 := H2.out.bel.size
    by_cases hca : kc = ka
    · subst hca
      have HNE := Lib.hid (crcD_ne s.data.toList l2 _ H2.out.sum (by rw [BitVec.zero_xor]; exact E_apart _ _ (by omega) (by omega) (by omega)))
      have hcv := H2.out.blk.text (cap := cap) H2.out.len.symm
      have hYs : (⟨l2.toArray⟩ : ByteArray).size ≤ 500 := by rw [list_size, H2.out.len]; omega
      have HYL : Hid ((⟨l2.toArray⟩ : ByteArray).data.toList = l2) := by show (⟨l2.toArray⟩ : ByteArray).data.toList = l2; simp
      generalize (⟨l2.toArray⟩ : ByteArray) = Y at *
      go_wp2_with fail
      clear hcv
      refine (crc_1 Y _ _ (by simp) (by omega)).mono ?_
      rintro e w8 ⟨rfl, hb8⟩
      have HB8 := Lib.hid (H2.out.bel.trans (hb8.mono H2.out.bel.size))
      clear hb8
      rw [HYL.out]
      generalize crcD l2 = n1 at *
      go_wp2_with fail
      refine (crc_1 s _ _ (by simp) (by omega)).mono ?_
      rintro e w9 ⟨rfl, hb9⟩
      have HB9 := Lib.hid (HB8.out.trans (hb9.mono HB8.out.size))
      clear hb9
      generalize crcD s.data.toList = n2 at *
      have hne : ((n1.toNat : Int) != (n2.toNat : Int)) = true := by
        have := HNE.out
        simp only [bne_iff_ne, ne_eq, Int.natCast_inj]
        exact fun h => this (BitVec.eq_of_toNat_eq h)
      go_wp2_with fail
      go_ret
      exact ⟨rfl, HB9.out⟩
    by_cases hcb : kc = kb
    · subst hcb
      have t2 : ((kc : Int) != (ka : Int)) = true := by simp; omega
      have HNE := Lib.hid (crcD_ne s.data.toList l2 _ H2.out.sum (by rw [BitVec.zero_xor]; exact E_apart _ _ (by omega) (by omega) (by omega)))
      have hcv := H2.out.blk.text (cap := cap) H2.out.len.symm
      have hYs : (⟨l2.toArray⟩ : ByteArray).size ≤ 500 := by rw [list_size, H2.out.len]; omega
      have HYL : Hid ((⟨l2.toArray⟩ : ByteArray).data.toList = l2) := by show (⟨l2.toArray⟩ : ByteArray).data.toList = l2; simp
      generalize (⟨l2.toArray⟩ : ByteArray) = Y at *
      go_wp2_with fail
      clear hcv
      refine (crc_1 Y _ _ (by simp) (by omega)).mono ?_
      rintro e w8 ⟨rfl, hb8⟩
      have HB8 := Lib.hid (H2.out.bel.trans (hb8.mono H2.out.bel.size))
      clear hb8
      rw [HYL.out]
      generalize crcD l2 = n1 at *
      go_wp2_with fail
      refine (crc_1 s _ _ (by simp) (by omega)).mono ?_
      rintro e w9 ⟨rfl, hb9⟩
      have HB9 := Lib.hid (HB8.out.trans (hb9.mono HB8.out.size))
      clear hb9
      generalize crcD s.data.toList = n2 at *
      have hne : ((n1.toNat : Int) != (n2.toNat : Int)) = true := by
        have := HNE.out
        simp only [bne_iff_ne, ne_eq, Int.natCast_inj]
        exact fun h => this (BitVec.eq_of_toNat_eq h)
      go_wp2_with fail
      go_ret
      exact ⟨rfl, HB9.out⟩
    have t1 : ((kc : Int) != (ka : Int)) = true := by simp; omega
    have t2 : ((kc : Int) != (kb : Int)) = true := by simp; omega
    go_wp2_with fail
    clear t1 t2
    obtain ⟨q3, r3, cy3, bv3, cx3, hq3, hr3, hy3, hF3, hf3⟩ := flip_facts l2 kc (by rw [H2.out.len]; omega) (by rw [H2.out.len]; omega)
    have c3 := H2.out.blk.cell q3 hq3
    have f3 := H2.out.blk.frozen q3 hq3
    rw [hy3] at c3
    have H3 := Lib.hid (H2.out.flip (by omega) q3 kc cx3 hf3)
    have hqs3 : q3 < s.size := by have := H2.out.len; omega
    clear hf3 hy3
    obtain ⟨x1, x2, x3, x4, x5, x6, x7, x8⟩ := hF3
    have y1 : (0 : Int) ≤ q3 := by omega
    have y2 : (q3 : Int) < s.size := by omega
    have y3 : (0 : Int) ≤ r3 := by omega
    go_region
    clear x1 x2 x3 x4 x5 x6 x7 x8 c3 f3 y1 y2 y3
    generalize (l2.set q3 cx3) = l3 at *
    generalize World.drew _ = wf3 at *
    have hz3 := H3.out.bel.size
    have HNE := Lib.hid (crcD_ne s.data.toList l3 _ H3.out.sum (by rw [BitVec.zero_xor]; exact E_three _ _ _))
    have hcv := H3.out.blk.text (cap := cap) H3.out.len.symm
    have hYs : (⟨l3.toArray⟩ : ByteArray).size ≤ 500 := by rw [list_size, H3.out.len]; omega
    have HYL : Hid ((⟨l3.toArray⟩ : ByteArray).data.toList = l3) := by show (⟨l3.toArray⟩ : ByteArray).data.toList = l3; simp
    generalize (⟨l3.toArray⟩ : ByteArray) = Y at *
    go_wp2_with fail
    clear hcv
    refine (crc_1 Y _ _ (by simp) (by omega)).mono ?_
    rintro e w8 ⟨rfl, hb8⟩
    have HB8 := Lib.hid (H3.out.bel.trans (hb8.mono H3.out.bel.size))
    clear hb8
    rw [HYL.out]
    generalize crcD l3 = n1 at *
    go_wp2_with fail
    refine (crc_1 s _ _ (by simp) (by omega)).mono ?_
    rintro e w9 ⟨rfl, hb9⟩
    have HB9 := Lib.hid (HB8.out.trans (hb9.mono HB8.out.size))
    clear hb9
    generalize crcD s.data.toList = n2 at *
    have hne : ((n1.toNat : Int) != (n2.toNat : Int)) = true := by
      have := HNE.out
      simp only [bne_iff_ne, ne_eq, Int.natCast_inj]
      exact fun h => this (BitVec.eq_of_toNat_eq h)
    go_wp2_with fail
    go_ret
    exact ⟨rfl, HB9.out⟩
end Go.Proofs.Ytoeamalmijnfkaa
