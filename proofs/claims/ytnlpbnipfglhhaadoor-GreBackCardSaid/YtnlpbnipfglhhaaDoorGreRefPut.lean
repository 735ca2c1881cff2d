/-
  The document's own Put. (Written by wip/tools/genref12.py.)
-/
import Derived.Test.YtnlpbnipfglhhaaDoorGrePut
import Derived.Test.YtnlpbnipfglhhaaDoorIpipRef
import Derived.Test.YtnlpbnipfglhhaaDoorSums
import Derived.Test.YtnlpbnipfglhhaaDoorGround
namespace Go.Proofs.YtnlpbnipfglhhaaDoor
open Go.RowKit
set_option linter.unusedVariables false
set_option linter.unusedSimpArgs false

/-- A header's block. -/
structure Pr12 (w W : World) (h : H12) : Prop where
  b : Blk W w.heap.size h.cells 31
  bel : Below w.heap.size w W
theorem Pr12.below {w W W' : World} {h : H12} (r : Pr12 w W h) (hb : Below W.heap.size W W') : Pr12 w W' h :=
  ⟨(hb.block _ r.b.lt).trans r.b, r.bel.trans (hb.mono r.bel.size)⟩
theorem Pr12.new (w : World) (h : H12) : Pr12 w (w.alloc (.cells h.cells 31)) h :=
  ⟨Blk.new _ _ _, (Below.refl _ _).alloc (Nat.le_refl _) _⟩
/-- A number's bytes, under a name. -/
theorem bytes_x (n k : Nat) (x : ByteArray) (hn : n < 4294967296) (hk : k ≤ 8) (hx : x = ⟨(be n k).toArray⟩) (w : World) :
    Calls Tryd.prog 17 #[.int .u64 (n : Nat), .int .i64 (k : Nat)] w fun e w' => e = .returned (.string x) ∧ Below w.heap.size w w' := by
  subst hx
  exact bytes_any n k w (by omega) hk
theorem be_one (n : Nat) (h : n < 256) : be n 1 = [UInt8.ofNat n] := by
  unfold be
  simp
  rw [Nat.mod_eq_of_lt h]
theorem be_zero2 : be 0 2 = [0, 0] := by decide
theorem be_160 : be 160 1 = [160] ∧ be 40960 2 = [160, 0] := by decide
theorem be_128 : be 128 1 = [128] ∧ be 32768 2 = [128, 0] := by decide
theorem be_32 : be 32 1 = [32] ∧ be 8192 2 = [32, 0] := by decide
theorem be_0 : be 0 1 = [0] ∧ be 0 2 = [0, 0] := by decide

set_option maxRecDepth 100000 in
set_option maxHeartbeats 4000000 in
theorem refput12_any (h : H12) (s : ByteArray) (w : World) (hv : h.v < 4294967296) (hs : s.size ≤ 900000) :
    Calls Tryd.prog 9 #[.agg h.cells, .string s] w (Tells (.tuple #[.string (put12S h s), .int .i64 ((v11 s).en : Nat)]) w) := by
  have S0 := Lib.hid (Pr12.new w h)
  have HK := Lib.hid (fun W => refkind11_any s W)
  have hkl := kn_lt (v11 s)
  unfold Tells at HK ⊢
  rw [V11.kind_kn, V11.err_en] at HK
  by_cases he : (v11 s).en = 0
  case neg =>
    rw [put12S_err he]
    generalize (v11 s).kn = q at *
    generalize (v11 s).en = E at *
    have t1 : ((E : Int) != 0) = true := by simp; omega
    clear he hv hs hkl
    unfold H12.cells at S0 ⊢
    go_enter Tryd.func9, Tryd.ntmps9
    go_wp2_with fail
    refine (HK.out _).mono ?_
    rintro e w1 ⟨rfl, hb⟩
    have S1 := Lib.hid (S0.out.below hb)
    clear hb S0
    go_wp2_with fail
    exact ⟨rfl, _, results_tmp2 rfl _ _ _, rfl, S1.out.bel⟩
  rw [put12S_ok he]
  have HW : Hid (own12 h s = match h.sum with | true => sumD (head12 h (v11 s).kn 0 ++ s.data.toList) | false => 0) := rfl
  rw [he] at HK ⊢
  clear he
  generalize (v11 s).kn = q at *
  have wq : IntKind.u64.wrap (q : Int) = (q : Int) := wrap_u64 _ (by omega) (by omega)
  have HSZ := Lib.hid hs
  simp only [show ((0 : Nat) : Int) = 0 from rfl] at HK ⊢
  obtain ⟨sm, k, v⟩ := h
  simp only at hv
  have wv : IntKind.u64.wrap (v : Int) = (v : Int) := wrap_u64 _ (by omega) (by omega)
  obtain ⟨K, hK⟩ : ∃ K : ByteArray, K = ⟨(be q 2).toArray⟩ := ⟨_, rfl⟩
  have zK : K.size = 2 := by rw [hK, be_size]
  have HBK := Lib.hid (bytes_x q 2 K (by omega) (by decide) hK)
  obtain ⟨V, hV⟩ : ∃ V : ByteArray, V = ⟨(be v 4).toArray⟩ := ⟨_, rfl⟩
  have zV : V.size = 4 := by rw [hV, be_size]
  have HBV := Lib.hid (bytes_x v 4 V (by omega) (by decide) hV)
  have HKe := Lib.hid hK
  have HVe := Lib.hid hV
  have HZK := Lib.hid zK
  have HZV := Lib.hid zV
  clear hK hV hs hv hkl zK zV
  unfold H12.cells at S0 ⊢
  simp only at S0 HW ⊢
  cases sm <;> cases k
  case true.true =>
    have hw0 : own12 ⟨true, true, v⟩ s = sumD (head12 ⟨true, true, v⟩ q 0 ++ s.data.toList) := HW.out
    generalize own12 ⟨true, true, v⟩ s = own at *
    have HOW := Lib.hid hw0
    clear hw0 HW
    go_enter Tryd.func9, Tryd.ntmps9
    go_wp2_with fail
    refine (HK.out _).mono ?_
    rintro e w1 ⟨rfl, hb⟩
    have S1 := Lib.hid (S0.out.below hb)
    clear hb S0
    have ⟨c0, c1, c2⟩ := Hc12s.of S1.out.b
    simp only at c0 c1 c2
    go_wp2_with fail
    refine (HBV.out _).mono ?_
    rintro e w2 ⟨rfl, hb⟩
    have S2 := Lib.hid (S1.out.below hb)
    clear hb S1
    clear c0 c1 c2
    have ⟨c0, c1, c2⟩ := Hc12s.of S2.out.b
    simp only at c0 c1 c2
    go_wp2_with fail
    obtain ⟨B, hB⟩ : ∃ B : ByteArray, B = ⟨(be 160 1).toArray⟩ := ⟨_, rfl⟩
    have zB : B.size = 1 := by rw [hB, be_size]
    have HBB := Lib.hid (bytes_x 160 1 B (by decide) (by decide) hB)
    have HBe := Lib.hid hB
    clear hB
    refine (HBB.out _).mono ?_
    rintro e w3 ⟨rfl, hb⟩
    have S3 := Lib.hid (S2.out.below hb)
    clear hb S2
    have n1 : ¬ 9223372036854775807 < B.size + 1 := by omega
    go_wp2_with fail
    refine (HBK.out _).mono ?_
    rintro e w4 ⟨rfl, hb⟩
    have S4 := Lib.hid (S3.out.below hb)
    clear hb S3
    have zK := HZK.out
    have hsz := HSZ.out
    have n2 : ¬ 9223372036854775807 < B.size + 1 + K.size := by omega
    have zV := HZV.out
    have n3 : ¬ 9223372036854775807 < 6 + s.size := by omega
    have n4 : ¬ 9223372036854775807 < 6 + (6 + s.size) := by omega
    go_wp2_with fail
    have hx : (B ++ ⟨#[0]⟩ ++ K ++ ⟨#[0, 0]⟩ ++ (⟨#[0, 0]⟩ ++ V ++ s) : ByteArray).data.toList = head12 ⟨true, true, v⟩ q 0 ++ s.data.toList := by
      rw [HBe.out, HKe.out, HVe.out]
      simp [cat_list, list_text, head12, behind12, q12, bits12, p12, be_160, be_zero2]
    have HSU := Lib.hid (fun W => refsum_any (B ++ ⟨#[0]⟩ ++ K ++ ⟨#[0, 0]⟩ ++ (⟨#[0, 0]⟩ ++ V ++ s)) W (by simp only [ByteArray.size_append]; rw [zB, zK, zV]; show 1 + 1 + 2 + 2 + (2 + 4 + s.size) ≤ 1000000; omega))
    rw [hx] at HSU
    unfold SumEnd at HSU
    have hw := HOW.out
    rw [← hw] at HSU
    have ho := sumD_le (head12 ⟨true, true, v⟩ q 0 ++ s.data.toList)
    rw [← hw] at ho
    clear hw hx
    have HO := Lib.hid ho
    clear ho
    refine (HSU.out _).mono ?_
    rintro e w5 ⟨rfl, hb⟩
    have S5 := Lib.hid (S4.out.below hb)
    clear hb S4
    have wo : IntKind.u64.wrap (own : Int) = (own : Int) := wrap_u64 _ (by omega) (by have := HO.out; omega)
    obtain ⟨O, hO⟩ : ∃ O : ByteArray, O = ⟨(be own 2).toArray⟩ := ⟨_, rfl⟩
    have zO : O.size = 2 := by rw [hO, be_size]
    have HBO := Lib.hid (bytes_x own 2 O (by have := HO.out; omega) (by decide) hO)
    have HOe := Lib.hid hO
    clear hO
    go_wp2_with fail
    refine (HBO.out _).mono ?_
    rintro e w6 ⟨rfl, hb⟩
    have S6 := Lib.hid (S5.out.below hb)
    clear hb S5
    go_wp2_with fail
    have hq : (⟨(head12 ⟨true, true, v⟩ q own).toArray⟩ : ByteArray) ++ s = B ++ ⟨#[0]⟩ ++ K ++ O ++ (⟨#[0, 0]⟩ ++ V ++ s) := by
      apply text_ext
      rw [HBe.out, HKe.out, HVe.out, HOe.out]
      simp [cat_list, list_text, head12, behind12, q12, bits12, p12, be_160, be_zero2]
    rw [hq]
    exact ⟨rfl, _, results_tmp2 rfl _ _ _, rfl, S6.out.bel⟩
  case true.false =>
    have hw0 : own12 ⟨true, false, v⟩ s = sumD (head12 ⟨true, false, v⟩ q 0 ++ s.data.toList) := HW.out
    generalize own12 ⟨true, false, v⟩ s = own at *
    have HOW := Lib.hid hw0
    clear hw0 HW
    go_enter Tryd.func9, Tryd.ntmps9
    go_wp2_with fail
    refine (HK.out _).mono ?_
    rintro e w1 ⟨rfl, hb⟩
    have S1 := Lib.hid (S0.out.below hb)
    clear hb S0
    have ⟨c0, c1, c2⟩ := Hc12s.of S1.out.b
    simp only at c0 c1 c2
    go_wp2_with fail
    obtain ⟨B, hB⟩ : ∃ B : ByteArray, B = ⟨(be 128 1).toArray⟩ := ⟨_, rfl⟩
    have zB : B.size = 1 := by rw [hB, be_size]
    have HBB := Lib.hid (bytes_x 128 1 B (by decide) (by decide) hB)
    have HBe := Lib.hid hB
    clear hB
    refine (HBB.out _).mono ?_
    rintro e w2 ⟨rfl, hb⟩
    have S2 := Lib.hid (S1.out.below hb)
    clear hb S1
    have n1 : ¬ 9223372036854775807 < B.size + 1 := by omega
    go_wp2_with fail
    refine (HBK.out _).mono ?_
    rintro e w3 ⟨rfl, hb⟩
    have S3 := Lib.hid (S2.out.below hb)
    clear hb S2
    have zK := HZK.out
    have hsz := HSZ.out
    have n2 : ¬ 9223372036854775807 < B.size + 1 + K.size := by omega
    have n3 : ¬ 9223372036854775807 < 2 + s.size := by omega
    have n4 : ¬ 9223372036854775807 < 6 + (2 + s.size) := by omega
    go_wp2_with fail
    have hx : (B ++ ⟨#[0]⟩ ++ K ++ ⟨#[0, 0]⟩ ++ (⟨#[0, 0]⟩ ++ ⟨#[]⟩ ++ s) : ByteArray).data.toList = head12 ⟨true, false, v⟩ q 0 ++ s.data.toList := by
      rw [HBe.out, HKe.out]
      simp [cat_list, list_text, head12, behind12, q12, bits12, p12, be_128, be_zero2]
    have HSU := Lib.hid (fun W => refsum_any (B ++ ⟨#[0]⟩ ++ K ++ ⟨#[0, 0]⟩ ++ (⟨#[0, 0]⟩ ++ ⟨#[]⟩ ++ s)) W (by simp only [ByteArray.size_append]; rw [zB, zK]; show 1 + 1 + 2 + 2 + (2 + 0 + s.size) ≤ 1000000; omega))
    rw [hx] at HSU
    unfold SumEnd at HSU
    have hw := HOW.out
    rw [← hw] at HSU
    have ho := sumD_le (head12 ⟨true, false, v⟩ q 0 ++ s.data.toList)
    rw [← hw] at ho
    clear hw hx
    have HO := Lib.hid ho
    clear ho
    refine (HSU.out _).mono ?_
    rintro e w4 ⟨rfl, hb⟩
    have S4 := Lib.hid (S3.out.below hb)
    clear hb S3
    have wo : IntKind.u64.wrap (own : Int) = (own : Int) := wrap_u64 _ (by omega) (by have := HO.out; omega)
    obtain ⟨O, hO⟩ : ∃ O : ByteArray, O = ⟨(be own 2).toArray⟩ := ⟨_, rfl⟩
    have zO : O.size = 2 := by rw [hO, be_size]
    have HBO := Lib.hid (bytes_x own 2 O (by have := HO.out; omega) (by decide) hO)
    have HOe := Lib.hid hO
    clear hO
    go_wp2_with fail
    refine (HBO.out _).mono ?_
    rintro e w5 ⟨rfl, hb⟩
    have S5 := Lib.hid (S4.out.below hb)
    clear hb S4
    go_wp2_with fail
    have hq : (⟨(head12 ⟨true, false, v⟩ q own).toArray⟩ : ByteArray) ++ s = B ++ ⟨#[0]⟩ ++ K ++ O ++ (⟨#[0, 0]⟩ ++ ⟨#[]⟩ ++ s) := by
      apply text_ext
      rw [HBe.out, HKe.out, HOe.out]
      simp [cat_list, list_text, head12, behind12, q12, bits12, p12, be_128, be_zero2]
    rw [hq]
    exact ⟨rfl, _, results_tmp2 rfl _ _ _, rfl, S5.out.bel⟩
  case false.true =>
    go_enter Tryd.func9, Tryd.ntmps9
    go_wp2_with fail
    refine (HK.out _).mono ?_
    rintro e w1 ⟨rfl, hb⟩
    have S1 := Lib.hid (S0.out.below hb)
    clear hb S0
    have ⟨c0, c1, c2⟩ := Hc12s.of S1.out.b
    simp only at c0 c1 c2
    go_wp2_with fail
    refine (HBV.out _).mono ?_
    rintro e w2 ⟨rfl, hb⟩
    have S2 := Lib.hid (S1.out.below hb)
    clear hb S1
    clear c0 c1 c2
    have ⟨c0, c1, c2⟩ := Hc12s.of S2.out.b
    simp only at c0 c1 c2
    go_wp2_with fail
    obtain ⟨B, hB⟩ : ∃ B : ByteArray, B = ⟨(be 32 1).toArray⟩ := ⟨_, rfl⟩
    have zB : B.size = 1 := by rw [hB, be_size]
    have HBB := Lib.hid (bytes_x 32 1 B (by decide) (by decide) hB)
    have HBe := Lib.hid hB
    clear hB
    refine (HBB.out _).mono ?_
    rintro e w3 ⟨rfl, hb⟩
    have S3 := Lib.hid (S2.out.below hb)
    clear hb S2
    have n1 : ¬ 9223372036854775807 < B.size + 1 := by omega
    go_wp2_with fail
    refine (HBK.out _).mono ?_
    rintro e w4 ⟨rfl, hb⟩
    have S4 := Lib.hid (S3.out.below hb)
    clear hb S3
    have zK := HZK.out
    have hsz := HSZ.out
    have n2 : ¬ 9223372036854775807 < B.size + 1 + K.size := by omega
    have zV := HZV.out
    have n3 : ¬ 9223372036854775807 < B.size + 1 + K.size + V.size := by omega
    have n4 : ¬ 9223372036854775807 < B.size + 1 + K.size + V.size + s.size := by omega
    go_wp2_with fail
    have h0 : own12 ⟨false, true, v⟩ s = 0 := HW.out
    rw [h0]
    have hq : (⟨(head12 ⟨false, true, v⟩ q 0).toArray⟩ : ByteArray) ++ s = B ++ ⟨#[0]⟩ ++ K ++ V ++ s := by
      apply text_ext
      rw [HBe.out, HKe.out, HVe.out]
      simp [cat_list, list_text, head12, behind12, q12, bits12, p12, be_32, be_zero2]
    rw [hq]
    exact ⟨rfl, _, results_tmp2 rfl _ _ _, rfl, S4.out.bel⟩
  case false.false =>
    go_enter Tryd.func9, Tryd.ntmps9
    go_wp2_with fail
    refine (HK.out _).mono ?_
    rintro e w1 ⟨rfl, hb⟩
    have S1 := Lib.hid (S0.out.below hb)
    clear hb S0
    have ⟨c0, c1, c2⟩ := Hc12s.of S1.out.b
    simp only at c0 c1 c2
    go_wp2_with fail
    obtain ⟨B, hB⟩ : ∃ B : ByteArray, B = ⟨(be 0 1).toArray⟩ := ⟨_, rfl⟩
    have zB : B.size = 1 := by rw [hB, be_size]
    have HBB := Lib.hid (bytes_x 0 1 B (by decide) (by decide) hB)
    have HBe := Lib.hid hB
    clear hB
    refine (HBB.out _).mono ?_
    rintro e w2 ⟨rfl, hb⟩
    have S2 := Lib.hid (S1.out.below hb)
    clear hb S1
    have n1 : ¬ 9223372036854775807 < B.size + 1 := by omega
    go_wp2_with fail
    refine (HBK.out _).mono ?_
    rintro e w3 ⟨rfl, hb⟩
    have S3 := Lib.hid (S2.out.below hb)
    clear hb S2
    have zK := HZK.out
    have hsz := HSZ.out
    have n2 : ¬ 9223372036854775807 < B.size + 1 + K.size := by omega
    have n4 : ¬ 9223372036854775807 < B.size + 1 + K.size + s.size := by omega
    go_wp2_with fail
    have h0 : own12 ⟨false, false, v⟩ s = 0 := HW.out
    rw [h0]
    have hq : (⟨(head12 ⟨false, false, v⟩ q 0).toArray⟩ : ByteArray) ++ s = B ++ ⟨#[0]⟩ ++ K ++ ⟨#[]⟩ ++ s := by
      apply text_ext
      rw [HBe.out, HKe.out]
      simp [cat_list, list_text, head12, behind12, q12, bits12, p12, be_0, be_zero2]
    rw [hq]
    exact ⟨rfl, _, results_tmp2 rfl _ _ _, rfl, S3.out.bel⟩

end Go.Proofs.YtnlpbnipfglhhaaDoor
