/-
  The document's Seal.
-/
import Derived.Test.YtbfcccfgphelhaaDoorFlowSealed
import Derived.Test.YtbfcccfgphelhaaDoorSums
import Derived.Test.YtbfcccfgphelhaaDoorGround
import Derived.Deep.RegionHeld3
namespace Go.Proofs.YtbfcccfgphelhaaDoor
open Go.RowKit
set_option linter.unusedVariables false

theorem keepB9 {w W W' : World} (hb : Below W.heap.size W W') (r : Hid (Below w.heap.size w W)) : Hid (Below w.heap.size w W') := Lib.hid (r.out.trans (hb.mono r.out.size))

set_option maxRecDepth 100000 in
set_option maxHeartbeats 1000000 in
theorem refseal_any (proto : Int) (src dst s : ByteArray) (w : World) (hs : src.size ≤ 100000) (hd : dst.size ≤ 100000) (hz : s.size ≤ 600000) :
    Calls Tryd.prog 20 #[.int .i64 proto, .string src, .string dst, .string s] w fun e w' => e = .returned (.string (seal9 proto src dst s)) ∧ Below w.heap.size w w' := by
  go_enter Tryd.func20, Tryd.ntmps20
  by_cases h6 : proto = 6 ∧ 20 ≤ s.size
  · obtain ⟨h6, hz6⟩ := h6
    have t1 : (proto == 6) = true := by simp; omega
    have t2 : decide ((20 : Int) ≤ (s.size : Int)) = true := by simp; omega
    have t3 : (proto == 17) = false := by simp; omega
    have hsl : seal9 proto src dst s = with9 s 16 (num9 proto src dst s 16) := by
      have hp : pl9 proto s.size = 16 := by unfold pl9; rw [if_pos ⟨h6, hz6⟩]
      unfold seal9
      rw [hp, if_neg (by decide)]
    have HSL := Lib.hid hsl
    have hnl := num9_le proto src dst s 16
    have hnum : num9 proto src dst s 16 = if sumD (gap9 proto src dst s 16) = 0 then 0 else sumD (gap9 proto src dst s 16) := by
      unfold num9
      split <;> split <;> omega
    have HPS := Lib.hid (fun W => refpseudo_any src dst proto (s.size : Nat) W (by omega) (by omega))
    have hlen : (pseudoD src.data.toList dst.data.toList proto (s.size : Nat)).length ≤ 300000 := by
      unfold pseudoD
      split <;> simp only [List.length_append, size_list, List.length_cons, List.length_nil] <;> omega
    have hXs : (⟨(pseudoD src.data.toList dst.data.toList proto (s.size : Nat)).toArray⟩ : ByteArray).size ≤ 300000 := by rw [list_size]; exact hlen
    have hXl : (⟨(pseudoD src.data.toList dst.data.toList proto (s.size : Nat)).toArray⟩ : ByteArray).data.toList = pseudoD src.data.toList dst.data.toList proto (s.size : Nat) := rfl
    have hgap : gap9 proto src dst s 16 = pseudoD src.data.toList dst.data.toList proto (s.size : Nat) ++ (s.extract 0 16).data.toList ++ [0, 0] ++ (s.extract 18 s.size).data.toList := by
      rw [sl_ext, sl_ext, sl_all]
      rfl
    have hw9 : ∀ n, with9 s 16 n = ⟨((s.extract 0 16).data.toList ++ be n 2 ++ (s.extract 18 s.size).data.toList).toArray⟩ := fun n => (with9_cut s 16 n).symm
    have hAs : (s.extract 0 16).size ≤ 16 := by rw [ByteArray.size_extract]; omega
    have hDs : (s.extract 18 s.size).size ≤ 600000 := by rw [ByteArray.size_extract]; omega
    have hz' : 16 + 2 ≤ s.size := by omega
    have b1 : (16 : Int) ≤ (s.size : Int) := by omega
    have b2 : (18 : Int) ≤ (s.size : Int) := by omega
    have x1 : IntKind.i64.wrap 18 = 18 := by decide
    obtain ⟨A, hA⟩ : ∃ A, s.extract 0 16 = A := ⟨_, rfl⟩
    obtain ⟨D, hD⟩ : ∃ D, s.extract 18 s.size = D := ⟨_, rfl⟩
    obtain ⟨Z, hZ⟩ : ∃ Z : ByteArray, Z = ⟨#[0, 0]⟩ := ⟨_, rfl⟩
    rw [hA, hD] at hgap
    rw [hA] at hAs
    rw [hD] at hDs
    simp only [hA, hD] at hw9
    generalize (⟨(pseudoD src.data.toList dst.data.toList proto (s.size : Nat)).toArray⟩ : ByteArray) = X at *
    have hcut : (X ++ A ++ Z ++ D).data.toList = gap9 proto src dst s 16 := by
      rw [cat_list, cat_list, cat_list, hgap, ← hXl, hZ]
    have hZs : Z.size ≤ 2 := by rw [hZ]; exact Nat.le_refl _
    have HSM := Lib.hid (fun W => refsum_any (X ++ A ++ Z ++ D) W (by rw [cat_size, cat_size, cat_size]; omega))
    rw [hcut] at HSM
    have hml := sumD_le (gap9 proto src dst s 16)
    clear hcut hlen hsl hXl hgap h6
    generalize sumD (gap9 proto src dst s 16) = m at *
    generalize num9 proto src dst s 16 = nn at *
    have HN := Lib.hid hnum
    have HW9 := Lib.hid (hw9 nn)
    clear hnum hw9
    have a1 : ¬ (9223372036854775807 < X.size + A.size) := by omega
    have a2 : ¬ (9223372036854775807 < X.size + A.size + Z.size) := by omega
    have a3 : ¬ (9223372036854775807 < X.size + A.size + Z.size + D.size) := by omega
    go_upto_region 8 with (fail)
    rw [← hZ]
    clear hZ
    go_region_held3 (fun W => Hid (Below w.heap.size w W))
      (first | exact Lib.hid (below_drewN (Below.refl w.heap.size w) 1) | exact keepB9 (by assumption) (by assumption))
      (first
        | (go_at_call 29; ((with_reducible refine (HPS.out _).mono ?_); rintro e w' ⟨rfl, hb⟩))
        | (go_at_call 28; ((with_reducible refine (HSM.out _).mono ?_); rintro e w' ⟨rfl, hb⟩)))
    rename_i held
    have L3 := Lib.hid held.out
    clear held a1 a2 a3 HPS HSM
    by_cases hm : m = 0
    · have t4 : ((m : Int) == 0) = true := by simp; omega
      have hn2 := HN.out.trans (if_pos hm)
      subst hn2
      subst hm
      obtain ⟨B, hB⟩ : ∃ B, B = (⟨(be 0 2).toArray⟩ : ByteArray) := ⟨_, rfl⟩
      have NB := Lib.hid (bytes_x (0 : Int) 0 2 2 B rfl rfl (by omega) (by omega) hB)
      have q1 : IntKind.u64.wrap (0 : Int) = (0 : Int) := by rw [wrap_u64 _ (by omega) (by omega)]
      have hBs : B.size ≤ 2 := by rw [hB, be_size]; omega
      have a4 : ¬ (9223372036854775807 < A.size + B.size) := by omega
      have a5 : ¬ (9223372036854775807 < A.size + B.size + D.size) := by omega
      have HR : Hid (with9 s 16 0 = A ++ B ++ D) := by
        show with9 s 16 0 = A ++ B ++ D
        apply text_ext
        rw [HW9.out, cat_list, cat_list, hB]
      clear hB
      go_upto_region 11 with (fail)
      go_region_held3 (fun W => Hid (Below w.heap.size w W))
        (first | exact Lib.hid (below_drewN L3.out 1) | exact keepB9 (by assumption) (by assumption))
        (first
          | (go_at_call 19; ((with_reducible refine (NB.out _).mono ?_); rintro e w' ⟨rfl, hb⟩)))
      rename_i held2
      go_wp2_with fail
      go_ret
      exact ⟨by rw [HSL.out, HR.out]; rfl, held2.out⟩
    have t4 : ((m : Int) == 0) = false := by simp; omega
    have hn2 := HN.out.trans (if_neg hm)
    subst hn2
    clear hm
    obtain ⟨B, hB⟩ : ∃ B, B = (⟨(be nn 2).toArray⟩ : ByteArray) := ⟨_, rfl⟩
    have NB := Lib.hid (bytes_x (nn : Int) nn 2 2 B rfl rfl (by omega) (by omega) hB)
    have q1 : IntKind.u64.wrap (nn : Int) = (nn : Int) := by rw [wrap_u64 _ (by omega) (by omega)]
    have hBs : B.size ≤ 2 := by rw [hB, be_size]; omega
    have a4 : ¬ (9223372036854775807 < A.size + B.size) := by omega
    have a5 : ¬ (9223372036854775807 < A.size + B.size + D.size) := by omega
    have HR : Hid (with9 s 16 nn = A ++ B ++ D) := by
      show with9 s 16 nn = A ++ B ++ D
      apply text_ext
      rw [HW9.out, cat_list, cat_list, hB]
    clear hB
    go_upto_region 11 with (fail)
    go_region_held3 (fun W => Hid (Below w.heap.size w W))
      (first | exact Lib.hid (below_drewN L3.out 1) | exact keepB9 (by assumption) (by assumption))
      (first
        | (go_at_call 19; ((with_reducible refine (NB.out _).mono ?_); rintro e w' ⟨rfl, hb⟩)))
    rename_i held2
    go_wp2_with fail
    go_ret
    exact ⟨by rw [HSL.out, HR.out]; rfl, held2.out⟩
  by_cases h17 : proto = 17 ∧ 8 ≤ s.size
  · obtain ⟨h17, hz8⟩ := h17
    have t1 : (proto == 6) = false := by simp; omega
    have t3 : (proto == 17) = true := by simp; omega
    have t2 : decide ((8 : Int) ≤ (s.size : Int)) = true := by simp; omega
    have hsl : seal9 proto src dst s = with9 s 6 (num9 proto src dst s 6) := by
      have hp : pl9 proto s.size = 6 := by unfold pl9; rw [if_neg h6, if_pos ⟨h17, hz8⟩]
      unfold seal9
      rw [hp, if_neg (by decide)]
    have HSL := Lib.hid hsl
    have hnl := num9_le proto src dst s 6
    have hnum : num9 proto src dst s 6 = if sumD (gap9 proto src dst s 6) = 0 then 65535 else sumD (gap9 proto src dst s 6) := by
      unfold num9
      split <;> split <;> omega
    have HPS := Lib.hid (fun W => refpseudo_any src dst proto (s.size : Nat) W (by omega) (by omega))
    have hlen : (pseudoD src.data.toList dst.data.toList proto (s.size : Nat)).length ≤ 300000 := by
      unfold pseudoD
      split <;> simp only [List.length_append, size_list, List.length_cons, List.length_nil] <;> omega
    have hXs : (⟨(pseudoD src.data.toList dst.data.toList proto (s.size : Nat)).toArray⟩ : ByteArray).size ≤ 300000 := by rw [list_size]; exact hlen
    have hXl : (⟨(pseudoD src.data.toList dst.data.toList proto (s.size : Nat)).toArray⟩ : ByteArray).data.toList = pseudoD src.data.toList dst.data.toList proto (s.size : Nat) := rfl
    have hgap : gap9 proto src dst s 6 = pseudoD src.data.toList dst.data.toList proto (s.size : Nat) ++ (s.extract 0 6).data.toList ++ [0, 0] ++ (s.extract 8 s.size).data.toList := by
      rw [sl_ext, sl_ext, sl_all]
      rfl
    have hw9 : ∀ n, with9 s 6 n = ⟨((s.extract 0 6).data.toList ++ be n 2 ++ (s.extract 8 s.size).data.toList).toArray⟩ := fun n => (with9_cut s 6 n).symm
    have hAs : (s.extract 0 6).size ≤ 16 := by rw [ByteArray.size_extract]; omega
    have hDs : (s.extract 8 s.size).size ≤ 600000 := by rw [ByteArray.size_extract]; omega
    have hz' : 6 + 2 ≤ s.size := by omega
    have b1 : (6 : Int) ≤ (s.size : Int) := by omega
    have b2 : (8 : Int) ≤ (s.size : Int) := by omega
    have x1 : IntKind.i64.wrap 8 = 8 := by decide
    obtain ⟨A, hA⟩ : ∃ A, s.extract 0 6 = A := ⟨_, rfl⟩
    obtain ⟨D, hD⟩ : ∃ D, s.extract 8 s.size = D := ⟨_, rfl⟩
    obtain ⟨Z, hZ⟩ : ∃ Z : ByteArray, Z = ⟨#[0, 0]⟩ := ⟨_, rfl⟩
    rw [hA, hD] at hgap
    rw [hA] at hAs
    rw [hD] at hDs
    simp only [hA, hD] at hw9
    generalize (⟨(pseudoD src.data.toList dst.data.toList proto (s.size : Nat)).toArray⟩ : ByteArray) = X at *
    have hcut : (X ++ A ++ Z ++ D).data.toList = gap9 proto src dst s 6 := by
      rw [cat_list, cat_list, cat_list, hgap, ← hXl, hZ]
    have hZs : Z.size ≤ 2 := by rw [hZ]; exact Nat.le_refl _
    have HSM := Lib.hid (fun W => refsum_any (X ++ A ++ Z ++ D) W (by rw [cat_size, cat_size, cat_size]; omega))
    rw [hcut] at HSM
    have hml := sumD_le (gap9 proto src dst s 6)
    clear hcut hlen hsl hXl hgap h6 h17
    generalize sumD (gap9 proto src dst s 6) = m at *
    generalize num9 proto src dst s 6 = nn at *
    have HN := Lib.hid hnum
    have HW9 := Lib.hid (hw9 nn)
    clear hnum hw9
    have a1 : ¬ (9223372036854775807 < X.size + A.size) := by omega
    have a2 : ¬ (9223372036854775807 < X.size + A.size + Z.size) := by omega
    have a3 : ¬ (9223372036854775807 < X.size + A.size + Z.size + D.size) := by omega
    go_upto_region 8 with (fail)
    rw [← hZ]
    clear hZ
    go_region_held3 (fun W => Hid (Below w.heap.size w W))
      (first | exact Lib.hid (below_drewN (Below.refl w.heap.size w) 1) | exact keepB9 (by assumption) (by assumption))
      (first
        | (go_at_call 29; ((with_reducible refine (HPS.out _).mono ?_); rintro e w' ⟨rfl, hb⟩))
        | (go_at_call 28; ((with_reducible refine (HSM.out _).mono ?_); rintro e w' ⟨rfl, hb⟩)))
    rename_i held
    have L3 := Lib.hid held.out
    clear held a1 a2 a3 HPS HSM
    by_cases hm : m = 0
    · have t4 : ((m : Int) == 0) = true := by simp; omega
      have hn2 := HN.out.trans (if_pos hm)
      subst hn2
      clear hm
      obtain ⟨B, hB⟩ : ∃ B, B = (⟨(be 65535 2).toArray⟩ : ByteArray) := ⟨_, rfl⟩
      have NB := Lib.hid (bytes_x (65535 : Int) 65535 2 2 B rfl rfl (by omega) (by omega) hB)
      have q1 : IntKind.u64.wrap (65535 : Int) = (65535 : Int) := by rw [wrap_u64 _ (by omega) (by omega)]
      have hBs : B.size ≤ 2 := by rw [hB, be_size]; omega
      have a4 : ¬ (9223372036854775807 < A.size + B.size) := by omega
      have a5 : ¬ (9223372036854775807 < A.size + B.size + D.size) := by omega
      have HR : Hid (with9 s 6 65535 = A ++ B ++ D) := by
        show with9 s 6 65535 = A ++ B ++ D
        apply text_ext
        rw [HW9.out, cat_list, cat_list, hB]
      clear hB
      go_upto_region 11 with (fail)
      go_region_held3 (fun W => Hid (Below w.heap.size w W))
        (first | exact Lib.hid (below_drewN L3.out 1) | exact keepB9 (by assumption) (by assumption))
        (first
          | (go_at_call 19; ((with_reducible refine (NB.out _).mono ?_); rintro e w' ⟨rfl, hb⟩)))
      rename_i held2
      go_wp2_with fail
      go_ret
      exact ⟨by rw [HSL.out, HR.out]; rfl, held2.out⟩
    have t4 : ((m : Int) == 0) = false := by simp; omega
    have hn2 := HN.out.trans (if_neg hm)
    subst hn2
    clear hm
    obtain ⟨B, hB⟩ : ∃ B, B = (⟨(be nn 2).toArray⟩ : ByteArray) := ⟨_, rfl⟩
    have NB := Lib.hid (bytes_x (nn : Int) nn 2 2 B rfl rfl (by omega) (by omega) hB)
    have q1 : IntKind.u64.wrap (nn : Int) = (nn : Int) := by rw [wrap_u64 _ (by omega) (by omega)]
    have hBs : B.size ≤ 2 := by rw [hB, be_size]; omega
    have a4 : ¬ (9223372036854775807 < A.size + B.size) := by omega
    have a5 : ¬ (9223372036854775807 < A.size + B.size + D.size) := by omega
    have HR : Hid (with9 s 6 nn = A ++ B ++ D) := by
      show with9 s 6 nn = A ++ B ++ D
      apply text_ext
      rw [HW9.out, cat_list, cat_list, hB]
    clear hB
    go_upto_region 11 with (fail)
    go_region_held3 (fun W => Hid (Below w.heap.size w W))
      (first | exact Lib.hid (below_drewN L3.out 1) | exact keepB9 (by assumption) (by assumption))
      (first
        | (go_at_call 19; ((with_reducible refine (NB.out _).mono ?_); rintro e w' ⟨rfl, hb⟩)))
    rename_i held2
    go_wp2_with fail
    go_ret
    exact ⟨by rw [HSL.out, HR.out]; rfl, held2.out⟩
  have HSL : Hid (seal9 proto src dst s = s) := by
    show seal9 proto src dst s = s
    unfold seal9 pl9
    rw [if_neg h6, if_neg h17, if_pos rfl]
  have no : ((proto == 6) = false ∧ (proto == 17) = false) ∨ ((proto == 6) = true ∧ (proto == 17) = false ∧ decide ((20 : Int) ≤ (s.size : Int)) = false) ∨ ((proto == 6) = false ∧ (proto == 17) = true ∧ decide ((8 : Int) ≤ (s.size : Int)) = false) := by
    simp
    omega
  rcases no with ⟨t1, t2⟩ | ⟨t1, t2, t3⟩ | ⟨t1, t2, t3⟩
  · clear h6 h17
    go_wp2_with fail
    go_ret
    exact ⟨by rw [HSL.out]; rfl, Below.refl _ _⟩
  · clear h6 h17
    go_wp2_with fail
    go_ret
    exact ⟨by rw [HSL.out]; rfl, Below.refl _ _⟩
  · clear h6 h17
    go_wp2_with fail
    go_ret
    exact ⟨by rw [HSL.out]; rfl, Below.refl _ _⟩

end Go.Proofs.YtbfcccfgphelhaaDoor
