/-
  The document's Print.
-/
import Derived.Test.YtpappmbnblaccaaGreatDoorRef04Digits
import Derived.Test.YtpappmbnblaccaaGreatDoorRef04Plain
import Derived.Deep.RegionLaw
import Derived.Deep.AppendLies
import Derived.OwnWalk
namespace Go.Proofs.YtpappmbnblaccaaGreatDoor
open Go.RowKit
set_option linter.unusedVariables false

/-- The front of the text of four bytes. -/
def front4 (a : List UInt8) (k : Nat) : List UInt8 := jn 46 ((a.take k).map fun c => digs 10 c.toNat)
theorem front4_next (a : List UInt8) (k : Nat) (h : k < a.length) : front4 a (k + 1) = if k = 0 then digs 10 (a[k]'h).toNat else front4 a k ++ 46 :: digs 10 (a[k]'h).toNat := by
  unfold front4
  rw [List.take_succ_eq_append_getElem h, List.map_append]
  split
  · subst k; rfl
  · exact jn_snoc 46 _ _ (by intro e; have h1 := congrArg List.length e; simp only [List.length_map, List.length_take, List.length_nil] at h1; omega)
theorem front4_len (a : List UInt8) (k : Nat) (h : k ≤ 4) : (front4 a k).length ≤ 20 := by
  have := jn_len 46 3 ((a.take k).map fun c => digs 10 c.toNat) (by
    intro x hx
    obtain ⟨n, _, rfl⟩ := List.mem_map.1 hx
    have := n.toNat_lt
    exact digs_length (by omega) 2 _ (by omega))
  simp only [List.length_map, List.length_take] at this
  unfold front4
  omega

set_option maxRecDepth 100000 in
theorem rprint4_any (a : ByteArray) (ha : a.size = 4) (w : World) : Calls Tryz.prog 15 #[.string a] w (Tells (.tuple #[.string ⟨(text4 a.data.toList).toArray⟩, .int .i64 0]) w) := by
  go_enter Tryz.func15, Tryz.ntmps15
  go_wp2_with fail
  go_loopw [4, 5] (fun so si wr => ∃ (k : Nat) (o : ByteArray), si = .int .i64 (k : Int) ∧ so = .string o ∧ k ≤ 4 ∧ o.size ≤ 20 ∧ Hid (o.data.toList = front4 a.data.toList k) ∧ Hid (Below w.heap.size w wr)) (fun _ si _ => 4 - (intOf si).toNat)
  case atStart => exact ⟨0, ⟨#[]⟩, rfl, rfl, by omega, by show 0 ≤ 20; omega, Lib.hid rfl, Lib.hid (Below.refl _ _)⟩
  case round =>
    obtain ⟨k, o, rfl, rfl, hk, hoz, HO, HB⟩ := hrel
    by_cases hlt : k < 4
    · have hka : k < a.size := by omega
      have hw : wrap64 ((a[k]'hka).toNat : Int) = ((a[k]'hka).toNat : Int) := by have := (a[k]'hka).toNat_lt; simp [wrap64]; omega
      have hal : k < a.data.toList.length := by rw [Array.length_toList]; exact hka
      have hN := front4_next a.data.toList k hal
      have hv : (a.data.toList[k]'hal).toNat = (a[k]'hka).toNat := rfl
      rw [hv] at hN
      have hlt8 := (a[k]'hka).toNat_lt
      have hl3 := front4_len a.data.toList (k + 1) (by omega)
      have J := fun W => rdigits_any 10 (a[k]'hka).toNat (Or.inl rfl) (by omega) W
      by_cases h0 : k = 0
      · subst h0
        rw [if_pos rfl] at hN
        have ho : o = ⟨#[]⟩ := text_ext HO.out
        subst ho
        have HN := Lib.hid hN
        have hd := digs_length (b := 10) (by omega) 2 (a[0]'hka).toNat (by omega)
        clear hN hl3 hal hv
        go_wp2_with fail
        refine (J _).mono ?_
        rintro e w1 ⟨rfl, hb1⟩
        obtain ⟨D, hD⟩ : ∃ D : ByteArray, D = ⟨(digs 10 (a[0]'hka).toNat).toArray⟩ := ⟨_, rfl⟩
        have hDs : D.size ≤ 3 := by rw [hD, list_size]; exact hd
        have HD : Hid (D.data.toList = digs 10 (a[0]'hka).toNat) := Lib.hid (by rw [hD])
        rw [← hD]
        have HB1 := Lib.hid (HB.out.trans (hb1.mono HB.out.size))
        clear hb1 hD hw
        go_wp2_with fail
        refine ⟨⟨1, _, rfl, rfl, by omega, ?_, Lib.hid (by rw [HN.out, ← HD.out]; first | rfl | simp), HB1⟩, by simp [intOf]⟩
        first | exact Nat.le_trans hDs (by omega) | (simp; omega)
      · rw [if_neg h0] at hN
        have HN := Lib.hid hN
        have hd := digs_length (b := 10) (by omega) 2 (a[k]'hka).toNat (by omega)
        have hk0 : (0 : Int) < (k : Int) := by omega
        clear hN hal hv h0
        go_wp2_with fail
        refine (J _).mono ?_
        rintro e w1 ⟨rfl, hb1⟩
        obtain ⟨D, hD⟩ : ∃ D : ByteArray, D = ⟨(digs 10 (a[k]'hka).toNat).toArray⟩ := ⟨_, rfl⟩
        have hDs : D.size ≤ 3 := by rw [hD, list_size]; exact hd
        have HD : Hid (D.data.toList = digs 10 (a[k]'hka).toNat) := Lib.hid (by rw [hD])
        rw [← hD]
        have HB1 := Lib.hid (HB.out.trans (hb1.mono HB.out.size))
        have HL3 : Hid (o.size + 1 + D.size ≤ 20) := Lib.hid (by
          have h1 : (front4 a.data.toList (k + 1)).length = (front4 a.data.toList k).length + ((digs 10 (a[k]'hka).toNat).length + 1) := by rw [HN.out, List.length_append, List.length_cons]
          have h2 : D.size = (digs 10 (a[k]'hka).toNat).length := by rw [← HD.out, Array.length_toList]; rfl
          have h3 : o.size = (front4 a.data.toList k).length := by rw [← HO.out, Array.length_toList]; rfl
          omega)
        have a1 : ¬ (9223372036854775807 < o.size + 1 + D.size) := by omega
        clear hb1 hD hw hl3
        go_wp2_with fail
        refine ⟨⟨k + 1, _, rfl, rfl, by omega, ?_, Lib.hid ?_, HB1⟩, by simp [intOf]; omega⟩
        · rw [cat_size, cat_size]
          exact HL3.out
        · rw [HN.out, ← HD.out, ← HO.out, cat_list, cat_list]
          simp
    · obtain rfl : k = 4 := by omega
      have HF : Hid (Value.string o = Value.string ⟨(text4 a.data.toList).toArray⟩) := Lib.hid (by
        congr 1
        apply text_ext
        rw [HO.out]
        unfold front4 text4
        rw [List.take_of_length_le (by rw [Array.length_toList]; show a.size ≤ 4; omega)])
      go_wp2_with fail
      go_ret2
      exact ⟨by rw [← HF.out]; rfl, HB.out⟩

end Go.Proofs.YtpappmbnblaccaaGreatDoor
