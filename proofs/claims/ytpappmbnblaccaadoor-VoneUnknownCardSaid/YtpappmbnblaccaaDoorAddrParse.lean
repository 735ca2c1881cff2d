/-
  Parse: a text's address.
-/
import Derived.Test.YtpappmbnblaccaaDoorAddrGuess16
namespace Go.Proofs.YtpappmbnblaccaaDoor
open Go.RowKit
set_option linter.unusedVariables false

theorem indexByte_mem : ∀ (s : List UInt8) (c : UInt8), decide (0 ≤ Lib.indexByte s c) = true ↔ c ∈ s := by
  intro s c
  constructor
  · intro h
    have h' : 0 ≤ Lib.indexByte s c := by simpa using h
    obtain ⟨o, ho⟩ : ∃ o : Nat, Lib.indexByte s c = o := ⟨(Lib.indexByte s c).toNat, by omega⟩
    exact List.mem_of_getElem? (Lib.indexByte_some ho).1
  · intro h
    by_cases h' : 0 ≤ Lib.indexByte s c
    · simpa using h'
    · exfalso
      obtain ⟨k, hk⟩ := List.mem_iff_getElem?.1 h
      have hge : -1 ≤ Lib.indexByte s c := Lib.indexByte_ge s c
      exact Lib.indexByte_none (show Lib.indexByte s c = -1 by omega) k hk

theorem guess_any (s : ByteArray) (hs : s.size ≤ 1000) (w : World) (hg : G17 w) : Calls Tryd.prog 47 #[.string s] w (GEnd w fun a => IsA a ∧ s.data.toList = text a) := by
  by_cases hm : (46 : UInt8) ∈ s.data.toList
  · have t1 := (indexByte_mem s.data.toList 46).2 hm
    have J := Tryd.strings_Contains_one s 46 w
    rw [t1] at J
    clear t1
    go_enter Tryd.func47, Tryd.ntmps47
    go_wp2_with fail
    refine J.mono ?_
    rintro e w1 ⟨rfl, rfl⟩
    go_wp2_with fail
    refine (guess4_any s hs w1 hg).mono ?_
    rintro e w2 ⟨r, rfl, hb, hr, hk⟩
    have HB := Lib.hid hb
    clear hb
    go_wp2_with fail
    go_ret
    refine ⟨r, rfl, HB.out, hr, fun a ha => hk a ?_⟩
    rcases ha.1 with h | h
    · exact ⟨h, ha.2.trans (text_4 h)⟩
    · rw [ha.2, text_16 h] at hm
      exact absurd hm (text16_nodot a)
  · have t1 : decide (0 ≤ Lib.indexByte s.data.toList 46) = false := by
      cases h : decide (0 ≤ Lib.indexByte s.data.toList 46) with
      | false => rfl
      | true => exact absurd ((indexByte_mem s.data.toList 46).1 h) hm
    have J := Tryd.strings_Contains_one s 46 w
    rw [t1] at J
    clear t1
    go_enter Tryd.func47, Tryd.ntmps47
    go_wp2_with fail
    refine J.mono ?_
    rintro e w1 ⟨rfl, rfl⟩
    go_wp2_with fail
    refine (guess16_any s hs w1 hg).mono ?_
    rintro e w2 ⟨r, rfl, hb, hr, hk⟩
    have HB := Lib.hid hb
    clear hb
    go_wp2_with fail
    go_ret
    refine ⟨r, rfl, HB.out, hr, fun a ha => hk a ?_⟩
    rcases ha.1 with h | h
    · rw [ha.2, text_4 h] at hm
      exact absurd (text4_dot a h) hm
    · exact ⟨h, ha.2.trans (text_16 h)⟩

/-- What Parse answers. -/
noncomputable def addrV (o : Option (List UInt8)) : Value := match o with
  | some a => .tuple #[.string ⟨a.toArray⟩, .int .i64 0]
  | none => .tuple #[.string ⟨#[]⟩, .int .i64 9]
theorem parse_any (s : ByteArray) (hs : s.size ≤ 1000) (w : World) (hg : G17 w) : Calls Tryd.prog 35 #[.string s] w (Tells (addrV (addrOf s.data.toList)) w) := by
  go_enter Tryd.func35, Tryd.ntmps35
  go_wp2_with fail
  refine (guess_any s hs w hg).mono ?_
  rintro e w1 ⟨r, rfl, hb, hr, hk⟩
  have hg1 := hg.on hb
  have HB := Lib.hid hb
  clear hb
  by_cases hi : IsA r.data.toList
  · by_cases ht : text r.data.toList = s.data.toList
    · have HA : Hid (addrOf s.data.toList = some r.data.toList) := Lib.hid (by rw [← ht]; exact addrOf_text hi)
      have hX : (⟨(text r.data.toList).toArray⟩ : ByteArray) = s := text_ext ht
      have J := print_any r hi w1 hg1
      rw [hX] at J
      clear ht hX
      go_wp2_with fail
      refine J.mono ?_
      rintro e w2 ⟨rfl, hb2⟩
      go_wp2_with fail
      go_ret2
      exact ⟨by rw [HA.out]; rfl, HB.out.trans (hb2.mono HB.out.size)⟩
    · have HA : Hid (addrOf s.data.toList = none) := Lib.hid (addrOf_none fun a ha e => ht (by rw [hk a ⟨ha, e⟩, e]))
      obtain ⟨X, hX⟩ : ∃ X : ByteArray, X = ⟨(text r.data.toList).toArray⟩ := ⟨_, rfl⟩
      have tX : (X.toList == s.toList) = false := by
        rw [beq_eq_false_iff_ne, ByteArray.toList_eq, ByteArray.toList_eq, hX]
        exact ht
      have J := print_any r hi w1 hg1
      rw [← hX] at J
      clear ht hX
      go_wp2_with fail
      refine J.mono ?_
      rintro e w2 ⟨rfl, hb2⟩
      go_wp2_with fail
      go_ret2
      exact ⟨by rw [HA.out]; rfl, HB.out.trans (hb2.mono HB.out.size)⟩
  · have HA : Hid (addrOf s.data.toList = none) := Lib.hid (addrOf_none fun a ha e => hi (by rw [hk a ⟨ha, e⟩]; exact ha))
    have h4 : r.size ≠ 4 := fun e => hi (Or.inl (by rw [Array.length_toList]; exact e))
    have h16 : r.size ≠ 16 := fun e => hi (Or.inr (by rw [Array.length_toList]; exact e))
    go_wp2_with fail
    refine (print_no r h4 h16 w1).mono ?_
    rintro e w2 ⟨rfl, hb2⟩
    go_wp2_with fail
    go_ret2
    exact ⟨by rw [HA.out]; rfl, HB.out.trans (hb2.mono HB.out.size)⟩

end Go.Proofs.YtpappmbnblaccaaDoor
