/-
  VoneUnknown: anything behind UNKNOWN and a blank.
-/
import Derived.Test.YtpappmbnblaccaaDoorVoneBare
namespace Go.Proofs.YtpappmbnblaccaaDoor
open Go.RowKit
set_option linter.unusedVariables false

/-- A text of a line's form that is too long. -/
theorem form_long {B rest : List UInt8} (h : (10 : UInt8) ∉ B) (hB : 100 ≤ B.length) : getE17 (formL B rest) = 4 ∧ getH17 (formL B rest) = S17.zero ∧ getN17 (formL B rest) = 0 := by
  have hl : 107 ≤ (formL B rest).length := by simp [formL, pre17]; omega
  have hneg : nlAt (formL B rest) < 0 := by
    by_cases hneg : nlAt (formL B rest) < 0
    · exact hneg
    · exfalso
      obtain ⟨k, hk⟩ : ∃ k : Nat, nlAt (formL B rest) = (k : Int) := ⟨(nlAt (formL B rest)).toNat, by omega⟩
      have h2 := nlAt_is hk
      have e : formL B rest = (pre17 ++ B ++ [13]) ++ ([10] ++ rest) := by simp [formL]
      have hl2 : (pre17 ++ B ++ [13]).length = B.length + 7 := by simp [pre17]
      have hx := h2.2.1
      rw [e, List.getElem?_append_left (by omega)] at hx
      have hm := List.mem_of_getElem? hx
      rw [List.mem_append, List.mem_append] at hm
      rcases hm with (hm | hm) | hm
      · exact absurd hm (by decide)
      · exact h hm
      · exact absurd hm (by decide)
  have e : getE17 (formL B rest) = 4 := by
    unfold getE17
    rw [if_neg (fun x => x (form_sign B rest)), if_pos hneg, if_pos hl]
  unfold getH17 getN17
  rw [e]
  exact ⟨rfl, rfl, rfl⟩
theorem said_junk (j : List UInt8) : saidS (uword ++ 32 :: j) = some S17.zero := by
  have h := sp_at 32 uword j
  rw [sp_word 32 uword (by decide)] at h
  rw [saidS_words h, if_pos rfl]

set_option maxRecDepth 100000 in
set_option maxHeartbeats 2000000 in
theorem unknown17_any (junk rest : ByteArray) (w : World) (hg : G17 w) : Calls Tryd.prog 5 #[.string junk, .string rest] w (AwakeEnd w) := by
  have GE := Lib.hid (fun b hs W hW => get17_any b hs W hW)
  have SM := Lib.hid (fun W => same17_any false 0 ⟨#[]⟩ ⟨#[]⟩ 0 0 none none 0 0 W)
  by_cases h300 : junk.size ≤ 300
  · by_cases h3000 : rest.size ≤ 3000
    · go_enter Tryd.func5, Tryd.ntmps5
      go_wp2_with fail
      refine (awake17_any w hg).mono ?_
      rintro e w1 ⟨rfl, hb1⟩
      have hg1 := hg.on hb1
      have HB1 := Lib.hid hb1
      clear hb1
      go_wp2_with fail
      go_loop [5] (fun si => ∃ k : Nat, si = .int .i64 (k : Int) ∧ k ≤ junk.size ∧ Hid (∀ j, j < k → junk.data.toList[j]? ≠ some 10)) (fun si => 1000 - (intOf si).toNat)
      case atStart => exact ⟨0, rfl, by omega, Lib.hid (fun j hj => absurd hj (by omega))⟩
      case round =>
        obtain ⟨k, rfl, hk1, HN⟩ := hrel
        by_cases hlt : k < junk.size
        · have hb : ∀ W, (Instr.index 9 (.string junk) (.int .i64 (k : Int))).run Tryd.prog W = .ok (.int .u8 ((junk[k]'hlt).toNat : Int)) W := fun W => by
            rw [run_index_string W 9 junk .i64 _ Tryd.underlying9, dif_pos ⟨by omega, by omega⟩]
            rfl
          have hat : junk.data.toList[k]? = some (junk[k]'hlt) := by
            rw [List.getElem?_eq_getElem (by rw [Array.length_toList]; exact hlt)]
            rfl
          generalize (junk[k]'hlt) = c at *
          by_cases hx : c = 10
          · have t : ((c.toNat : Int) == 10) = true := by rw [hx]; rfl
            clear hat hx
            go_wp2_with fail
            go_ret
            exact ⟨rfl, HB1.out⟩
          · have HN2 : Hid (∀ j, j < k + 1 → junk.data.toList[j]? ≠ some 10) := Lib.hid (fun j hj => by
              rcases Nat.lt_succ_iff_lt_or_eq.1 hj with h | rfl
              · exact HN.out j h
              · rw [hat]; intro e; exact hx (Option.some.inj e))
            have t : ((c.toNat : Int) == 10) = false := beq_false_of_ne (fun e => hx (UInt8.toNat_inj.1 (by show c.toNat = 10; omega)))
            clear hat hx
            go_wp2_with fail
            refine ⟨⟨k + 1, rfl, by omega, HN2⟩, by simp [intOf]; omega⟩
        · obtain rfl : k = junk.size := by omega
          have h10 : (10 : UInt8) ∉ junk.data.toList := fun hm => by
            obtain ⟨j, hj⟩ := List.mem_iff_getElem?.1 hm
            have hl := (List.getElem?_eq_some_iff.1 hj).1
            rw [Array.length_toList] at hl
            exact HN.out j hl hj
          have hB10 : (10 : UInt8) ∉ uword ++ 32 :: junk.data.toList := fun hm => by
            rcases List.mem_append.1 hm with h | h
            · exact absurd h (by decide)
            · rcases List.mem_cons.1 h with h | h
              · exact absurd h (by decide)
              · exact h10 h
          have hBl : (uword ++ 32 :: junk.data.toList).length = junk.size + 8 := by
            rw [List.length_append, List.length_cons, Array.length_toList]
            show 7 + (junk.size + 1) = _
            omega
          have hT : ((⟨#[80, 82, 79, 88, 89, 32, 85, 78, 75, 78, 79, 87, 78, 32]⟩ : ByteArray) ++ junk ++ ⟨#[13, 10]⟩ ++ rest).data.toList = formL (uword ++ 32 :: junk.data.toList) rest.data.toList := by
            rw [cat_list, cat_list, cat_list]
            unfold formL
            simp [pre17, uword]
          have hTs : ((⟨#[80, 82, 79, 88, 89, 32, 85, 78, 75, 78, 79, 87, 78, 32]⟩ : ByteArray) ++ junk ++ ⟨#[13, 10]⟩ ++ rest).size ≤ 1000000 := by
            rw [cat_size, cat_size, cat_size]
            show 14 + junk.size + 2 + rest.size ≤ 1000000
            omega
          have J := GE.out _ hTs w1 hg1
          rw [hT] at J
          have a1 : ¬ (9223372036854775807 < 14 + junk.size) := by omega
          have a2 : ¬ (9223372036854775807 < 14 + junk.size + 2) := by omega
          have a3 : ¬ (9223372036854775807 < 14 + junk.size + 2 + rest.size) := by omega
          by_cases hbig : 107 < 14 + junk.size + 2
          · have hf := form_long (rest := rest.data.toList) hB10 (by rw [hBl]; omega)
            rw [hf.1, hf.2.1, hf.2.2] at J
            change Calls _ _ _ w1 (Tells (.tuple #[.agg #[.bool false, .int .i64 0, .string ⟨#[]⟩, .string ⟨#[]⟩, .int .i64 0, .int .i64 0, .slice none 0 0], .int .i64 0, .int .i64 4]) w1) at J
            clear h10 hB10 hBl hT hTs hf HN
            go_wp2_with fail
            refine J.mono ?_
            rintro e w2 ⟨rfl, hb2⟩
            have B5 := Blk.new w2 #[.bool false, .int .i64 0, .string ⟨#[]⟩, .string ⟨#[]⟩, .int .i64 0, .int .i64 0, .slice none 0 0] 24
            have L5 := hb2.alloc hb2.size (.cells #[.bool false, .int .i64 0, .string ⟨#[]⟩, .string ⟨#[]⟩, .int .i64 0, .int .i64 0, .slice none 0 0] 24)
            have SM1 := Lib.hid (fun W => SM.out W)
            have t107 : decide ((107 : Int) < ((14 + junk.size + 2 : Nat) : Int)) = true := by simp; omega
            clear J hb2
            go_wp2_with fail
            refine (SM1.out _).mono ?_
            rintro e w3 ⟨rfl, hb3⟩
            go_wp2_with fail
            go_ret
            exact ⟨rfl, HB1.out.trans ((L5.trans (hb3.mono L5.size)).mono HB1.out.size)⟩
          · have hf := form_get (rest := rest.data.toList) hB10 (by rw [hBl]; omega) (said_junk _)
            rw [hf.1, hf.2.1, hf.2.2, hBl] at J
            change Calls _ _ _ w1 (Tells (.tuple #[.agg #[.bool false, .int .i64 0, .string ⟨#[]⟩, .string ⟨#[]⟩, .int .i64 0, .int .i64 0, .slice none 0 0], .int .i64 ((junk.size + 8 + 8 : Nat) : Int), .int .i64 0]) w1) at J
            have tn : (((junk.size + 8 + 8 : Nat) : Int) == 14 + (junk.size : Int) + 2) = true := by simp; omega
            clear h10 hB10 hBl hT hTs hf HN
            go_wp2_with fail
            refine J.mono ?_
            rintro e w2 ⟨rfl, hb2⟩
            have B5 := Blk.new w2 #[.bool false, .int .i64 0, .string ⟨#[]⟩, .string ⟨#[]⟩, .int .i64 0, .int .i64 0, .slice none 0 0] 24
            have L5 := hb2.alloc hb2.size (.cells #[.bool false, .int .i64 0, .string ⟨#[]⟩, .string ⟨#[]⟩, .int .i64 0, .int .i64 0, .slice none 0 0] 24)
            have SM1 := Lib.hid (fun W => SM.out W)
            clear J hb2
            go_wp2_with fail
            refine (SM1.out _).mono ?_
            rintro e w3 ⟨rfl, hb3⟩
            go_wp2_with fail
            go_ret
            exact ⟨rfl, HB1.out.trans ((L5.trans (hb3.mono L5.size)).mono HB1.out.size)⟩
    · have HB := Lib.hid (fun w1 (h : Below w.heap.size w w1) => h)
      go_enter Tryd.func5, Tryd.ntmps5
      go_wp2_with fail
      refine (awake17_any w hg).mono ?_
      rintro e w1 ⟨rfl, hb1⟩
      have HB1 := Lib.hid hb1
      clear hb1
      go_wp2_with fail
      go_ret
      exact ⟨rfl, HB1.out⟩
  · go_enter Tryd.func5, Tryd.ntmps5
    go_wp2_with fail
    refine (awake17_any w hg).mono ?_
    rintro e w1 ⟨rfl, hb1⟩
    have HB1 := Lib.hid hb1
    clear hb1
    go_wp2_with fail
    go_ret
    exact ⟨rfl, HB1.out⟩

end Go.Proofs.YtpappmbnblaccaaDoor
