/-
  strconv.ParseUint of base 16 and 16 bits, at every text.
-/
import Derived.Test.YtpappmbnblaccaaDoorVoneLib
import Derived.Lib.Walk
import Derived.Lib.ConvBytes
import Derived.Lib.AtoiAllMem
import Derived.Laws.Strings3
import Derived.Laws.Closers25
import Derived.Laws.Closers25b
import Derived.BigCall
import Derived.BigGuard
namespace Go.Proofs.YtpappmbnblaccaaDoor
open Go.RowKit
set_option linter.unusedVariables false

theorem or_u8 (a b : UInt8) : bits .or .u8 (a.toNat : Int) (b.toNat : Int) = ((a ||| b).toNat : Int) := by
  have h1 : (BitVec.ofInt 8 (a.toNat : Int)) = a.toBitVec := by rw [BitVec.ofInt_natCast]; simp
  have h2 : (BitVec.ofInt 8 (b.toNat : Int)) = b.toBitVec := by rw [BitVec.ofInt_natCast]; simp
  show IntKind.u8.wrap ((BitVec.ofInt 8 (a.toNat : Int) ||| BitVec.ofInt 8 (b.toNat : Int)).toNat : Nat) = _
  rw [h1, h2]
  have h3 : (a.toBitVec ||| b.toBitVec).toNat = (a ||| b).toNat := rfl
  rw [h3]
  have := (a ||| b).toNat_lt
  generalize (a ||| b).toNat = x at *
  simp only [IntKind.wrap, IntKind.bits, IntKind.signed]
  simp
  omega

theorem lower_any (c : UInt8) (w : World) : Calls Tryd.prog 90 #[.int .u8 (c.toNat : Int)] w fun e w' => e = .returned (.int .u8 ((c ||| 32).toNat : Int)) ∧ w' = w := by
  have HH := Lib.hid (show bits .or .u8 (c.toNat : Int) 32 = ((c ||| 32).toNat : Int) from or_u8 c 32)
  generalize (c ||| 32).toNat = y at HH
  go_enter Tryd.func90, Tryd.ntmps90
  go_wp2_with fail
  go_ret
  refine ⟨?_, rfl⟩
  rw [← HH.out]
  rfl

/-- How ParseUint of base 16 and 16 bits ends: the number and no error; or an error. -/
def PuEnd (s : List UInt8) (e : Ending) : Prop :=
  (∃ n : Nat, s ≠ [] ∧ pu 0 s = some n ∧ e = .returned (.tuple #[.int .u64 (n : Int), .nilIface])) ∨ ((s = [] ∨ pu 0 s = none) ∧ ∃ x k : Int, (k = 1 ∨ k = 2) ∧ e = .returned (.tuple #[.int .u64 x, .iface 117 (.int .i64 k)]))

set_option maxHeartbeats 32000000 in
set_option maxRecDepth 100000 in
theorem pu_inner (t : ByteArray) (ht : t.size ≤ 100000) (w : World) : Calls Tryd.prog 83 #[.string t, .int .i64 16, .int .i64 16] w fun e w' => PuEnd t.data.toList e ∧ Below w.heap.size w w' := by
  by_cases hne : t.size = 0
  · have h0 : t = ⟨#[]⟩ := text_ext (List.length_eq_zero_iff.1 (by rw [Array.length_toList]; exact hne))
    subst h0
    go_enter Tryd.func83, Tryd.ntmps83
    go_wp2_with fail
    go_ret2
    exact ⟨Or.inr ⟨Or.inl rfl, _, _, Or.inr rfl, rfl⟩, Below.refl _ _⟩
  have hemp : t.toList.isEmpty = false := by
    rw [← decide_eq_emptyBytes]
    exact decide_eq_false (fun h => hne (by rw [h]; rfl))
  have hcv := Lib.run_convert_string_bytes (P := Tryd.prog) w 9 54 5 t (u := .string) Tryd.underlying9 Tryd.underlying54 Tryd.underlying5
  have hB : ∀ j, j < t.size → (Lib.bytesWorld w 5 t).cell? ⟨w.heap.size, j, none⟩ = some (.int .u8 (t.data.toList.getD j 0).toNat) := fun j hj => Lib.bytesWorld_cell w 5 t j hj
  have hbel := Lib.bytesWorld_below w 5 t
  obtain ⟨W1, hW1⟩ : ∃ W1, W1 = Lib.bytesWorld w 5 t := ⟨_, rfl⟩
  rw [← hW1] at hcv hB hbel
  clear hW1
  have HBEL := Lib.hid hbel
  clear hbel
  obtain ⟨bs, hL⟩ : ∃ bs, bs = t.data.toList := ⟨_, rfl⟩
  have hLn : bs.length = t.size := by rw [hL, Lib.size_eq]
  rw [← hL] at hB ⊢
  have hbs : bs ≠ [] := fun e => by rw [e] at hLn; simp at hLn; omega
  clear hL
  have hmv : IntKind.u64.wrap (IntKind.u64.wrap 65536 - 1) = 65535 := by
    rw [IntKind.wrap_u64, IntKind.wrap_u64]
    decide
  go_enter Tryd.func83, Tryd.ntmps83
  go_wp2
  go_loop [12, 13, 101] (fun vu vn vi => ∃ (k acc : Nat) (a : Int), vu = .bool false ∧ vn = .int .u64 a ∧ vi = .int .i64 k ∧ k ≤ t.size ∧ Hid (a = (acc : Int) ∧ acc ≤ 65535 ∧ pu 0 bs = pu acc (bs.drop k)))
    (fun _ _ vi => t.size - (intOf vi).toNat)
  case atStart => exact ⟨0, 0, 0, rfl, rfl, rfl, by omega, Lib.hid ⟨rfl, by omega, rfl⟩⟩
  case round =>
    obtain ⟨k, acc, a, rfl, rfl, rfl, hk, hh⟩ := hrel
    obtain ⟨ha, hacc, hdec⟩ := hh.out
    clear hh
    have a0 : 0 ≤ a := by omega
    have a1 : a ≤ 65535 := by omega
    by_cases hkn : k < t.size
    · have hc := hB k hkn
      have hdrop : bs.drop k = bs[k]'(by omega) :: bs.drop (k + 1) := List.drop_eq_getElem_cons (by omega)
      have hget : bs.getD k 0 = bs[k]'(by omega) := by simp [List.getD, List.getElem?_eq_getElem (show k < bs.length by omega)]
      rw [hdrop] at hdec
      rw [hget] at hc
      generalize bs[k]'(by omega) = c at hc hdec
      have hc256 : c.toNat < 256 := c.toNat_lt
      clear hB hdrop hget
      rw [pu] at hdec
      by_cases hdig : 48 ≤ c.toNat ∧ c.toNat ≤ 57
      · obtain ⟨hd0, hd1⟩ := hdig
        have hF : hv c = some (c.toNat - 48) := by unfold hv; rw [if_pos ⟨hd0, hd1⟩]
        rw [hF] at hdec
        simp only at hdec
        by_cases hov : 65535 < acc * 16 + (c.toNat - 48)
        · rw [if_pos hov] at hdec
          have iov : 65535 < a * 16 + ((c.toNat : Int) - 48) := by omega
          clear hacc hF ha hov
          go_wp2
          go_ret2
          exact ⟨Or.inr ⟨Or.inr hdec, _, _, Or.inl rfl, rfl⟩, HBEL.out⟩
        · rw [if_neg hov] at hdec
          have HN : Hid (a * 16 + ((c.toNat : Int) - 48) = ((acc * 16 + (c.toNat - 48) : Nat) : Int) ∧ acc * 16 + (c.toNat - 48) ≤ 65535 ∧ pu 0 bs = pu (acc * 16 + (c.toNat - 48)) (bs.drop (k + 1))) := Lib.hid ⟨by omega, by omega, hdec⟩
          have iov : a * 16 + ((c.toNat : Int) - 48) ≤ 65535 := by omega
          clear hacc hF hov hdec ha
          go_wp2
          refine ⟨⟨k + 1, acc * 16 + (c.toNat - 48), a * 16 + ((c.toNat : Int) - 48), rfl, (by first | rfl | (congr 1; omega)), (by first | rfl | (congr 1; omega)), by omega, HN⟩, by simp [intOf]; omega⟩
      · have low := lower_any c
        by_cases hus : c.toNat = 95
        · have hF : hv c = none := by
            have : c = 95 := UInt8.toNat_inj.1 hus
            subst this
            decide
          rw [hF] at hdec
          simp only at hdec
          have e95 : c = 95 := UInt8.toNat_inj.1 hus
          subst e95
          have low : ∀ w, Calls Tryd.prog 90 #[.int .u8 95] w fun e w' => e = .returned (.int .u8 127) ∧ w' = w := fun w => lower_any 95 w
          have hc : W1.cell? ⟨w.heap.size, k, none⟩ = some (.int .u8 95) := hc
          clear hacc ha hF hdig
          go_wp2_with (go_at_call 90; refine (low _).mono ?_; rintro e w' ⟨rfl, rfl⟩)
          all_goals go_ret2
          all_goals exact ⟨Or.inr ⟨Or.inr hdec, _, _, Or.inr rfl, rfl⟩, HBEL.out⟩
        have hv' : hv c = if 97 ≤ (c ||| 32).toNat ∧ (c ||| 32).toNat ≤ 102 then some ((c ||| 32).toNat - 87) else none := by unfold hv; rw [if_neg hdig]
        rw [hv'] at hdec
        clear hv'
        have hy := (c ||| 32).toNat_lt
        generalize (c ||| 32).toNat = y at hdec low hy
        have hd95 : decide ((c.toNat : Int) = 95) = false := decide_eq_false (by omega)
        by_cases hl : 97 ≤ y ∧ y ≤ 102
        · rw [if_pos hl] at hdec
          simp only at hdec
          obtain ⟨l0, l1⟩ := hl
          by_cases hov : 65535 < acc * 16 + (y - 87)
          · rw [if_pos hov] at hdec
            have iov : 65535 < a * 16 + ((y : Int) - 97 + 10) := by omega
            clear hacc ha hov
            go_wp2_with (go_at_call 90; refine (low _).mono ?_; rintro e w' ⟨rfl, rfl⟩)
            all_goals go_ret2
            all_goals exact ⟨Or.inr ⟨Or.inr hdec, _, _, Or.inl rfl, rfl⟩, HBEL.out⟩
          · rw [if_neg hov] at hdec
            have HN : Hid (a * 16 + ((y : Int) - 97 + 10) = ((acc * 16 + (y - 87) : Nat) : Int) ∧ acc * 16 + (y - 87) ≤ 65535 ∧ pu 0 bs = pu (acc * 16 + (y - 87)) (bs.drop (k + 1))) := Lib.hid ⟨by omega, by omega, hdec⟩
            have iov : a * 16 + ((y : Int) - 97 + 10) ≤ 65535 := by omega
            clear hacc hov hdec ha
            go_wp2_with (go_at_call 90; refine (low _).mono ?_; rintro e w' ⟨rfl, rfl⟩)
            all_goals refine ⟨⟨k + 1, acc * 16 + (y - 87), a * 16 + ((y : Int) - 97 + 10), rfl, (by first | rfl | (congr 1; omega)), (by first | rfl | (congr 1; omega)), by omega, HN⟩, by simp [intOf]; omega⟩
        · rw [if_neg hl] at hdec
          simp only at hdec
          clear hacc ha
          by_cases l2 : 97 ≤ y
          · by_cases l3 : y ≤ 122
            · have l4 : 102 < y := by omega
              clear hl
              go_wp2_with (go_at_call 90; refine (low _).mono ?_; rintro e w' ⟨rfl, rfl⟩)
              all_goals go_ret2
              all_goals exact ⟨Or.inr ⟨Or.inr hdec, _, _, Or.inr rfl, rfl⟩, HBEL.out⟩
            · clear hl
              go_wp2_with (go_at_call 90; refine (low _).mono ?_; rintro e w' ⟨rfl, rfl⟩)
              all_goals go_ret2
              all_goals exact ⟨Or.inr ⟨Or.inr hdec, _, _, Or.inr rfl, rfl⟩, HBEL.out⟩
          · clear hl
            go_wp2_with (go_at_call 90; refine (low _).mono ?_; rintro e w' ⟨rfl, rfl⟩)
            all_goals go_ret2
            all_goals exact ⟨Or.inr ⟨Or.inr hdec, _, _, Or.inr rfl, rfl⟩, HBEL.out⟩
    · have hkk : k = t.size := by omega
      subst hkk
      have hF : pu acc (bs.drop t.size) = some acc := by rw [List.drop_eq_nil_of_le (by omega)]; rfl
      rw [hF] at hdec
      subst ha
      clear hacc hF a0 a1
      go_wp2
      go_ret2
      exact ⟨Or.inl ⟨acc, hbs, hdec, rfl⟩, HBEL.out⟩

/-- strconv.ParseUint of base 16 and 16 bits: the number and no error; or an error. -/
theorem pu_any (t : ByteArray) (ht : t.size ≤ 100000) (w : World) (hg : G17 w) : Calls Tryd.prog 75 #[.string t, .int .i64 16, .int .i64 16] w fun e w' =>
    ((∃ n : Nat, t.data.toList ≠ [] ∧ pu 0 t.data.toList = some n ∧ e = .returned (.tuple #[.int .u64 (n : Int), .nilIface])) ∨ ((t.data.toList = [] ∨ pu 0 t.data.toList = none) ∧ ∃ (x : Int) (T : TypeId) (p : Value), e = .returned (.tuple #[.int .u64 x, .iface T p]))) ∧ Below w.heap.size w w' := by
  go_enter Tryd.func75, Tryd.ntmps75
  go_wp2_with fail
  refine (pu_inner t ht _).mono ?_
  rintro e w1 ⟨hend, hb⟩
  obtain ⟨t1, p1, hs1⟩ := (hg.on hb).syn
  obtain ⟨t2, p2, hs2⟩ := (hg.on hb).rng
  have HB := Lib.hid hb
  clear hb
  rcases hend with ⟨n, h1, h2, rfl⟩ | ⟨h1, x, k, hk, rfl⟩
  · have HH := Lib.hid h2
    clear h2
    go_wp2_with fail
    go_ret2
    exact ⟨Or.inl ⟨n, h1, HH.out, rfl⟩, HB.out⟩
  · have HH := Lib.hid h1
    clear h1
    rcases hk with rfl | rfl
    · go_wp2_with fail
      refine (Tryd.strconv_toError_range _ t 16 16 _ _ (by omega) hs2 (Or.inr ⟨_, _, rfl⟩)).mono ?_
      rintro e w2 ⟨N, rfl, hN, hcN, hb2⟩
      go_wp2_with fail
      go_ret2
      exact ⟨Or.inr ⟨HH.out, _, _, _, rfl⟩, HB.out.trans (hb2.mono HB.out.size)⟩
    · go_wp2_with fail
      refine (Tryd.strconv_toError_syntax _ t 16 16 _ _ (by omega) hs1 (Or.inr ⟨_, _, rfl⟩)).mono ?_
      rintro e w2 ⟨N, rfl, hN, hcN, hb2⟩
      go_wp2_with fail
      go_ret2
      exact ⟨Or.inr ⟨HH.out, _, _, _, rfl⟩, HB.out.trans (hb2.mono HB.out.size)⟩

end Go.Proofs.YtpappmbnblaccaaDoor
