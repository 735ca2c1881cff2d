/-
  The document's digits and longest.
-/
import Derived.Test.YtpappmbnblaccaaGreatDoorAddrBack
import Derived.Test.YtpappmbnblaccaaGreatDoorAddrLeft
import Derived.OwnWalk
namespace Go.Proofs.YtpappmbnblaccaaGreatDoor
open Go.RowKit
set_option linter.unusedVariables false

def signs16 : ByteArray := ⟨#[48, 49, 50, 51, 52, 53, 54, 55, 56, 57, 97, 98, 99, 100, 101, 102]⟩
theorem signs16_cut : ∀ d : Fin 16, ((signs16.extract d.val (d.val + 1)).data.toList) = [sg d.val] := by decide +kernel

/-- What is told of a number's digits so far, and what is left. -/
def Dg (b N m : Nat) (suf : List UInt8) : Prop := (suf = [] ∧ m = N) ∨ (suf ≠ [] ∧ 1 ≤ m ∧ digs b N = digs b m ++ suf) ∨ (suf ≠ [] ∧ m = 0 ∧ digs b N = suf)
theorem Dg.next {b N m : Nat} {suf : List UInt8} (hb : 2 ≤ b) (h : Dg b N m suf) (hc : 1 ≤ m ∨ suf = []) : Dg b N (m / b) (sg (m % b) :: suf) := by
  have key : digs b N = digs b m ++ suf := by
    rcases h with ⟨rfl, rfl⟩ | ⟨_, _, h⟩ | ⟨h1, h2, _⟩
    · simp
    · exact h
    · rcases hc with hc | hc
      · omega
      · exact absurd hc h1
  by_cases hm : m < b
  · have e : m / b = 0 := Nat.div_eq_of_lt hm
    refine Or.inr (Or.inr ⟨by simp, e, ?_⟩)
    rw [key, digs_small hm, Nat.mod_eq_of_lt hm]
    rfl
  · refine Or.inr (Or.inl ⟨by simp, Nat.div_pos (by omega) (by omega), ?_⟩)
    rw [key, digs_big hb (by omega)]
    simp
theorem Dg.done {b N m : Nat} {suf : List UInt8} (h : Dg b N m suf) (hm : m = 0) (hs : suf ≠ []) : suf = digs b N := by
  rcases h with ⟨h, _⟩ | ⟨_, h, _⟩ | ⟨_, _, h⟩
  · exact absurd h hs
  · omega
  · exact h.symm
theorem Dg.len {b N m : Nat} {suf : List UInt8} (h : Dg b N m suf) (hb : 2 ≤ b) (hN : N ≤ 65535) : suf.length ≤ 16 := by
  have := digs_length hb 15 N (by have := pow_65535 hb; omega)
  rcases h with ⟨rfl, _⟩ | ⟨_, _, h⟩ | ⟨_, _, h⟩
  · simp
  · rw [h, List.length_append] at this; omega
  · rw [h] at this; omega
theorem isEmpty_list (s : ByteArray) : s.toList.isEmpty = decide (s.data.toList = []) := by
  rw [ByteArray.toList_eq]
  cases s.data.toList <;> simp

/-- How far the loop is from its end. -/
def dM (sn st : Value) : Nat := (intOf sn).toNat + (match st with | .string t => if t.size = 0 then 1 else 0 | _ => 0)
theorem dM_lt {z : Int} {m m' : Nat} {t t' : ByteArray} (hz : z = (m' : Int)) (h' : t'.data.toList ≠ []) (h : m' < m ∨ (m' = m ∧ t.size = 0)) : dM (.int .i64 z) (.string t') < dM (.int .i64 (m : Int)) (.string t) := by
  subst hz
  have hs : t'.size ≠ 0 := fun e => h' (List.length_eq_zero_iff.1 (by rw [Array.length_toList]; exact e))
  show m' + (if t'.size = 0 then 1 else 0) < m + (if t.size = 0 then 1 else 0)
  rw [if_neg hs]
  rcases h with h | ⟨h, h2⟩
  · omega
  · rw [if_pos h2]; omega

set_option maxRecDepth 100000 in
theorem rdigits_any (b N : Nat) (hb : b = 10 ∨ b = 16) (hN : N ≤ 65535) (w : World) : Calls Tryz.prog 26 #[.int .i64 (N : Int), .int .i64 (b : Int)] w (Tells (.string ⟨(digs b N).toArray⟩) w) := by
  have hb2 : 2 ≤ b := by omega
  have hb16 : b ≤ 16 := by omega
  go_enter Tryz.func26, Tryz.ntmps26
  go_wp2_with fail
  go_loopw [0, 5] (fun sn st wr => ∃ (m : Nat) (t : ByteArray), sn = .int .i64 (m : Int) ∧ st = .string t ∧ m ≤ 65535 ∧ Below w.heap.size w wr ∧ Hid (Dg b N m t.data.toList)) (fun sn st _ => dM sn st)
  case atStart => exact ⟨N, ⟨#[]⟩, rfl, rfl, hN, Below.refl _ _, Lib.hid (Or.inl ⟨rfl, rfl⟩)⟩
  case round =>
    obtain ⟨m, t, rfl, rfl, hm, hbel, HD⟩ := hrel
    have HB := Lib.hid hbel
    clear hbel
    have htl := HD.out.len hb2 hN
    have hts : t.size ≤ 16 := by rw [Array.length_toList] at htl; exact htl
    by_cases hc : 1 ≤ m ∨ t.data.toList = []
    · have HN := Lib.hid (HD.out.next hb2 hc)
      have ht : t.toList.isEmpty = decide (t.data.toList = []) := isEmpty_list t
      have hE : ∀ d, d < 16 → ((signs16.extract d (d + 1)) ++ t).data.toList = sg d :: t.data.toList := fun d hd => by
        rw [cat_list, signs16_cut ⟨d, hd⟩]
        rfl
      have HE := Lib.hid hE
      clear hE
      by_cases h1 : 1 ≤ m
      · clear hc ht
        rcases hb with rfl | rfl
        · go_wp2_with fail
          go_quiet (fail)
          go_wp2_with fail
          go_round
          case rel => exact ⟨_, _, _, _, _, _, _, _, _, _, _, _, _, _, _, _, _, _, _, _, _, ⟨m / 10, _, rfl, rfl, by omega, below_drewN HB.out _, Lib.hid (by show Dg 10 N (m / 10) (((signs16.extract (m % 10) (m % 10 + 1)) ++ t).data.toList); rw [HE.out _ (by omega)]; exact HN.out)⟩, rfl⟩
          case measure => exact dM_lt (m' := m / 10) rfl (by show ((signs16.extract (m % 10) (m % 10 + 1)) ++ t).data.toList ≠ []; rw [HE.out _ (by omega)]; simp) (Or.inl (by omega))
        · go_wp2_with fail
          go_quiet (fail)
          go_wp2_with fail
          go_round
          case rel => exact ⟨_, _, _, _, _, _, _, _, _, _, _, _, _, _, _, _, _, _, _, _, _, ⟨m / 16, _, rfl, rfl, by omega, below_drewN HB.out _, Lib.hid (by show Dg 16 N (m / 16) (((signs16.extract (m % 16) (m % 16 + 1)) ++ t).data.toList); rw [HE.out _ (by omega)]; exact HN.out)⟩, rfl⟩
          case measure => exact dM_lt (m' := m / 16) rfl (by show ((signs16.extract (m % 16) (m % 16 + 1)) ++ t).data.toList ≠ []; rw [HE.out _ (by omega)]; simp) (Or.inl (by omega))
      · obtain rfl : m = 0 := by omega
        have ht0 : t = ⟨#[]⟩ := text_ext (by rcases hc with h | h; omega; exact h)
        subst ht0
        clear hc ht
        rcases hb with rfl | rfl
        · go_wp2_with fail
          go_quiet (fail)
          go_wp2_with fail
          go_round
          case rel => exact ⟨_, _, _, _, _, _, _, _, _, _, _, _, _, _, _, _, _, _, _, _, _, ⟨0, _, rfl, rfl, by omega, below_drewN HB.out _, Lib.hid HN.out⟩, rfl⟩
          case measure => exact dM_lt (m' := 0) rfl (by decide) (Or.inr ⟨rfl, rfl⟩)
        · go_wp2_with fail
          go_quiet (fail)
          go_wp2_with fail
          go_round
          case rel => exact ⟨_, _, _, _, _, _, _, _, _, _, _, _, _, _, _, _, _, _, _, _, _, ⟨0, _, rfl, rfl, by omega, below_drewN HB.out _, Lib.hid HN.out⟩, rfl⟩
          case measure => exact dM_lt (m' := 0) rfl (by decide) (Or.inr ⟨rfl, rfl⟩)
    · obtain rfl : m = 0 := by omega
      have hne : t.data.toList ≠ [] := fun e => hc (Or.inr e)
      have ht : t.toList.isEmpty = false := by rw [isEmpty_list]; simpa using hne
      have hfin := HD.out.done rfl hne
      have htt : t = ⟨(digs b N).toArray⟩ := text_ext hfin
      have HT := Lib.hid htt
      clear hc hne htt hfin
      go_wp2_with fail
      go_ret
      exact ⟨by rw [← HT.out]; rfl, HB.out⟩

/-- A slice of numbers in memory. -/
def IntsAt (w : World) (g : Nat) (l : List Nat) : Prop := g < w.heap.size ∧ ∀ i, (h : i < l.length) → w.cell? ⟨g, i, none⟩ = some (.int .i64 ((l[i]'h : Nat) : Int))

set_option maxRecDepth 100000 in
theorem longest_any (g c : Nat) (l : List Nat) (hl : l.length = 8) (h16 : ∀ n ∈ l, n ≤ 65535) (w : World) (hI : IntsAt w g l) : Calls Tryz.prog 27 #[.slice (some ⟨g, 0, none⟩) 8 c] w (Tells (.tuple #[.int .i64 ((long l 8).1 : Int), .int .i64 ((long l 8).2 : Int)]) w) := by
  have HC : Hid (∀ i, (h : i < 8) → w.cell? ⟨g, i, none⟩ = some (.int .i64 ((l[i]'(by omega) : Nat) : Int))) := Lib.hid fun i h => hI.2 i (by omega)
  clear hI
  go_enter Tryz.func27, Tryz.ntmps27
  go_wp2_with fail
  go_loop [4, 5, 6] (fun sb sm si => ∃ k : Nat, k ≤ 8 ∧ si = .int .i64 (k : Int) ∧ sb = .int .i64 ((long l k).1 : Int) ∧ sm = .int .i64 ((long l k).2 : Int)) (fun _ _ si => 8 - (intOf si).toNat)
  case atStart => exact ⟨0, by omega, rfl, rfl, rfl⟩
  case round =>
    obtain ⟨k, hk, rfl, rfl, rfl⟩ := hrel
    by_cases hlt : k < 8
    · have hnext : long l (k + 1) = if run0 l k > (long l k).2 then (k, run0 l k) else long l k := rfl
      have hrl := run0_le l k
      have hm : (long l k).2 ≤ 8 := by
        have h1 := long_row l k
        have h2 := run0_le l (long l k).1
        omega
      generalize long l k = p at *
      obtain ⟨f, t⟩ := p
      simp only at hnext hm ⊢
      go_wp2_with fail
      go_loop [7] (fun se => ∃ e : Nat, k ≤ e ∧ e ≤ 8 ∧ se = .int .i64 (e : Int) ∧ Hid (run0 l k = e - k + run0 l e)) (fun se => 8 - (intOf se).toNat)
      case atStart => exact ⟨k, by omega, by omega, rfl, Lib.hid (by omega)⟩
      case round =>
        obtain ⟨e, he, he8, rfl, HE⟩ := hrel
        by_cases hlt8 : e < 8
        · have hc := HC.out e hlt8
          by_cases h0 : l[e]'(by omega) = 0
          · have hz : l[e]? = some 0 := by rw [List.getElem?_eq_getElem (by omega), h0]
            have HN : Hid (run0 l k = (e + 1) - k + run0 l (e + 1)) := Lib.hid (by have := HE.out; rw [run0_next l e hz] at this; omega)
            rw [h0] at hc
            go_wp2_with fail
            exact ⟨⟨e + 1, by omega, by omega, rfl, HN⟩, by simp [intOf]; omega⟩
          · have hz : l[e]? ≠ some 0 := by rw [List.getElem?_eq_getElem (by omega)]; exact fun x => h0 (Option.some.inj x)
            have HN : Hid (run0 l k = e - k) := Lib.hid (by have := HE.out; rw [run0_stop l e hz] at this; omega)
            generalize l[e]'(by omega) = n at hc h0
            have HZ := Lib.hid hnext
            clear hnext
            by_cases d2 : (t : Int) < (e : Int) - (k : Int)
            · have HX : Hid (long l (k + 1) = (k, e - k)) := Lib.hid (by rw [HZ.out, if_pos (by have := HN.out; omega)]; have := HN.out; rw [this])
              go_wp2_with fail
              exact ⟨⟨k + 1, by omega, rfl, by rw [HX.out], by rw [HX.out]; congr 1; omega⟩, by simp [intOf]; omega⟩
            · have HX : Hid (long l (k + 1) = (f, t)) := Lib.hid (by rw [HZ.out, if_neg (by have := HN.out; omega)])
              go_wp2_with fail
              exact ⟨⟨k + 1, by omega, rfl, by rw [HX.out], by rw [HX.out]⟩, by simp [intOf]; omega⟩
        · have HN : Hid (run0 l k = e - k) := Lib.hid (by have := HE.out; rw [run0_stop l e (by rw [List.getElem?_eq_none (by omega)]; simp)] at this; omega)
          have HZ := Lib.hid hnext
          clear hnext
          by_cases d2 : (t : Int) < (e : Int) - (k : Int)
          · have HX : Hid (long l (k + 1) = (k, e - k)) := Lib.hid (by rw [HZ.out, if_pos (by have := HN.out; omega)]; have := HN.out; rw [this])
            go_wp2_with fail
            exact ⟨⟨k + 1, by omega, rfl, by rw [HX.out], by rw [HX.out]; congr 1; omega⟩, by simp [intOf]; omega⟩
          · have HX : Hid (long l (k + 1) = (f, t)) := Lib.hid (by rw [HZ.out, if_neg (by have := HN.out; omega)])
            go_wp2_with fail
            exact ⟨⟨k + 1, by omega, rfl, by rw [HX.out], by rw [HX.out]⟩, by simp [intOf]; omega⟩
    · obtain rfl : k = 8 := by omega
      go_wp2_with fail
      go_ret2
      exact ⟨rfl, Below.refl _ _⟩

end Go.Proofs.YtpappmbnblaccaaGreatDoor
