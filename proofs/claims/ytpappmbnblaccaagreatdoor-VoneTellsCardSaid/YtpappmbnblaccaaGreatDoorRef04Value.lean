/-
  The document's value: the number that a text is by a base.
-/
import Derived.Test.YtpappmbnblaccaaGreatDoorRef04Digits
import Derived.Lib.ItoaWalk
namespace Go.Proofs.YtpappmbnblaccaaGreatDoor
open Go.RowKit
set_option linter.unusedVariables false

/-- A digit found among so many signs. -/
def dn (b : Nat) (c : UInt8) (j : Nat) : Int := match dv b c with
  | some x => if x < j then (x : Int) else -1
  | none => -1
theorem dn_next {b : Nat} {c : UInt8} {j : Nat} (hb : b ≤ 16) (hj : j < b) : dn b c (j + 1) = if sg j = c then (j : Int) else dn b c j := by
  unfold dn
  by_cases h : sg j = c
  · rw [if_pos h, ← h, dv_sg hb hj]
    simp
  · rw [if_neg h]
    cases hd : dv b c with
    | none => rfl
    | some x =>
      have hx := (dv_some hd).2
      have : x ≠ j := by rintro rfl; exact h hx.symm
      simp only
      by_cases hlt : x < j
      · rw [if_pos hlt, if_pos (by omega)]
      · rw [if_neg hlt, if_neg (by omega)]
theorem dn_bound (b : Nat) (c : UInt8) (j : Nat) : -1 ≤ dn b c j ∧ dn b c j ≤ 16 := by
  unfold dn
  cases hd : dv b c with
  | none => simp
  | some x =>
    have hx : x < 16 := by
      unfold dv at hd
      split at hd
      · have := Option.some.inj hd; omega
      · split at hd
        · have := Option.some.inj hd; omega
        · cases hd
    simp only
    split <;> omega
theorem dn_all {b : Nat} {c : UInt8} : dn b c b = match dv b c with | some x => (x : Int) | none => -1 := by
  unfold dn
  cases hd : dv b c with
  | none => rfl
  | some x => simp only; rw [if_pos (dv_some hd).1]
theorem signs16_fin : ∀ d : Fin 16, signs16.data.toList.getD d.val 0 = sg d.val := by decide +kernel
theorem signs16_at (j : Nat) (hj : j < 16) (W : World) : (Instr.index 9 (.string signs16) (.int .i64 (j : Int))).run Tryz.prog W = .ok (.int .u8 ((sg j).toNat : Int)) W := by
  have hs : signs16.size = 16 := by decide +kernel
  rw [run_index_string W 9 signs16 .i64 _ Tryz.underlying9, dif_pos ⟨by omega, by rw [hs]; omega⟩]
  simp only [Int.toNat_natCast]
  rw [Lib.getD_at signs16 j (by rw [hs]; omega), signs16_fin ⟨j, hj⟩]
/-- What value answers. -/
def valV (o : Option Nat) : Int := match o with
  | some n => (n : Int)
  | none => -1

set_option maxRecDepth 100000 in
set_option maxHeartbeats 1000000 in
theorem rvalue_loop10 (s : ByteArray) (hs : s.size ≤ 18) (hgo : val 10 s.data.toList = valF 10 0 s.data.toList) (w : World) (T0 : (s.size : Int) ≠ 0) (T1 : (1 < s.size ∧ s.data.toList.head? = some 48) → False) : Calls Tryz.prog 33 #[.string s, .int .i64 10] w (Tells (.int .i64 (valV (val 10 s.data.toList))) w) := by
  rw [hgo]
  clear hgo
  have hs0 : s.size ≠ 0 := by omega
  have hi0 : ∀ W, (Instr.index 9 (.string s) (.int .i64 0)).run Tryz.prog W = .ok (.int .u8 ((s[0]'(by omega)).toNat : Int)) W := fun W => by
    rw [run_index_string W 9 s .i64 _ Tryz.underlying9, dif_pos ⟨by omega, by omega⟩]
    rfl
  have hz : ((s.size : Int) == 0) = false := beq_false_of_ne (by omega)
  have hfirst : (¬ (1 : Int) < (s.size : Int)) ∨ ((1 : Int) < (s.size : Int) ∧ (((s[0]'(by omega)).toNat : Int) == 48) = false) := by
    by_cases h : 1 < s.size
    · refine Or.inr ⟨by omega, ?_⟩
      have hne : s[0]'(by omega) ≠ 48 := fun e => T1 ⟨h, by
        rw [Lib.getD_at s 0 (by omega)] at e
        cases hl : s.data.toList with
        | nil =>
          have h9 : s.data.toList.length = s.size := by rw [Array.length_toList]; rfl
          rw [hl] at h9
          exact absurd h9.symm hs0
        | cons a l => rw [hl] at e; simpa using e⟩
      have : (s[0]'(by omega)).toNat ≠ 48 := fun e => hne (UInt8.toNat_inj.1 e)
      simp; omega
    · exact Or.inl (by omega)
  generalize ((s[0]'(by omega)).toNat : Int) = x0 at *
  rcases hfirst with f1 | ⟨f1, f2⟩
  all_goals
    go_enter Tryz.func33, Tryz.ntmps33
    go_wp2_with fail
    clear hi0 hz T1 f1
    go_loopw [5, 6] (fun sn si wr => ∃ k acc : Nat, k ≤ s.size ∧ si = .int .i64 (k : Int) ∧ sn = .int .i64 (acc : Int) ∧ acc ≤ 100000000000000000 ∧ Hid (valF 10 0 s.data.toList = valF 10 acc (s.data.toList.drop k)) ∧ Hid (Below w.heap.size w wr)) (fun _ si _ => 100 - (intOf si).toNat)
    case atStart => exact ⟨0, 0, by omega, rfl, rfl, by omega, Lib.hid rfl, Lib.hid (Below.refl _ _)⟩
    case round =>
      obtain ⟨k, acc, hk, rfl, rfl, hacc, HV, HB⟩ := hrel
      by_cases hlt : k < s.size
      · have hc0 : ∀ W, (Instr.index 9 (.string s) (.int .i64 (k : Int))).run Tryz.prog W = .ok (.int .u8 ((s[k]'hlt).toNat : Int)) W := fun W => by
          rw [run_index_string W 9 s .i64 _ Tryz.underlying9, dif_pos ⟨by omega, by omega⟩]
          rfl
        have hdrop : s.data.toList.drop k = s[k]'hlt :: s.data.toList.drop (k + 1) := List.drop_eq_getElem_cons (by rw [Array.length_toList]; exact hlt)
        have HV2 : Hid (valF 10 0 s.data.toList = valF 10 acc (s[k]'hlt :: s.data.toList.drop (k + 1))) := Lib.hid (by rw [HV.out, hdrop])
        clear hdrop
        generalize s[k]'hlt = c at *
        obtain ⟨rest, hrest⟩ : ∃ r, r = s.data.toList.drop (k + 1) := ⟨_, rfl⟩
        rw [← hrest] at HV2
        have HR := Lib.hid hrest
        clear hrest
        go_wp2_with fail
        go_loopw [7, 8] (fun sd sj wr => ∃ j : Nat, j ≤ 10 ∧ sj = .int .i64 (j : Int) ∧ sd = .int .i64 (dn 10 c j) ∧ Hid (Below w.heap.size w wr)) (fun _ sj _ => 100 - (intOf sj).toNat)
        case atStart =>
          refine ⟨0, by omega, rfl, ?_, HB⟩
          congr 1
          unfold dn
          split <;> rfl
        case round =>
          obtain ⟨j, hj, rfl, rfl, HB2⟩ := hrel
          have hdb := dn_bound 10 c j
          by_cases hjl : j < 10
          · have hnext := dn_next (b := 10) (c := c) (j := j) (by omega) hjl
            have hq := signs16_at j (by omega)
            unfold signs16 at hq
            by_cases heq : sg j = c
            · rw [if_pos heq] at hnext
              rw [heq] at hq
              have HN := Lib.hid hnext
              have te : ((c.toNat : Int) == (c.toNat : Int)) = true := by simp
              clear hnext
              generalize dn 10 c j = D at *
              go_wp2_with fail
              go_quiet (fail)
              go_wp2_with fail
              exact ⟨⟨j + 1, by omega, rfl, by rw [HN.out], Lib.hid (below_drewN HB2.out _)⟩, by simp [intOf]; omega⟩
            · rw [if_neg heq] at hnext
              have HN := Lib.hid hnext
              have te : (((sg j).toNat : Int) == (c.toNat : Int)) = false := by
                have : (sg j).toNat ≠ c.toNat := fun e => heq (UInt8.toNat_inj.1 e)
                simp; omega
              clear hnext
              generalize dn 10 c j = D at *
              go_wp2_with fail
              go_quiet (fail)
              go_wp2_with fail
              exact ⟨⟨j + 1, by omega, rfl, by rw [HN.out], Lib.hid (below_drewN HB2.out _)⟩, by simp [intOf]; omega⟩
          · obtain rfl : j = 10 := by omega
            have hall := dn_all (b := 10) (c := c)
            cases hd : dv 10 c with
            | none =>
              rw [hd] at hall
              have HF : Hid (valF 10 0 s.data.toList = none) := Lib.hid (by rw [HV2.out, valF, hd])
              rw [hall]
              clear hall hdb hc0
              go_wp2_with fail
              go_ret
              exact ⟨by rw [HF.out]; rfl, HB2.out⟩
            | some x =>
              rw [hd] at hall
              have hx : x < 10 := (dv_some hd).1
              have HF : Hid (valF 10 0 s.data.toList = if 100000000000000000 < acc * 10 + x then none else valF 10 (acc * 10 + x) rest) := Lib.hid (by rw [HV2.out, valF, hd])
              rw [hall]
              clear hall hdb hc0
              by_cases hov : 100000000000000000 < acc * 10 + x
              · have HF2 := Lib.hid (HF.out.trans (if_pos hov))
                have ho : (100000000000000000 : Int) < (acc : Int) * 10 + (x : Int) := by omega
                go_wp2_with fail
                go_ret
                exact ⟨by rw [HF2.out]; rfl, HB2.out⟩
              · have HF2 := Lib.hid (HF.out.trans (if_neg hov))
                have ho : (acc : Int) * 10 + (x : Int) ≤ 100000000000000000 := by omega
                go_wp2_with fail
                exact ⟨⟨k + 1, acc * 10 + x, by omega, rfl, by push_cast; rfl, by omega, Lib.hid (HF2.out.trans (by rw [HR.out])), HB2⟩, by simp [intOf]; omega⟩
      · obtain rfl : k = s.size := by omega
        have HF : Hid (valF 10 0 s.data.toList = some acc) := Lib.hid (by
          rw [HV.out, List.drop_eq_nil_of_le (by rw [Array.length_toList]; exact Nat.le_refl _)]
          rfl)
        go_wp2_with fail
        go_ret
        exact ⟨by rw [HF.out]; rfl, HB.out⟩

set_option maxRecDepth 100000 in
set_option maxHeartbeats 1000000 in
theorem rvalue_loop16 (s : ByteArray) (hs : s.size ≤ 18) (hgo : val 16 s.data.toList = valF 16 0 s.data.toList) (w : World) (T0 : (s.size : Int) ≠ 0) (T1 : (1 < s.size ∧ s.data.toList.head? = some 48) → False) : Calls Tryz.prog 33 #[.string s, .int .i64 16] w (Tells (.int .i64 (valV (val 16 s.data.toList))) w) := by
  rw [hgo]
  clear hgo
  have hs0 : s.size ≠ 0 := by omega
  have hi0 : ∀ W, (Instr.index 9 (.string s) (.int .i64 0)).run Tryz.prog W = .ok (.int .u8 ((s[0]'(by omega)).toNat : Int)) W := fun W => by
    rw [run_index_string W 9 s .i64 _ Tryz.underlying9, dif_pos ⟨by omega, by omega⟩]
    rfl
  have hz : ((s.size : Int) == 0) = false := beq_false_of_ne (by omega)
  have hfirst : (¬ (1 : Int) < (s.size : Int)) ∨ ((1 : Int) < (s.size : Int) ∧ (((s[0]'(by omega)).toNat : Int) == 48) = false) := by
    by_cases h : 1 < s.size
    · refine Or.inr ⟨by omega, ?_⟩
      have hne : s[0]'(by omega) ≠ 48 := fun e => T1 ⟨h, by
        rw [Lib.getD_at s 0 (by omega)] at e
        cases hl : s.data.toList with
        | nil =>
          have h9 : s.data.toList.length = s.size := by rw [Array.length_toList]; rfl
          rw [hl] at h9
          exact absurd h9.symm hs0
        | cons a l => rw [hl] at e; simpa using e⟩
      have : (s[0]'(by omega)).toNat ≠ 48 := fun e => hne (UInt8.toNat_inj.1 e)
      simp; omega
    · exact Or.inl (by omega)
  generalize ((s[0]'(by omega)).toNat : Int) = x0 at *
  rcases hfirst with f1 | ⟨f1, f2⟩
  all_goals
    go_enter Tryz.func33, Tryz.ntmps33
    go_wp2_with fail
    clear hi0 hz T1 f1
    go_loopw [5, 6] (fun sn si wr => ∃ k acc : Nat, k ≤ s.size ∧ si = .int .i64 (k : Int) ∧ sn = .int .i64 (acc : Int) ∧ acc ≤ 62500000000000000 ∧ Hid (valF 16 0 s.data.toList = valF 16 acc (s.data.toList.drop k)) ∧ Hid (Below w.heap.size w wr)) (fun _ si _ => 100 - (intOf si).toNat)
    case atStart => exact ⟨0, 0, by omega, rfl, rfl, by omega, Lib.hid rfl, Lib.hid (Below.refl _ _)⟩
    case round =>
      obtain ⟨k, acc, hk, rfl, rfl, hacc, HV, HB⟩ := hrel
      by_cases hlt : k < s.size
      · have hc0 : ∀ W, (Instr.index 9 (.string s) (.int .i64 (k : Int))).run Tryz.prog W = .ok (.int .u8 ((s[k]'hlt).toNat : Int)) W := fun W => by
          rw [run_index_string W 9 s .i64 _ Tryz.underlying9, dif_pos ⟨by omega, by omega⟩]
          rfl
        have hdrop : s.data.toList.drop k = s[k]'hlt :: s.data.toList.drop (k + 1) := List.drop_eq_getElem_cons (by rw [Array.length_toList]; exact hlt)
        have HV2 : Hid (valF 16 0 s.data.toList = valF 16 acc (s[k]'hlt :: s.data.toList.drop (k + 1))) := Lib.hid (by rw [HV.out, hdrop])
        clear hdrop
        generalize s[k]'hlt = c at *
        obtain ⟨rest, hrest⟩ : ∃ r, r = s.data.toList.drop (k + 1) := ⟨_, rfl⟩
        rw [← hrest] at HV2
        have HR := Lib.hid hrest
        clear hrest
        go_wp2_with fail
        go_loopw [7, 8] (fun sd sj wr => ∃ j : Nat, j ≤ 16 ∧ sj = .int .i64 (j : Int) ∧ sd = .int .i64 (dn 16 c j) ∧ Hid (Below w.heap.size w wr)) (fun _ sj _ => 100 - (intOf sj).toNat)
        case atStart =>
          refine ⟨0, by omega, rfl, ?_, HB⟩
          congr 1
          unfold dn
          split <;> rfl
        case round =>
          obtain ⟨j, hj, rfl, rfl, HB2⟩ := hrel
          have hdb := dn_bound 16 c j
          by_cases hjl : j < 16
          · have hnext := dn_next (b := 16) (c := c) (j := j) (by omega) hjl
            have hq := signs16_at j (by omega)
            unfold signs16 at hq
            by_cases heq : sg j = c
            · rw [if_pos heq] at hnext
              rw [heq] at hq
              have HN := Lib.hid hnext
              have te : ((c.toNat : Int) == (c.toNat : Int)) = true := by simp
              clear hnext
              generalize dn 16 c j = D at *
              go_wp2_with fail
              go_quiet (fail)
              go_wp2_with fail
              exact ⟨⟨j + 1, by omega, rfl, by rw [HN.out], Lib.hid (below_drewN HB2.out _)⟩, by simp [intOf]; omega⟩
            · rw [if_neg heq] at hnext
              have HN := Lib.hid hnext
              have te : (((sg j).toNat : Int) == (c.toNat : Int)) = false := by
                have : (sg j).toNat ≠ c.toNat := fun e => heq (UInt8.toNat_inj.1 e)
                simp; omega
              clear hnext
              generalize dn 16 c j = D at *
              go_wp2_with fail
              go_quiet (fail)
              go_wp2_with fail
              exact ⟨⟨j + 1, by omega, rfl, by rw [HN.out], Lib.hid (below_drewN HB2.out _)⟩, by simp [intOf]; omega⟩
          · obtain rfl : j = 16 := by omega
            have hall := dn_all (b := 16) (c := c)
            cases hd : dv 16 c with
            | none =>
              rw [hd] at hall
              have HF : Hid (valF 16 0 s.data.toList = none) := Lib.hid (by rw [HV2.out, valF, hd])
              rw [hall]
              clear hall hdb hc0
              go_wp2_with fail
              go_ret
              exact ⟨by rw [HF.out]; rfl, HB2.out⟩
            | some x =>
              rw [hd] at hall
              have hx : x < 16 := (dv_some hd).1
              have HF : Hid (valF 16 0 s.data.toList = if 62500000000000000 < acc * 16 + x then none else valF 16 (acc * 16 + x) rest) := Lib.hid (by rw [HV2.out, valF, hd])
              rw [hall]
              clear hall hdb hc0
              by_cases hov : 62500000000000000 < acc * 16 + x
              · have HF2 := Lib.hid (HF.out.trans (if_pos hov))
                have ho : (62500000000000000 : Int) < (acc : Int) * 16 + (x : Int) := by omega
                go_wp2_with fail
                go_ret
                exact ⟨by rw [HF2.out]; rfl, HB2.out⟩
              · have HF2 := Lib.hid (HF.out.trans (if_neg hov))
                have ho : (acc : Int) * 16 + (x : Int) ≤ 62500000000000000 := by omega
                go_wp2_with fail
                exact ⟨⟨k + 1, acc * 16 + x, by omega, rfl, by push_cast; rfl, by omega, Lib.hid (HF2.out.trans (by rw [HR.out])), HB2⟩, by simp [intOf]; omega⟩
      · obtain rfl : k = s.size := by omega
        have HF : Hid (valF 16 0 s.data.toList = some acc) := Lib.hid (by
          rw [HV.out, List.drop_eq_nil_of_le (by rw [Array.length_toList]; exact Nat.le_refl _)]
          rfl)
        go_wp2_with fail
        go_ret
        exact ⟨by rw [HF.out]; rfl, HB.out⟩

theorem rvalue_any (b : Nat) (hb : b = 10 ∨ b = 16) (s : ByteArray) (hs : s.size ≤ 100000) (w : World) : Calls Tryz.prog 33 #[.string s, .int .i64 (b : Int)] w (Tells (.int .i64 (valV (val b s.data.toList))) w) := by
  have hlen : s.data.toList.length = s.size := by rw [Array.length_toList]; rfl
  by_cases h0 : s.size = 0
  · have hs0 : s = ⟨#[]⟩ := text_ext (List.length_eq_zero_iff.1 (by rw [hlen]; exact h0))
    subst hs0
    go_enter Tryz.func33, Tryz.ntmps33
    go_wp2_with fail
    go_ret
    exact ⟨rfl, Below.refl _ _⟩
  by_cases h18 : 18 < s.size
  · have HV : Hid (val b s.data.toList = none) := Lib.hid (by unfold val; rw [if_pos (Or.inr (Or.inl (by rw [hlen]; exact h18)))])
    have hz : ((s.size : Int) == 0) = false := beq_false_of_ne (by omega)
    have h18' : (18 : Int) < (s.size : Int) := by omega
    clear hlen
    go_enter Tryz.func33, Tryz.ntmps33
    go_wp2_with fail
    go_ret
    exact ⟨by rw [HV.out]; rfl, Below.refl _ _⟩
  by_cases h1 : 1 < s.size ∧ s.data.toList.head? = some 48
  · have HV : Hid (val b s.data.toList = none) := Lib.hid (by unfold val; rw [if_pos (Or.inr (Or.inr ⟨by rw [hlen]; exact h1.1, h1.2⟩))])
    have hz : ((s.size : Int) == 0) = false := beq_false_of_ne (by omega)
    have h18' : (s.size : Int) ≤ 18 := by omega
    have h1' : (1 : Int) < (s.size : Int) := by omega
    have hi0 : ∀ W, (Instr.index 9 (.string s) (.int .i64 0)).run Tryz.prog W = .ok (.int .u8 48) W := fun W => by
      rw [run_index_string W 9 s .i64 _ Tryz.underlying9, dif_pos ⟨by omega, by omega⟩]
      have e : s[(0 : Int).toNat]'(by show 0 < s.size; omega) = 48 := by
        show s[0]'(by omega) = 48
        rw [Lib.getD_at s 0 (by omega)]
        cases hl : s.data.toList with
        | nil => rw [hl] at hlen; exact absurd hlen.symm h0
        | cons a l => have := h1.2; rw [hl] at this; simpa using this
      rw [e]
      rfl
    clear hlen h1
    go_enter Tryz.func33, Tryz.ntmps33
    go_wp2_with fail
    go_ret
    exact ⟨by rw [HV.out]; rfl, Below.refl _ _⟩
  have hgo : val b s.data.toList = valF b 0 s.data.toList := by
    unfold val
    rw [if_neg]
    rintro (h | h | h)
    · rw [h] at hlen; exact h0 hlen.symm
    · omega
    · exact h1 ⟨by rw [← hlen]; exact h.1, h.2⟩
  rcases hb with rfl | rfl
  · exact rvalue_loop10 s (by omega) hgo w (by omega) h1
  · exact rvalue_loop16 s (by omega) hgo w (by omega) h1

end Go.Proofs.YtpappmbnblaccaaGreatDoor
