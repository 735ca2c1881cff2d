/-
  The document's own answers: Sum and Update, by definition.
-/
import Derived.Test.YtdljioacbpabbaaSumUse
import Derived.Test.YtdljioacbpabbaaTexts
import Derived.Deep.CutBlock
import Derived.Deep.DeepCutAuto
namespace Go.Proofs.Ytdljioacbpabbaa
open Go.RowKit
set_option linter.unusedVariables false

set_option maxRecDepth 100000 in
set_option maxHeartbeats 400000 in
theorem down_any (n : Nat) (w : World) (hn : n ≤ 4611686018427387904) : Calls Try.prog 34 #[.int .i64 n] w fun e w' => e = .returned (.int .i64 (fold n : Nat)) ∧ w = w' := by
  go_enter Try.func34, Try.ntmps34
  go_wp2_with fail
  go_loop [0] (fun v => ∃ x : Nat, x ≤ 4611686018427387904 ∧ v = .int .i64 x ∧ Hid (fold x = fold n)) (fun v => (intOf v).toNat)
  case atStart => exact ⟨n, hn, rfl, Lib.hid rfl⟩
  case round =>
    obtain ⟨x, hx, rfl, hf⟩ := hrel
    by_cases hgt : 65535 < x
    · have h1 := Lib.hid (fold_step x hgt)
      have h2 := Lib.hid (fold_lt x hgt)
      have hg := Lib.hid hgt
      have t1 : decide ((65536 : Int) ≤ (x : Int)) = true := by simp; omega
      have x0 : (0 : Int) ≤ x := by omega
      have x1 : (x : Int) ≤ 4611686018427387904 := by omega
      have HX := Lib.hid hx
      clear hgt hx hn
      go_wp2_with fail
      have k2 := h2.out
      have k3 := HX.out
      exact ⟨⟨x % 65536 + x / 65536, by omega, by go_num, Lib.hid (h1.out.trans hf.out)⟩, by simp [intOf]; omega⟩
    · have h1 := Lib.hid (fold_small x (by omega))
      have t1 : decide ((65536 : Int) ≤ (x : Int)) = false := by simp; omega
      clear hgt hx hn
      go_wp2_with fail
      go_ret
      have h3 : fold n = x := hf.out.symm.trans h1.out
      rw [h3]
      exact ⟨rfl, rfl⟩

/-- A text with a byte 00 behind it, if its length is odd. -/
theorem ws_pad (l : List UInt8) : ws true (l ++ [0]) = ws true l := by
  rw [ws_snoc]
  simp

theorem conv_zero (w : World) : (convert 39 9 (.slice (some ⟨w.heap.size, 0, none⟩) 1 1)).run Try.prog (w.alloc (.cells #[.int .u8 0] 5)) = .ok (.string ⟨#[0]⟩) (w.alloc (.cells #[.int .u8 0] 5)) :=
  conv_new w [0] _ rfl 1 rfl

theorem ws_pair (s : ByteArray) (j : Nat) (he : j % 2 = 0) (h : j + 1 < s.size) : ws true (s.data.toList.take (j + 2)) = ws true (s.data.toList.take j) + s[j].toNat * 256 + s[j + 1].toNat := by
  rw [show j + 2 = (j + 1) + 1 by omega, ws_take true s (j + 1) h, ws_take true s j (by omega), side_succ, side_even true j he]
  simp
  omega

set_option maxRecDepth 100000 in
set_option maxHeartbeats 1000000 in
theorem refsum_any (s : ByteArray) (w : World) (hs : s.size ≤ 1000000) :
    Calls Try.prog 23 #[.string s] w (SumEnd (sumD s.data.toList) w) := by
  obtain ⟨N, hN⟩ : ∃ N, sumD s.data.toList = N := ⟨_, rfl⟩
  rw [hN]
  have HN := Lib.hid hN
  clear hN
  go_enter Try.func23, Try.ntmps23
  go_upto_if 8 with (fail)
  go_cut [0] (fun v wx => ∃ S : ByteArray, v = .string S ∧ S.size ≤ 1000001 ∧ Hid (S.size % 2 = 0) ∧ Hid (sumD S.data.toList = N) ∧ Hid (Below w.heap.size w wx))
  case first =>
    by_cases odd : s.size % 2 = 1
    · have t1 : ((s.size : Int) % 2 == 1) = true := by simp; omega
      have hcv := conv_zero w
      obtain ⟨T, hT⟩ : ∃ T : ByteArray, (⟨#[0]⟩ : ByteArray) = T := ⟨_, rfl⟩
      rw [hT] at hcv
      have hTs : T.size ≤ 1 := by rw [← hT]; exact Nat.le_refl _
      have HT := Lib.hid hT
      clear hT
      have OD := Lib.hid odd
      clear odd
      go_wp2_with fail
      go_meet
      refine ⟨s ++ T, rfl, by rw [cat_size]; omega, Lib.hid ?_, Lib.hid ?_, Lib.hid ((Below.refl w.heap.size w).alloc (Nat.le_refl _) _)⟩
      · have h1 := OD.out
        rw [cat_size, ← HT.out]
        show (s.size + 1) % 2 = 0
        omega
      · rw [← HN.out, cat_list, ← HT.out]
        unfold sumD
        exact congrArg _ (congrArg _ (ws_pad _))
    · have t1 : ((s.size : Int) % 2 == 1) = false := by simp; omega
      have OD := Lib.hid (show s.size % 2 = 0 by omega)
      clear odd
      go_wp2_with fail
      go_meet
      exact ⟨s, rfl, by omega, OD, HN, Lib.hid (Below.refl _ _)⟩
  case rest =>
    obtain ⟨S, rfl, hSs, HSE, HS, HB1⟩ := hcut
    clear HN hs
    go_wp2_with fail
    go_loopw [3, 4] (fun n i wr => ∃ j : Nat, j ≤ S.size ∧ Hid (j % 2 = 0) ∧ i = .int .i64 j ∧ n = .int .i64 (ws true (S.data.toList.take j) : Nat) ∧ Hid (Below w.heap.size w wr)) (fun _ i _ => S.size - (intOf i).toNat)
    case atStart => exact ⟨0, Nat.zero_le _, Lib.hid rfl, rfl, rfl, HB1⟩
    case round =>
      obtain ⟨j, hj, hje, rfl, rfl, hbel⟩ := hrel
      have hwl : ws true (S.data.toList.take j) ≤ 65281000000 := by
        have h1 := ws_le true (S.data.toList.take j)
        have h2 : (S.data.toList.take j).length ≤ j := List.length_take_le _ _
        omega
      by_cases hlt : j < S.size
      · have hj1 : j + 1 < S.size := by have h1 := hje.out; have h2 := HSE.out; omega
        have HW := Lib.hid (ws_pair S j hje.out hj1)
        have HJ2 := Lib.hid (show (j + 2) % 2 = 0 by have := hje.out; omega)
        have c0 := S[j].toNat_lt
        have c1 := S[j + 1].toNat_lt
        generalize ws true (S.data.toList.take j) = x at *
        have e1 : IntKind.i64.wrap ((j : Int) + 1) = ((j + 1 : Nat) : Int) := (IntWalk.i64_in _ (by omega)).trans (by omega)
        have e2 : IntKind.i64.wrap ((S[j].toNat : Int)) = (S[j].toNat : Int) := IntWalk.i64_in _ (by omega)
        have e3 : IntKind.i64.wrap ((S[j].toNat : Int) * 256) = (S[j].toNat : Int) * 256 := IntWalk.i64_in _ (by omega)
        have e4 : IntKind.i64.wrap ((x : Int) + (S[j].toNat : Int) * 256) = (x : Int) + (S[j].toNat : Int) * 256 := IntWalk.i64_in _ (by omega)
        have e5 : IntKind.i64.wrap ((S[j + 1].toNat : Int)) = (S[j + 1].toNat : Int) := IntWalk.i64_in _ (by omega)
        have e6 : IntKind.i64.wrap ((x : Int) + (S[j].toNat : Int) * 256 + (S[j + 1].toNat : Int)) = (x : Int) + (S[j].toNat : Int) * 256 + (S[j + 1].toNat : Int) := IntWalk.i64_in _ (by omega)
        obtain ⟨j1, hj1e⟩ : ∃ j1, j + 1 = j1 := ⟨_, rfl⟩
        simp only [hj1e] at *
        have b0 : (0 : Int) ≤ j := by omega
        have b1 : (j : Int) < S.size := by omega
        have b2 : (0 : Int) ≤ j1 := by omega
        have b3 : (j1 : Int) < S.size := by omega
        have HJ1 := Lib.hid hj1e
        clear hj1e
        go_wp2_with fail
        go_quiet (fail)
        clear e1 e2 e3 e4 e5 e6
        go_wp2_with fail
        exact ⟨⟨j + 2, by omega, HJ2, by go_num, by rw [HW.out]; go_num, Lib.hid (below_drewN hbel.out nq)⟩, by simp [intOf]; omega⟩
      · have hkl := Lib.hid (show j = S.size by omega)
        have hfl := fold_le (ws true (S.data.toList.take j))
        have HE : Hid ((65535 : Int) - (fold (ws true (S.data.toList.take j)) : Nat) = (N : Int)) := by
          show (65535 : Int) - (fold (ws true (S.data.toList.take j)) : Nat) = (N : Int)
          have h1 := HS.out
          rw [List.take_of_length_le (by have := hkl.out; simp; omega)] at hfl ⊢
          unfold sumD at h1
          omega
        go_wp2_with fail
        refine (down_any _ _ (by omega)).mono ?_
        rintro e w' ⟨rfl, rfl⟩
        go_wp2_with fail
        go_ret
        exact ⟨by rw [HE.out]; rfl, hbel.out⟩


end Go.Proofs.Ytdljioacbpabbaa
