/-
  SumTells, walked.
-/
import Derived.Test.YtnlgcjcfbekgoaaSumRef
import Derived.Test.YtnlgcjcfbekgoaaSumPseudo
import Derived.Test.YtnlgcjcfbekgoaaBytes
namespace Go.Proofs.Ytnlgcjcfbekgoaa
open Go.RowKit
set_option linter.unusedVariables false

theorem be_4 (n : Int) : be (n % 18446744073709551616).toNat 4 = [byteAt n 3, byteAt n 2, byteAt n 1, byteAt n 0] := by
  have e : ∀ k, k ≤ 3 → (n % 18446744073709551616).toNat / 256 ^ k % 256 = (n / 256 ^ k % 256).toNat := by
    intro k hk
    have : k = 0 ∨ k = 1 ∨ k = 2 ∨ k = 3 := by omega
    rcases this with rfl | rfl | rfl | rfl <;> simp <;> omega
  rw [be_succ, be_succ, be_succ, be_succ, e 3 (by omega), e 2 (by omega), e 1 (by omega), e 0 (by omega)]
  rfl
theorem be_2 (n : Int) : be (n % 18446744073709551616).toNat 2 = [byteAt n 1, byteAt n 0] := by
  have e : ∀ k, k ≤ 1 → (n % 18446744073709551616).toNat / 256 ^ k % 256 = (n / 256 ^ k % 256).toNat := by
    intro k hk
    have : k = 0 ∨ k = 1 := by omega
    rcases this with rfl | rfl <;> simp <;> omega
  rw [be_succ, be_succ, e 1 (by omega), e 0 (by omega)]
  rfl
theorem be_p4 (n : Int) : be (n % 256).toNat 4 = [0, 0, 0, byteAt n 0] := by
  have e : ∀ k, 1 ≤ k → k ≤ 3 → (n % 256).toNat / 256 ^ k % 256 = 0 := by
    intro k h1 hk
    have : k = 1 ∨ k = 2 ∨ k = 3 := by omega
    rcases this with rfl | rfl | rfl <;> simp <;> omega
  have e0 : (n % 256).toNat / 256 ^ 0 % 256 = (n / 256 ^ 0 % 256).toNat := by simp; omega
  rw [be_succ, be_succ, be_succ, be_succ, e 3 (by omega) (by omega), e 2 (by omega) (by omega), e 1 (by omega) (by omega), e0]
  rfl
theorem be_p2 (n : Int) : be (n % 256).toNat 2 = [0, byteAt n 0] := by
  have e : (n % 256).toNat / 256 ^ 1 % 256 = 0 := by simp; omega
  have e0 : (n % 256).toNat / 256 ^ 0 % 256 = (n / 256 ^ 0 % 256).toNat := by simp; omega
  rw [be_succ, be_succ, e, e0]
  rfl

/-- What Bytes answers, under a name. -/
def TextEnd (B : ByteArray) (w : World) (e : Ending) (w' : World) : Prop := e = .returned (.string B) ∧ Below w.heap.size w w'
theorem bytes_of_int (n : Int) (k : Nat) (hk : k ≤ 8) (l : List UInt8) (hl : be (n % 18446744073709551616).toNat k = l) :
    ∃ B : ByteArray, B.data.toList = l ∧ B.size = k ∧ ∀ w, Calls Try.prog 20 #[.int .u64 (IntKind.u64.wrap n), .int .i64 k] w (TextEnd B w) := by
  subst hl
  refine ⟨⟨(be (n % 18446744073709551616).toNat k).toArray⟩, rfl, by rw [list_size, be_length], fun w => ?_⟩
  have e : IntKind.u64.wrap n = ((n % 18446744073709551616).toNat : Int) := by
    simp [IntKind.wrap, IntKind.bits, IntKind.signed]
    omega
  rw [e]
  exact bytes_any _ k w (by omega) hk
theorem bytes_of_low (n : Int) (k : Nat) (hk : k ≤ 8) (l : List UInt8) (hl : be (n % 256).toNat k = l) :
    ∃ B : ByteArray, B.data.toList = l ∧ B.size = k ∧ ∀ w, Calls Try.prog 20 #[.int .u64 (n % 256), .int .i64 k] w (TextEnd B w) := by
  subst hl
  refine ⟨⟨(be (n % 256).toNat k).toArray⟩, rfl, by rw [list_size, be_length], fun w => ?_⟩
  have e : n % 256 = ((n % 256).toNat : Int) := by omega
  rw [e]
  have := bytes_any (n % 256).toNat k w (by omega) hk
  exact this

set_option maxHeartbeats 1000000 in
theorem refpseudo_any (src dst : ByteArray) (proto n : Int) (w : World) (hs : src.size ≤ 1000000) (hd : dst.size ≤ 1000000) :
    Calls Try.prog 15 #[.string src, .string dst, .int .i64 proto, .int .i64 n] w fun e w' => e = .returned (.string ⟨(pseudoD src.data.toList dst.data.toList proto n).toArray⟩) ∧ Below w.heap.size w w' := by
  go_enter Try.func15, Try.ntmps15
  have hpm := i64_and255 proto
  by_cases h16 : src.size = 16
  · have t1 : ((src.size : Int) == 16) = true := by simp; omega
    have H16 := Lib.hid h16
    clear h16
    obtain ⟨B1, l1, z1, b1⟩ := bytes_of_int n 4 (by omega) _ (be_4 n)
    obtain ⟨B2, l2, z2, b2⟩ := bytes_of_low proto 4 (by omega) _ (be_p4 proto)
    have y1 : B1.size ≤ 4 := by omega
    have y2 : B2.size ≤ 4 := by omega
    have L1 := Lib.hid l1
    have L2 := Lib.hid l2
    have G1 := Lib.hid b1
    have G2 := Lib.hid b2
    clear l1 l2 z1 z2 b1 b2
    go_wp2_with fail
    refine (G1.out _).mono ?_
    rintro e w1 ⟨rfl, hb1⟩
    have HB1 := Lib.hid hb1
    have hz1 := hb1.size
    clear hb1
    go_wp2_with fail
    refine (G2.out _).mono ?_
    rintro e w2 ⟨rfl, hb2⟩
    have HB2 := Lib.hid (HB1.out.trans (hb2.mono hz1))
    clear hb2
    go_wp2_with fail
    go_ret
    refine ⟨?_, HB2.out⟩
    refine congrArg (fun x => Ending.returned (.string x)) (text_ext (s := src ++ dst ++ B1 ++ B2) ?_)
    rw [cat_list, cat_list, cat_list, L1.out, L2.out]
    unfold pseudoD
    rw [if_pos (by rw [size_list]; exact H16.out)]
    simp
  · have t1 : ((src.size : Int) == 16) = false := by simp; omega
    have H16 := Lib.hid h16
    clear h16
    obtain ⟨B1, l1, z1, b1⟩ := bytes_of_low proto 2 (by omega) _ (be_p2 proto)
    obtain ⟨B2, l2, z2, b2⟩ := bytes_of_int n 2 (by omega) _ (be_2 n)
    have y1 : B1.size ≤ 4 := by omega
    have y2 : B2.size ≤ 4 := by omega
    have L1 := Lib.hid l1
    have L2 := Lib.hid l2
    have G1 := Lib.hid b1
    have G2 := Lib.hid b2
    clear l1 l2 z1 z2 b1 b2
    go_wp2_with fail
    refine (G1.out _).mono ?_
    rintro e w1 ⟨rfl, hb1⟩
    have HB1 := Lib.hid hb1
    have hz1 := hb1.size
    clear hb1
    go_wp2_with fail
    refine (G2.out _).mono ?_
    rintro e w2 ⟨rfl, hb2⟩
    have HB2 := Lib.hid (HB1.out.trans (hb2.mono hz1))
    clear hb2
    go_wp2_with fail
    go_ret
    refine ⟨?_, HB2.out⟩
    refine congrArg (fun x => Ending.returned (.string x)) (text_ext (s := src ++ dst ++ B1 ++ B2) ?_)
    rw [cat_list, cat_list, cat_list, L1.out, L2.out]
    unfold pseudoD
    rw [if_neg (by rw [size_list]; exact H16.out)]
    simp

/-- join's end: all of them, or they are too long. -/
def JoinEnd (P : Nat → ByteArray) (len : Nat) (w : World) (e : Ending) (w' : World) : Prop :=
  w = w' ∧ ((∃ S : ByteArray, S.data.toList = joinedB P len ∧ S.size ≤ 5000 ∧ len ≤ 101 ∧ e = .returned (.tuple #[.string S, .bool true])) ∨ e = .returned (.tuple #[.string ByteArray.empty, .bool false]))

set_option maxHeartbeats 1000000 in
theorem join_any (a : Option Addr) (len cap : Nat) (P : Nat → ByteArray) (w : World) (hC : StrsAt w w.heap.size a len P) (hlen : len ≤ 140737488355328) (hP : ∀ i, (P i).size ≤ 140737488355328) :
    Calls Try.prog 8 #[.slice a len cap] w (JoinEnd P len w) := by
  have HC := Lib.hid hC
  have HP := Lib.hid hP
  clear hC hP
  go_enter Try.func8, Try.ntmps8
  go_wp2_with fail
  go_loop [4, 5] (fun s i => ∃ (k : Nat) (S : ByteArray), k ≤ len ∧ k ≤ 101 ∧ i = .int .i64 k ∧ s = .string S ∧ S.size ≤ 5000 ∧ Hid (S.data.toList = joinedB P k)) (fun _ i => len - (intOf i).toNat)
  case atStart => exact ⟨0, ByteArray.empty, Nat.zero_le _, by omega, rfl, rfl, by simp, Lib.hid rfl⟩
  case round =>
    obtain ⟨k, S, hk, hk1, rfl, rfl, hS, HS⟩ := hrel
    by_cases hlt : k < len
    · obtain h0 | ⟨cb, off, rfl, hcb, hc⟩ := HC.out
      · omega
      have cP := hc k hlt
      clear hc
      have hps := HP.out k
      have HJ : Hid (∀ T, S ++ P k = T → T.data.toList = joinedB P (k + 1)) := fun T hT => by
        rw [← hT, cat_list, HS.out]; rfl
      generalize P k = ps at *
      obtain ⟨T, hT⟩ : ∃ T, S ++ ps = T := ⟨_, rfl⟩
      have HT := Lib.hid (HJ.out T hT)
      have hTs : T.size ≤ 140737488400000 := by rw [← hT, cat_size]; omega
      clear HJ
      by_cases g1 : 5000 < T.size
      · go_wp2_with fail
        go_ret2
        exact ⟨rfl, Or.inr rfl⟩
      by_cases g2 : 100 < k
      · go_wp2_with fail
        go_ret2
        exact ⟨rfl, Or.inr rfl⟩
      · go_wp2_with fail
        exact ⟨⟨k + 1, T, by omega, by omega, by go_num, rfl, by omega, HT⟩, by simp [intOf]; omega⟩
    · have hkl := Lib.hid (show k = len by omega)
      go_wp2_with fail
      go_ret2
      have h1 := hkl.out
      subst h1
      exact ⟨rfl, Or.inl ⟨S, HS.out, hS, hk1, rfl⟩⟩

set_option maxRecDepth 100000 in
set_option maxHeartbeats 2000000 in
theorem tells_any (a : Option Addr) (len cap : Nat) (P : Nat → ByteArray) (x y z : Int) (src dst : ByteArray) (w : World) (hC : StrsAt w w.heap.size a len P) (hlen : len ≤ 140737488355328) (hP : ∀ i, (P i).size ≤ 140737488355328) (hs : src.size ≤ 140737488355328) (hd : dst.size ≤ 140737488355328) :
    Calls Try.prog 3 #[.slice a len cap, .int .i64 x, .int .i64 y, .int .i64 z, .string src, .string dst] w (AwakeEnd w) := by
  have HC := Lib.hid hC
  have HP := Lib.hid hP
  clear hC hP
  go_enter Try.func3, Try.ntmps3
  go_wp2_with fail
  refine (awake_any _).mono ?_
  rintro e w1 ⟨rfl, hb1⟩
  have HB1 := Lib.hid hb1
  have hz1 := hb1.size
  have HC1 := Lib.hid ((HC.out.below hb1).mono hz1)
  clear hb1
  go_wp2_with fail
  refine (join_any a len cap P w1 HC1.out hlen HP.out).mono ?_
  rintro e w' ⟨rfl, ⟨S, hS, hSz, hl, rfl⟩ | rfl⟩
  · have hSS := Lib.hid hS
    have HJL := Lib.hid (show (joinedB P len).length ≤ 1099511627776 by rw [← hS, size_list]; omega)
    have HSD := Lib.hid (show sumD (joinedB P len) = sumD S.data.toList by rw [hS])
    clear hS
    by_cases g1 : 300 < src.size
    · go_wp2_with fail
      go_ret
      exact ⟨rfl, HB1.out⟩
    by_cases g2 : 300 < dst.size
    · go_wp2_with fail
      go_ret
      exact ⟨rfl, HB1.out⟩
    obtain ⟨N, hN⟩ : ∃ N, sumD S.data.toList = N := ⟨_, rfl⟩
    obtain ⟨U, hU⟩ : ∃ U, updI x y z = U := ⟨_, rfl⟩
    obtain ⟨R, hR⟩ : ∃ R : ByteArray, (⟨(pseudoD src.data.toList dst.data.toList x y).toArray⟩ : ByteArray) = R := ⟨_, rfl⟩
    have S1 : ∀ W, StrsAt W W.heap.size a len P → Calls Try.prog 9 #[.slice a len cap] W (SumEnd N W) := fun W h => by
      have := sum_any a len cap P W h HJL.out hlen
      rw [HSD.out, hN] at this
      exact this
    have S2 : ∀ W, StrsAt W W.heap.size a len P → Calls Try.prog 11 #[.slice a len cap] W (RightEnd (decide (N = 0)) W) := fun W h => by
      refine right_any a len cap P W _ h HJL.out hlen ?_
      rw [HSD.out, hN]
    have S3 : ∀ W, Calls Try.prog 10 #[.string S] W (SumEnd N W) := fun W => by
      have := refsum_any S W (by omega)
      rw [hN] at this
      exact this
    have S4 : ∀ W, Calls Try.prog 12 #[.int .i64 x, .int .i64 y, .int .i64 z] W (SumEnd U W) := fun W => by
      have := update_any x y z W
      rw [hU] at this
      exact this
    have S5 : ∀ W, Calls Try.prog 13 #[.int .i64 x, .int .i64 y, .int .i64 z] W fun e w' => e = .returned (.int .i64 (U : Nat)) ∧ W = w' := fun W => by
      have := refupdate_any x y z W
      rw [hU] at this
      exact this
    have S6 : ∀ W, Calls Try.prog 14 #[.string src, .string dst, .int .i64 x, .int .i64 y] W (TextEnd R W) := fun W => by
      have := pseudo_any src dst x y W (by omega) (by omega)
      rw [hR] at this
      exact this
    have S7 : ∀ W, Calls Try.prog 15 #[.string src, .string dst, .int .i64 x, .int .i64 y] W (TextEnd R W) := fun W => by
      have := refpseudo_any src dst x y W (by omega) (by omega)
      rw [hR] at this
      exact this
    have G1 := Lib.hid S1
    have G2 := Lib.hid S2
    have G3 := Lib.hid S3
    have G4 := Lib.hid S4
    have G5 := Lib.hid S5
    have G6 := Lib.hid S6
    have G7 := Lib.hid S7
    clear S1 S2 S3 S4 S5 S6 S7 hN hU hR
    have n0 : decide (N = 0) = ((N : Int) == 0) := by
      by_cases h : N = 0
      · simp [h]
      · simp [h]
    have N0 := Lib.hid n0
    clear n0
    go_wp2_with fail
    refine (G1.out _ HC1.out).mono ?_
    rintro e w2 ⟨rfl, hb2⟩
    have HB2 := Lib.hid (HB1.out.trans (hb2.mono hz1))
    have hz2 := HB2.out.size
    clear hb2
    go_wp2_with fail
    refine (G3.out _).mono ?_
    rintro e w3 ⟨rfl, hb3⟩
    have HB3 := Lib.hid (HB2.out.trans (hb3.mono hz2))
    have hz3 := HB3.out.size
    have HC3 := Lib.hid ((HC.out.below HB3.out).mono hz3)
    clear hb3
    go_wp2_with fail
    refine (G2.out _ HC3.out).mono ?_
    rintro e w4 ⟨rfl, hb4⟩
    have HB4 := Lib.hid (HB3.out.trans (hb4.mono hz3))
    have hz4 := HB4.out.size
    clear hb4
    rw [N0.out]
    go_wp2_with fail
    refine (G3.out _).mono ?_
    rintro e w5 ⟨rfl, hb5⟩
    have HB5 := Lib.hid (HB4.out.trans (hb5.mono hz4))
    have hz5 := HB5.out.size
    clear hb5
    go_wp2_with fail
    refine (G4.out _).mono ?_
    rintro e w6 ⟨rfl, hb6⟩
    have HB6 := Lib.hid (HB5.out.trans (hb6.mono hz5))
    have hz6 := HB6.out.size
    clear hb6
    go_wp2_with fail
    refine (G5.out _).mono ?_
    rintro e w' ⟨rfl, rfl⟩
    go_wp2_with fail
    refine (G6.out _).mono ?_
    rintro e w7 ⟨rfl, hb7⟩
    have HB7 := Lib.hid (HB6.out.trans (hb7.mono hz6))
    have hz7 := HB7.out.size
    clear hb7
    go_wp2_with fail
    refine (G7.out _).mono ?_
    rintro e w8 ⟨rfl, hb8⟩
    have HB8 := Lib.hid (HB7.out.trans (hb8.mono hz7))
    clear hb8
    go_wp2_with fail
    go_ret
    exact ⟨rfl, HB8.out⟩
  · go_wp2_with fail
    go_ret
    exact ⟨rfl, HB1.out⟩

end Go.Proofs.Ytnlgcjcfbekgoaa
