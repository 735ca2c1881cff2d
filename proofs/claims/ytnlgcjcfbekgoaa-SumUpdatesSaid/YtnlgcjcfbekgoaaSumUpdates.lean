/-
  SumUpdates, walked.
-/
import Derived.Test.YtnlgcjcfbekgoaaSumUse
import Derived.Test.YtnlgcjcfbekgoaaTexts
import Derived.RegionTactic
import Derived.BigRegion
namespace Go.Proofs.Ytnlgcjcfbekgoaa
open Go.RowKit
set_option linter.unusedVariables false

theorem both_texts (s A F B Y Z : ByteArray) (k p p1 p2 fresh old : Nat) (hp : p = 2 * k) (hp1 : p1 = p + 1) (hp2 : p2 = p + 2) (q1 : p1 < s.size) (q2 : p2 ≤ s.size) (ea : s.size % 2 = 0) (hf : fresh ≤ 65535)
    (hA : s.extract 0 p = A) (hB : s.extract p2 s.size = B) (hF : F.data.toList = two fresh) (hY : A ++ F ++ B = Y) (hZ : Z = ⟨(List.replicate s.size (0 : UInt8)).toArray⟩) (sz : ¬ s.toList = Z.toList) (yz : ¬ Y.toList = Z.toList)
    (ho : old = s[p].toNat * 256 + s[p1].toNat) : updI (sumD s.data.toList : Nat) old fresh = sumD Y.data.toList ∧ updI (sumD Y.data.toList : Nat) fresh old = sumD s.data.toList ∧ old ≤ 65535 := by
  subst hp1 hp2
  have hz : Z.toList = List.replicate s.size 0 := by rw [hZ, ByteArray.toList_eq]
  have hYl : Y.data.toList = s.data.toList.take p ++ two fresh ++ s.data.toList.drop (p + 2) := by
    rw [← hY, cat_list, cat_list, hF, ← hA, ← hB, extract_list, extract_list, List.drop_zero, List.take_of_length_le (i := s.size) (by simp)]
  have key := both_ways s.data.toList Y.data.toList p fresh old (by rw [size_list]; exact q2) (by omega) hf hYl
    (fun h => sz (by rw [hz, ByteArray.toList_eq]; rw [size_list] at h; exact h)) (fun h => yz (by rw [hz, ByteArray.toList_eq]; rw [size_list] at h; exact h)) ho
  obtain ⟨k1, k2, k3⟩ := key
  refine ⟨?_, ?_, k3⟩
  · rw [updI_nat _ _ _ (sumD_le _) k3 hf]; exact k1
  · rw [updI_nat _ _ _ (sumD_le _) hf k3]; exact k2

set_option maxRecDepth 100000 in
set_option maxHeartbeats 1000000 in
theorem updates_any (s : ByteArray) (at' : Int) (fresh : Nat) (w : World) (hs : s.size ≤ 140737488355328) (hf : fresh ≤ 65535) :
    Calls Try.prog 4 #[.string s, .int .i64 at', .int .u16 fresh] w (AwakeEnd w) := by
  go_enter Try.func4, Try.ntmps4
  go_wp2_with fail
  refine (awake_any _).mono ?_
  rintro e w1 ⟨rfl, hb1⟩
  have HB1 := Lib.hid hb1
  clear hb1
  by_cases a1 : s.size % 2 = 1
  · have t1 : ((s.size : Int) % 2 == 1) = true := by simp; omega
    clear a1
    go_wp2_with fail
    go_ret
    exact ⟨rfl, HB1.out⟩
  have t1 : ((s.size : Int) % 2 == 1) = false := by simp; omega
  by_cases c1 : 5000 < s.size
  · clear a1
    go_wp2_with fail
    go_ret
    exact ⟨rfl, HB1.out⟩
  by_cases b1 : at' < 0
  · clear a1
    go_wp2_with fail
    go_ret
    exact ⟨rfl, HB1.out⟩
  obtain ⟨k, rfl⟩ := Int.eq_ofNat_of_zero_le (show 0 ≤ at' by omega)
  by_cases b2 : s.size / 2 ≤ k
  · clear a1
    go_wp2_with fail
    go_ret
    exact ⟨rfl, HB1.out⟩
  have ea : s.size % 2 = 0 := by omega
  have EA := Lib.hid ea
  have hs5 : s.size ≤ 5000 := by omega
  have hk2 : 2 * k + 2 ≤ s.size := by omega
  clear a1 ea
  obtain ⟨w2, hmk, hby, hkb, hz2⟩ := zeros_made w1 s.size (by omega)
  have hcv := hby.text (cap := s.size) (n := s.size) (by simp)
  obtain ⟨Z, hZ⟩ : ∃ Z : ByteArray, Z = ⟨(List.replicate s.size (0 : UInt8)).toArray⟩ := ⟨_, rfl⟩
  rw [← hZ] at hcv
  have HZ := Lib.hid hZ
  have HB2 := Lib.hid (HB1.out.trans ((hkb.mono (T := fun k => w.heap.size ≤ k) (fun _ _ h => h.elim)).below HB1.out.size))
  clear hZ hby hkb hz2
  go_wp2_with fail
  clear hmk hcv
  have hzz := HB2.out.size
  have e1 : IntKind.i64.wrap (2 * (k : Int)) = ((2 * k : Nat) : Int) := (IntWalk.i64_in _ (by omega)).trans (by omega)
  have e2 : IntKind.i64.wrap (((2 * k : Nat) : Int) + 2) = ((2 * k + 2 : Nat) : Int) := (IntWalk.i64_in _ (by omega)).trans (by omega)
  have e3 : IntKind.i64.wrap (((2 * k : Nat) : Int) + 1) = ((2 * k + 1 : Nat) : Int) := (IntWalk.i64_in _ (by omega)).trans (by omega)
  obtain ⟨p, hp⟩ : ∃ p, p = 2 * k := ⟨_, rfl⟩
  obtain ⟨p1, hp1⟩ : ∃ p1, p1 = p + 1 := ⟨_, rfl⟩
  obtain ⟨p2, hp2⟩ : ∃ p2, p2 = p + 2 := ⟨_, rfl⟩
  rw [← hp] at e1 e2 e3
  rw [← hp2] at e2
  rw [← hp1] at e3
  have q1 : p1 < s.size := by omega
  have q2 : p2 ≤ s.size := by omega
  have q0 : p < s.size := by omega
  have HP := Lib.hid hp
  have HP1 := Lib.hid hp1
  have HP2 := Lib.hid hp2
  clear hp hp1 hp2 t1 b2 hk2
  have g0 : (0 : Int) ≤ p := by omega
  have g1 : (p : Int) ≤ s.size := by omega
  have g2 : (0 : Int) ≤ p2 := by omega
  have g3 : (p2 : Int) ≤ s.size := by omega
  have hcv2 := conv_two_raw w2 fresh hf
  obtain ⟨F, hF⟩ : ∃ F : ByteArray, F = ⟨(two fresh).toArray⟩ := ⟨_, rfl⟩
  rw [show (⟨#[UInt8.ofNat (fresh / 256 % 256), UInt8.ofNat (fresh % 256)]⟩ : ByteArray) = F from hF.symm] at hcv2
  have hFs : F.size ≤ 2 := by rw [hF, list_size]; exact Nat.le_refl _
  have HF := Lib.hid (show F.data.toList = two fresh by rw [hF])
  clear hF
  obtain ⟨A, hA⟩ : ∃ A : ByteArray, s.extract 0 p = A := ⟨_, rfl⟩
  obtain ⟨B, hB⟩ : ∃ B : ByteArray, s.extract p2 s.size = B := ⟨_, rfl⟩
  have hAs : A.size ≤ 5000 := by rw [← hA]; simp; omega
  have hBs : B.size ≤ 5000 := by rw [← hB]; simp; omega
  have n1 : ¬ (9223372036854775807 < A.size + F.size) := by omega
  have n2 : ¬ (9223372036854775807 < A.size + F.size + B.size) := by omega
  go_region
  have HA := Lib.hid hA
  have HBX := Lib.hid hB
  clear hcv2 hA hB e2 n1 n2
  have HB3 := Lib.hid ((HB2.out.alloc hzz (.cells #[.int .u8 (IntKind.u8.wrap ((fresh : Int) / 256)), .int .u8 (IntKind.u8.wrap (fresh : Int))] 5)).drew)
  generalize (w2.alloc (.cells #[.int .u8 (IntKind.u8.wrap ((fresh : Int) / 256)), .int .u8 (IntKind.u8.wrap (fresh : Int))] 5)).drew = w3 at *
  have hz3 := HB3.out.size
  obtain ⟨Y, hY⟩ : ∃ Y : ByteArray, A ++ F ++ B = Y := ⟨_, rfl⟩
  have hYs : Y.size ≤ 10002 := by rw [← hY, cat_size, cat_size]; omega
  by_cases sz : s.toList = Z.toList
  · have t1 : (s.toList == Z.toList) = true := by simp [sz]
    clear sz
    go_wp2_with fail
    go_ret
    exact ⟨rfl, HB3.out⟩
  have t1 : (s.toList == Z.toList) = false := by simp [sz]
  by_cases yz : Y.toList = Z.toList
  · have t2 : (Y.toList == Z.toList) = true := by simp [yz]
    clear yz sz
    go_wp2_with fail
    go_ret
    exact ⟨rfl, HB3.out⟩
  have t2 : (Y.toList == Z.toList) = false := by simp [yz]
  have SZ := Lib.hid sz
  have YZ := Lib.hid yz
  clear sz yz
  have b0 : (0 : Int) ≤ p1 := by omega
  have b3 : (p : Int) < s.size := by omega
  have b4 : (p1 : Int) < s.size := by omega
  have hc0 := s[p].toNat_lt
  have hc1 := s[p1].toNat_lt
  go_wp2_with fail
  have e5 : IntKind.i64.wrap ((s[p].toNat : Int) * 256) = (s[p].toNat : Int) * 256 := IntWalk.i64_in _ (by omega)
  have e6 := i64_or_low ((s[p].toNat : Int) * 256) (s[p1].toNat : Int) 8 (by omega) (by omega) (by omega) (by simp) (by omega) (by simp; omega)
  have e7 : IntKind.i64.wrap (s[p].toNat : Int) = (s[p].toNat : Int) := IntWalk.i64_in _ (by omega)
  have e8 : IntKind.i64.wrap (s[p1].toNat : Int) = (s[p1].toNat : Int) := IntWalk.i64_in _ (by omega)
  go_quiet (fail)
  clear e1 e3 e5 e6 e7 e8
  obtain ⟨old, hold⟩ : ∃ old : Nat, old = s[p].toNat * 256 + s[p1].toNat := ⟨_, rfl⟩
  have hoi : (s[p].toNat : Int) * 256 + (s[p1].toNat : Int) = (old : Int) := by omega
  have hBW := both_texts s A F B Y Z k p p1 p2 fresh old HP.out HP1.out HP2.out q1 q2 EA.out hf HA.out HBX.out HF.out hY HZ.out SZ.out YZ.out hold
  have HU1 := Lib.hid hBW.1
  have HU2 := Lib.hid hBW.2.1
  have hol := hBW.2.2
  have HY := Lib.hid hY
  clear hBW hY hold
  rw [hoi]
  clear hoi
  have HB4 := Lib.hid (below_drewN HB3.out nq)
  generalize w3.drewN nq = w4 at *
  have hz4 := HB4.out.size
  generalize hcs : s[p].toNat = cs at *
  generalize hcs1 : s[p1].toNat = cs1 at *
  clear hcs hcs1
  have l1 := sumD_le s.data.toList
  have l2 := sumD_le Y.data.toList
  generalize hn1 : sumD s.data.toList = n1 at *
  generalize hn2 : sumD Y.data.toList = n2 at *
  have S1 := fun W => hn1 ▸ sum_1 s W (by omega)
  have S2 := fun W => hn2 ▸ sum_1 Y W (by omega)
  have G1 := Lib.hid S1
  have G2 := Lib.hid S2
  clear S1 S2 hn1 hn2
  have U1 := fun W => HU1.out ▸ update_any (n1 : Int) (old : Int) (fresh : Int) W
  have U2 := fun W => HU2.out ▸ update_any (n2 : Int) (fresh : Int) (old : Int) W
  have G3 := Lib.hid U1
  have G4 := Lib.hid U2
  clear U1 U2 HU1 HU2
  go_wp2_with fail
  refine (G1.out _).mono ?_
  rintro e w5 ⟨rfl, hb5⟩
  have HB5 := Lib.hid (HB4.out.trans (hb5.mono hz4))
  have hz5 := HB5.out.size
  clear hb5
  go_wp2_with fail
  refine (G3.out _).mono ?_
  rintro e w6 ⟨rfl, hb6⟩
  have HB6 := Lib.hid (HB5.out.trans (hb6.mono hz5))
  have hz6 := HB6.out.size
  clear hb6
  go_wp2_with fail
  refine (G2.out _).mono ?_
  rintro e w7 ⟨rfl, hb7⟩
  have HB7 := Lib.hid (HB6.out.trans (hb7.mono hz6))
  have hz7 := HB7.out.size
  clear hb7
  go_wp2_with fail
  refine (G4.out _).mono ?_
  rintro e w8 ⟨rfl, hb8⟩
  have HB8 := Lib.hid (HB7.out.trans (hb8.mono hz7))
  have hz8 := HB8.out.size
  clear hb8
  go_wp2_with fail
  refine (G1.out _).mono ?_
  rintro e w9 ⟨rfl, hb9⟩
  have HB9 := Lib.hid (HB8.out.trans (hb9.mono hz8))
  clear hb9
  go_wp2_with fail
  go_ret
  exact ⟨rfl, HB9.out⟩

theorem updates_row (s : ByteArray) (at' f : Int) (w : World) (hs : s.size ≤ 140737488355328) (hf : 0 ≤ f ∧ f ≤ 65535) :
    Calls Try.prog 4 #[.string s, .int .i64 at', .int .u16 f] w (AwakeEnd w) := by
  obtain ⟨n, rfl⟩ := Int.eq_ofNat_of_zero_le hf.1
  exact updates_any s at' n w hs (by omega)

end Go.Proofs.Ytnlgcjcfbekgoaa
