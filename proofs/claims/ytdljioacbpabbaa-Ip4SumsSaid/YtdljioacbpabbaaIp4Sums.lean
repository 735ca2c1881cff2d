/-
  Ip4Sums returns true at every input.
-/
import Derived.Test.YtdljioacbpabbaaIp4Held
import Derived.Test.YtdljioacbpabbaaTexts
import Derived.RegionTactic
import Derived.BigRegion
namespace Go.Proofs.Ytdljioacbpabbaa
open Go.RowKit
set_option linter.unusedVariables false

theorem wrap_bit (r : Nat) (h : r < 8) : IntKind.u8.wrap ((2 : Int) ^ r) = ((UInt8.ofNat (2 ^ r)).toNat : Int) := by
  have : r = 0 ∨ r = 1 ∨ r = 2 ∨ r = 3 ∨ r = 4 ∨ r = 5 ∨ r = 6 ∨ r = 7 := by omega
  rcases this with rfl | rfl | rfl | rfl | rfl | rfl | rfl | rfl <;> decide

set_option maxRecDepth 100000 in
set_option maxHeartbeats 2000000 in
theorem sums_any (h : H4) (pay : ByteArray) (bit : Int) (w : World) (hp1 : pay.size ≤ 140737488355328) :
    Calls Try.prog 6 #[.agg h.cells, .string pay, .int .i64 bit] w (AwakeEnd w) := by
  have HA := Lib.hid (awake_any (w.alloc (.cells h.cells 23)))
  have HF := Lib.hid (fun W => few_any h W)
  have H1 := Lib.hid (fun W => put_any h pay W hp1)
  have S1 := Lib.hid (Held.new w h)
  generalize h.few = fw at *
  unfold PutEnd at H1
  have PT := Lib.hid (put_cases h pay)
  generalize putS h pay = P at *
  generalize putE h pay = E at *
  unfold H4.cells at HA HF H1 S1 ⊢
  go_enter Try.func6, Try.ntmps6
  go_wp2_with fail
  refine HA.out.mono ?_
  rintro e w1 ⟨rfl, hb1⟩
  have S2 := Lib.hid (S1.out.below hb1)
  clear hb1 S1 HA
  have ⟨c0, c1, c2, c3, c4, c5, c6, c7, c8, c9⟩ := Hc.of S2.out.b
  go_wp2_with fail
  refine (HF.out _).mono ?_
  rintro e w2 ⟨rfl, hb2⟩
  have S3 := Lib.hid (S2.out.below hb2)
  clear hb2 S2 HF c0 c1 c2 c3 c4 c5 c6 c7 c8 c9
  cases fw
  · go_wp2_with fail
    go_ret
    exact ⟨rfl, S3.out.bel⟩
  by_cases h7 : pay.size ≤ 2000
  case neg =>
    have t7 : decide ((2000 : Int) < (pay.size : Int)) = true := by simp; omega
    go_wp2_with fail
    go_ret
    exact ⟨rfl, S3.out.bel⟩
  have t7 : decide ((2000 : Int) < (pay.size : Int)) = false := by simp; omega
  have ⟨c0, c1, c2, c3, c4, c5, c6, c7, c8, c9⟩ := Hc.of S3.out.b
  go_wp2_with fail
  refine (H1.out _).mono ?_
  rintro e w3 ⟨rfl, hb3⟩
  have S4 := Lib.hid (S3.out.below hb3)
  clear hb3 S3 H1 c0 c1 c2 c3 c4 c5 c6 c7 c8 c9 t7
  rcases PT.out with ⟨rfl, hsent⟩ | ⟨hE, rfl⟩
  case inr =>
    have tE : ((E : Int) != 0) = true := by simp; omega
    clear PT hE
    go_wp2_with fail
    go_ret
    exact ⟨rfl, S4.out.bel⟩
  have hos : h.opt.size ≤ 40 := hsent.ok.opt
  have hPs : P.size = h.size + pay.size := hsent.size
  have hhs : h.size = 20 + h.opt.size := rfl
  have c9 := (Hc.of S4.out.b).c9
  have hgood := getE_zero.1 hsent.ge
  have hzP : hsz P = h.size := by
    have := (put_get h pay hsent.ok hsent.fit).2.2.1
    rw [← hsent.is] at this
    exact this
  have GOOD := Lib.hid hgood
  have HZP := Lib.hid hzP
  clear PT hsent hgood hzP
  have tL : ((P.size : Int) == 20 + (h.opt.size : Int) + (pay.size : Int)) = true := by simp; omega
  by_cases b0 : bit < 4
  · clear hPs hhs
    go_wp2_with fail
    go_ret
    exact ⟨rfl, S4.out.bel⟩
  obtain ⟨k, rfl⟩ := Int.eq_ofNat_of_zero_le (show 0 ≤ bit by omega)
  by_cases b1 : 8 * (20 + h.opt.size) ≤ k
  · have t1 : decide ((8 : Int) * (20 + (h.opt.size : Int)) ≤ (k : Int)) = true := by simp; omega
    clear hPs hhs
    go_wp2_with fail
    go_ret
    exact ⟨rfl, S4.out.bel⟩
  have t1 : decide ((8 : Int) * (20 + (h.opt.size : Int)) ≤ (k : Int)) = false := by simp; omega
  have hPb : P.size ≤ 3000 := by omega
  have hkP : k / 8 < P.size := by omega
  have KH := Lib.hid (show k / 8 < h.size by omega)
  have KJ := Lib.hid (show 1 ≤ k / 8 ∨ 4 ≤ k % 8 by omega)
  clear hPs hhs
  obtain ⟨cap, w5, hcv, hby, hkb, hz5⟩ := bytes_conv w3 P
  have HBY := Lib.hid hby
  have HKB := Lib.hid hkb
  have hz3 := S4.out.bel.size
  clear hby hkb
  go_wp2_with fail
  clear hcv t1 tL c9
  have c0 := HBY.out.cell (k / 8) (by simpa using hkP)
  have f0 := HBY.out.frozen (k / 8) (by simpa using hkP)
  have e1 : IntKind.i64.wrap ((k : Int) / 8) = ((k / 8 : Nat) : Int) := (IntWalk.i64_in _ (by omega)).trans (by omega)
  have e2 : IntKind.i64.wrap ((k : Int) % 8) = ((k % 8 : Nat) : Int) := (IntWalk.i64_in _ (by omega)).trans (by omega)
  have e3 : ((k : Int) % 8) = ((k % 8 : Nat) : Int) := by omega
  have hr8 : k % 8 < 8 := by omega
  have hk8 : k / 8 < P.data.toList.length := by simpa using hkP
  have e7 : ((k : Int).tmod 8) = ((k % 8 : Nat) : Int) := by rw [Int.tmod_eq_emod_of_nonneg (by omega)]; exact e3
  have e8 : IntKind.i64.wrap ((k : Int).tdiv 8) = ((k / 8 : Nat) : Int) := by rw [Int.tdiv_eq_ediv_of_nonneg (by omega)]; exact e1
  generalize k / 8 = q at *
  generalize k % 8 = r at *
  have hsh := wrap_bit r hr8
  obtain ⟨bv, hbv⟩ : ∃ bv : UInt8, bv = UInt8.ofNat (2 ^ r) := ⟨_, rfl⟩
  rw [← hbv] at hsh
  have HBV := Lib.hid hbv
  clear hbv
  have hxo := xor_u8 P.data.toList[q] bv
  obtain ⟨cx, hcx⟩ : ∃ cx : UInt8, cx = P.data.toList[q] ^^^ bv := ⟨_, rfl⟩
  rw [← hcx] at hxo
  have HCX := Lib.hid hcx
  clear hcx
  generalize hcy : P.data.toList[q] = cy at *
  have HCY := Lib.hid hcy
  clear hcy
  have e4 : (0 : Int) ≤ q := by omega
  have e5 : (q : Int) < P.size := by omega
  have e6 : (0 : Int) ≤ r := by omega
  go_region
  have HN := Lib.hid (((HBY.out.set q cx _ rfl).drew))
  have HL2 := Lib.hid (show (P.data.toList.set q cx).length = P.size by simp)
  have hcv2 := HN.out.text (cap := cap) HL2.out.symm
  obtain ⟨Y, hY⟩ : ∃ Y : ByteArray, Y = ⟨(P.data.toList.set q cx).toArray⟩ := ⟨_, rfl⟩
  rw [← hY] at hcv2
  have hYl : Y.data.toList = P.data.toList.set q cx := by rw [hY]
  have hYs : Y.size ≤ 6000 := by rw [hY, list_size, HL2.out]; omega
  have hE : getE Y ≠ 0 := by
    refine flip_seen P Y GOOD.out q r (by rw [HZP.out]; exact KH.out) hkP hr8 KJ.out ?_
    rw [hYl, HCX.out, HBV.out, ← HCY.out]
    rfl
  have G1 := Lib.hid (fun W => get_any Y W (by omega))
  unfold GetEnd at G1
  rw [(get_err hE).1, (get_err hE).2] at G1
  have tg : ((getE Y : Int) != 0) = true := by simp; omega
  generalize getE Y = E2 at *
  clear hE hY hYl e1 e2 e3 e7 e8 hsh
  unfold H4.zero H4.cells at G1
  simp only at G1
  have HBW : Hid (Below w.heap.size w ((w5.setCell ⟨w3.heap.size, q, none⟩ (.int .u8 (cx.toNat : Int))).drew)) := by
    have h1 := S4.out.bel.trans ((HKB.out.mono (T := fun k => w.heap.size ≤ k) (fun _ _ h => h.elim)).below hz3)
    exact (h1.setCell (by simpa using hz3) _).drew
  clear HN c0 f0 HBY
  generalize (w5.setCell ⟨w3.heap.size, q, none⟩ (.int .u8 (cx.toNat : Int))).drew = w6 at *
  go_wp2_with fail
  refine (G1.out _).mono ?_
  rintro e w7 ⟨rfl, hb7⟩
  have HB7 := Lib.hid (HBW.out.trans (hb7.mono HBW.out.size))
  clear hb7 G1
  go_wp2_with fail
  go_ret
  exact ⟨rfl, HB7.out.alloc HB7.out.size _⟩

end Go.Proofs.Ytdljioacbpabbaa
