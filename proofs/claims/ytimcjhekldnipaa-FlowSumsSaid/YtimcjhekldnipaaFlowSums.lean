/-
  FlowSums returns true at every input.
-/
import Derived.Test.YtimcjhekldnipaaFlowAwake
import Derived.Test.YtimcjhekldnipaaFlowFlip
import Derived.RegionTactic
import Derived.BigRegion
import Derived.Deep.CutBlock
import Derived.Deep.DeepCutAuto
import Derived.IntWalk
namespace Go.Proofs.Ytimcjhekldnipaa
open Go.RowKit
set_option linter.unusedVariables false

theorem wrap_bit9 (r : Nat) (h : r < 8) : IntKind.u8.wrap ((2 : Int) ^ r) = ((UInt8.ofNat (2 ^ r)).toNat : Int) := by
  have : r = 0 ∨ r = 1 ∨ r = 2 ∨ r = 3 ∨ r = 4 ∨ r = 5 ∨ r = 6 ∨ r = 7 := by omega
  rcases this with rfl | rfl | rfl | rfl | rfl | rfl | rfl | rfl <;> decide
/-- Which version, by how long an address is. -/
theorem src_len {p : ByteArray} (h1 : pktE p = 0) : ((any9 p).src.size = 4 ∧ ver9 p = 4) ∨ ((any9 p).src.size = 16 ∧ ver9 p ≠ 4) := by
  unfold pktE at h1
  unfold any9
  by_cases h4 : ver9 p = 4
  · rw [if_pos h4] at h1 ⊢
    have g := getE_zero.1 h1
    have := g.short
    refine Or.inl ⟨?_, h4⟩
    show (getH p).src.size = 4
    unfold getH
    rw [if_pos h1]
    show (p.extract 12 16).size = 4
    rw [ByteArray.size_extract]
    omega
  · rw [if_neg h4] at h1 ⊢
    have g := get6E_zero.1 h1
    have := g.short
    refine Or.inr ⟨?_, h4⟩
    show (get6H p).src.size = 16
    unfold get6H
    rw [if_pos h1]
    show (p.extract 8 24).size = 16
    rw [ByteArray.size_extract]
    omega
/-- Where the sum stands, from the payload's beginning on. -/
def at9 (n : Int) : Nat := if n = 17 then 6 else 16

/-- What a valid packet is to the law. -/
structure Law9 (p : ByteArray) (F : Nat) (n : Int) : Prop where
  lo : 20 ≤ F
  le : F ≤ p.size
  known : n = 6 ∨ n = 17
  dgram : n = 17 → F + 8 ≤ p.size
  flip : ∀ (q : ByteArray) (i j : Nat) (hip : i < p.size), F ≤ i → j < 8 → q.data.toList = p.data.toList.set i (p[i] ^^^ UInt8.ofNat (2 ^ j)) →
    (n = 17 → ∃ (a : F + 6 < p.size) (b : F + 7 < p.size), ¬ (p[F + 6].toNat = 0 ∧ p[F + 7].toNat = 0)) → (n = 17 → ∃ (a : F + 6 < q.size) (b : F + 7 < q.size), ¬ (q[F + 6].toNat = 0 ∧ q[F + 7].toNat = 0)) → flowE q ≠ 0
theorem num_six {p : ByteArray} {F : Nat} (a : F + 6 < p.size) (b : F + 7 < p.size) (h : ¬ (p[F + 6].toNat = 0 ∧ p[F + 7].toNat = 0)) : numOf (p.extract F p.size) 6 2 ≠ 0 := by
  have e : numOf (p.extract F p.size) 6 2 = numOf p (F + 6) 2 := by
    unfold numOf
    refine congrArg val ?_
    rw [sl_ext, sl_ext]
    unfold sl
    rw [sl_ext, sl_all, List.take_drop, List.drop_drop, show F + (6 + 2) = F + 6 + 2 by omega]
  have h2 : numOf p (F + 6) 2 = p[F + 6].toNat * 256 + p[F + 7].toNat := num_2 p (F + 6) b
  rw [e, h2]
  intro h0
  exact h ⟨by omega, by omega⟩
theorem law9 {p : ByteArray} (e : flowE p = 0) : Law9 p (fr9 p) (any9 p).proto := by
  have g := flowE_zero.1 e
  have sh := shape9 g.pkt
  have l := sh.fr
  have hk : (any9 p).proto = 6 ∨ (any9 p).proto = 17 := by
    have := g.known
    unfold isK at this
    simpa using this
  have hd : (any9 p).proto = 17 → fr9 p + 8 ≤ p.size := by
    intro h17
    have hl := g.load
    unfold loadE at hl
    rw [if_neg (by omega)] at hl
    have := (get8E_zero.1 hl).1
    rw [sh.pay, ByteArray.size_extract] at this
    omega
  refine ⟨l.1, l.2, hk, hd, ?_⟩
  intro q i j hip hi hj hq h1 h2
  refine flip9 g i j hi hip hj hq (fun h => ?_) (fun h => ?_)
  · obtain ⟨a, b, c⟩ := h1 h
    rw [sh.pay]
    exact num_six a b c
  · obtain ⟨a, b, c⟩ := h2 h
    exact num_six a b c

set_option maxRecDepth 100000 in
set_option maxHeartbeats 2000000 in
theorem sums9_any (p : ByteArray) (bit : Int) (w : World) (hp : p.size ≤ 140737488355328) :
    Calls Try.prog 4 #[.string p, .int .i64 bit] w (AwakeEnd w) := by
  have HA := Lib.hid (awake9_any w)
  by_cases h7 : p.size ≤ 3000
  case neg =>
    have t7 : decide ((3000 : Int) < (p.size : Int)) = true := by simp; omega
    go_enter Try.func4, Try.ntmps4
    go_wp2_with fail
    refine HA.out.mono ?_
    rintro e w1 ⟨rfl, hb1⟩
    have B1 := Lib.hid hb1
    clear hb1
    go_wp2_with fail
    go_ret
    exact ⟨rfl, B1.out⟩
  have t7 : decide ((3000 : Int) < (p.size : Int)) = false := by simp; omega
  have G1 := Lib.hid (fun W => get9_any p W (by omega))
  have G2 := Lib.hid (fun q W h => get9_any q W h)
  unfold Tells at G1 G2
  go_enter Try.func4, Try.ntmps4
  go_wp2_with fail
  refine HA.out.mono ?_
  rintro e w1 ⟨rfl, hb1⟩
  have B1 := Lib.hid hb1
  clear hb1 HA
  go_wp2_with fail
  refine (G1.out _).mono ?_
  rintro e w2 ⟨rfl, hb2⟩
  have B2 := Lib.hid (B1.out.trans (hb2.mono B1.out.size))
  clear hb2 B1 G1 t7
  by_cases he : flowE p = 0
  case neg =>
    have tE : ((flowE p : Int) != 0) = true := by simp; omega
    rw [flowH_err he]
    have BZ := Lib.hid (B2.out.alloc B2.out.size (.cells F9.zero.cells 24))
    unfold F9.cells F9.zero at BZ ⊢
    simp only at BZ ⊢
    clear he
    go_wp2_with fail
    go_ret
    exact ⟨rfl, BZ.out⟩
  have LW := Lib.hid (law9 he)
  have SL := Lib.hid (src_len (flowE_zero.1 he).pkt)
  have HF : Hid (fr9 p = if ver9 p = 4 then hsz p else 40) := rfl
  have HZ : Hid (hsz p = 4 * (numOf p 0 1 % 16)) := rfl
  have tE : ((flowE p : Int) != 0) = false := by simp; omega
  rw [flowH_ok he]
  have e9 : flow9 p = ⟨(any9 p).proto, (any9 p).src, (any9 p).dst, sp9 (any9 p).proto (pay9 p), dp9 (any9 p).proto (pay9 p)⟩ := rfl
  rw [e9]
  clear e9 he
  generalize sp9 (any9 p).proto (pay9 p) = x3 at *
  generalize dp9 (any9 p).proto (pay9 p) = x4 at *
  generalize (any9 p).proto = n at *
  generalize (any9 p).src = x1 at *
  generalize (any9 p).dst = x2 at *
  generalize fr9 p = F at *
  generalize ver9 p = v at *
  generalize flowE p = e0 at *
  have ⟨N3', B3'⟩ := got_made w w2 B2.out (F9.cells ⟨n, x1, x2, x3, x4⟩) 24
  have N3 := Lib.hid N3'
  have B3 := Lib.hid B3'
  unfold F9.cells at N3 B3 ⊢
  simp only at N3 B3 ⊢
  clear N3' B3' B2
  go_upto_if 30 with (fail)
  generalize w2.alloc (.cells #[.int .i64 n, .string x1, .string x2, .int .i64 x3, .int .i64 x4] 24) = w3 at *
  generalize w2.heap.size = N at *
  go_cut [7] (fun v wx => v = .int .i64 (F : Nat) ∧ w3 = wx)
  case first =>
    have lo := LW.out.lo
    have le := LW.out.le
    have h0 : 0 < p.size := by omega
    have hl := p[0].toNat_lt
    have hz := HZ.out
    rw [numOf_one p 0 h0] at hz
    have hf := HF.out
    rcases SL.out with ⟨s4, v4⟩ | ⟨s16, v4⟩
    · rw [if_pos v4] at hf
      have t1 : ((x1.size : Int) == 4) = true := by simp; omega
      have e1 : (p[0].toNat : Int) % 16 * 4 = (F : Int) := by omega
      clear SL HF HZ hz hf s4 v4 lo
      go_wp2_with fail
      go_meet
      exact ⟨rfl, rfl⟩
    · rw [if_neg v4] at hf
      have t1 : ((x1.size : Int) == 4) = false := by simp; omega
      clear SL HF HZ hz s16 v4 lo
      subst hf
      go_wp2_with fail
      go_meet
      exact ⟨rfl, rfl⟩
  case rest =>
  obtain ⟨rfl, rfl⟩ := hcut
  clear SL HF HZ
  have n0 := N3.out.cell 0
  simp at n0
  go_upto_if 38 with (fail)
  go_cut [8] (fun v wx => v = .int .i64 (at9 n : Nat) ∧ w3 = wx)
  case first =>
    by_cases h17 : n = 17
    · have t1 : (n == 17) = true := by simp; omega
      have HT : Hid (at9 n = 6) := if_pos h17
      clear h17
      go_wp2_with fail
      go_meet
      exact ⟨by rw [HT.out]; rfl, rfl⟩
    · have t1 : (n == 17) = false := by simp; omega
      have HT : Hid (at9 n = 16) := if_neg h17
      clear h17
      go_wp2_with fail
      go_meet
      exact ⟨by rw [HT.out]; rfl, rfl⟩
  case rest =>
  obtain ⟨rfl, rfl⟩ := hcut
  have lo := LW.out.lo
  have le := LW.out.le
  have HT : Hid (at9 n = if n = 17 then 6 else 16) := rfl
  generalize at9 n = T at *
  by_cases b0 : bit < 8 * (F : Int)
  · have t0 : decide (bit < 8 * (F : Int)) = true := by simp; omega
    clear b0
    go_wp2_with fail
    go_ret
    exact ⟨rfl, B3.out⟩
  have t0 : decide (bit < 8 * (F : Int)) = false := by simp; omega
  obtain ⟨k, rfl⟩ := Int.eq_ofNat_of_zero_le (show 0 ≤ bit by omega)
  by_cases b1 : 8 * p.size ≤ k
  · have t1 : decide (8 * (p.size : Int) ≤ (k : Int)) = true := by simp; omega
    clear b1
    go_wp2_with fail
    go_ret
    exact ⟨rfl, B3.out⟩
  have t1 : decide (8 * (p.size : Int) ≤ (k : Int)) = false := by simp; omega
  by_cases h17' : n = 17
  case neg =>
    have h17 := Lib.hid h17'
    have t2 : (n == 17) = false := by simp; omega
    clear h17'
    have hkP : k / 8 < p.size := by omega
    have KF := Lib.hid (show F ≤ k / 8 by omega)
    have H1 : Hid (n = 17 → ∃ (a : F + 6 < p.size) (b : F + 7 < p.size), ¬ (p[F + 6].toNat = 0 ∧ p[F + 7].toNat = 0)) := fun h => absurd h h17.out
    obtain ⟨cap, w5, hcv, hby, hkb, hz5⟩ := bytes_conv w3 p
    have HBY := Lib.hid hby
    have HKB := Lib.hid hkb
    have hz3 := B3.out.size
    clear hby hkb
    go_wp2_with fail
    clear hcv
    have c0 := HBY.out.cell (k / 8) (by simpa using hkP)
    have f0 := HBY.out.frozen (k / 8) (by simpa using hkP)
    have e1 : IntKind.i64.wrap ((k : Int) / 8) = ((k / 8 : Nat) : Int) := (IntWalk.i64_in _ (by omega)).trans (by omega)
    have e2 : IntKind.i64.wrap ((k : Int) % 8) = ((k % 8 : Nat) : Int) := (IntWalk.i64_in _ (by omega)).trans (by omega)
    have e3 : ((k : Int) % 8) = ((k % 8 : Nat) : Int) := by omega
    have hr8 : k % 8 < 8 := by omega
    have hk8 : k / 8 < p.data.toList.length := by simpa using hkP
    have e7 : ((k : Int).tmod 8) = ((k % 8 : Nat) : Int) := by rw [Int.tmod_eq_emod_of_nonneg (by omega)]; exact e3
    have e8 : IntKind.i64.wrap ((k : Int).tdiv 8) = ((k / 8 : Nat) : Int) := by rw [Int.tdiv_eq_ediv_of_nonneg (by omega)]; exact e1
    clear b0 b1
    generalize k / 8 = q at *
    generalize k % 8 = r at *
    have hsh := wrap_bit9 r hr8
    obtain ⟨bv, hbv⟩ : ∃ bv : UInt8, bv = UInt8.ofNat (2 ^ r) := ⟨_, rfl⟩
    rw [← hbv] at hsh
    have HBV := Lib.hid hbv
    clear hbv
    have hxo := xor_u8 p.data.toList[q] bv
    obtain ⟨cx, hcx⟩ : ∃ cx : UInt8, cx = p.data.toList[q] ^^^ bv := ⟨_, rfl⟩
    rw [← hcx] at hxo
    have HCX := Lib.hid hcx
    clear hcx
    generalize hcy : p.data.toList[q] = cy at *
    have HCY := Lib.hid hcy
    clear hcy
    have e4 : (0 : Int) ≤ q := by omega
    have e5 : (q : Int) < p.size := by omega
    have e6 : (0 : Int) ≤ r := by omega
    go_region
    have HN := Lib.hid (((HBY.out.set q cx _ rfl).drew))
    have HL2 := Lib.hid (show (p.data.toList.set q cx).length = p.size by simp)
    have hcv2 := HN.out.text (cap := cap) HL2.out.symm
    obtain ⟨Y, hY⟩ : ∃ Y : ByteArray, Y = ⟨(p.data.toList.set q cx).toArray⟩ := ⟨_, rfl⟩
    rw [← hY] at hcv2
    have hYl : Y.data.toList = p.data.toList.set q cx := by rw [hY]
    have hYz : Y.size = p.size := by rw [hY, list_size, HL2.out]
    have hYs : Y.size ≤ 6000 := by omega
    have FL := Lib.hid (LW.out.flip Y q r hkP KF.out hr8 (by rw [hYl, HCX.out, HBV.out, ← HCY.out]; rfl) H1.out)
    have HYL := Lib.hid hYl
    have B6 : Hid (Below w.heap.size w ((w5.setCell ⟨w3.heap.size, q, none⟩ (.int .u8 (cx.toNat : Int))).drew)) := by
      have hb := B3.out
      have hk := HKB.out
      have hb5 : Below w.heap.size w w5 := hb.trans ⟨hk.os, hk.tape, hk.output, hk.size, fun i hi => hk.block i (Nat.lt_of_lt_of_le hi hb.size) (fun f => f)⟩
      have K : Kb (fun k => w.heap.size ≤ k) w w5 := ⟨hb5.os, hb5.tape, hb5.output, hb5.size, fun k hk _ => hb5.block k hk⟩
      exact ((K.setCell (p := ⟨w3.heap.size, q, none⟩) (fun _ => hz3) _).drew).below (Nat.le_refl _)
    have N6 : Hid (Blk ((w5.setCell ⟨w3.heap.size, q, none⟩ (.int .u8 (cx.toNat : Int))).drew) N #[.int .i64 n, .string x1, .string x2, .int .i64 x3, .int .i64 x4] 24) :=
      ((N3.out.kb HKB.out (fun f => f)).set_other (p := ⟨w3.heap.size, q, none⟩) (by have := N3.out.lt; simp; omega) _).drew
    clear hY hYl hYz c0 f0 e1 e2 e3 e7 e8 hsh hxo e4 e5 e6 hr8 HBV HCX HCY
    generalize (w5.setCell ⟨w3.heap.size, q, none⟩ (.int .u8 (cx.toNat : Int))).drew = w6 at *
    have n0 := N6.out.cell 0
    simp at n0
    have hE := FL.out (fun h => absurd h h17.out)
    clear FL
    obtain ⟨e2, he2⟩ : ∃ e2, flowE Y = e2 := ⟨_, rfl⟩
    rw [he2] at hE
    have HG := Lib.hid (fun W => G2.out Y W (by omega))
    rw [flowH_err (by rw [he2]; exact hE), he2] at HG
    unfold F9.cells F9.zero at HG
    simp only at HG
    have tF : ((e2 : Int) != 0) = true := by simp; omega
    clear he2 hE
    go_wp2_with fail
    refine (HG.out _).mono ?_
    rintro e w7 ⟨rfl, hb7⟩
    have B7 := Lib.hid (B6.out.trans (hb7.mono B6.out.size))
    clear hb7 HG
    go_wp2_with fail
    go_ret
    exact ⟨rfl, B7.out.alloc B7.out.size _⟩
  have d8 := LW.out.dgram h17'
  have hT := HT.out.trans (if_pos h17')
  subst hT
  have h17 := Lib.hid h17'
  have t2 : (n == 17) = true := by simp; omega
  clear h17' HT
  have b6 : F + 6 < p.size := by omega
  have b7 : F + 7 < p.size := by omega
  by_cases z6 : p[F + 6].toNat = 0
  · have t6 : ((p[F + 6].toNat : Int) == 0) = true := by simp; omega
    by_cases z7 : p[F + 7].toNat = 0
    · have t7' : ((p[F + 7].toNat : Int) == 0) = true := by simp; omega
      clear z6 z7
      go_wp2_with fail
      go_ret
      exact ⟨rfl, B3.out⟩
    have t7' : ((p[F + 7].toNat : Int) == 0) = false := by simp; omega
    have HZ7 := Lib.hid z7
    clear z6 z7
    have hkP : k / 8 < p.size := by omega
    have KF := Lib.hid (show F ≤ k / 8 by omega)
    have H1 : Hid (n = 17 → ∃ (a : F + 6 < p.size) (b : F + 7 < p.size), ¬ (p[F + 6].toNat = 0 ∧ p[F + 7].toNat = 0)) := fun _ => ⟨b6, b7, fun x => HZ7.out x.2⟩
    obtain ⟨cap, w5, hcv, hby, hkb, hz5⟩ := bytes_conv w3 p
    have HBY := Lib.hid hby
    have HKB := Lib.hid hkb
    have hz3 := B3.out.size
    clear hby hkb
    go_wp2_with fail
    clear hcv
    have c0 := HBY.out.cell (k / 8) (by simpa using hkP)
    have f0 := HBY.out.frozen (k / 8) (by simpa using hkP)
    have e1 : IntKind.i64.wrap ((k : Int) / 8) = ((k / 8 : Nat) : Int) := (IntWalk.i64_in _ (by omega)).trans (by omega)
    have e2 : IntKind.i64.wrap ((k : Int) % 8) = ((k % 8 : Nat) : Int) := (IntWalk.i64_in _ (by omega)).trans (by omega)
    have e3 : ((k : Int) % 8) = ((k % 8 : Nat) : Int) := by omega
    have hr8 : k % 8 < 8 := by omega
    have hk8 : k / 8 < p.data.toList.length := by simpa using hkP
    have e7 : ((k : Int).tmod 8) = ((k % 8 : Nat) : Int) := by rw [Int.tmod_eq_emod_of_nonneg (by omega)]; exact e3
    have e8 : IntKind.i64.wrap ((k : Int).tdiv 8) = ((k / 8 : Nat) : Int) := by rw [Int.tdiv_eq_ediv_of_nonneg (by omega)]; exact e1
    clear b0 b1
    generalize k / 8 = q at *
    generalize k % 8 = r at *
    have hsh := wrap_bit9 r hr8
    obtain ⟨bv, hbv⟩ : ∃ bv : UInt8, bv = UInt8.ofNat (2 ^ r) := ⟨_, rfl⟩
    rw [← hbv] at hsh
    have HBV := Lib.hid hbv
    clear hbv
    have hxo := xor_u8 p.data.toList[q] bv
    obtain ⟨cx, hcx⟩ : ∃ cx : UInt8, cx = p.data.toList[q] ^^^ bv := ⟨_, rfl⟩
    rw [← hcx] at hxo
    have HCX := Lib.hid hcx
    clear hcx
    generalize hcy : p.data.toList[q] = cy at *
    have HCY := Lib.hid hcy
    clear hcy
    have e4 : (0 : Int) ≤ q := by omega
    have e5 : (q : Int) < p.size := by omega
    have e6 : (0 : Int) ≤ r := by omega
    go_region
    have HN := Lib.hid (((HBY.out.set q cx _ rfl).drew))
    have HL2 := Lib.hid (show (p.data.toList.set q cx).length = p.size by simp)
    have hcv2 := HN.out.text (cap := cap) HL2.out.symm
    obtain ⟨Y, hY⟩ : ∃ Y : ByteArray, Y = ⟨(p.data.toList.set q cx).toArray⟩ := ⟨_, rfl⟩
    rw [← hY] at hcv2
    have hYl : Y.data.toList = p.data.toList.set q cx := by rw [hY]
    have hYz : Y.size = p.size := by rw [hY, list_size, HL2.out]
    have hYs : Y.size ≤ 6000 := by omega
    have FL := Lib.hid (LW.out.flip Y q r hkP KF.out hr8 (by rw [hYl, HCX.out, HBV.out, ← HCY.out]; rfl) H1.out)
    have HYL := Lib.hid hYl
    have B6 : Hid (Below w.heap.size w ((w5.setCell ⟨w3.heap.size, q, none⟩ (.int .u8 (cx.toNat : Int))).drew)) := by
      have hb := B3.out
      have hk := HKB.out
      have hb5 : Below w.heap.size w w5 := hb.trans ⟨hk.os, hk.tape, hk.output, hk.size, fun i hi => hk.block i (Nat.lt_of_lt_of_le hi hb.size) (fun f => f)⟩
      have K : Kb (fun k => w.heap.size ≤ k) w w5 := ⟨hb5.os, hb5.tape, hb5.output, hb5.size, fun k hk _ => hb5.block k hk⟩
      exact ((K.setCell (p := ⟨w3.heap.size, q, none⟩) (fun _ => hz3) _).drew).below (Nat.le_refl _)
    have N6 : Hid (Blk ((w5.setCell ⟨w3.heap.size, q, none⟩ (.int .u8 (cx.toNat : Int))).drew) N #[.int .i64 n, .string x1, .string x2, .int .i64 x3, .int .i64 x4] 24) :=
      ((N3.out.kb HKB.out (fun f => f)).set_other (p := ⟨w3.heap.size, q, none⟩) (by have := N3.out.lt; simp; omega) _).drew
    clear hY hYl hYz c0 f0 e1 e2 e3 e7 e8 hsh hxo e4 e5 e6 hr8 HBV HCX HCY
    generalize (w5.setCell ⟨w3.heap.size, q, none⟩ (.int .u8 (cx.toNat : Int))).drew = w6 at *
    have n0 := N6.out.cell 0
    simp at n0
    have hl8 : F + 8 ≤ (p.data.toList.set q cx).length := by rw [HL2.out]; exact d8
    have y6 := HN.out.cell (F + 6) (by omega)
    have y7 := HN.out.cell (F + 7) (by omega)
    have hy6 : (p.data.toList.set q cx)[F + 6]'(by omega) = Y[F + 6]'(by rw [← size_list, HYL.out]; omega) := by
      have : (p.data.toList.set q cx)[F + 6]'(by omega) = Y.data.toList[F + 6]'(by rw [HYL.out]; omega) := by simp only [HYL.out]
      rw [this]; rfl
    have hy7 : (p.data.toList.set q cx)[F + 7]'(by omega) = Y[F + 7]'(by rw [← size_list, HYL.out]; omega) := by
      have : (p.data.toList.set q cx)[F + 7]'(by omega) = Y.data.toList[F + 7]'(by rw [HYL.out]; omega) := by simp only [HYL.out]
      rw [this]; rfl
    rw [hy6] at y6
    rw [hy7] at y7
    have yb6 : F + 6 < Y.size := by rw [← size_list, HYL.out]; omega
    have yb7 : F + 7 < Y.size := by rw [← size_list, HYL.out]; omega
    have FX : Hid (¬ ((Y[F + 6]'yb6).toNat = 0 ∧ (Y[F + 7]'yb7).toNat = 0) → flowE Y ≠ 0) := fun h => FL.out (fun _ => ⟨yb6, yb7, h⟩)
    generalize (Y[F + 6]'yb6).toNat = z6 at *
    generalize (Y[F + 7]'yb7).toNat = z7 at *
    clear hy6 hy7 hl8 yb6 yb7 FL
    by_cases a6 : z6 = 0
    · have ta : ((z6 : Int) == 0) = true := by simp; omega
      by_cases a7 : z7 = 0
      · have tb : ((z7 : Int) == 0) = true := by simp; omega
        clear FX a6 a7
        go_wp2_with fail
        go_ret
        exact ⟨rfl, B6.out⟩
      have tb : ((z7 : Int) == 0) = false := by simp; omega
      have hE := FX.out (fun x => a7 x.2)
      clear FX a6 a7
      obtain ⟨e2, he2⟩ : ∃ e2, flowE Y = e2 := ⟨_, rfl⟩
      rw [he2] at hE
      have HG := Lib.hid (fun W => G2.out Y W (by omega))
      rw [flowH_err (by rw [he2]; exact hE), he2] at HG
      unfold F9.cells F9.zero at HG
      simp only at HG
      have tF : ((e2 : Int) != 0) = true := by simp; omega
      clear he2 hE
      go_wp2_with fail
      refine (HG.out _).mono ?_
      rintro e w7 ⟨rfl, hb7⟩
      have B7 := Lib.hid (B6.out.trans (hb7.mono B6.out.size))
      clear hb7 HG
      go_wp2_with fail
      go_ret
      exact ⟨rfl, B7.out.alloc B7.out.size _⟩
    have ta : ((z6 : Int) == 0) = false := by simp; omega
    have hE := FX.out (fun x => a6 x.1)
    clear FX a6
    obtain ⟨e2, he2⟩ : ∃ e2, flowE Y = e2 := ⟨_, rfl⟩
    rw [he2] at hE
    have HG := Lib.hid (fun W => G2.out Y W (by omega))
    rw [flowH_err (by rw [he2]; exact hE), he2] at HG
    unfold F9.cells F9.zero at HG
    simp only at HG
    have tF : ((e2 : Int) != 0) = true := by simp; omega
    clear he2 hE
    go_wp2_with fail
    refine (HG.out _).mono ?_
    rintro e w7 ⟨rfl, hb7⟩
    have B7 := Lib.hid (B6.out.trans (hb7.mono B6.out.size))
    clear hb7 HG
    go_wp2_with fail
    go_ret
    exact ⟨rfl, B7.out.alloc B7.out.size _⟩
  have t6 : ((p[F + 6].toNat : Int) == 0) = false := by simp; omega
  have HZ6 := Lib.hid z6
  clear z6
  have hkP : k / 8 < p.size := by omega
  have KF := Lib.hid (show F ≤ k / 8 by omega)
  have H1 : Hid (n = 17 → ∃ (a : F + 6 < p.size) (b : F + 7 < p.size), ¬ (p[F + 6].toNat = 0 ∧ p[F + 7].toNat = 0)) := fun _ => ⟨b6, b7, fun x => HZ6.out x.1⟩
  obtain ⟨cap, w5, hcv, hby, hkb, hz5⟩ := bytes_conv w3 p
  have HBY := Lib.hid hby
  have HKB := Lib.hid hkb
  have hz3 := B3.out.size
  clear hby hkb
  go_wp2_with fail
  clear hcv
  have c0 := HBY.out.cell (k / 8) (by simpa using hkP)
  have f0 := HBY.out.frozen (k / 8) (by simpa using hkP)
  have e1 : IntKind.i64.wrap ((k : Int) / 8) = ((k / 8 : Nat) : Int) := (IntWalk.i64_in _ (by omega)).trans (by omega)
  have e2 : IntKind.i64.wrap ((k : Int) % 8) = ((k % 8 : Nat) : Int) := (IntWalk.i64_in _ (by omega)).trans (by omega)
  have e3 : ((k : Int) % 8) = ((k % 8 : Nat) : Int) := by omega
  have hr8 : k % 8 < 8 := by omega
  have hk8 : k / 8 < p.data.toList.length := by simpa using hkP
  have e7 : ((k : Int).tmod 8) = ((k % 8 : Nat) : Int) := by rw [Int.tmod_eq_emod_of_nonneg (by omega)]; exact e3
  have e8 : IntKind.i64.wrap ((k : Int).tdiv 8) = ((k / 8 : Nat) : Int) := by rw [Int.tdiv_eq_ediv_of_nonneg (by omega)]; exact e1
  clear b0 b1
  generalize k / 8 = q at *
  generalize k % 8 = r at *
  have hsh := wrap_bit9 r hr8
  obtain ⟨bv, hbv⟩ : ∃ bv : UInt8, bv = UInt8.ofNat (2 ^ r) := ⟨_, rfl⟩
  rw [← hbv] at hsh
  have HBV := Lib.hid hbv
  clear hbv
  have hxo := xor_u8 p.data.toList[q] bv
  obtain ⟨cx, hcx⟩ : ∃ cx : UInt8, cx = p.data.toList[q] ^^^ bv := ⟨_, rfl⟩
  rw [← hcx] at hxo
  have HCX := Lib.hid hcx
  clear hcx
  generalize hcy : p.data.toList[q] = cy at *
  have HCY := Lib.hid hcy
  clear hcy
  have e4 : (0 : Int) ≤ q := by omega
  have e5 : (q : Int) < p.size := by omega
  have e6 : (0 : Int) ≤ r := by omega
  go_region
  have HN := Lib.hid (((HBY.out.set q cx _ rfl).drew))
  have HL2 := Lib.hid (show (p.data.toList.set q cx).length = p.size by simp)
  have hcv2 := HN.out.text (cap := cap) HL2.out.symm
  obtain ⟨Y, hY⟩ : ∃ Y : ByteArray, Y = ⟨(p.data.toList.set q cx).toArray⟩ := ⟨_, rfl⟩
  rw [← hY] at hcv2
  have hYl : Y.data.toList = p.data.toList.set q cx := by rw [hY]
  have hYz : Y.size = p.size := by rw [hY, list_size, HL2.out]
  have hYs : Y.size ≤ 6000 := by omega
  have FL := Lib.hid (LW.out.flip Y q r hkP KF.out hr8 (by rw [hYl, HCX.out, HBV.out, ← HCY.out]; rfl) H1.out)
  have HYL := Lib.hid hYl
  have B6 : Hid (Below w.heap.size w ((w5.setCell ⟨w3.heap.size, q, none⟩ (.int .u8 (cx.toNat : Int))).drew)) := by
    have hb := B3.out
    have hk := HKB.out
    have hb5 : Below w.heap.size w w5 := hb.trans ⟨hk.os, hk.tape, hk.output, hk.size, fun i hi => hk.block i (Nat.lt_of_lt_of_le hi hb.size) (fun f => f)⟩
    have K : Kb (fun k => w.heap.size ≤ k) w w5 := ⟨hb5.os, hb5.tape, hb5.output, hb5.size, fun k hk _ => hb5.block k hk⟩
    exact ((K.setCell (p := ⟨w3.heap.size, q, none⟩) (fun _ => hz3) _).drew).below (Nat.le_refl _)
  have N6 : Hid (Blk ((w5.setCell ⟨w3.heap.size, q, none⟩ (.int .u8 (cx.toNat : Int))).drew) N #[.int .i64 n, .string x1, .string x2, .int .i64 x3, .int .i64 x4] 24) :=
    ((N3.out.kb HKB.out (fun f => f)).set_other (p := ⟨w3.heap.size, q, none⟩) (by have := N3.out.lt; simp; omega) _).drew
  clear hY hYl hYz c0 f0 e1 e2 e3 e7 e8 hsh hxo e4 e5 e6 hr8 HBV HCX HCY
  generalize (w5.setCell ⟨w3.heap.size, q, none⟩ (.int .u8 (cx.toNat : Int))).drew = w6 at *
  have n0 := N6.out.cell 0
  simp at n0
  have hl8 : F + 8 ≤ (p.data.toList.set q cx).length := by rw [HL2.out]; exact d8
  have y6 := HN.out.cell (F + 6) (by omega)
  have y7 := HN.out.cell (F + 7) (by omega)
  have hy6 : (p.data.toList.set q cx)[F + 6]'(by omega) = Y[F + 6]'(by rw [← size_list, HYL.out]; omega) := by
    have : (p.data.toList.set q cx)[F + 6]'(by omega) = Y.data.toList[F + 6]'(by rw [HYL.out]; omega) := by simp only [HYL.out]
    rw [this]; rfl
  have hy7 : (p.data.toList.set q cx)[F + 7]'(by omega) = Y[F + 7]'(by rw [← size_list, HYL.out]; omega) := by
    have : (p.data.toList.set q cx)[F + 7]'(by omega) = Y.data.toList[F + 7]'(by rw [HYL.out]; omega) := by simp only [HYL.out]
    rw [this]; rfl
  rw [hy6] at y6
  rw [hy7] at y7
  have yb6 : F + 6 < Y.size := by rw [← size_list, HYL.out]; omega
  have yb7 : F + 7 < Y.size := by rw [← size_list, HYL.out]; omega
  have FX : Hid (¬ ((Y[F + 6]'yb6).toNat = 0 ∧ (Y[F + 7]'yb7).toNat = 0) → flowE Y ≠ 0) := fun h => FL.out (fun _ => ⟨yb6, yb7, h⟩)
  generalize (Y[F + 6]'yb6).toNat = z6 at *
  generalize (Y[F + 7]'yb7).toNat = z7 at *
  clear hy6 hy7 hl8 yb6 yb7 FL
  by_cases a6 : z6 = 0
  · have ta : ((z6 : Int) == 0) = true := by simp; omega
    by_cases a7 : z7 = 0
    · have tb : ((z7 : Int) == 0) = true := by simp; omega
      clear FX a6 a7
      go_wp2_with fail
      go_ret
      exact ⟨rfl, B6.out⟩
    have tb : ((z7 : Int) == 0) = false := by simp; omega
    have hE := FX.out (fun x => a7 x.2)
    clear FX a6 a7
    obtain ⟨e2, he2⟩ : ∃ e2, flowE Y = e2 := ⟨_, rfl⟩
    rw [he2] at hE
    have HG := Lib.hid (fun W => G2.out Y W (by omega))
    rw [flowH_err (by rw [he2]; exact hE), he2] at HG
    unfold F9.cells F9.zero at HG
    simp only at HG
    have tF : ((e2 : Int) != 0) = true := by simp; omega
    clear he2 hE
    go_wp2_with fail
    refine (HG.out _).mono ?_
    rintro e w7 ⟨rfl, hb7⟩
    have B7 := Lib.hid (B6.out.trans (hb7.mono B6.out.size))
    clear hb7 HG
    go_wp2_with fail
    go_ret
    exact ⟨rfl, B7.out.alloc B7.out.size _⟩
  have ta : ((z6 : Int) == 0) = false := by simp; omega
  have hE := FX.out (fun x => a6 x.1)
  clear FX a6
  obtain ⟨e2, he2⟩ : ∃ e2, flowE Y = e2 := ⟨_, rfl⟩
  rw [he2] at hE
  have HG := Lib.hid (fun W => G2.out Y W (by omega))
  rw [flowH_err (by rw [he2]; exact hE), he2] at HG
  unfold F9.cells F9.zero at HG
  simp only at HG
  have tF : ((e2 : Int) != 0) = true := by simp; omega
  clear he2 hE
  go_wp2_with fail
  refine (HG.out _).mono ?_
  rintro e w7 ⟨rfl, hb7⟩
  have B7 := Lib.hid (B6.out.trans (hb7.mono B6.out.size))
  clear hb7 HG
  go_wp2_with fail
  go_ret
  exact ⟨rfl, B7.out.alloc B7.out.size _⟩

end Go.Proofs.Ytimcjhekldnipaa
