/-
  The document's own answers: Right, numbers by bytes, numbers of bytes.
-/
import Derived.Test.YtoijomdgcgbpbaaIp4A
import Derived.Test.YtoijomdgcgbpbaaGround
import Derived.Test.YtoijomdgcgbpbaaSums
import Derived.Test.YtoijomdgcgbpbaaReading
import Derived.Deep.RegionHeld3
import Derived.Deep.CutBlock
import Derived.Deep.DeepCutAuto
import Derived.IntWalk
namespace Go.Proofs.Ytoijomdgcgbpbaa
open Go.RowKit
set_option linter.unusedVariables false

theorem in_b (n lo hi : Int) (b : Bool) (w : World) (hb : (decide (lo ≤ n) && decide (n ≤ hi)) = b) :
    Calls Try.prog 62 #[.int .i64 n, .int .i64 lo, .int .i64 hi] w fun e w' => e = .returned (.bool b) ∧ w = w' := by
  have HB := Lib.hid hb
  clear hb
  by_cases h1 : lo ≤ n
  · go_enter Try.func62, Try.ntmps62
    go_wp2_with fail
    go_ret
    exact ⟨by rw [← HB.out, decide_eq_true h1]; rfl, rfl⟩
  · go_enter Try.func62, Try.ntmps62
    go_wp2_with fail
    go_ret
    exact ⟨by rw [← HB.out, decide_eq_false (show ¬ lo ≤ n by omega)]; rfl, rfl⟩

set_option maxHeartbeats 400000 in
theorem num_any (n k : Nat) (w : World) (hn : n < 9223372036854775808) (hk : k ≤ 8) :
    Calls Try.prog 41 #[.int .i64 n, .int .i64 k] w fun e w' => e = .returned (.string ⟨(be n k).toArray⟩) ∧ Below w.heap.size w w' := by
  have hw : IntKind.u64.wrap (n : Int) = (n : Int) := wrap_u64 _ (by omega) (by omega)
  go_enter Try.func41, Try.ntmps41
  go_wp2_with fail
  refine (bytes_any n k w (by omega) hk).mono ?_
  rintro e w' ⟨rfl, hb⟩
  have HB := Lib.hid hb
  clear hb hw
  go_wp2_with fail
  go_ret
  exact ⟨rfl, HB.out⟩



set_option maxHeartbeats 400000 in
theorem at_num (s : ByteArray) (i : Nat) (w : World) (hi : i + 2 ≤ s.size) (hi2 : i ≤ 100) (hs : s.size ≤ 1000000) :
    Calls Try.prog 46 #[.string s, .int .i64 i, .int .i64 2] w fun e w' => e = .returned (.int .i64 (numOf s i 2 : Nat)) ∧ w = w' := by
  have hl := numOf_lt s i 2 hi
  go_enter Try.func46, Try.ntmps46
  go_wp2_with fail
  refine (value_num s i 2 w hi (by omega)).mono ?_
  rintro e w' ⟨rfl, rfl⟩
  go_wp2_with fail
  go_ret
  exact ⟨rfl, rfl⟩

theorem at_x (s : ByteArray) (m : Int) (i : Nat) (hm : m = (i : Nat)) (w : World) (hi : i + 2 ≤ s.size) (hi2 : i ≤ 100) (hs : s.size ≤ 1000000) :
    Calls Try.prog 46 #[.string s, .int .i64 m, .int .i64 2] w fun e w' => e = .returned (.int .i64 (numOf s i 2 : Nat)) ∧ w = w' := by
  subst hm; exact at_num s i w hi hi2 hs

set_option maxHeartbeats 1000000 in
theorem refright_any (h : H4) (w : World) :
    Calls Try.prog 40 #[.agg h.cells] w fun e w' => e = .returned (.bool h.ok) ∧ Below w.heap.size w w' := by
  have HL := Lib.hid ((Below.refl w.heap.size w).alloc (Nat.le_refl _) (.cells h.cells 43))
  have F0 := Lib.hid (h.ok_step 0 (by decide))
  have F1 := Lib.hid (h.ok_step 1 (by decide))
  have F2 := Lib.hid (h.ok_step 2 (by decide))
  have F3 := Lib.hid (h.ok_step 3 (by decide))
  have F4 := Lib.hid (h.ok_step 4 (by decide))
  have F5 := Lib.hid (h.ok_step 5 (by decide))
  have F6 := Lib.hid (h.ok_step 6 (by decide))
  have F7 := Lib.hid (h.ok_step 7 (by decide))
  have F8 := Lib.hid (h.ok_step 8 (by decide))
  have I0 := Lib.hid (fun b W (e : h.fine 0 = b) => in_b h.tos 0 255 b W e)
  have I1 := Lib.hid (fun b W (e : h.fine 1 = b) => in_b h.ttl 0 255 b W e)
  have I2 := Lib.hid (fun b W (e : h.fine 2 = b) => in_b h.proto 0 255 b W e)
  have I3 := Lib.hid (fun b W (e : h.fine 3 = b) => in_b h.id 0 65535 b W e)
  have I4 := Lib.hid (fun b W (e : h.fine 4 = b) => in_b h.off 0 8191 b W e)
  have E5 : Hid (((h.src.size : Int) == 4) = h.fine 5) := by
    show ((h.src.size : Int) == 4) = h.fine 5
    unfold H4.fine H4.row; simp only; rw [Bool.eq_iff_iff]; simp; try omega
  have E6 : Hid (((h.dst.size : Int) == 4) = h.fine 6) := by
    show ((h.dst.size : Int) == 4) = h.fine 6
    unfold H4.fine H4.row; simp only; rw [Bool.eq_iff_iff]; simp; try omega
  have E7 : Hid (decide ((h.opt.size : Int) ≤ 40) = h.fine 7) := by
    show decide ((h.opt.size : Int) ≤ 40) = h.fine 7
    unfold H4.fine H4.row; simp only; rw [Bool.eq_iff_iff]; simp; try omega
  have E8 : Hid (((h.opt.size : Int) % 4 == 0) = h.fine 8) := by
    show ((h.opt.size : Int) % 4 == 0) = h.fine 8
    unfold H4.fine H4.row; simp only; rw [Bool.eq_iff_iff]; simp; try omega
  have FA : Hid (h.ok = (h.fine 0 && h.fine 1 && h.fine 2 && h.fine 3 && h.fine 4 && h.fine 5 && h.fine 6 && h.fine 7 && h.fine 8)) := rfl
  generalize h.ok = ok at *
  generalize h.fine 0 = b0 at *
  generalize h.fine 1 = b1 at *
  generalize h.fine 2 = b2 at *
  generalize h.fine 3 = b3 at *
  generalize h.fine 4 = b4 at *
  generalize h.fine 5 = b5 at *
  generalize h.fine 6 = b6 at *
  generalize h.fine 7 = b7 at *
  generalize h.fine 8 = b8 at *
  unfold H4.cells at HL ⊢
  go_enter Try.func40, Try.ntmps40
  go_wp2_with fail
  refine (I0.out b0 _ rfl).mono ?_
  rintro e w' ⟨rfl, rfl⟩
  cases b0
  · have e1 := Lib.hid (F0.out rfl)
    go_wp2_with fail
    go_ret
    exact ⟨by rw [e1.out]; rfl, HL.out⟩
  go_wp2_with fail
  refine (I1.out b1 _ rfl).mono ?_
  rintro e w' ⟨rfl, rfl⟩
  cases b1
  · have e1 := Lib.hid (F1.out rfl)
    go_wp2_with fail
    go_ret
    exact ⟨by rw [e1.out]; rfl, HL.out⟩
  go_wp2_with fail
  refine (I2.out b2 _ rfl).mono ?_
  rintro e w' ⟨rfl, rfl⟩
  cases b2
  · have e1 := Lib.hid (F2.out rfl)
    go_wp2_with fail
    go_ret
    exact ⟨by rw [e1.out]; rfl, HL.out⟩
  go_wp2_with fail
  refine (I3.out b3 _ rfl).mono ?_
  rintro e w' ⟨rfl, rfl⟩
  cases b3
  · have e1 := Lib.hid (F3.out rfl)
    go_wp2_with fail
    go_ret
    exact ⟨by rw [e1.out]; rfl, HL.out⟩
  go_wp2_with fail
  refine (I4.out b4 _ rfl).mono ?_
  rintro e w' ⟨rfl, rfl⟩
  cases b4
  · have e1 := Lib.hid (F4.out rfl)
    go_wp2_with fail
    go_ret
    exact ⟨by rw [e1.out]; rfl, HL.out⟩
  have e5 := E5.out
  cases b5
  · have e1 := Lib.hid (F5.out rfl)
    go_wp2_with fail
    go_ret
    exact ⟨by rw [e1.out]; rfl, HL.out⟩
  have e6 := E6.out
  cases b6
  · have e1 := Lib.hid (F6.out rfl)
    go_wp2_with fail
    go_ret
    exact ⟨by rw [e1.out]; rfl, HL.out⟩
  have e7 := E7.out
  cases b7
  · have e1 := Lib.hid (F7.out rfl)
    go_wp2_with fail
    go_ret
    exact ⟨by rw [e1.out]; rfl, HL.out⟩
  have e8 := E8.out
  have e1 := FA
  go_wp2_with fail
  go_ret
  exact ⟨by rw [e1.out]; rfl, HL.out⟩

end Go.Proofs.Ytoijomdgcgbpbaa

/-
  The document's own Put.
-/
namespace Go.Proofs.Ytoijomdgcgbpbaa
open Go.RowKit
set_option linter.unusedVariables false

/-- A number's bytes, under a name. -/
theorem num_x (m : Int) (n k : Nat) (kk : Int) (x : ByteArray) (hkk : kk = (k : Nat)) (hm : m = (n : Nat)) (hn : n < 9223372036854775808) (hk : k ≤ 8) (hx : x = ⟨(be n k).toArray⟩) (w : World) :
    Calls Try.prog 41 #[.int .i64 m, .int .i64 kk] w fun e w' => e = .returned (.string x) ∧ Below w.heap.size w w' := by
  subst hm hx hkk
  exact num_any n k w hn hk

theorem sum_gap (a c : List UInt8) (ha : a.length % 2 = 0) : sumD (a ++ [0, 0] ++ c) = sumD (a ++ c) := by
  unfold sumD
  rw [ws_mid a [0, 0] c ha rfl, ws_append, side_even _ _ ha]
  rfl
theorem H4.head_length' (h : H4) (n : Nat) : (h.head n).length = 10 := by simp [H4.head, be_length]

/-- While the document's packet is made. -/
def RefS (w W : World) (h : H4) : Prop := Blk W w.heap.size h.cells 43 ∧ Below w.heap.size w W
theorem RefS.below {w W W' : World} {h : H4} (r : RefS w W h) (hb : Below W.heap.size W W') : RefS w W' h :=
  ⟨(hb.block _ r.1.lt).trans r.1, r.2.trans (hb.mono r.2.size)⟩

theorem RefS.drew {w W : World} {h : H4} (r : RefS w W h) : RefS w W.drew h := ⟨r.1.drew, r.2.os, r.2.tape, r.2.output, r.2.size, r.2.block⟩
theorem RefS.keep {w W W' : World} {h : H4} (hb : Below W.heap.size W W')
    (r : W.cell? ⟨w.heap.size, 0, none⟩ = some (.int .i64 h.tos) ∧ W.cell? ⟨w.heap.size, 1, none⟩ = some (.int .i64 h.id) ∧ W.cell? ⟨w.heap.size, 3, none⟩ = some (.int .i64 h.ttl) ∧ W.cell? ⟨w.heap.size, 4, none⟩ = some (.int .i64 h.proto) ∧ W.cell? ⟨w.heap.size, 9, none⟩ = some (.string h.opt) ∧ Hid (RefS w W h)) :
    W'.cell? ⟨w.heap.size, 0, none⟩ = some (.int .i64 h.tos) ∧ W'.cell? ⟨w.heap.size, 1, none⟩ = some (.int .i64 h.id) ∧ W'.cell? ⟨w.heap.size, 3, none⟩ = some (.int .i64 h.ttl) ∧ W'.cell? ⟨w.heap.size, 4, none⟩ = some (.int .i64 h.proto) ∧ W'.cell? ⟨w.heap.size, 9, none⟩ = some (.string h.opt) ∧ Hid (RefS w W' h) := by
  have r2 := r.2.2.2.2.2.out.below hb
  have c := Hc.of r2.1
  exact ⟨c.c0, c.c1, c.c3, c.c4, c.c9, Lib.hid r2⟩

set_option maxRecDepth 100000 in
set_option maxHeartbeats 1000000 in
theorem refput_yes (h : H4) (pay : ByteArray) (w : World) (hok : h.Ok) (hn : h.size + pay.size ≤ 65535) :
    Calls Try.prog 22 #[.agg h.cells, .string pay] w fun e w' => e = .returned (.tuple #[.string ⟨(h.pack pay).toArray⟩, .int .i64 0]) ∧ Below w.heap.size w w' := by
  have hc := refright_any h (w.alloc (.cells h.cells 43))
  rw [(H4.ok_iff h).2 hok] at hc
  have HC := Lib.hid hc
  have S1 : Hid (RefS w (w.alloc (.cells h.cells 43)) h) := ⟨Blk.new w h.cells 43, (Below.refl w.heap.size w).alloc (Nat.le_refl _) (.cells h.cells 43)⟩
  clear hc
  have hos : h.opt.size ≤ 40 := hok.opt
  have hps : pay.size ≤ 65535 := by omega
  have ho0 : 0 ≤ h.off := hok.off.1
  have ho1 : h.off ≤ 8191 := hok.off.2
  have HOK := Lib.hid hok
  have HN := Lib.hid hn
  have hn1 : 20 + (h.opt.size : Int) + (pay.size : Int) ≤ 65535 := by unfold H4.size at hn; omega
  clear hok hn
  unfold H4.cells at HC S1 ⊢
  obtain ⟨f1, hf1⟩ : ∃ f1 : Int, f1 = h.off + (if h.df then 16384 else 0) := ⟨_, rfl⟩
  obtain ⟨f2, hf2⟩ : ∃ f2 : Int, f2 = f1 + (if h.mf then 8192 else 0) := ⟨_, rfl⟩
  have hf1a : 0 ≤ f1 ∧ f1 ≤ 24575 := by rw [hf1]; split <;> omega
  have hf2a : f2 = (h.flags : Nat) := by
    rw [hf2, hf1]; unfold H4.flags
    split <;> split <;> omega
  have F1 := Lib.hid hf1
  have F2 := Lib.hid hf2
  have F3 := Lib.hid hf2a
  clear hf1 hf2 hf2a
  obtain ⟨hf1b, hf1c⟩ := hf1a
  generalize hdf : h.df = df at HC S1 F1 ⊢
  generalize hmf : h.mf = mf at HC S1 F2 ⊢
  have HDF := Lib.hid hdf
  have HMF := Lib.hid hmf
  clear hdf hmf
  go_enter Try.func22, Try.ntmps22
  go_wp2_with fail
  refine HC.out.mono ?_
  rintro e w1 ⟨rfl, hb⟩
  have S2 := Lib.hid (S1.out.below hb)
  clear S1 HC hb
  have ⟨c0, c1, c2, c3, c4, c5, c6, c7, c8, c9⟩ := Hc.of S2.out.1
  rw [HDF.out] at c5
  rw [HMF.out] at c6
  go_upto_if 25 with (fail)
  go_cut [7] (fun v wx => v = .int .i64 f1 ∧ w1 = wx)
  case first =>
    cases df
    · have g1 := F1.out
      simp at g1
      have G1 := Lib.hid g1
      clear g1
      go_wp2_with fail
      go_meet
      exact ⟨by rw [G1.out], rfl⟩
    · have g1 := F1.out
      simp at g1
      have G1 := Lib.hid g1
      clear g1
      go_wp2_with fail
      go_meet
      exact ⟨by rw [G1.out], rfl⟩
  case rest =>
  obtain ⟨rfl, rfl⟩ := hcut
  clear F1
  go_upto_if 29 with (fail)
  go_cut [7] (fun v wx => v = .int .i64 f2 ∧ w1 = wx)
  case first =>
    cases mf
    · have g1 := F2.out
      simp at g1
      have G1 := Lib.hid g1
      clear g1
      go_wp2_with fail
      go_meet
      exact ⟨by rw [G1.out], rfl⟩
    · have g1 := F2.out
      simp at g1
      have G1 := Lib.hid g1
      clear g1
      go_wp2_with fail
      go_meet
      exact ⟨by rw [G1.out], rfl⟩
  case rest =>
  obtain ⟨rfl, rfl⟩ := hcut
  clear F2 hf1b hf1c
  go_upto_region 11 with (fail)
  obtain ⟨x1, hx1⟩ : ∃ x, x = (⟨(be (64 + h.size / 4) 1).toArray⟩ : ByteArray) := ⟨_, rfl⟩
  obtain ⟨x2, hx2⟩ : ∃ x, x = (⟨(be h.tos.toNat 1).toArray⟩ : ByteArray) := ⟨_, rfl⟩
  obtain ⟨x3, hx3⟩ : ∃ x, x = (⟨(be (h.size + pay.size) 2).toArray⟩ : ByteArray) := ⟨_, rfl⟩
  obtain ⟨x4, hx4⟩ : ∃ x, x = (⟨(be h.id.toNat 2).toArray⟩ : ByteArray) := ⟨_, rfl⟩
  obtain ⟨x5, hx5⟩ : ∃ x, x = (⟨(be h.flags 2).toArray⟩ : ByteArray) := ⟨_, rfl⟩
  obtain ⟨x6, hx6⟩ : ∃ x, x = (⟨(be h.ttl.toNat 1).toArray⟩ : ByteArray) := ⟨_, rfl⟩
  obtain ⟨x7, hx7⟩ : ∃ x, x = (⟨(be h.proto.toNat 1).toArray⟩ : ByteArray) := ⟨_, rfl⟩
  obtain ⟨m1, hm1⟩ : ∃ m1 : Int, m1 = 69 + (h.opt.size : Int) / 4 := ⟨_, rfl⟩
  obtain ⟨o4, ho4⟩ : ∃ o4 : Int, o4 = (h.opt.size : Int) / 4 := ⟨_, rfl⟩
  have q1 : IntKind.i64.wrap ((h.opt.size : Int) / 4) = o4 := by rw [ho4]; exact IntWalk.i64_in _ (by omega)
  have q2 : IntKind.i64.wrap (69 + o4) = m1 := by rw [hm1, ho4]; exact IntWalk.i64_in _ (by omega)
  have N1 := Lib.hid (num_x m1 (64 + h.size / 4) 1 1 x1 rfl (by rw [hm1]; unfold H4.size; omega) (by unfold H4.size; omega) (by omega) hx1)
  have N2 := Lib.hid (num_x h.tos h.tos.toNat 1 1 x2 rfl (by have := HOK.out.tos; omega) (by have := HOK.out.tos; omega) (by omega) hx2)
  have N3 := Lib.hid (num_x (20 + (h.opt.size : Int) + (pay.size : Int)) (h.size + pay.size) 2 2 x3 rfl (by unfold H4.size; omega) (by unfold H4.size; omega) (by omega) hx3)
  have N4 := Lib.hid (num_x h.id h.id.toNat 2 2 x4 rfl (by have := HOK.out.id; omega) (by have := HOK.out.id; omega) (by omega) hx4)
  have N5 := Lib.hid (num_x f2 h.flags 2 2 x5 rfl F3.out (by unfold H4.flags; split <;> split <;> omega) (by omega) hx5)
  have N6 := Lib.hid (num_x h.ttl h.ttl.toNat 1 1 x6 rfl (by have := HOK.out.ttl; omega) (by have := HOK.out.ttl; omega) (by omega) hx6)
  have N7 := Lib.hid (num_x h.proto h.proto.toNat 1 1 x7 rfl (by have := HOK.out.proto; omega) (by have := HOK.out.proto; omega) (by omega) hx7)
  have X : Hid ((x1 ++ x2 ++ x3 ++ x4 ++ x5 ++ x6 ++ x7).data.toList = h.head (h.size + pay.size)) := by
    show (x1 ++ x2 ++ x3 ++ x4 ++ x5 ++ x6 ++ x7).data.toList = h.head (h.size + pay.size)
    simp only [cat_list, hx1, hx2, hx3, hx4, hx5, hx6, hx7]
    rfl
  have s1 : x1.size ≤ 2 := by rw [hx1, be_size]; omega
  have s2 : x2.size ≤ 2 := by rw [hx2, be_size]; omega
  have s3 : x3.size ≤ 2 := by rw [hx3, be_size]; omega
  have s4 : x4.size ≤ 2 := by rw [hx4, be_size]; omega
  have s5 : x5.size ≤ 2 := by rw [hx5, be_size]; omega
  have s6 : x6.size ≤ 2 := by rw [hx6, be_size]; omega
  have s7 : x7.size ≤ 2 := by rw [hx7, be_size]; omega
  have a1 : ¬ (9223372036854775807 < x1.size + x2.size) := by omega
  have a2 : ¬ (9223372036854775807 < (x1 ++ x2).size + x3.size) := by rw [cat_size]; omega
  have a3 : ¬ (9223372036854775807 < (x1 ++ x2 ++ x3).size + x4.size) := by rw [cat_size, cat_size]; omega
  have a4 : ¬ (9223372036854775807 < (x1 ++ x2 ++ x3 ++ x4).size + x5.size) := by rw [cat_size, cat_size, cat_size]; omega
  have a5 : ¬ (9223372036854775807 < (x1 ++ x2 ++ x3 ++ x4 ++ x5).size + x6.size) := by rw [cat_size, cat_size, cat_size, cat_size]; omega
  have a6 : ¬ (9223372036854775807 < (x1 ++ x2 ++ x3 ++ x4 ++ x5 ++ x6).size + x7.size) := by rw [cat_size, cat_size, cat_size, cat_size, cat_size]; omega
  simp only [ByteArray.size_append] at a2 a3 a4 a5 a6
  clear hm1 ho4 hx1 hx2 hx3 hx4 hx5 hx6 hx7 F3 c2 c5 c6 c7 c8
  go_region_held3 (fun W => W.cell? ⟨w.heap.size, 0, none⟩ = some (.int .i64 h.tos) ∧ W.cell? ⟨w.heap.size, 1, none⟩ = some (.int .i64 h.id) ∧ W.cell? ⟨w.heap.size, 3, none⟩ = some (.int .i64 h.ttl) ∧ W.cell? ⟨w.heap.size, 4, none⟩ = some (.int .i64 h.proto) ∧ W.cell? ⟨w.heap.size, 9, none⟩ = some (.string h.opt) ∧ Hid (RefS w W h))
    (first | exact ⟨c0, c1, c3, c4, c9, Lib.hid S2.out.drew⟩ | exact RefS.keep (by assumption) (by assumption))
    (first
      | (go_at_call 41; ((with_reducible refine (N1.out _).mono ?_); rintro e w' ⟨rfl, hb⟩))
      | (go_at_call 41; ((with_reducible refine (N2.out _).mono ?_); rintro e w' ⟨rfl, hb⟩))
      | (go_at_call 41; ((with_reducible refine (N3.out _).mono ?_); rintro e w' ⟨rfl, hb⟩))
      | (go_at_call 41; ((with_reducible refine (N4.out _).mono ?_); rintro e w' ⟨rfl, hb⟩))
      | (go_at_call 41; ((with_reducible refine (N5.out _).mono ?_); rintro e w' ⟨rfl, hb⟩))
      | (go_at_call 41; ((with_reducible refine (N6.out _).mono ?_); rintro e w' ⟨rfl, hb⟩))
      | (go_at_call 41; ((with_reducible refine (N7.out _).mono ?_); rintro e w' ⟨rfl, hb⟩)))
  rename_i held
  have S3 := held.2.2.2.2.2
  clear held c0 c1 c3 c4 c9 q1 q2 a1 a2 a3 a4 a5 a6 N1 N2 N3 N4 N5 N6 N7
  have has : (x1 ++ x2 ++ x3 ++ x4 ++ x5 ++ x6 ++ x7).size ≤ 14 := by simp only [cat_size]; omega
  generalize x1 ++ x2 ++ x3 ++ x4 ++ x5 ++ x6 ++ x7 = A at *
  have ⟨c0, c1, c2, c3, c4, c5, c6, c7, c8, c9⟩ := Hc.of S3.out.1
  have hsz1 : h.src.size ≤ 4 := by rw [HOK.out.src]; omega
  have hsz2 : h.dst.size ≤ 4 := by rw [HOK.out.dst]; omega
  go_upto_region 13 with (fail)
  clear c0 c1 c2 c3 c4 c5 c6 c7 c8 c9 S2
  have HT : Hid ((h.src ++ h.dst ++ h.opt).data.toList = h.tail) := by
    show (h.src ++ h.dst ++ h.opt).data.toList = h.tail
    rw [cat_list, cat_list]; rfl
  have hts : (h.src ++ h.dst ++ h.opt).size ≤ 48 := by rw [cat_size, cat_size]; omega
  generalize h.src ++ h.dst ++ h.opt = T at *
  have HP : Hid (h.pack pay = h.head (h.size + pay.size) ++ be (sumD (h.head (h.size + pay.size) ++ h.tail)) 2 ++ h.tail ++ pay.data.toList) := rfl
  obtain ⟨Z, hZ⟩ : ∃ Z : ByteArray, Z = ⟨#[0, 0]⟩ := ⟨_, rfl⟩
  rw [← hZ]
  have HZ : Hid (Z.data.toList = [0, 0]) := by
    show Z.data.toList = [0, 0]
    rw [hZ]
  have hzs : Z.size ≤ 2 := by rw [hZ]; exact Nat.le_refl _
  clear hZ
  go_wp2_with fail
  refine (refsum_any (A ++ Z ++ T) _ (by rw [cat_size, cat_size]; omega)).mono ?_
  rintro e w3 ⟨rfl, hb3⟩
  have S4 := Lib.hid (S3.out.below hb3)
  have HS : Hid (sumD (A ++ Z ++ T).data.toList = sumD (h.head (h.size + pay.size) ++ h.tail)) := by
    show sumD (A ++ Z ++ T).data.toList = sumD (h.head (h.size + pay.size) ++ h.tail)
    rw [cat_list, cat_list, HZ.out, HT.out, X.out, sum_gap _ _ (by rw [H4.head_length'])]
  have hsl := sumD_le (A ++ Z ++ T).data.toList
  clear hb3 S3
  generalize sumD (A ++ Z ++ T).data.toList = N at *
  obtain ⟨x8, hx8⟩ : ∃ x, x = (⟨(be N 2).toArray⟩ : ByteArray) := ⟨_, rfl⟩
  have N8 := Lib.hid (num_x (N : Int) N 2 2 x8 rfl rfl (by omega) (by omega) hx8)
  have s8 : x8.size ≤ 2 := by rw [hx8, be_size]; omega
  have X8 : Hid (x8.data.toList = be N 2) := by
    show x8.data.toList = be N 2
    rw [hx8]
  clear hx8
  go_wp2_with fail
  refine (N8.out _).mono ?_
  rintro e w4 ⟨rfl, hb4⟩
  have S5 := Lib.hid (S4.out.below hb4)
  clear hb4 S4 N8
  go_wp2_with fail
  go_ret2
  have hfin : (⟨(h.pack pay).toArray⟩ : ByteArray) = A ++ x8 ++ T ++ pay := by
    apply text_ext
    show (h.pack pay).toArray.toList = _
    rw [HP.out, cat_list, cat_list, cat_list, X.out, X8.out, HT.out, HS.out]
  exact ⟨by rw [hfin]; rfl, S5.out.2⟩

set_option maxHeartbeats 400000 in
theorem refput_range (h : H4) (pay : ByteArray) (w : World) (hok : h.ok = false) :
    Calls Try.prog 22 #[.agg h.cells, .string pay] w fun e w' => e = .returned (.tuple #[.string ⟨#[]⟩, .int .i64 1]) ∧ Below w.heap.size w w' := by
  have hc := refright_any h (w.alloc (.cells h.cells 43))
  rw [hok] at hc
  have HC := Lib.hid hc
  have HL1 := Lib.hid ((Below.refl w.heap.size w).alloc (Nat.le_refl _) (.cells h.cells 43))
  clear hc hok
  unfold H4.cells at HC HL1 ⊢
  go_enter Try.func22, Try.ntmps22
  go_wp2_with fail
  refine HC.out.mono ?_
  rintro e w1 ⟨rfl, hb⟩
  have HL2 : Hid (Below w.heap.size w w1) := HL1.out.trans (hb.mono (by simp))
  clear HL1 HC hb
  go_wp2_with fail
  go_ret2
  exact ⟨rfl, HL2.out⟩

set_option maxHeartbeats 400000 in
theorem refput_big (h : H4) (pay : ByteArray) (w : World) (hok : h.Ok) (hn : 65535 < h.size + pay.size) (hp : pay.size ≤ 140737488355328) :
    Calls Try.prog 22 #[.agg h.cells, .string pay] w fun e w' => e = .returned (.tuple #[.string ⟨#[]⟩, .int .i64 4]) ∧ Below w.heap.size w w' := by
  have hc := refright_any h (w.alloc (.cells h.cells 43))
  rw [(H4.ok_iff h).2 hok] at hc
  have HC := Lib.hid hc
  have S1 : Hid (RefS w (w.alloc (.cells h.cells 43)) h) := ⟨Blk.new w h.cells 43, (Below.refl w.heap.size w).alloc (Nat.le_refl _) (.cells h.cells 43)⟩
  clear hc
  have hos : h.opt.size ≤ 40 := hok.opt
  have hn1 : (65535 : Int) < 20 + (h.opt.size : Int) + (pay.size : Int) := by unfold H4.size at hn; omega
  clear hok hn
  unfold H4.cells at HC S1 ⊢
  go_enter Try.func22, Try.ntmps22
  go_wp2_with fail
  refine HC.out.mono ?_
  rintro e w1 ⟨rfl, hb⟩
  have S2 := Lib.hid (S1.out.below hb)
  clear S1 HC hb
  have ⟨c0, c1, c2, c3, c4, c5, c6, c7, c8, c9⟩ := Hc.of S2.out.1
  go_wp2_with fail
  go_ret2
  exact ⟨rfl, S2.out.2⟩

theorem refput_any (h : H4) (pay : ByteArray) (w : World) (hp : pay.size ≤ 140737488355328) :
    Calls Try.prog 22 #[.agg h.cells, .string pay] w fun e w' => e = .returned (.tuple #[.string (putS h pay), .int .i64 (putE h pay : Nat)]) ∧ Below w.heap.size w w' := by
  by_cases hok : h.ok = true
  · by_cases hn : 65535 < h.size + pay.size
    · have e : putE h pay = 4 := by unfold putE; rw [if_pos hok, if_pos hn]
      have s : putS h pay = ⟨#[]⟩ := by unfold putS; rw [if_neg (by omega)]
      rw [e, s]
      exact refput_big h pay w ((H4.ok_iff h).1 hok) hn hp
    · have e : putE h pay = 0 := by unfold putE; rw [if_pos hok, if_neg hn]
      have s : putS h pay = ⟨(h.pack pay).toArray⟩ := by unfold putS; rw [if_pos e]
      rw [e, s]
      exact refput_yes h pay w ((H4.ok_iff h).1 hok) (by omega)
  · have e : putE h pay = 1 := by unfold putE; rw [if_neg hok]
    have s : putS h pay = ⟨#[]⟩ := by unfold putS; rw [if_neg (by omega)]
    rw [e, s]
    exact refput_range h pay w (by simpa using hok)

end Go.Proofs.Ytoijomdgcgbpbaa
