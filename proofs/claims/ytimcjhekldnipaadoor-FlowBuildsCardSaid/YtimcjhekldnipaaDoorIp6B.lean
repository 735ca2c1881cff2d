/-
  The document's own answers: Right, and its Put.
-/
import Derived.Test.YtimcjhekldnipaaDoorIp6A
import Derived.Test.YtimcjhekldnipaaDoorGround
import Derived.Test.YtimcjhekldnipaaDoorReading
import Derived.IntWalk
import Derived.Deep.RegionHeld3
import Derived.Deep.CutBlock
import Derived.Deep.DeepCutAuto
namespace Go.Proofs.YtimcjhekldnipaaDoor
open Go.RowKit
set_option linter.unusedVariables false

theorem in6_b (n lo hi : Int) (b : Bool) (w : World) (hb : (decide (lo ≤ n) && decide (n ≤ hi)) = b) :
    Calls Tryd.prog 70 #[.int .i64 n, .int .i64 lo, .int .i64 hi] w fun e w' => e = .returned (.bool b) ∧ w = w' := by
  have HB := Lib.hid hb
  clear hb
  by_cases h1 : lo ≤ n
  · go_enter Tryd.func70, Tryd.ntmps70
    go_wp2_with fail
    go_ret
    exact ⟨by rw [← HB.out, decide_eq_true h1]; rfl, rfl⟩
  · go_enter Tryd.func70, Tryd.ntmps70
    go_wp2_with fail
    go_ret
    exact ⟨by rw [← HB.out, decide_eq_false (show ¬ lo ≤ n by omega)]; rfl, rfl⟩

set_option maxHeartbeats 1000000 in
theorem refright6_any (h : H6) (w : World) :
    Calls Tryd.prog 48 #[.agg h.cells] w fun e w' => e = .returned (.bool h.ok) ∧ Below w.heap.size w w' := by
  have HL := Lib.hid ((Below.refl w.heap.size w).alloc (Nat.le_refl _) (.cells h.cells 25))
  have F0 := Lib.hid (h.ok_step 0 (by decide))
  have F1 := Lib.hid (h.ok_step 1 (by decide))
  have F2 := Lib.hid (h.ok_step 2 (by decide))
  have F3 := Lib.hid (h.ok_step 3 (by decide))
  have F4 := Lib.hid (h.ok_step 4 (by decide))
  have I0 := Lib.hid (fun b W (e : h.fine 0 = b) => in6_b h.cls 0 255 b W e)
  have I1 := Lib.hid (fun b W (e : h.fine 1 = b) => in6_b h.nxt 0 255 b W e)
  have I2 := Lib.hid (fun b W (e : h.fine 2 = b) => in6_b h.hops 0 255 b W e)
  have I3 := Lib.hid (fun b W (e : h.fine 3 = b) => in6_b h.lab 0 1048575 b W e)
  have E4 : Hid (((h.src.size : Int) == 16) = h.fine 4) := by
    show ((h.src.size : Int) == 16) = h.fine 4
    unfold H6.fine; simp only; rw [Bool.eq_iff_iff]; simp
  have E5 : Hid (((h.dst.size : Int) == 16) = h.fine 5) := by
    show ((h.dst.size : Int) == 16) = h.fine 5
    unfold H6.fine; simp only; rw [Bool.eq_iff_iff]; simp
  have FA : Hid (h.ok = (h.fine 0 && h.fine 1 && h.fine 2 && h.fine 3 && h.fine 4 && h.fine 5)) := rfl
  generalize h.ok = ok at *
  generalize h.fine 0 = b0 at *
  generalize h.fine 1 = b1 at *
  generalize h.fine 2 = b2 at *
  generalize h.fine 3 = b3 at *
  generalize h.fine 4 = b4 at *
  generalize h.fine 5 = b5 at *
  unfold H6.cells at HL ⊢
  go_enter Tryd.func48, Tryd.ntmps48
  go_wp2_with fail
  refine (I0.out b0 _ rfl).mono ?_
  rintro e w' ⟨rfl, rfl⟩
  cases b0
  · have e1 := Lib.hid (F0.out rfl)
    go_wp2_with fail
    go_ret
    exact ⟨by rw [e1.out]; rfl, HL.out⟩
  go_wp2_with fail
  refine (I1.out b1 _ rfl).mono ?_
  rintro e w' ⟨rfl, rfl⟩
  cases b1
  · have e1 := Lib.hid (F1.out rfl)
    go_wp2_with fail
    go_ret
    exact ⟨by rw [e1.out]; rfl, HL.out⟩
  go_wp2_with fail
  refine (I2.out b2 _ rfl).mono ?_
  rintro e w' ⟨rfl, rfl⟩
  cases b2
  · have e1 := Lib.hid (F2.out rfl)
    go_wp2_with fail
    go_ret
    exact ⟨by rw [e1.out]; rfl, HL.out⟩
  go_wp2_with fail
  refine (I3.out b3 _ rfl).mono ?_
  rintro e w' ⟨rfl, rfl⟩
  cases b3
  · have e1 := Lib.hid (F3.out rfl)
    go_wp2_with fail
    go_ret
    exact ⟨by rw [e1.out]; rfl, HL.out⟩
  have e4 := E4.out
  cases b4
  · have e1 := Lib.hid (F4.out rfl)
    go_wp2_with fail
    go_ret
    exact ⟨by rw [e1.out]; rfl, HL.out⟩
  have e5 := E5.out
  have e1 := FA
  go_wp2_with fail
  go_ret
  exact ⟨by rw [e1.out]; rfl, HL.out⟩

set_option maxHeartbeats 400000 in
theorem refput6_range (h : H6) (pay : ByteArray) (w : World) (hok : h.ok = false) :
    Calls Tryd.prog 19 #[.agg h.cells, .string pay] w fun e w' => e = .returned (.tuple #[.string ⟨#[]⟩, .int .i64 1]) ∧ Below w.heap.size w w' := by
  have hc := refright6_any h (w.alloc (.cells h.cells 25))
  rw [hok] at hc
  have HC := Lib.hid hc
  have S1 := Lib.hid (Held6.new w h)
  clear hc hok
  unfold H6.cells at HC S1 ⊢
  go_enter Tryd.func19, Tryd.ntmps19
  go_wp2_with fail
  refine HC.out.mono ?_
  rintro e w1 ⟨rfl, hb⟩
  have S2 := Lib.hid (S1.out.below hb)
  clear S1 HC hb
  go_wp2_with fail
  go_ret2
  exact ⟨rfl, S2.out.bel⟩

set_option maxHeartbeats 400000 in
theorem refput6_big (h : H6) (pay : ByteArray) (w : World) (hok : h.Ok) (hn : 65535 < pay.size) :
    Calls Tryd.prog 19 #[.agg h.cells, .string pay] w fun e w' => e = .returned (.tuple #[.string ⟨#[]⟩, .int .i64 4]) ∧ Below w.heap.size w w' := by
  have hc := refright6_any h (w.alloc (.cells h.cells 25))
  rw [(H6.ok_iff h).2 hok] at hc
  have HC := Lib.hid hc
  have S1 := Lib.hid (Held6.new w h)
  have t1 : decide ((65535 : Int) < (pay.size : Int)) = true := by simp; omega
  clear hc hok hn
  unfold H6.cells at HC S1 ⊢
  go_enter Tryd.func19, Tryd.ntmps19
  go_wp2_with fail
  refine HC.out.mono ?_
  rintro e w1 ⟨rfl, hb⟩
  have S2 := Lib.hid (S1.out.below hb)
  clear S1 HC hb
  go_wp2_with fail
  go_ret2
  exact ⟨rfl, S2.out.bel⟩

end Go.Proofs.YtimcjhekldnipaaDoor

/-
  The document's own Put.
-/
namespace Go.Proofs.YtimcjhekldnipaaDoor
open Go.RowKit
set_option linter.unusedVariables false

/-- A number's bytes, under a name. -/
theorem bytes_x (m : Int) (n k : Nat) (kk : Int) (x : ByteArray) (hkk : kk = (k : Nat)) (hm : m = (n : Nat)) (hn : n < 9223372036854775808) (hk : k ≤ 8) (hx : x = ⟨(be n k).toArray⟩) (w : World) :
    Calls Tryd.prog 27 #[.int .u64 m, .int .i64 kk] w fun e w' => e = .returned (.string x) ∧ Below w.heap.size w w' := by
  subst hm hx hkk
  exact bytes_any n k w (by omega) hk

set_option maxRecDepth 100000 in
set_option maxHeartbeats 1000000 in
theorem refput6_yes (h : H6) (pay : ByteArray) (w : World) (hok : h.Ok) (hn : pay.size ≤ 65535) :
    Calls Tryd.prog 19 #[.agg h.cells, .string pay] w fun e w' => e = .returned (.tuple #[.string ⟨(h.pack pay).toArray⟩, .int .i64 0]) ∧ Below w.heap.size w w' := by
  have hc := refright6_any h (w.alloc (.cells h.cells 25))
  rw [(H6.ok_iff h).2 hok] at hc
  have HC := Lib.hid hc
  have S1 := Lib.hid (Held6.new w h)
  have t1 : decide ((65535 : Int) < (pay.size : Int)) = false := by simp; omega
  have k0 := hok.cls
  have k3 := hok.lab
  have HOK := Lib.hid hok
  have HN := Lib.hid hn
  clear hc hok hn
  unfold H6.cells at HC S1 ⊢
  go_enter Tryd.func19, Tryd.ntmps19
  go_wp2_with fail
  refine HC.out.mono ?_
  rintro e w1 ⟨rfl, hb⟩
  have S2 := Lib.hid (S1.out.below hb)
  clear S1 HC hb
  have ⟨c0, c1, c2, c3, c4, c5⟩ := Hc6.of S2.out.b
  go_wp2_with fail
  obtain ⟨x1, hx1⟩ : ∃ x, x = (⟨(be h.word 4).toArray⟩ : ByteArray) := ⟨_, rfl⟩
  obtain ⟨x2, hx2⟩ : ∃ x, x = (⟨(be pay.size 2).toArray⟩ : ByteArray) := ⟨_, rfl⟩
  obtain ⟨x3, hx3⟩ : ∃ x, x = (⟨(be h.nxt.toNat 1).toArray⟩ : ByteArray) := ⟨_, rfl⟩
  obtain ⟨x4, hx4⟩ : ∃ x, x = (⟨(be h.hops.toNat 1).toArray⟩ : ByteArray) := ⟨_, rfl⟩
  obtain ⟨m1, hm1⟩ : ∃ m1 : Int, m1 = (h.word : Nat) := ⟨_, rfl⟩
  obtain ⟨m2, hm2⟩ : ∃ m2 : Int, m2 = (pay.size : Nat) := ⟨_, rfl⟩
  obtain ⟨m3, hm3⟩ : ∃ m3 : Int, m3 = (h.nxt.toNat : Nat) := ⟨_, rfl⟩
  obtain ⟨m4, hm4⟩ : ∃ m4 : Int, m4 = (h.hops.toNat : Nat) := ⟨_, rfl⟩
  have k1 := HOK.out.nxt
  have k2 := HOK.out.hops
  have hwd : h.word = 1610612736 + h.cls.toNat * 1048576 + h.lab.toNat := rfl
  have hps := HN.out
  have q1 : IntKind.u64.wrap ((1536 + h.cls) * 1048576 + h.lab) = m1 := by rw [wrap_u64 _ (by omega) (by omega), hm1, hwd]; omega
  have q2 : IntKind.u64.wrap (pay.size : Int) = m2 := by rw [wrap_u64 _ (by omega) (by omega), hm2]
  have q3 : IntKind.u64.wrap h.nxt = m3 := by rw [wrap_u64 _ (by omega) (by omega), hm3]; omega
  have q4 : IntKind.u64.wrap h.hops = m4 := by rw [wrap_u64 _ (by omega) (by omega), hm4]; omega
  have N1 := Lib.hid (bytes_x m1 h.word 4 4 x1 rfl hm1 (by omega) (by omega) hx1)
  have N2 := Lib.hid (bytes_x m2 pay.size 2 2 x2 rfl hm2 (by omega) (by omega) hx2)
  have N3 := Lib.hid (bytes_x m3 h.nxt.toNat 1 1 x3 rfl hm3 (by omega) (by omega) hx3)
  have N4 := Lib.hid (bytes_x m4 h.hops.toNat 1 1 x4 rfl hm4 (by omega) (by omega) hx4)
  have X : Hid ((x1 ++ x2 ++ x3 ++ x4 ++ h.src ++ h.dst ++ pay).data.toList = h.pack pay) := by
    show (x1 ++ x2 ++ x3 ++ x4 ++ h.src ++ h.dst ++ pay).data.toList = h.pack pay
    simp only [cat_list, hx1, hx2, hx3, hx4]
    rfl
  have s1 : x1.size ≤ 4 := by rw [hx1, be_size]; omega
  have s2 : x2.size ≤ 2 := by rw [hx2, be_size]; omega
  have s3 : x3.size ≤ 2 := by rw [hx3, be_size]; omega
  have s4 : x4.size ≤ 2 := by rw [hx4, be_size]; omega
  have s5 : h.src.size ≤ 16 := by rw [HOK.out.src]; omega
  have s6 : h.dst.size ≤ 16 := by rw [HOK.out.dst]; omega
  have a1 : ¬ (9223372036854775807 < x1.size + x2.size) := by omega
  have a2 : ¬ (9223372036854775807 < (x1 ++ x2).size + x3.size) := by rw [cat_size]; omega
  have a3 : ¬ (9223372036854775807 < (x1 ++ x2 ++ x3).size + x4.size) := by rw [cat_size, cat_size]; omega
  have a4 : ¬ (9223372036854775807 < (x1 ++ x2 ++ x3 ++ x4).size + h.src.size) := by rw [cat_size, cat_size, cat_size]; omega
  have a5 : ¬ (9223372036854775807 < (x1 ++ x2 ++ x3 ++ x4 ++ h.src).size + h.dst.size) := by rw [cat_size, cat_size, cat_size, cat_size]; omega
  have a6 : ¬ (9223372036854775807 < (x1 ++ x2 ++ x3 ++ x4 ++ h.src ++ h.dst).size + pay.size) := by rw [cat_size, cat_size, cat_size, cat_size, cat_size]; omega
  simp only [ByteArray.size_append] at a2 a3 a4 a5 a6
  clear hm1 hm2 hm3 hm4 hx1 hx2 hx3 hx4 hwd hps k0 k1 k2 k3 t1
  go_region_held3 (fun W => W.cell? ⟨w.heap.size, 0, none⟩ = some (.int .i64 h.cls) ∧ W.cell? ⟨w.heap.size, 1, none⟩ = some (.int .i64 h.lab) ∧ W.cell? ⟨w.heap.size, 2, none⟩ = some (.int .i64 h.nxt) ∧ W.cell? ⟨w.heap.size, 3, none⟩ = some (.int .i64 h.hops) ∧ W.cell? ⟨w.heap.size, 4, none⟩ = some (.string h.src) ∧ W.cell? ⟨w.heap.size, 5, none⟩ = some (.string h.dst) ∧ Hid (Held6 w W h))
    (first | exact ⟨c0, c1, c2, c3, c4, c5, Lib.hid S2.out.drew⟩ | exact keep6 (by assumption) (by assumption))
    (first
      | (go_at_call 27; ((with_reducible refine (N1.out _).mono ?_); rintro e w' ⟨rfl, hb⟩))
      | (go_at_call 27; ((with_reducible refine (N2.out _).mono ?_); rintro e w' ⟨rfl, hb⟩))
      | (go_at_call 27; ((with_reducible refine (N3.out _).mono ?_); rintro e w' ⟨rfl, hb⟩))
      | (go_at_call 27; ((with_reducible refine (N4.out _).mono ?_); rintro e w' ⟨rfl, hb⟩)))
  rename_i held
  have S3 := held.2.2.2.2.2.2
  clear held c0 c1 c2 c3 c4 c5 q1 q2 q3 q4 a1 a2 a3 a4 a5 a6 N1 N2 N3 N4 S2 s1 s2 s3 s4 s5 s6
  have hfin : (⟨(h.pack pay).toArray⟩ : ByteArray) = x1 ++ x2 ++ x3 ++ x4 ++ h.src ++ h.dst ++ pay := by
    apply text_ext
    show (h.pack pay).toArray.toList = _
    rw [X.out]
  have HFIN := Lib.hid hfin
  clear hfin X
  go_wp2_with fail
  go_ret2
  exact ⟨by rw [HFIN.out]; rfl, S3.out.bel⟩

theorem refput6_any (h : H6) (pay : ByteArray) (w : World) :
    Calls Tryd.prog 19 #[.agg h.cells, .string pay] w fun e w' => e = .returned (.tuple #[.string (put6S h pay), .int .i64 (put6E h pay : Nat)]) ∧ Below w.heap.size w w' := by
  by_cases hok : h.ok = true
  · by_cases hn : 65535 < pay.size
    · have e : put6E h pay = 4 := by unfold put6E; rw [if_pos hok, if_pos hn]
      have s : put6S h pay = ⟨#[]⟩ := by unfold put6S; rw [if_neg (by omega)]
      rw [e, s]
      exact refput6_big h pay w ((H6.ok_iff h).1 hok) hn
    · have e : put6E h pay = 0 := by unfold put6E; rw [if_pos hok, if_neg hn]
      have s : put6S h pay = ⟨(h.pack pay).toArray⟩ := by unfold put6S; rw [if_pos e]
      rw [e, s]
      exact refput6_yes h pay w ((H6.ok_iff h).1 hok) (by omega)
  · have e : put6E h pay = 1 := by unfold put6E; rw [if_neg hok]
    have s : put6S h pay = ⟨#[]⟩ := by unfold put6S; rw [if_neg (by omega)]
    rw [e, s]
    exact refput6_range h pay w (by simpa using hok)

end Go.Proofs.YtimcjhekldnipaaDoor

/-
  The document's own Get.
-/
namespace Go.Proofs.YtimcjhekldnipaaDoor
open Go.RowKit
set_option linter.unusedVariables false

/-- The document's Get's end. -/
def Ref6Got (p : ByteArray) (w : World) (e : Ending) (w' : World) : Prop := e = .returned (.tuple #[.agg (get6H p).cells, .string (get6S p), .int .i64 (get6E p : Nat)]) ∧ Below w.heap.size w w'

theorem made_hdr6 (p : ByteArray) (h6 : 6 < p.size) (h7 : 7 < p.size) (n : Nat) (hn : n = numOf p 0 4) :
    (⟨((n : Int) / 1048576).tmod 256, (n : Int).tmod 1048576, IntKind.i64.wrap (p[6].toNat : Int), IntKind.i64.wrap (p[7].toNat : Int), p.extract 8 24, p.extract 24 40⟩ : H6) = hdr6 p := by
  have l6 := p[6].toNat_lt
  have l7 := p[7].toNat_lt
  unfold hdr6
  rw [numOf_one p 6 h6, numOf_one p 7 h7, IntWalk.i64_in _ (by omega), IntWalk.i64_in _ (by omega), ← hn]
  have e1 : ((n : Int) / 1048576).tmod 256 = ((n / 1048576 % 256 : Nat) : Int) := by rw [Int.tmod_eq_emod_of_nonneg (by omega)]; omega
  have e2 : (n : Int).tmod 1048576 = ((n % 1048576 : Nat) : Int) := by rw [Int.tmod_eq_emod_of_nonneg (by omega)]; omega
  rw [e1, e2]

end Go.Proofs.YtimcjhekldnipaaDoor
