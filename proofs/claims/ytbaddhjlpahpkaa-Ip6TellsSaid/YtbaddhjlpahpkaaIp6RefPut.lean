/-
  The document's own Put.
-/
import Derived.Test.YtbaddhjlpahpkaaIp6Ref
import Derived.Deep.RegionHeld3
import Derived.Deep.CutBlock
import Derived.Deep.DeepCutAuto
namespace Go.Proofs.Ytbaddhjlpahpkaa
open Go.RowKit
set_option linter.unusedVariables false

/-- A number's bytes, under a name. -/
theorem bytes_x (m : Int) (n k : Nat) (kk : Int) (x : ByteArray) (hkk : kk = (k : Nat)) (hm : m = (n : Nat)) (hn : n < 9223372036854775808) (hk : k ≤ 8) (hx : x = ⟨(be n k).toArray⟩) (w : World) :
    Calls Try.prog 19 #[.int .u64 m, .int .i64 kk] w fun e w' => e = .returned (.string x) ∧ Below w.heap.size w w' := by
  subst hm hx hkk
  exact bytes_any n k w (by omega) hk

set_option maxRecDepth 100000 in
set_option maxHeartbeats 1000000 in
theorem refput6_yes (h : H6) (pay : ByteArray) (w : World) (hok : h.Ok) (hn : pay.size ≤ 65535) :
    Calls Try.prog 9 #[.agg h.cells, .string pay] w fun e w' => e = .returned (.tuple #[.string ⟨(h.pack pay).toArray⟩, .int .i64 0]) ∧ Below w.heap.size w w' := by
  have hc := refright6_any h (w.alloc (.cells h.cells 23))
  rw [(H6.ok_iff h).2 hok] at hc
  have HC := Lib.hid hc
  have S1 := Lib.hid (Held6.new w h)
  have t1 : decide ((65535 : Int) < (pay.size : Int)) = false := by simp; omega
  have k0 := hok.cls
  have k3 := hok.lab
  have HOK := Lib.hid hok
  have HN := Lib.hid hn
  clear hc hok hn
  unfold H6.cells at HC S1 ⊢
  go_enter Try.func9, Try.ntmps9
  go_wp2_with fail
  refine HC.out.mono ?_
  rintro e w1 ⟨rfl, hb⟩
  have S2 := Lib.hid (S1.out.below hb)
  clear S1 HC hb
  have ⟨c0, c1, c2, c3, c4, c5⟩ := Hc6.of S2.out.b
  go_wp2_with fail
  obtain ⟨x1, hx1⟩ : ∃ x, x = (⟨(be h.word 4).toArray⟩ : ByteArray) := ⟨_, rfl⟩
  obtain ⟨x2, hx2⟩ : ∃ x, x = (⟨(be pay.size 2).toArray⟩ : ByteArray) := ⟨_, rfl⟩
  obtain ⟨x3, hx3⟩ : ∃ x, x = (⟨(be h.nxt.toNat 1).toArray⟩ : ByteArray) := ⟨_, rfl⟩
  obtain ⟨x4, hx4⟩ : ∃ x, x = (⟨(be h.hops.toNat 1).toArray⟩ : ByteArray) := ⟨_, rfl⟩
  obtain ⟨m1, hm1⟩ : ∃ m1 : Int, m1 = (h.word : Nat) := ⟨_, rfl⟩
  obtain ⟨m2, hm2⟩ : ∃ m2 : Int, m2 = (pay.size : Nat) := ⟨_, rfl⟩
  obtain ⟨m3, hm3⟩ : ∃ m3 : Int, m3 = (h.nxt.toNat : Nat) := ⟨_, rfl⟩
  obtain ⟨m4, hm4⟩ : ∃ m4 : Int, m4 = (h.hops.toNat : Nat) := ⟨_, rfl⟩
  have k1 := HOK.out.nxt
  have k2 := HOK.out.hops
  have hwd : h.word = 1610612736 + h.cls.toNat * 1048576 + h.lab.toNat := rfl
  have hps := HN.out
  have q1 : IntKind.u64.wrap ((1536 + h.cls) * 1048576 + h.lab) = m1 := by rw [wrap_u64 _ (by omega) (by omega), hm1, hwd]; omega
  have q2 : IntKind.u64.wrap (pay.size : Int) = m2 := by rw [wrap_u64 _ (by omega) (by omega), hm2]
  have q3 : IntKind.u64.wrap h.nxt = m3 := by rw [wrap_u64 _ (by omega) (by omega), hm3]; omega
  have q4 : IntKind.u64.wrap h.hops = m4 := by rw [wrap_u64 _ (by omega) (by omega), hm4]; omega
  have N1 := Lib.hid (bytes_x m1 h.word 4 4 x1 rfl hm1 (by omega) (by omega) hx1)
  have N2 := Lib.hid (bytes_x m2 pay.size 2 2 x2 rfl hm2 (by omega) (by omega) hx2)
  have N3 := Lib.hid (bytes_x m3 h.nxt.toNat 1 1 x3 rfl hm3 (by omega) (by omega) hx3)
  have N4 := Lib.hid (bytes_x m4 h.hops.toNat 1 1 x4 rfl hm4 (by omega) (by omega) hx4)
  have X : Hid ((x1 ++ x2 ++ x3 ++ x4 ++ h.src ++ h.dst ++ pay).data.toList = h.pack pay) := by
    show (x1 ++ x2 ++ x3 ++ x4 ++ h.src ++ h.dst ++ pay).data.toList = h.pack pay
    simp only [cat_list, hx1, hx2, hx3, hx4]
    rfl
  have s1 : x1.size ≤ 4 := by rw [hx1, be_size]; omega
  have s2 : x2.size ≤ 2 := by rw [hx2, be_size]; omega
  have s3 : x3.size ≤ 2 := by rw [hx3, be_size]; omega
  have s4 : x4.size ≤ 2 := by rw [hx4, be_size]; omega
  have s5 : h.src.size ≤ 16 := by rw [HOK.out.src]; omega
  have s6 : h.dst.size ≤ 16 := by rw [HOK.out.dst]; omega
  have a1 : ¬ (9223372036854775807 < x1.size + x2.size) := by omega
  have a2 : ¬ (9223372036854775807 < (x1 ++ x2).size + x3.size) := by rw [cat_size]; omega
  have a3 : ¬ (9223372036854775807 < (x1 ++ x2 ++ x3).size + x4.size) := by rw [cat_size, cat_size]; omega
  have a4 : ¬ (9223372036854775807 < (x1 ++ x2 ++ x3 ++ x4).size + h.src.size) := by rw [cat_size, cat_size, cat_size]; omega
  have a5 : ¬ (9223372036854775807 < (x1 ++ x2 ++ x3 ++ x4 ++ h.src).size + h.dst.size) := by rw [cat_size, cat_size, cat_size, cat_size]; omega
  have a6 : ¬ (9223372036854775807 < (x1 ++ x2 ++ x3 ++ x4 ++ h.src ++ h.dst).size + pay.size) := by rw [cat_size, cat_size, cat_size, cat_size, cat_size]; omega
  simp only [ByteArray.size_append] at a2 a3 a4 a5 a6
  clear hm1 hm2 hm3 hm4 hx1 hx2 hx3 hx4 hwd hps k0 k1 k2 k3 t1
  go_region_held3 (fun W => W.cell? ⟨w.heap.size, 0, none⟩ = some (.int .i64 h.cls) ∧ W.cell? ⟨w.heap.size, 1, none⟩ = some (.int .i64 h.lab) ∧ W.cell? ⟨w.heap.size, 2, none⟩ = some (.int .i64 h.nxt) ∧ W.cell? ⟨w.heap.size, 3, none⟩ = some (.int .i64 h.hops) ∧ W.cell? ⟨w.heap.size, 4, none⟩ = some (.string h.src) ∧ W.cell? ⟨w.heap.size, 5, none⟩ = some (.string h.dst) ∧ Hid (Held6 w W h))
    (first | exact ⟨c0, c1, c2, c3, c4, c5, Lib.hid S2.out.drew⟩ | exact keep6 (by assumption) (by assumption))
    (first
      | (go_at_call 19; ((with_reducible refine (N1.out _).mono ?_); rintro e w' ⟨rfl, hb⟩))
      | (go_at_call 19; ((with_reducible refine (N2.out _).mono ?_); rintro e w' ⟨rfl, hb⟩))
      | (go_at_call 19; ((with_reducible refine (N3.out _).mono ?_); rintro e w' ⟨rfl, hb⟩))
      | (go_at_call 19; ((with_reducible refine (N4.out _).mono ?_); rintro e w' ⟨rfl, hb⟩)))
  rename_i held
  have S3 := held.2.2.2.2.2.2
  clear held c0 c1 c2 c3 c4 c5 q1 q2 q3 q4 a1 a2 a3 a4 a5 a6 N1 N2 N3 N4 S2 s1 s2 s3 s4 s5 s6
  have hfin : (⟨(h.pack pay).toArray⟩ : ByteArray) = x1 ++ x2 ++ x3 ++ x4 ++ h.src ++ h.dst ++ pay := by
    apply text_ext
    show (h.pack pay).toArray.toList = _
    rw [X.out]
  have HFIN := Lib.hid hfin
  clear hfin X
  go_wp2_with fail
  go_ret2
  exact ⟨by rw [HFIN.out]; rfl, S3.out.bel⟩

theorem refput6_any (h : H6) (pay : ByteArray) (w : World) :
    Calls Try.prog 9 #[.agg h.cells, .string pay] w fun e w' => e = .returned (.tuple #[.string (put6S h pay), .int .i64 (put6E h pay : Nat)]) ∧ Below w.heap.size w w' := by
  by_cases hok : h.ok = true
  · by_cases hn : 65535 < pay.size
    · have e : put6E h pay = 4 := by unfold put6E; rw [if_pos hok, if_pos hn]
      have s : put6S h pay = ⟨#[]⟩ := by unfold put6S; rw [if_neg (by omega)]
      rw [e, s]
      exact refput6_big h pay w ((H6.ok_iff h).1 hok) hn
    · have e : put6E h pay = 0 := by unfold put6E; rw [if_pos hok, if_neg hn]
      have s : put6S h pay = ⟨(h.pack pay).toArray⟩ := by unfold put6S; rw [if_pos e]
      rw [e, s]
      exact refput6_yes h pay w ((H6.ok_iff h).1 hok) (by omega)
  · have e : put6E h pay = 1 := by unfold put6E; rw [if_neg hok]
    have s : put6S h pay = ⟨#[]⟩ := by unfold put6S; rw [if_neg (by omega)]
    rw [e, s]
    exact refput6_range h pay w (by simpa using hok)

end Go.Proofs.Ytbaddhjlpahpkaa
