/-
  The document's own Put.
-/
import Derived.Test.YtppobficnjpdiaaTcpD
import Derived.Deep.RegionHeld3
import Derived.Deep.CutBlock
import Derived.Deep.DeepCutAuto
namespace Go.Proofs.Ytppobficnjpdiaa
open Go.RowKit
set_option linter.unusedVariables false

theorem Held7.drew {w W : World} {h : S7} (r : Held7 w W h) : Held7 w W.drew h := ⟨r.b.drew, ⟨r.bel.os, r.bel.tape, r.bel.output, r.bel.size, r.bel.block⟩⟩
theorem keep7 {w W W' : World} {h : S7} (hb : Below W.heap.size W W')
    (r : W.cell? ⟨w.heap.size, 0, none⟩ = some (.int .i64 h.src) ∧ W.cell? ⟨w.heap.size, 1, none⟩ = some (.int .i64 h.dst) ∧ W.cell? ⟨w.heap.size, 2, none⟩ = some (.int .u32 h.seq) ∧ W.cell? ⟨w.heap.size, 3, none⟩ = some (.int .u32 h.ack) ∧ W.cell? ⟨w.heap.size, 4, none⟩ = some (.int .i64 h.flg) ∧ W.cell? ⟨w.heap.size, 5, none⟩ = some (.int .i64 h.win) ∧ W.cell? ⟨w.heap.size, 6, none⟩ = some (.int .i64 h.urg) ∧ W.cell? ⟨w.heap.size, 7, none⟩ = some (.string h.opt) ∧ W.cell? ⟨w.heap.size, 8, none⟩ = some (.string h.pay) ∧ Hid (Held7 w W h)) :
    W'.cell? ⟨w.heap.size, 0, none⟩ = some (.int .i64 h.src) ∧ W'.cell? ⟨w.heap.size, 1, none⟩ = some (.int .i64 h.dst) ∧ W'.cell? ⟨w.heap.size, 2, none⟩ = some (.int .u32 h.seq) ∧ W'.cell? ⟨w.heap.size, 3, none⟩ = some (.int .u32 h.ack) ∧ W'.cell? ⟨w.heap.size, 4, none⟩ = some (.int .i64 h.flg) ∧ W'.cell? ⟨w.heap.size, 5, none⟩ = some (.int .i64 h.win) ∧ W'.cell? ⟨w.heap.size, 6, none⟩ = some (.int .i64 h.urg) ∧ W'.cell? ⟨w.heap.size, 7, none⟩ = some (.string h.opt) ∧ W'.cell? ⟨w.heap.size, 8, none⟩ = some (.string h.pay) ∧ Hid (Held7 w W' h) := by
  have r2 := r.2.2.2.2.2.2.2.2.2.out.below hb
  have c := Hc7.of r2.b
  exact ⟨c.c0, c.c1, c.c2, c.c3, c.c4, c.c5, c.c6, c.c7, c.c8, Lib.hid r2⟩

set_option maxRecDepth 100000 in
set_option maxHeartbeats 4000000 in
theorem refput7_yes (h : S7) (sum : Int) (w : World) (hok : h.Ok) (hwf : h.Wf) (hs : 0 ≤ sum ∧ sum ≤ 65535) (hp : h.pay.size ≤ 1000000) :
    Calls Try.prog 20 #[.agg h.cells, .int .i64 sum] w fun e w' => e = .returned (.tuple #[.string ⟨(h.pack sum).toArray⟩, .int .i64 0]) ∧ Below w.heap.size w w' := by
  have hc := may7_any h (w.alloc (.cells h.cells 49))
  rw [(S7.ok_iff h).2 hok] at hc
  have HC := Lib.hid hc
  have S1 := Lib.hid (Held7.new w h)
  have HS := Lib.hid ((inR_iff sum 65535).2 hs)
  have HSU := Lib.hid hs
  have HOK := Lib.hid hok
  have HWF := Lib.hid hwf
  have HP := Lib.hid hp
  clear hc hok hwf hs hp
  unfold S7.cells at HC S1 ⊢
  go_enter Try.func20, Try.ntmps20
  go_wp2_with fail
  refine HC.out.mono ?_
  rintro e w1 ⟨rfl, hb⟩
  have S2 := Lib.hid (S1.out.below hb)
  clear S1 HC hb
  go_wp2_with fail
  refine (in7_any _ _ _).mono ?_
  rintro e w2 ⟨rfl, rfl⟩
  rw [HS.out]
  have ⟨c0, c1, c2, c3, c4, c5, c6, c7, c8⟩ := Hc7.of S2.out.b
  go_wp2_with fail
  obtain ⟨x1, hx1⟩ : ∃ x, x = (⟨(be h.src.toNat 2).toArray⟩ : ByteArray) := ⟨_, rfl⟩
  obtain ⟨x2, hx2⟩ : ∃ x, x = (⟨(be h.dst.toNat 2).toArray⟩ : ByteArray) := ⟨_, rfl⟩
  obtain ⟨x3, hx3⟩ : ∃ x, x = (⟨(be h.seq.toNat 4).toArray⟩ : ByteArray) := ⟨_, rfl⟩
  obtain ⟨x4, hx4⟩ : ∃ x, x = (⟨(be h.ack.toNat 4).toArray⟩ : ByteArray) := ⟨_, rfl⟩
  obtain ⟨x5, hx5⟩ : ∃ x, x = (⟨(be ((5 + h.opt.size / 4) * 16) 1).toArray⟩ : ByteArray) := ⟨_, rfl⟩
  obtain ⟨x6, hx6⟩ : ∃ x, x = (⟨(be h.flg.toNat 1).toArray⟩ : ByteArray) := ⟨_, rfl⟩
  obtain ⟨x7, hx7⟩ : ∃ x, x = (⟨(be h.win.toNat 2).toArray⟩ : ByteArray) := ⟨_, rfl⟩
  obtain ⟨x8, hx8⟩ : ∃ x, x = (⟨(be sum.toNat 2).toArray⟩ : ByteArray) := ⟨_, rfl⟩
  obtain ⟨x9, hx9⟩ : ∃ x, x = (⟨(be h.urg.toNat 2).toArray⟩ : ByteArray) := ⟨_, rfl⟩
  have ⟨k1, k2, k3, k4, k5, k6, k7⟩ := HOK.out
  have ⟨g1, g2⟩ := HWF.out
  have g3 := HSU.out
  have g4 := HP.out
  obtain ⟨d5, hd5⟩ : ∃ d : Int, d = ((h.opt.size / 4 : Nat) : Int) := ⟨_, rfl⟩
  obtain ⟨e5, he5⟩ : ∃ d : Int, d = ((5 + h.opt.size / 4 : Nat) : Int) := ⟨_, rfl⟩
  obtain ⟨m5, hm5⟩ : ∃ d : Int, d = (((5 + h.opt.size / 4) * 16 : Nat) : Int) := ⟨_, rfl⟩
  have q1 : IntKind.i64.wrap h.seq = h.seq := IntWalk.i64_in _ (by omega)
  have q2 : IntKind.i64.wrap h.ack = h.ack := IntWalk.i64_in _ (by omega)
  have q3 : (h.opt.size : Int) / 4 = d5 := by omega
  have q4 : (h.opt.size : Int).tdiv 4 = d5 := by rw [Int.tdiv_eq_ediv_of_nonneg (by omega)]; omega
  have q5 : IntKind.i64.wrap d5 = d5 := IntWalk.i64_in _ (by omega)
  have q6 : IntKind.i64.wrap (5 + d5) = e5 := by rw [IntWalk.i64_in _ (by omega)]; omega
  have q7 : IntKind.i64.wrap (e5 * 16) = m5 := by rw [IntWalk.i64_in _ (by omega)]; omega
  have N1 := Lib.hid (num7_x h.src h.src.toNat 2 2 x1 rfl (by omega) (by omega) (by omega) hx1)
  have N2 := Lib.hid (num7_x h.dst h.dst.toNat 2 2 x2 rfl (by omega) (by omega) (by omega) hx2)
  have N3 := Lib.hid (num7_x h.seq h.seq.toNat 4 4 x3 rfl (by omega) (by omega) (by omega) hx3)
  have N4 := Lib.hid (num7_x h.ack h.ack.toNat 4 4 x4 rfl (by omega) (by omega) (by omega) hx4)
  have N5 := Lib.hid (num7_x m5 ((5 + h.opt.size / 4) * 16) 1 1 x5 rfl (by omega) (by omega) (by omega) hx5)
  have N6 := Lib.hid (num7_x h.flg h.flg.toNat 1 1 x6 rfl (by omega) (by omega) (by omega) hx6)
  have N7 := Lib.hid (num7_x h.win h.win.toNat 2 2 x7 rfl (by omega) (by omega) (by omega) hx7)
  have N8 := Lib.hid (num7_x sum sum.toNat 2 2 x8 rfl (by omega) (by omega) (by omega) hx8)
  have N9 := Lib.hid (num7_x h.urg h.urg.toNat 2 2 x9 rfl (by omega) (by omega) (by omega) hx9)
  have X : Hid ((x1 ++ x2 ++ x3 ++ x4 ++ x5 ++ x6 ++ x7 ++ x8 ++ x9 ++ h.opt ++ h.pay).data.toList = h.pack sum) := by
    show (x1 ++ x2 ++ x3 ++ x4 ++ x5 ++ x6 ++ x7 ++ x8 ++ x9 ++ h.opt ++ h.pay).data.toList = h.pack sum
    simp only [cat_list, hx1, hx2, hx3, hx4, hx5, hx6, hx7, hx8, hx9]
    rfl
  have sx1 : x1.size = 2 := by rw [hx1, be_size]
  have sx2 : x2.size = 2 := by rw [hx2, be_size]
  have sx3 : x3.size = 4 := by rw [hx3, be_size]
  have sx4 : x4.size = 4 := by rw [hx4, be_size]
  have sx5 : x5.size = 1 := by rw [hx5, be_size]
  have sx6 : x6.size = 1 := by rw [hx6, be_size]
  have sx7 : x7.size = 2 := by rw [hx7, be_size]
  have sx8 : x8.size = 2 := by rw [hx8, be_size]
  have sx9 : x9.size = 2 := by rw [hx9, be_size]
  have a1 : ¬ (9223372036854775807 < x1.size + x2.size) := by omega
  have a2 : ¬ (9223372036854775807 < x1.size + x2.size + x3.size) := by omega
  have a3 : ¬ (9223372036854775807 < x1.size + x2.size + x3.size + x4.size) := by omega
  have a4 : ¬ (9223372036854775807 < x1.size + x2.size + x3.size + x4.size + x5.size) := by omega
  have a5 : ¬ (9223372036854775807 < x1.size + x2.size + x3.size + x4.size + x5.size + x6.size) := by omega
  have a6 : ¬ (9223372036854775807 < x1.size + x2.size + x3.size + x4.size + x5.size + x6.size + x7.size) := by omega
  have a7 : ¬ (9223372036854775807 < x1.size + x2.size + x3.size + x4.size + x5.size + x6.size + x7.size + x8.size) := by omega
  have a8 : ¬ (9223372036854775807 < x1.size + x2.size + x3.size + x4.size + x5.size + x6.size + x7.size + x8.size + x9.size) := by omega
  have a9 : ¬ (9223372036854775807 < x1.size + x2.size + x3.size + x4.size + x5.size + x6.size + x7.size + x8.size + x9.size + h.opt.size) := by omega
  have a10 : ¬ (9223372036854775807 < x1.size + x2.size + x3.size + x4.size + x5.size + x6.size + x7.size + x8.size + x9.size + h.opt.size + h.pay.size) := by omega
  clear hx1 hx2 hx3 hx4 hx5 hx6 hx7 hx8 hx9 hd5 he5 hm5 k1 k2 k3 k4 k5 k6 k7 g1 g2 g3 g4 sx1 sx2 sx3 sx4 sx5 sx6 sx7 sx8 sx9
  go_region_held3 (fun W => W.cell? ⟨w.heap.size, 0, none⟩ = some (.int .i64 h.src) ∧ W.cell? ⟨w.heap.size, 1, none⟩ = some (.int .i64 h.dst) ∧ W.cell? ⟨w.heap.size, 2, none⟩ = some (.int .u32 h.seq) ∧ W.cell? ⟨w.heap.size, 3, none⟩ = some (.int .u32 h.ack) ∧ W.cell? ⟨w.heap.size, 4, none⟩ = some (.int .i64 h.flg) ∧ W.cell? ⟨w.heap.size, 5, none⟩ = some (.int .i64 h.win) ∧ W.cell? ⟨w.heap.size, 6, none⟩ = some (.int .i64 h.urg) ∧ W.cell? ⟨w.heap.size, 7, none⟩ = some (.string h.opt) ∧ W.cell? ⟨w.heap.size, 8, none⟩ = some (.string h.pay) ∧ Hid (Held7 w W h))
    (first | exact ⟨c0, c1, c2, c3, c4, c5, c6, c7, c8, Lib.hid S2.out.drew⟩ | exact keep7 (by assumption) (by assumption))
    (first
      | (go_at_call 49; ((with_reducible refine (N1.out _).mono ?_); rintro e w' ⟨rfl, hb⟩))
      | (go_at_call 49; ((with_reducible refine (N2.out _).mono ?_); rintro e w' ⟨rfl, hb⟩))
      | (go_at_call 49; ((with_reducible refine (N3.out _).mono ?_); rintro e w' ⟨rfl, hb⟩))
      | (go_at_call 49; ((with_reducible refine (N4.out _).mono ?_); rintro e w' ⟨rfl, hb⟩))
      | (go_at_call 49; ((with_reducible refine (N5.out _).mono ?_); rintro e w' ⟨rfl, hb⟩))
      | (go_at_call 49; ((with_reducible refine (N6.out _).mono ?_); rintro e w' ⟨rfl, hb⟩))
      | (go_at_call 49; ((with_reducible refine (N7.out _).mono ?_); rintro e w' ⟨rfl, hb⟩))
      | (go_at_call 49; ((with_reducible refine (N8.out _).mono ?_); rintro e w' ⟨rfl, hb⟩))
      | (go_at_call 49; ((with_reducible refine (N9.out _).mono ?_); rintro e w' ⟨rfl, hb⟩)))
  rename_i held
  have S3 := held.2.2.2.2.2.2.2.2.2
  clear held c0 c1 c2 c3 c4 c5 c6 c7 c8 q1 q2 q3 q4 q5 q6 q7 a1 a2 a3 a4 a5 a6 a7 a8 a9 a10 N1 N2 N3 N4 N5 N6 N7 N8 N9 S2
  have hfin : (⟨(h.pack sum).toArray⟩ : ByteArray) = x1 ++ x2 ++ x3 ++ x4 ++ x5 ++ x6 ++ x7 ++ x8 ++ x9 ++ h.opt ++ h.pay := by
    apply text_ext
    show (h.pack sum).toArray.toList = _
    rw [X.out]
  have HFIN := Lib.hid hfin
  clear hfin X
  go_wp2_with fail
  go_ret2
  exact ⟨by rw [HFIN.out]; rfl, S3.out.bel⟩

theorem refput7_any (h : S7) (sum : Int) (w : World) (hwf : h.Wf) (hp : h.pay.size ≤ 1000000) :
    Calls Try.prog 20 #[.agg h.cells, .int .i64 sum] w fun e w' => e = .returned (.tuple #[.string (put7S h sum), .int .i64 (put7E h sum : Nat)]) ∧ Below w.heap.size w w' := by
  cases hn : (h.ok && inR sum 65535) with
  | false =>
    rw [(put7_no hn).1, (put7_no hn).2]
    exact refput7_refused h sum w hn
  | true =>
    have h2 := Bool.and_eq_true_iff.1 hn
    have hok := (S7.ok_iff h).1 h2.1
    have hs := (inR_iff _ _).1 h2.2
    rw [(put7_ok hok hs).1, (put7_ok hok hs).2]
    exact refput7_yes h sum w hok hwf hs hp

end Go.Proofs.Ytppobficnjpdiaa
