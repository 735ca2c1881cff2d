/-
  FlowValid returns true at every input.
-/
import Derived.Test.YtimcjhekldnipaaDoorFlowFour
import Derived.Deep.CutBlock
import Derived.Deep.DeepCutAuto
import Derived.BigQuiet
namespace Go.Proofs.YtimcjhekldnipaaDoor
open Go.RowKit
set_option linter.unusedVariables false

theorem made7' (s : S7) (hw : s.Wf) (hp : s.pay.size ≤ 3000) : (put7E s 0 = 0 → rightL s.opt.data.toList = true → Made9 6 16 (put7S s 0) s.src s.dst) ∧ (put7S s 0).size ≤ 60000 := by
  rcases put7_told s 0 with ⟨e, hok, _, hs⟩ | ⟨e, hs⟩
  · rw [hs]
    refine ⟨fun _ hr => made7 s hok hw hr hp, ?_⟩
    have := (put7_get s 0 hok hw (by omega)).size
    have := hok.few
    omega
  · rw [hs]
    exact ⟨fun h => absurd h e, Nat.zero_le _⟩
theorem made8' (d : D8) (hp : d.pay.size ≤ 3000) : (put8E d 0 = 0 → Made9 17 6 (put8S d 0) d.src d.dst) ∧ (put8S d 0).size ≤ 60000 := by
  rcases put8_told d 0 with ⟨e, hok, _, hs⟩ | ⟨e, hs⟩
  · rw [hs]
    refine ⟨fun _ => made8 d hok hp, ?_⟩
    have := (put8_get d 0 hok (by omega)).size
    omega
  · rw [hs]
    exact ⟨fun h => absurd h e, Nat.zero_le _⟩

set_option maxRecDepth 100000 in
set_option maxHeartbeats 4000000 in
theorem valid9_any (h : H4) (k : H6) (s : S7) (d : D8) (udp : Bool) (w : World) (hg : Places w) (hwf : s.Wf) :
    Calls Tryd.prog 4 #[.agg h.cells, .agg k.cells, .agg s.cells, .agg d.cells, .bool udp] w (AwakeEnd w) := by
  have HA := Lib.hid (fun W => awake9_any W)
  have HF := Lib.hid (fun a b c W => few9_any a b c W)
  have S1 := Lib.hid (Four9.new w h k s d hg)
  have FI := Lib.hid (fun a b c => (few9_iff a b c).1)
  have HW := Lib.hid hwf
  clear hg hwf
  unfold H4.cells H6.cells S7.cells D8.cells at S1 ⊢
  go_enter Tryd.func4, Tryd.ntmps4
  go_wp2_with fail
  generalize (((w.alloc (.cells #[.int .i64 h.tos, .int .i64 h.id, .int .i64 h.off, .int .i64 h.ttl, .int .i64 h.proto, .bool h.df, .bool h.mf, .string h.src, .string h.dst, .string h.opt] 23)).alloc (.cells #[.int .i64 k.cls, .int .i64 k.lab, .int .i64 k.nxt, .int .i64 k.hops, .string k.src, .string k.dst] 25)).alloc (.cells #[.int .i64 s.src, .int .i64 s.dst, .int .u32 s.seq, .int .u32 s.ack, .int .i64 s.flg, .int .i64 s.win, .int .i64 s.urg, .string s.opt, .string s.pay] 39)).alloc (.cells #[.int .i64 d.src, .int .i64 d.dst, .string d.pay] 41) = u0 at *
  refine (HA.out _).mono ?_
  rintro e w1 ⟨rfl, hb1⟩
  have S2 := Lib.hid (S1.out.below hb1)
  clear hb1 S1 HA
  have ⟨c0, c1, c2, c3, c4, c5, c6, c7, c8, c9⟩ := Hc.of S2.out.b4
  have ⟨d0, d1, d2, d3, d4, d5⟩ := Hc6.of S2.out.b6
  have ⟨e0, e1, e2, e3, e4, e5, e6, e7, e8⟩ := Hc7.of S2.out.b7
  have ⟨g0, g1, g2⟩ := Hc8.of S2.out.b8
  have l4 := S2.out.b4.lt
  have l6 := S2.out.b6.lt
  have l7 := S2.out.b7.lt
  have l8 := S2.out.b8.lt
  go_wp2_with fail
  refine (HF.out _ _ _ _).mono ?_
  rintro e w' ⟨rfl, hb⟩
  have S3 := Lib.hid (S2.out.below hb)
  clear c0 c1 c2 c3 c4 c5 c6 c7 c8 c9 d0 d1 d2 d3 d4 d5 e0 e1 e2 e3 e4 e5 e6 e7 e8 g0 g1 g2 l4 l6 l7 l8 hb S2
  cases f1 : few9 h.src h.dst h.opt with
  | false =>
    go_wp2_with fail
    go_ret
    exact ⟨rfl, S3.out.bel⟩
  | true =>
  have ⟨c0, c1, c2, c3, c4, c5, c6, c7, c8, c9⟩ := Hc.of S3.out.b4
  have ⟨d0, d1, d2, d3, d4, d5⟩ := Hc6.of S3.out.b6
  have ⟨e0, e1, e2, e3, e4, e5, e6, e7, e8⟩ := Hc7.of S3.out.b7
  have ⟨g0, g1, g2⟩ := Hc8.of S3.out.b8
  have l4 := S3.out.b4.lt
  have l6 := S3.out.b6.lt
  have l7 := S3.out.b7.lt
  have l8 := S3.out.b8.lt
  go_wp2_with fail
  refine (HF.out _ _ _ _).mono ?_
  rintro e w' ⟨rfl, hb⟩
  have S4 := Lib.hid (S3.out.below hb)
  clear c0 c1 c2 c3 c4 c5 c6 c7 c8 c9 d0 d1 d2 d3 d4 d5 e0 e1 e2 e3 e4 e5 e6 e7 e8 g0 g1 g2 l4 l6 l7 l8 hb S3
  cases f2 : few9 k.src k.dst s.opt with
  | false =>
    go_wp2_with fail
    go_ret
    exact ⟨rfl, S4.out.bel⟩
  | true =>
  have ⟨c0, c1, c2, c3, c4, c5, c6, c7, c8, c9⟩ := Hc.of S4.out.b4
  have ⟨d0, d1, d2, d3, d4, d5⟩ := Hc6.of S4.out.b6
  have ⟨e0, e1, e2, e3, e4, e5, e6, e7, e8⟩ := Hc7.of S4.out.b7
  have ⟨g0, g1, g2⟩ := Hc8.of S4.out.b8
  have l4 := S4.out.b4.lt
  have l6 := S4.out.b6.lt
  have l7 := S4.out.b7.lt
  have l8 := S4.out.b8.lt
  by_cases h7 : s.pay.size ≤ 3000
  case neg =>
    have t7 : decide ((3000 : Int) < (s.pay.size : Int)) = true := by simp; omega
    clear h7
    go_wp2_with fail
    go_ret
    exact ⟨rfl, S4.out.bel⟩
  have t7 : decide ((3000 : Int) < (s.pay.size : Int)) = false := by simp; omega
  by_cases h8 : d.pay.size ≤ 3000
  case neg =>
    have t8 : decide ((3000 : Int) < (d.pay.size : Int)) = true := by simp; omega
    clear h8
    go_wp2_with fail
    go_ret
    exact ⟨rfl, S4.out.bel⟩
  have t8 : decide ((3000 : Int) < (d.pay.size : Int)) = false := by simp; omega
  have z4 := FI.out _ _ _ f1
  have z6 := FI.out _ _ _ f2
  have Z := Lib.hid (⟨h7, h8, z4, z6⟩ : s.pay.size ≤ 3000 ∧ d.pay.size ≤ 3000 ∧ (h.src.size ≤ 300 ∧ h.dst.size ≤ 300 ∧ h.opt.size ≤ 300) ∧ (k.src.size ≤ 300 ∧ k.dst.size ≤ 300 ∧ s.opt.size ≤ 300))
  have P7 := Lib.hid (fun W => refput7_any s 0 W HW.out (by omega))
  have P8 := Lib.hid (fun W => refput8_any d 0 W)
  clear h7 h8 z4 z6 f1 f2 FI HF
  unfold S7.cells at P7
  unfold D8.cells at P8
  go_wp2_with fail
  refine (P7.out _).mono ?_
  rintro e w5 ⟨rfl, hb⟩
  have S5 := Lib.hid (S4.out.below hb)
  clear c0 c1 c2 c3 c4 c5 c6 c7 c8 c9 d0 d1 d2 d3 d4 d5 e0 e1 e2 e3 e4 e5 e6 e7 e8 g0 g1 g2 l4 l6 l7 l8 hb S4 P7 t7 t8
  have ⟨c0, c1, c2, c3, c4, c5, c6, c7, c8, c9⟩ := Hc.of S5.out.b4
  have ⟨d0, d1, d2, d3, d4, d5⟩ := Hc6.of S5.out.b6
  have ⟨e0, e1, e2, e3, e4, e5, e6, e7, e8⟩ := Hc7.of S5.out.b7
  have ⟨g0, g1, g2⟩ := Hc8.of S5.out.b8
  have l4 := S5.out.b4.lt
  have l6 := S5.out.b6.lt
  have l7 := S5.out.b7.lt
  have l8 := S5.out.b8.lt
  have f4 := S5.out.b4.frozen 4
  have f6 := S5.out.b6.frozen 2
  obtain ⟨B7, hB7⟩ : ∃ B, put7S s 0 = B := ⟨_, rfl⟩
  obtain ⟨E7, hE7⟩ : ∃ E, put7E s 0 = E := ⟨_, rfl⟩
  rw [hB7, hE7]
  have PT7 := Lib.hid (made7' s HW.out Z.out.1)
  rw [hB7, hE7] at PT7
  clear hB7 hE7
  go_wp2_with fail
  go_quiet (fail)
  have S6 := Lib.hid ((S5.out.drewN nq).of 6)
  go_upto_if 67 with (fail)
  cases udp
  · skip
    generalize ((w5.drewN nq).setCell ⟨w.heap.size, 4, none⟩ (.int .i64 6)).setCell ⟨w.heap.size + 1, 2, none⟩ (.int .i64 6) = u6 at *
    clear c0 c1 c2 c3 c4 c5 c6 c7 c8 c9 d0 d1 d2 d3 d4 d5 e0 e1 e2 e3 e4 e5 e6 e7 e8 g0 g1 g2 l4 l6 l7 l8 f4 f6 S5 P8
    have HWK := Lib.hid (fun W => refwalk_any s.opt W (by have := Z.out.2.2.2.2.2; omega))
    have ⟨c0, c1, c2, c3, c4, c5, c6, c7, c8, c9⟩ := Hc.of S6.out.b4
    have ⟨d0, d1, d2, d3, d4, d5⟩ := Hc6.of S6.out.b6
    have ⟨e0, e1, e2, e3, e4, e5, e6, e7, e8⟩ := Hc7.of S6.out.b7
    have ⟨g0, g1, g2⟩ := Hc8.of S6.out.b8
    have l4 := S6.out.b4.lt
    have l6 := S6.out.b6.lt
    have l7 := S6.out.b7.lt
    have l8 := S6.out.b8.lt
    simp only [H4.of, H6.of] at c0 c1 c2 c3 c4 c5 c6 c7 c8 c9 d0 d1 d2 d3 d4 d5
    go_wp2_with fail
    refine (HWK.out _).mono ?_
    rintro e w9 ⟨hb, hwk⟩
    have S9 := Lib.hid (S6.out.below hb)
    clear c0 c1 c2 c3 c4 c5 c6 c7 c8 c9 d0 d1 d2 d3 d4 d5 e0 e1 e2 e3 e4 e5 e6 e7 e8 g0 g1 g2 l4 l6 l7 l8 hb S6 HWK
    by_cases hE : E7 = 0
    case neg =>
      have tE : ((E7 : Int) != 0) = true := by simp; omega
      clear hE
      rcases hwk with ⟨_, v, rfl, _⟩ | ⟨_, rfl⟩
      · go_wp2_with fail
        go_ret
        exact ⟨rfl, S9.out.bel⟩
      · go_wp2_with fail
        go_ret
        exact ⟨rfl, S9.out.bel⟩
    have tE : ((E7 : Int) != 0) = false := by simp; omega
    rcases hwk with ⟨hr, v, rfl, _⟩ | ⟨_, rfl⟩
    case inr =>
      clear hE
      go_wp2_with fail
      go_ret
      exact ⟨rfl, S9.out.bel⟩
    have MD := Lib.hid (PT7.out.1 hE hr)
    have hBs := PT7.out.2
    clear hE hr
    have ⟨c0, c1, c2, c3, c4, c5, c6, c7, c8, c9⟩ := Hc.of S9.out.b4
    have ⟨d0, d1, d2, d3, d4, d5⟩ := Hc6.of S9.out.b6
    have ⟨e0, e1, e2, e3, e4, e5, e6, e7, e8⟩ := Hc7.of S9.out.b7
    have ⟨g0, g1, g2⟩ := Hc8.of S9.out.b8
    have l4 := S9.out.b4.lt
    have l6 := S9.out.b6.lt
    have l7 := S9.out.b7.lt
    have l8 := S9.out.b8.lt
    simp only [H4.of, H6.of] at c0 c1 c2 c3 c4 c5 c6 c7 c8 c9 d0 d1 d2 d3 d4 d5
    have f2 := S9.out.b4.frozen 2
    have f6 := S9.out.b4.frozen 6
    have S10 := Lib.hid S9.out.unpieced
    go_upto_region 16 with (fail)
    generalize (w9.setCell ⟨w.heap.size, 2, none⟩ (.int .i64 0)).setCell ⟨w.heap.size, 6, none⟩ (.bool false) = u10 at *
    clear c0 c1 c2 c3 c4 c5 c6 c7 c8 c9 d0 d1 d2 d3 d4 d5 e0 e1 e2 e3 e4 e5 e6 e7 e8 g0 g1 g2 l4 l6 l7 l8 f2 f6 S9
    have zz := Z.out.2.2
    have A4 : Hid (∀ W, Places W → Calls Tryd.prog 8 #[.agg (H4.cells ⟨h.tos, h.id, 0, h.ttl, 6, h.df, false, h.src, h.dst, h.opt⟩), .string B7] W fun e w' => e = .returned (.tuple #[.string (putS (h.of 6).whole (seal9 6 h.src h.dst B7)), .int .i64 (putE (h.of 6).whole (seal9 6 h.src h.dst B7) : Nat)]) ∧ Below W.heap.size W w') :=
      fun W hp => build4_any (h.of 6).whole B7 W hp (show h.src.size ≤ 100000 by omega) (show h.dst.size ≤ 100000 by omega) (by omega)
    have A6 : Hid (∀ W, Places W → Calls Tryd.prog 10 #[.agg (H6.cells ⟨k.cls, k.lab, 6, k.hops, k.src, k.dst⟩), .string B7] W fun e w' => e = .returned (.tuple #[.string (put6S (k.of 6) (seal9 6 k.src k.dst B7)), .int .i64 (put6E (k.of 6) (seal9 6 k.src k.dst B7) : Nat)]) ∧ Below W.heap.size W w') :=
      fun W hp => build6_any (k.of 6) B7 W hp (show k.src.size ≤ 100000 by omega) (show k.dst.size ≤ 100000 by omega) (by omega)
    have V4 : Hid (putE (h.of 6).whole (seal9 6 h.src h.dst B7) = 0 → flowE (putS (h.of 6).whole (seal9 6 h.src h.dst B7)) = 0 ∧ flowH (putS (h.of 6).whole (seal9 6 h.src h.dst B7)) = ⟨6, h.src, h.dst, s.src, s.dst⟩ ∧ (putS (h.of 6).whole (seal9 6 h.src h.dst B7)).size ≤ 65535) :=
      fun hE => valid4 (h.of 6).whole MD.out rfl rfl rfl hE
    have V6 : Hid (put6E (k.of 6) (seal9 6 k.src k.dst B7) = 0 → flowE (put6S (k.of 6) (seal9 6 k.src k.dst B7)) = 0 ∧ flowH (put6S (k.of 6) (seal9 6 k.src k.dst B7)) = ⟨6, k.src, k.dst, s.src, s.dst⟩ ∧ (put6S (k.of 6) (seal9 6 k.src k.dst B7)).size ≤ 70000) :=
      fun hE => valid6 (k.of 6) MD.out rfl hE
    have N6 : Hid (put6E (k.of 6) (seal9 6 k.src k.dst B7) ≠ 0 → put6S (k.of 6) (seal9 6 k.src k.dst B7) = ⟨#[]⟩) := fun hE => by
      rcases put6_told (k.of 6) (seal9 6 k.src k.dst B7) with x | x
      · exact absurd x.1 hE
      · exact x.2
    generalize putS (h.of 6).whole (seal9 6 h.src h.dst B7) = P4 at *
    generalize putE (h.of 6).whole (seal9 6 h.src h.dst B7) = E4 at *
    generalize put6S (k.of 6) (seal9 6 k.src k.dst B7) = P6 at *
    generalize put6E (k.of 6) (seal9 6 k.src k.dst B7) = E6 at *
    unfold H4.cells at A4
    unfold H6.cells at A6
    simp only at A4 A6
    clear zz hBs MD
    have ⟨c0, c1, c2, c3, c4, c5, c6, c7, c8, c9⟩ := Hc.of S10.out.b4
    have ⟨d0, d1, d2, d3, d4, d5⟩ := Hc6.of S10.out.b6
    have ⟨e0, e1, e2, e3, e4, e5, e6, e7, e8⟩ := Hc7.of S10.out.b7
    have ⟨g0, g1, g2⟩ := Hc8.of S10.out.b8
    have l4 := S10.out.b4.lt
    have l6 := S10.out.b6.lt
    have l7 := S10.out.b7.lt
    have l8 := S10.out.b8.lt
    simp only [H4.whole, H4.of, H6.of] at c0 c1 c2 c3 c4 c5 c6 c7 c8 c9 d0 d1 d2 d3 d4 d5
    go_wp2_with fail
    refine (A4.out _ S10.out.pl).mono ?_
    rintro e w11 ⟨rfl, hb⟩
    have S11 := Lib.hid (S10.out.below hb)
    clear c0 c1 c2 c3 c4 c5 c6 c7 c8 c9 d0 d1 d2 d3 d4 d5 e0 e1 e2 e3 e4 e5 e6 e7 e8 g0 g1 g2 l4 l6 l7 l8 hb S10 A4
    by_cases hE4 : E4 = 0
    case neg =>
      have tE4 : ((E4 : Int) == 0) = false := by simp; omega
      clear hE4 V4
      have ⟨c0, c1, c2, c3, c4, c5, c6, c7, c8, c9⟩ := Hc.of S11.out.b4
      have ⟨d0, d1, d2, d3, d4, d5⟩ := Hc6.of S11.out.b6
      have ⟨e0, e1, e2, e3, e4, e5, e6, e7, e8⟩ := Hc7.of S11.out.b7
      have ⟨g0, g1, g2⟩ := Hc8.of S11.out.b8
      have l4 := S11.out.b4.lt
      have l6 := S11.out.b6.lt
      have l7 := S11.out.b7.lt
      have l8 := S11.out.b8.lt
      simp only [H4.whole, H4.of, H6.of] at c0 c1 c2 c3 c4 c5 c6 c7 c8 c9 d0 d1 d2 d3 d4 d5
      go_wp2_with fail
      refine (A6.out _ S11.out.pl).mono ?_
      rintro e w13 ⟨rfl, hb⟩
      have S13 := Lib.hid (S11.out.below hb)
      clear c0 c1 c2 c3 c4 c5 c6 c7 c8 c9 d0 d1 d2 d3 d4 d5 e0 e1 e2 e3 e4 e5 e6 e7 e8 g0 g1 g2 l4 l6 l7 l8 hb S11 A6
      by_cases hE6 : E6 = 0
      case neg =>
        have tE6 : ((E6 : Int) == 0) = false := by simp; omega
        have hP6 := N6.out hE6
        subst hP6
        clear hE6
        go_wp2_with fail
        go_ret
        exact ⟨rfl, S13.out.bel⟩
      have tE6 : ((E6 : Int) == 0) = true := by simp; omega
      have ⟨v0, v1, v2⟩ := V6.out hE6
      have G6 := Lib.hid (fun W => get9_any P6 W (by omega))
      rw [v0, v1] at G6
      unfold Tells F9.cells at G6
      simp only at G6
      clear hE6 v0 v1 v2 V6 N6
      go_wp2_with fail
      refine (G6.out _).mono ?_
      rintro e w14 ⟨rfl, hb⟩
      have S14 := Lib.hid ((S13.out.below hb).alloc (.cells #[.int .i64 6, .string k.src, .string k.dst, .int .i64 s.src, .int .i64 s.dst] 48))
      clear hb S13 G6
      have ⟨c0, c1, c2, c3, c4, c5, c6, c7, c8, c9⟩ := Hc.of S14.out.b4
      have ⟨d0, d1, d2, d3, d4, d5⟩ := Hc6.of S14.out.b6
      have ⟨e0, e1, e2, e3, e4, e5, e6, e7, e8⟩ := Hc7.of S14.out.b7
      have ⟨g0, g1, g2⟩ := Hc8.of S14.out.b8
      have l4 := S14.out.b4.lt
      have l6 := S14.out.b6.lt
      have l7 := S14.out.b7.lt
      have l8 := S14.out.b8.lt
      simp only [H4.whole, H4.of, H6.of] at c0 c1 c2 c3 c4 c5 c6 c7 c8 c9 d0 d1 d2 d3 d4 d5
      go_wp2_with fail
      go_ret
      exact ⟨rfl, S14.out.bel⟩
    have tE4 : ((E4 : Int) == 0) = true := by simp; omega
    have ⟨v0, v1, v2⟩ := V4.out hE4
    have G4 := Lib.hid (fun W => get9_any P4 W (by omega))
    rw [v0, v1] at G4
    unfold Tells F9.cells at G4
    simp only at G4
    clear hE4 v0 v1 v2 V4
    go_wp2_with fail
    refine (G4.out _).mono ?_
    rintro e w12 ⟨rfl, hb⟩
    have S12 := Lib.hid ((S11.out.below hb).alloc (.cells #[.int .i64 6, .string h.src, .string h.dst, .int .i64 s.src, .int .i64 s.dst] 48))
    clear hb S11 G4
    have ⟨c0, c1, c2, c3, c4, c5, c6, c7, c8, c9⟩ := Hc.of S12.out.b4
    have ⟨d0, d1, d2, d3, d4, d5⟩ := Hc6.of S12.out.b6
    have ⟨e0, e1, e2, e3, e4, e5, e6, e7, e8⟩ := Hc7.of S12.out.b7
    have ⟨g0, g1, g2⟩ := Hc8.of S12.out.b8
    have l4 := S12.out.b4.lt
    have l6 := S12.out.b6.lt
    have l7 := S12.out.b7.lt
    have l8 := S12.out.b8.lt
    simp only [H4.whole, H4.of, H6.of] at c0 c1 c2 c3 c4 c5 c6 c7 c8 c9 d0 d1 d2 d3 d4 d5
    go_wp2_with fail
    refine (A6.out _ S12.out.pl).mono ?_
    rintro e w13 ⟨rfl, hb⟩
    have S13 := Lib.hid (S12.out.below hb)
    clear c0 c1 c2 c3 c4 c5 c6 c7 c8 c9 d0 d1 d2 d3 d4 d5 e0 e1 e2 e3 e4 e5 e6 e7 e8 g0 g1 g2 l4 l6 l7 l8 hb S12 A6
    by_cases hE6 : E6 = 0
    case neg =>
      have tE6 : ((E6 : Int) == 0) = false := by simp; omega
      have hP6 := N6.out hE6
      subst hP6
      clear hE6
      go_wp2_with fail
      go_ret
      exact ⟨rfl, S13.out.bel⟩
    have tE6 : ((E6 : Int) == 0) = true := by simp; omega
    have ⟨v0, v1, v2⟩ := V6.out hE6
    have G6 := Lib.hid (fun W => get9_any P6 W (by omega))
    rw [v0, v1] at G6
    unfold Tells F9.cells at G6
    simp only at G6
    clear hE6 v0 v1 v2 V6 N6
    go_wp2_with fail
    refine (G6.out _).mono ?_
    rintro e w14 ⟨rfl, hb⟩
    have S14 := Lib.hid ((S13.out.below hb).alloc (.cells #[.int .i64 6, .string k.src, .string k.dst, .int .i64 s.src, .int .i64 s.dst] 48))
    clear hb S13 G6
    have ⟨c0, c1, c2, c3, c4, c5, c6, c7, c8, c9⟩ := Hc.of S14.out.b4
    have ⟨d0, d1, d2, d3, d4, d5⟩ := Hc6.of S14.out.b6
    have ⟨e0, e1, e2, e3, e4, e5, e6, e7, e8⟩ := Hc7.of S14.out.b7
    have ⟨g0, g1, g2⟩ := Hc8.of S14.out.b8
    have l4 := S14.out.b4.lt
    have l6 := S14.out.b6.lt
    have l7 := S14.out.b7.lt
    have l8 := S14.out.b8.lt
    simp only [H4.whole, H4.of, H6.of] at c0 c1 c2 c3 c4 c5 c6 c7 c8 c9 d0 d1 d2 d3 d4 d5
    go_wp2_with fail
    go_ret
    exact ⟨rfl, S14.out.bel⟩
  · skip
    have PT8 := Lib.hid (made8' d Z.out.2.1)
    obtain ⟨B8, hB8⟩ : ∃ B, put8S d 0 = B := ⟨_, rfl⟩
    obtain ⟨E8, hE8⟩ : ∃ E, put8E d 0 = E := ⟨_, rfl⟩
    rw [hB8, hE8] at PT8 P8
    clear hB8 hE8
    generalize ((w5.drewN nq).setCell ⟨w.heap.size, 4, none⟩ (.int .i64 6)).setCell ⟨w.heap.size + 1, 2, none⟩ (.int .i64 6) = u6 at *
    clear c0 c1 c2 c3 c4 c5 c6 c7 c8 c9 d0 d1 d2 d3 d4 d5 e0 e1 e2 e3 e4 e5 e6 e7 e8 g0 g1 g2 l4 l6 l7 l8 f4 f6 S5
    have ⟨c0, c1, c2, c3, c4, c5, c6, c7, c8, c9⟩ := Hc.of S6.out.b4
    have ⟨d0, d1, d2, d3, d4, d5⟩ := Hc6.of S6.out.b6
    have ⟨e0, e1, e2, e3, e4, e5, e6, e7, e8⟩ := Hc7.of S6.out.b7
    have ⟨g0, g1, g2⟩ := Hc8.of S6.out.b8
    have l4 := S6.out.b4.lt
    have l6 := S6.out.b6.lt
    have l7 := S6.out.b7.lt
    have l8 := S6.out.b8.lt
    simp only [H4.of, H6.of] at c0 c1 c2 c3 c4 c5 c6 c7 c8 c9 d0 d1 d2 d3 d4 d5
    go_wp2_with fail
    refine (P8.out _).mono ?_
    rintro e w7 ⟨rfl, hb⟩
    have S7' := Lib.hid (S6.out.below hb)
    clear c0 c1 c2 c3 c4 c5 c6 c7 c8 c9 d0 d1 d2 d3 d4 d5 e0 e1 e2 e3 e4 e5 e6 e7 e8 g0 g1 g2 l4 l6 l7 l8 hb S6 P8
    have ⟨c0, c1, c2, c3, c4, c5, c6, c7, c8, c9⟩ := Hc.of S7'.out.b4
    have ⟨d0, d1, d2, d3, d4, d5⟩ := Hc6.of S7'.out.b6
    have ⟨e0, e1, e2, e3, e4, e5, e6, e7, e8⟩ := Hc7.of S7'.out.b7
    have ⟨g0, g1, g2⟩ := Hc8.of S7'.out.b8
    have l4 := S7'.out.b4.lt
    have l6 := S7'.out.b6.lt
    have l7 := S7'.out.b7.lt
    have l8 := S7'.out.b8.lt
    simp only [H4.of, H6.of] at c0 c1 c2 c3 c4 c5 c6 c7 c8 c9 d0 d1 d2 d3 d4 d5
    have f4 := S7'.out.b4.frozen 4
    have f6 := S7'.out.b6.frozen 2
    go_wp2_with fail
    go_quiet (fail)
    have S8 := Lib.hid ((S7'.out.drewN nq).of 17)
    go_upto_region 12 with (fail)
    generalize ((w7.drewN nq).setCell ⟨w.heap.size, 4, none⟩ (.int .i64 17)).setCell ⟨w.heap.size + 1, 2, none⟩ (.int .i64 17) = u8 at *
    clear c0 c1 c2 c3 c4 c5 c6 c7 c8 c9 d0 d1 d2 d3 d4 d5 e0 e1 e2 e3 e4 e5 e6 e7 e8 g0 g1 g2 l4 l6 l7 l8 f4 f6 S7'
    have HWK := Lib.hid (fun W => refwalk_any s.opt W (by have := Z.out.2.2.2.2.2; omega))
    have ⟨c0, c1, c2, c3, c4, c5, c6, c7, c8, c9⟩ := Hc.of S8.out.b4
    have ⟨d0, d1, d2, d3, d4, d5⟩ := Hc6.of S8.out.b6
    have ⟨e0, e1, e2, e3, e4, e5, e6, e7, e8⟩ := Hc7.of S8.out.b7
    have ⟨g0, g1, g2⟩ := Hc8.of S8.out.b8
    have l4 := S8.out.b4.lt
    have l6 := S8.out.b6.lt
    have l7 := S8.out.b7.lt
    have l8 := S8.out.b8.lt
    simp only [H4.of, H6.of] at c0 c1 c2 c3 c4 c5 c6 c7 c8 c9 d0 d1 d2 d3 d4 d5
    go_wp2_with fail
    refine (HWK.out _).mono ?_
    rintro e w9 ⟨hb, hwk⟩
    have S9 := Lib.hid (S8.out.below hb)
    clear c0 c1 c2 c3 c4 c5 c6 c7 c8 c9 d0 d1 d2 d3 d4 d5 e0 e1 e2 e3 e4 e5 e6 e7 e8 g0 g1 g2 l4 l6 l7 l8 hb S8 HWK
    by_cases hE : E8 = 0
    case neg =>
      have tE : ((E8 : Int) != 0) = true := by simp; omega
      clear hE
      rcases hwk with ⟨_, v, rfl, _⟩ | ⟨_, rfl⟩
      · go_wp2_with fail
        go_ret
        exact ⟨rfl, S9.out.bel⟩
      · go_wp2_with fail
        go_ret
        exact ⟨rfl, S9.out.bel⟩
    have tE : ((E8 : Int) != 0) = false := by simp; omega
    have MD := Lib.hid (PT8.out.1 hE)
    have hBs := PT8.out.2
    clear hE
    rcases hwk with ⟨_, v, rfl, _⟩ | ⟨_, rfl⟩
    · skip
      have ⟨c0, c1, c2, c3, c4, c5, c6, c7, c8, c9⟩ := Hc.of S9.out.b4
      have ⟨d0, d1, d2, d3, d4, d5⟩ := Hc6.of S9.out.b6
      have ⟨e0, e1, e2, e3, e4, e5, e6, e7, e8⟩ := Hc7.of S9.out.b7
      have ⟨g0, g1, g2⟩ := Hc8.of S9.out.b8
      have l4 := S9.out.b4.lt
      have l6 := S9.out.b6.lt
      have l7 := S9.out.b7.lt
      have l8 := S9.out.b8.lt
      simp only [H4.of, H6.of] at c0 c1 c2 c3 c4 c5 c6 c7 c8 c9 d0 d1 d2 d3 d4 d5
      have f2 := S9.out.b4.frozen 2
      have f6 := S9.out.b4.frozen 6
      have S10 := Lib.hid S9.out.unpieced
      go_upto_region 16 with (fail)
      generalize (w9.setCell ⟨w.heap.size, 2, none⟩ (.int .i64 0)).setCell ⟨w.heap.size, 6, none⟩ (.bool false) = u10 at *
      clear c0 c1 c2 c3 c4 c5 c6 c7 c8 c9 d0 d1 d2 d3 d4 d5 e0 e1 e2 e3 e4 e5 e6 e7 e8 g0 g1 g2 l4 l6 l7 l8 f2 f6 S9
      have zz := Z.out.2.2
      have A4 : Hid (∀ W, Places W → Calls Tryd.prog 8 #[.agg (H4.cells ⟨h.tos, h.id, 0, h.ttl, 17, h.df, false, h.src, h.dst, h.opt⟩), .string B8] W fun e w' => e = .returned (.tuple #[.string (putS (h.of 17).whole (seal9 17 h.src h.dst B8)), .int .i64 (putE (h.of 17).whole (seal9 17 h.src h.dst B8) : Nat)]) ∧ Below W.heap.size W w') :=
        fun W hp => build4_any (h.of 17).whole B8 W hp (show h.src.size ≤ 100000 by omega) (show h.dst.size ≤ 100000 by omega) (by omega)
      have A6 : Hid (∀ W, Places W → Calls Tryd.prog 10 #[.agg (H6.cells ⟨k.cls, k.lab, 17, k.hops, k.src, k.dst⟩), .string B8] W fun e w' => e = .returned (.tuple #[.string (put6S (k.of 17) (seal9 17 k.src k.dst B8)), .int .i64 (put6E (k.of 17) (seal9 17 k.src k.dst B8) : Nat)]) ∧ Below W.heap.size W w') :=
        fun W hp => build6_any (k.of 17) B8 W hp (show k.src.size ≤ 100000 by omega) (show k.dst.size ≤ 100000 by omega) (by omega)
      have V4 : Hid (putE (h.of 17).whole (seal9 17 h.src h.dst B8) = 0 → flowE (putS (h.of 17).whole (seal9 17 h.src h.dst B8)) = 0 ∧ flowH (putS (h.of 17).whole (seal9 17 h.src h.dst B8)) = ⟨17, h.src, h.dst, d.src, d.dst⟩ ∧ (putS (h.of 17).whole (seal9 17 h.src h.dst B8)).size ≤ 65535) :=
        fun hE => valid4 (h.of 17).whole MD.out rfl rfl rfl hE
      have V6 : Hid (put6E (k.of 17) (seal9 17 k.src k.dst B8) = 0 → flowE (put6S (k.of 17) (seal9 17 k.src k.dst B8)) = 0 ∧ flowH (put6S (k.of 17) (seal9 17 k.src k.dst B8)) = ⟨17, k.src, k.dst, d.src, d.dst⟩ ∧ (put6S (k.of 17) (seal9 17 k.src k.dst B8)).size ≤ 70000) :=
        fun hE => valid6 (k.of 17) MD.out rfl hE
      have N6 : Hid (put6E (k.of 17) (seal9 17 k.src k.dst B8) ≠ 0 → put6S (k.of 17) (seal9 17 k.src k.dst B8) = ⟨#[]⟩) := fun hE => by
        rcases put6_told (k.of 17) (seal9 17 k.src k.dst B8) with x | x
        · exact absurd x.1 hE
        · exact x.2
      generalize putS (h.of 17).whole (seal9 17 h.src h.dst B8) = P4 at *
      generalize putE (h.of 17).whole (seal9 17 h.src h.dst B8) = E4 at *
      generalize put6S (k.of 17) (seal9 17 k.src k.dst B8) = P6 at *
      generalize put6E (k.of 17) (seal9 17 k.src k.dst B8) = E6 at *
      unfold H4.cells at A4
      unfold H6.cells at A6
      simp only at A4 A6
      clear zz hBs MD
      have ⟨c0, c1, c2, c3, c4, c5, c6, c7, c8, c9⟩ := Hc.of S10.out.b4
      have ⟨d0, d1, d2, d3, d4, d5⟩ := Hc6.of S10.out.b6
      have ⟨e0, e1, e2, e3, e4, e5, e6, e7, e8⟩ := Hc7.of S10.out.b7
      have ⟨g0, g1, g2⟩ := Hc8.of S10.out.b8
      have l4 := S10.out.b4.lt
      have l6 := S10.out.b6.lt
      have l7 := S10.out.b7.lt
      have l8 := S10.out.b8.lt
      simp only [H4.whole, H4.of, H6.of] at c0 c1 c2 c3 c4 c5 c6 c7 c8 c9 d0 d1 d2 d3 d4 d5
      go_wp2_with fail
      refine (A4.out _ S10.out.pl).mono ?_
      rintro e w11 ⟨rfl, hb⟩
      have S11 := Lib.hid (S10.out.below hb)
      clear c0 c1 c2 c3 c4 c5 c6 c7 c8 c9 d0 d1 d2 d3 d4 d5 e0 e1 e2 e3 e4 e5 e6 e7 e8 g0 g1 g2 l4 l6 l7 l8 hb S10 A4
      by_cases hE4 : E4 = 0
      case neg =>
        have tE4 : ((E4 : Int) == 0) = false := by simp; omega
        clear hE4 V4
        have ⟨c0, c1, c2, c3, c4, c5, c6, c7, c8, c9⟩ := Hc.of S11.out.b4
        have ⟨d0, d1, d2, d3, d4, d5⟩ := Hc6.of S11.out.b6
        have ⟨e0, e1, e2, e3, e4, e5, e6, e7, e8⟩ := Hc7.of S11.out.b7
        have ⟨g0, g1, g2⟩ := Hc8.of S11.out.b8
        have l4 := S11.out.b4.lt
        have l6 := S11.out.b6.lt
        have l7 := S11.out.b7.lt
        have l8 := S11.out.b8.lt
        simp only [H4.whole, H4.of, H6.of] at c0 c1 c2 c3 c4 c5 c6 c7 c8 c9 d0 d1 d2 d3 d4 d5
        go_wp2_with fail
        refine (A6.out _ S11.out.pl).mono ?_
        rintro e w13 ⟨rfl, hb⟩
        have S13 := Lib.hid (S11.out.below hb)
        clear c0 c1 c2 c3 c4 c5 c6 c7 c8 c9 d0 d1 d2 d3 d4 d5 e0 e1 e2 e3 e4 e5 e6 e7 e8 g0 g1 g2 l4 l6 l7 l8 hb S11 A6
        by_cases hE6 : E6 = 0
        case neg =>
          have tE6 : ((E6 : Int) == 0) = false := by simp; omega
          have hP6 := N6.out hE6
          subst hP6
          clear hE6
          go_wp2_with fail
          go_ret
          exact ⟨rfl, S13.out.bel⟩
        have tE6 : ((E6 : Int) == 0) = true := by simp; omega
        have ⟨v0, v1, v2⟩ := V6.out hE6
        have G6 := Lib.hid (fun W => get9_any P6 W (by omega))
        rw [v0, v1] at G6
        unfold Tells F9.cells at G6
        simp only at G6
        clear hE6 v0 v1 v2 V6 N6
        go_wp2_with fail
        refine (G6.out _).mono ?_
        rintro e w14 ⟨rfl, hb⟩
        have S14 := Lib.hid ((S13.out.below hb).alloc (.cells #[.int .i64 17, .string k.src, .string k.dst, .int .i64 d.src, .int .i64 d.dst] 48))
        clear hb S13 G6
        have ⟨c0, c1, c2, c3, c4, c5, c6, c7, c8, c9⟩ := Hc.of S14.out.b4
        have ⟨d0, d1, d2, d3, d4, d5⟩ := Hc6.of S14.out.b6
        have ⟨e0, e1, e2, e3, e4, e5, e6, e7, e8⟩ := Hc7.of S14.out.b7
        have ⟨g0, g1, g2⟩ := Hc8.of S14.out.b8
        have l4 := S14.out.b4.lt
        have l6 := S14.out.b6.lt
        have l7 := S14.out.b7.lt
        have l8 := S14.out.b8.lt
        simp only [H4.whole, H4.of, H6.of] at c0 c1 c2 c3 c4 c5 c6 c7 c8 c9 d0 d1 d2 d3 d4 d5
        go_wp2_with fail
        go_ret
        exact ⟨rfl, S14.out.bel⟩
      have tE4 : ((E4 : Int) == 0) = true := by simp; omega
      have ⟨v0, v1, v2⟩ := V4.out hE4
      have G4 := Lib.hid (fun W => get9_any P4 W (by omega))
      rw [v0, v1] at G4
      unfold Tells F9.cells at G4
      simp only at G4
      clear hE4 v0 v1 v2 V4
      go_wp2_with fail
      refine (G4.out _).mono ?_
      rintro e w12 ⟨rfl, hb⟩
      have S12 := Lib.hid ((S11.out.below hb).alloc (.cells #[.int .i64 17, .string h.src, .string h.dst, .int .i64 d.src, .int .i64 d.dst] 48))
      clear hb S11 G4
      have ⟨c0, c1, c2, c3, c4, c5, c6, c7, c8, c9⟩ := Hc.of S12.out.b4
      have ⟨d0, d1, d2, d3, d4, d5⟩ := Hc6.of S12.out.b6
      have ⟨e0, e1, e2, e3, e4, e5, e6, e7, e8⟩ := Hc7.of S12.out.b7
      have ⟨g0, g1, g2⟩ := Hc8.of S12.out.b8
      have l4 := S12.out.b4.lt
      have l6 := S12.out.b6.lt
      have l7 := S12.out.b7.lt
      have l8 := S12.out.b8.lt
      simp only [H4.whole, H4.of, H6.of] at c0 c1 c2 c3 c4 c5 c6 c7 c8 c9 d0 d1 d2 d3 d4 d5
      go_wp2_with fail
      refine (A6.out _ S12.out.pl).mono ?_
      rintro e w13 ⟨rfl, hb⟩
      have S13 := Lib.hid (S12.out.below hb)
      clear c0 c1 c2 c3 c4 c5 c6 c7 c8 c9 d0 d1 d2 d3 d4 d5 e0 e1 e2 e3 e4 e5 e6 e7 e8 g0 g1 g2 l4 l6 l7 l8 hb S12 A6
      by_cases hE6 : E6 = 0
      case neg =>
        have tE6 : ((E6 : Int) == 0) = false := by simp; omega
        have hP6 := N6.out hE6
        subst hP6
        clear hE6
        go_wp2_with fail
        go_ret
        exact ⟨rfl, S13.out.bel⟩
      have tE6 : ((E6 : Int) == 0) = true := by simp; omega
      have ⟨v0, v1, v2⟩ := V6.out hE6
      have G6 := Lib.hid (fun W => get9_any P6 W (by omega))
      rw [v0, v1] at G6
      unfold Tells F9.cells at G6
      simp only at G6
      clear hE6 v0 v1 v2 V6 N6
      go_wp2_with fail
      refine (G6.out _).mono ?_
      rintro e w14 ⟨rfl, hb⟩
      have S14 := Lib.hid ((S13.out.below hb).alloc (.cells #[.int .i64 17, .string k.src, .string k.dst, .int .i64 d.src, .int .i64 d.dst] 48))
      clear hb S13 G6
      have ⟨c0, c1, c2, c3, c4, c5, c6, c7, c8, c9⟩ := Hc.of S14.out.b4
      have ⟨d0, d1, d2, d3, d4, d5⟩ := Hc6.of S14.out.b6
      have ⟨e0, e1, e2, e3, e4, e5, e6, e7, e8⟩ := Hc7.of S14.out.b7
      have ⟨g0, g1, g2⟩ := Hc8.of S14.out.b8
      have l4 := S14.out.b4.lt
      have l6 := S14.out.b6.lt
      have l7 := S14.out.b7.lt
      have l8 := S14.out.b8.lt
      simp only [H4.whole, H4.of, H6.of] at c0 c1 c2 c3 c4 c5 c6 c7 c8 c9 d0 d1 d2 d3 d4 d5
      go_wp2_with fail
      go_ret
      exact ⟨rfl, S14.out.bel⟩
    · skip
      have ⟨c0, c1, c2, c3, c4, c5, c6, c7, c8, c9⟩ := Hc.of S9.out.b4
      have ⟨d0, d1, d2, d3, d4, d5⟩ := Hc6.of S9.out.b6
      have ⟨e0, e1, e2, e3, e4, e5, e6, e7, e8⟩ := Hc7.of S9.out.b7
      have ⟨g0, g1, g2⟩ := Hc8.of S9.out.b8
      have l4 := S9.out.b4.lt
      have l6 := S9.out.b6.lt
      have l7 := S9.out.b7.lt
      have l8 := S9.out.b8.lt
      simp only [H4.of, H6.of] at c0 c1 c2 c3 c4 c5 c6 c7 c8 c9 d0 d1 d2 d3 d4 d5
      have f2 := S9.out.b4.frozen 2
      have f6 := S9.out.b4.frozen 6
      have S10 := Lib.hid S9.out.unpieced
      go_upto_region 16 with (fail)
      generalize (w9.setCell ⟨w.heap.size, 2, none⟩ (.int .i64 0)).setCell ⟨w.heap.size, 6, none⟩ (.bool false) = u10 at *
      clear c0 c1 c2 c3 c4 c5 c6 c7 c8 c9 d0 d1 d2 d3 d4 d5 e0 e1 e2 e3 e4 e5 e6 e7 e8 g0 g1 g2 l4 l6 l7 l8 f2 f6 S9
      have zz := Z.out.2.2
      have A4 : Hid (∀ W, Places W → Calls Tryd.prog 8 #[.agg (H4.cells ⟨h.tos, h.id, 0, h.ttl, 17, h.df, false, h.src, h.dst, h.opt⟩), .string B8] W fun e w' => e = .returned (.tuple #[.string (putS (h.of 17).whole (seal9 17 h.src h.dst B8)), .int .i64 (putE (h.of 17).whole (seal9 17 h.src h.dst B8) : Nat)]) ∧ Below W.heap.size W w') :=
        fun W hp => build4_any (h.of 17).whole B8 W hp (show h.src.size ≤ 100000 by omega) (show h.dst.size ≤ 100000 by omega) (by omega)
      have A6 : Hid (∀ W, Places W → Calls Tryd.prog 10 #[.agg (H6.cells ⟨k.cls, k.lab, 17, k.hops, k.src, k.dst⟩), .string B8] W fun e w' => e = .returned (.tuple #[.string (put6S (k.of 17) (seal9 17 k.src k.dst B8)), .int .i64 (put6E (k.of 17) (seal9 17 k.src k.dst B8) : Nat)]) ∧ Below W.heap.size W w') :=
        fun W hp => build6_any (k.of 17) B8 W hp (show k.src.size ≤ 100000 by omega) (show k.dst.size ≤ 100000 by omega) (by omega)
      have V4 : Hid (putE (h.of 17).whole (seal9 17 h.src h.dst B8) = 0 → flowE (putS (h.of 17).whole (seal9 17 h.src h.dst B8)) = 0 ∧ flowH (putS (h.of 17).whole (seal9 17 h.src h.dst B8)) = ⟨17, h.src, h.dst, d.src, d.dst⟩ ∧ (putS (h.of 17).whole (seal9 17 h.src h.dst B8)).size ≤ 65535) :=
        fun hE => valid4 (h.of 17).whole MD.out rfl rfl rfl hE
      have V6 : Hid (put6E (k.of 17) (seal9 17 k.src k.dst B8) = 0 → flowE (put6S (k.of 17) (seal9 17 k.src k.dst B8)) = 0 ∧ flowH (put6S (k.of 17) (seal9 17 k.src k.dst B8)) = ⟨17, k.src, k.dst, d.src, d.dst⟩ ∧ (put6S (k.of 17) (seal9 17 k.src k.dst B8)).size ≤ 70000) :=
        fun hE => valid6 (k.of 17) MD.out rfl hE
      have N6 : Hid (put6E (k.of 17) (seal9 17 k.src k.dst B8) ≠ 0 → put6S (k.of 17) (seal9 17 k.src k.dst B8) = ⟨#[]⟩) := fun hE => by
        rcases put6_told (k.of 17) (seal9 17 k.src k.dst B8) with x | x
        · exact absurd x.1 hE
        · exact x.2
      generalize putS (h.of 17).whole (seal9 17 h.src h.dst B8) = P4 at *
      generalize putE (h.of 17).whole (seal9 17 h.src h.dst B8) = E4 at *
      generalize put6S (k.of 17) (seal9 17 k.src k.dst B8) = P6 at *
      generalize put6E (k.of 17) (seal9 17 k.src k.dst B8) = E6 at *
      unfold H4.cells at A4
      unfold H6.cells at A6
      simp only at A4 A6
      clear zz hBs MD
      have ⟨c0, c1, c2, c3, c4, c5, c6, c7, c8, c9⟩ := Hc.of S10.out.b4
      have ⟨d0, d1, d2, d3, d4, d5⟩ := Hc6.of S10.out.b6
      have ⟨e0, e1, e2, e3, e4, e5, e6, e7, e8⟩ := Hc7.of S10.out.b7
      have ⟨g0, g1, g2⟩ := Hc8.of S10.out.b8
      have l4 := S10.out.b4.lt
      have l6 := S10.out.b6.lt
      have l7 := S10.out.b7.lt
      have l8 := S10.out.b8.lt
      simp only [H4.whole, H4.of, H6.of] at c0 c1 c2 c3 c4 c5 c6 c7 c8 c9 d0 d1 d2 d3 d4 d5
      go_wp2_with fail
      refine (A4.out _ S10.out.pl).mono ?_
      rintro e w11 ⟨rfl, hb⟩
      have S11 := Lib.hid (S10.out.below hb)
      clear c0 c1 c2 c3 c4 c5 c6 c7 c8 c9 d0 d1 d2 d3 d4 d5 e0 e1 e2 e3 e4 e5 e6 e7 e8 g0 g1 g2 l4 l6 l7 l8 hb S10 A4
      by_cases hE4 : E4 = 0
      case neg =>
        have tE4 : ((E4 : Int) == 0) = false := by simp; omega
        clear hE4 V4
        have ⟨c0, c1, c2, c3, c4, c5, c6, c7, c8, c9⟩ := Hc.of S11.out.b4
        have ⟨d0, d1, d2, d3, d4, d5⟩ := Hc6.of S11.out.b6
        have ⟨e0, e1, e2, e3, e4, e5, e6, e7, e8⟩ := Hc7.of S11.out.b7
        have ⟨g0, g1, g2⟩ := Hc8.of S11.out.b8
        have l4 := S11.out.b4.lt
        have l6 := S11.out.b6.lt
        have l7 := S11.out.b7.lt
        have l8 := S11.out.b8.lt
        simp only [H4.whole, H4.of, H6.of] at c0 c1 c2 c3 c4 c5 c6 c7 c8 c9 d0 d1 d2 d3 d4 d5
        go_wp2_with fail
        refine (A6.out _ S11.out.pl).mono ?_
        rintro e w13 ⟨rfl, hb⟩
        have S13 := Lib.hid (S11.out.below hb)
        clear c0 c1 c2 c3 c4 c5 c6 c7 c8 c9 d0 d1 d2 d3 d4 d5 e0 e1 e2 e3 e4 e5 e6 e7 e8 g0 g1 g2 l4 l6 l7 l8 hb S11 A6
        by_cases hE6 : E6 = 0
        case neg =>
          have tE6 : ((E6 : Int) == 0) = false := by simp; omega
          have hP6 := N6.out hE6
          subst hP6
          clear hE6
          go_wp2_with fail
          go_ret
          exact ⟨rfl, S13.out.bel⟩
        have tE6 : ((E6 : Int) == 0) = true := by simp; omega
        have ⟨v0, v1, v2⟩ := V6.out hE6
        have G6 := Lib.hid (fun W => get9_any P6 W (by omega))
        rw [v0, v1] at G6
        unfold Tells F9.cells at G6
        simp only at G6
        clear hE6 v0 v1 v2 V6 N6
        go_wp2_with fail
        refine (G6.out _).mono ?_
        rintro e w14 ⟨rfl, hb⟩
        have S14 := Lib.hid ((S13.out.below hb).alloc (.cells #[.int .i64 17, .string k.src, .string k.dst, .int .i64 d.src, .int .i64 d.dst] 48))
        clear hb S13 G6
        have ⟨c0, c1, c2, c3, c4, c5, c6, c7, c8, c9⟩ := Hc.of S14.out.b4
        have ⟨d0, d1, d2, d3, d4, d5⟩ := Hc6.of S14.out.b6
        have ⟨e0, e1, e2, e3, e4, e5, e6, e7, e8⟩ := Hc7.of S14.out.b7
        have ⟨g0, g1, g2⟩ := Hc8.of S14.out.b8
        have l4 := S14.out.b4.lt
        have l6 := S14.out.b6.lt
        have l7 := S14.out.b7.lt
        have l8 := S14.out.b8.lt
        simp only [H4.whole, H4.of, H6.of] at c0 c1 c2 c3 c4 c5 c6 c7 c8 c9 d0 d1 d2 d3 d4 d5
        go_wp2_with fail
        go_ret
        exact ⟨rfl, S14.out.bel⟩
      have tE4 : ((E4 : Int) == 0) = true := by simp; omega
      have ⟨v0, v1, v2⟩ := V4.out hE4
      have G4 := Lib.hid (fun W => get9_any P4 W (by omega))
      rw [v0, v1] at G4
      unfold Tells F9.cells at G4
      simp only at G4
      clear hE4 v0 v1 v2 V4
      go_wp2_with fail
      refine (G4.out _).mono ?_
      rintro e w12 ⟨rfl, hb⟩
      have S12 := Lib.hid ((S11.out.below hb).alloc (.cells #[.int .i64 17, .string h.src, .string h.dst, .int .i64 d.src, .int .i64 d.dst] 48))
      clear hb S11 G4
      have ⟨c0, c1, c2, c3, c4, c5, c6, c7, c8, c9⟩ := Hc.of S12.out.b4
      have ⟨d0, d1, d2, d3, d4, d5⟩ := Hc6.of S12.out.b6
      have ⟨e0, e1, e2, e3, e4, e5, e6, e7, e8⟩ := Hc7.of S12.out.b7
      have ⟨g0, g1, g2⟩ := Hc8.of S12.out.b8
      have l4 := S12.out.b4.lt
      have l6 := S12.out.b6.lt
      have l7 := S12.out.b7.lt
      have l8 := S12.out.b8.lt
      simp only [H4.whole, H4.of, H6.of] at c0 c1 c2 c3 c4 c5 c6 c7 c8 c9 d0 d1 d2 d3 d4 d5
      go_wp2_with fail
      refine (A6.out _ S12.out.pl).mono ?_
      rintro e w13 ⟨rfl, hb⟩
      have S13 := Lib.hid (S12.out.below hb)
      clear c0 c1 c2 c3 c4 c5 c6 c7 c8 c9 d0 d1 d2 d3 d4 d5 e0 e1 e2 e3 e4 e5 e6 e7 e8 g0 g1 g2 l4 l6 l7 l8 hb S12 A6
      by_cases hE6 : E6 = 0
      case neg =>
        have tE6 : ((E6 : Int) == 0) = false := by simp; omega
        have hP6 := N6.out hE6
        subst hP6
        clear hE6
        go_wp2_with fail
        go_ret
        exact ⟨rfl, S13.out.bel⟩
      have tE6 : ((E6 : Int) == 0) = true := by simp; omega
      have ⟨v0, v1, v2⟩ := V6.out hE6
      have G6 := Lib.hid (fun W => get9_any P6 W (by omega))
      rw [v0, v1] at G6
      unfold Tells F9.cells at G6
      simp only at G6
      clear hE6 v0 v1 v2 V6 N6
      go_wp2_with fail
      refine (G6.out _).mono ?_
      rintro e w14 ⟨rfl, hb⟩
      have S14 := Lib.hid ((S13.out.below hb).alloc (.cells #[.int .i64 17, .string k.src, .string k.dst, .int .i64 d.src, .int .i64 d.dst] 48))
      clear hb S13 G6
      have ⟨c0, c1, c2, c3, c4, c5, c6, c7, c8, c9⟩ := Hc.of S14.out.b4
      have ⟨d0, d1, d2, d3, d4, d5⟩ := Hc6.of S14.out.b6
      have ⟨e0, e1, e2, e3, e4, e5, e6, e7, e8⟩ := Hc7.of S14.out.b7
      have ⟨g0, g1, g2⟩ := Hc8.of S14.out.b8
      have l4 := S14.out.b4.lt
      have l6 := S14.out.b6.lt
      have l7 := S14.out.b7.lt
      have l8 := S14.out.b8.lt
      simp only [H4.whole, H4.of, H6.of] at c0 c1 c2 c3 c4 c5 c6 c7 c8 c9 d0 d1 d2 d3 d4 d5
      go_wp2_with fail
      go_ret
      exact ⟨rfl, S14.out.bel⟩

end Go.Proofs.YtimcjhekldnipaaDoor
