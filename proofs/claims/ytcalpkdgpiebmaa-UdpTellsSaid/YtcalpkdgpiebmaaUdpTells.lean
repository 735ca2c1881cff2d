/-
  UdpTells returns true at every input.
-/
import Derived.Test.YtcalpkdgpiebmaaUdpAwake
import Derived.Test.YtcalpkdgpiebmaaUdpGet
import Derived.Test.YtcalpkdgpiebmaaUdpRef
import Derived.Test.YtcalpkdgpiebmaaUdpRefGet
namespace Go.Proofs.Ytcalpkdgpiebmaa
open Go.RowKit
set_option linter.unusedVariables false

theorem str_same8 (s : ByteArray) : (s.toList == s.toList) = true := by simp

theorem keep28 {w W W' : World} {h g : D8} {M N : Nat} (hb : Below W.heap.size W W')
    (r : W.cell? ⟨w.heap.size, 0, none⟩ = some (.int .i64 h.src) ∧ W.cell? ⟨w.heap.size, 1, none⟩ = some (.int .i64 h.dst) ∧ W.cell? ⟨w.heap.size, 2, none⟩ = some (.string h.pay) ∧ W.cell? ⟨M, 0, none⟩ = some (.int .i64 g.src) ∧ W.cell? ⟨M, 1, none⟩ = some (.int .i64 g.dst) ∧ W.cell? ⟨M, 2, none⟩ = some (.string g.pay) ∧ W.cell? ⟨N, 0, none⟩ = some (.int .i64 g.src) ∧ W.cell? ⟨N, 1, none⟩ = some (.int .i64 g.dst) ∧ W.cell? ⟨N, 2, none⟩ = some (.string g.pay) ∧ Hid (Held8 w W h ∧ Blk W M g.cells 23 ∧ Blk W N g.cells 23)) :
    W'.cell? ⟨w.heap.size, 0, none⟩ = some (.int .i64 h.src) ∧ W'.cell? ⟨w.heap.size, 1, none⟩ = some (.int .i64 h.dst) ∧ W'.cell? ⟨w.heap.size, 2, none⟩ = some (.string h.pay) ∧ W'.cell? ⟨M, 0, none⟩ = some (.int .i64 g.src) ∧ W'.cell? ⟨M, 1, none⟩ = some (.int .i64 g.dst) ∧ W'.cell? ⟨M, 2, none⟩ = some (.string g.pay) ∧ W'.cell? ⟨N, 0, none⟩ = some (.int .i64 g.src) ∧ W'.cell? ⟨N, 1, none⟩ = some (.int .i64 g.dst) ∧ W'.cell? ⟨N, 2, none⟩ = some (.string g.pay) ∧ Hid (Held8 w W' h ∧ Blk W' M g.cells 23 ∧ Blk W' N g.cells 23) := by
  have r1 := r.2.2.2.2.2.2.2.2.2.out
  have r2 := r1.1.below hb
  have r3 : Blk W' M g.cells 23 := (hb.block _ r1.2.1.lt).trans r1.2.1
  have r4 : Blk W' N g.cells 23 := (hb.block _ r1.2.2.lt).trans r1.2.2
  have c := Hc8.of r2.b
  have d := Hc8.of r3
  have e := Hc8.of r4
  exact ⟨c.c0, c.c1, c.c2, d.c0, d.c1, d.c2, e.c0, e.c1, e.c2, Lib.hid ⟨r2, r3, r4⟩⟩

set_option maxRecDepth 100000 in
set_option maxHeartbeats 4000000 in
theorem tells8_any (h : D8) (sum : Int) (p : ByteArray) (w : World) (hp2 : p.size ≤ 140737488355328) :
    Calls Try.prog 3 #[.agg h.cells, .int .i64 sum, .string p] w (AwakeEnd w) := by
  have HA := Lib.hid (awake8_any (w.alloc (.cells h.cells 23)))
  have H1 := Lib.hid (fun W => put8_any h sum W)
  have H2 := Lib.hid (fun W => refput8_any h sum W)
  have H3 := Lib.hid (fun W => check8_any h W)
  have H4 := Lib.hid (fun W => refcheck8_any h W)
  have Q1 := Lib.hid (Held8.new w h)
  unfold Check8End at H3
  unfold RefCheck8End at H4
  generalize h.err = er at *
  unfold Put8End at H1
  generalize put8S h sum = P at *
  generalize put8E h sum = E at *
  unfold D8.cells at HA H1 H2 H3 H4 Q1 ⊢
  go_enter Try.func3, Try.ntmps3
  go_wp2_with fail
  refine HA.out.mono ?_
  rintro e w1 ⟨rfl, hb1⟩
  have Q3 := Lib.hid (Q1.out.below hb1)
  clear hb1 Q1 HA
  have ⟨c0, c1, c2⟩ := Hc8.of Q3.out.b
  by_cases h7 : h.pay.size ≤ 70000
  case neg =>
    have t7 : decide ((70000 : Int) < (h.pay.size : Int)) = true := by simp; omega
    go_wp2_with fail
    go_ret
    exact ⟨rfl, Q3.out.bel⟩
  have t7 : decide ((70000 : Int) < (h.pay.size : Int)) = false := by simp; omega
  by_cases h8 : p.size ≤ 70000
  case neg =>
    have t8 : decide ((70000 : Int) < (p.size : Int)) = true := by simp; omega
    go_wp2_with fail
    go_ret
    exact ⟨rfl, Q3.out.bel⟩
  have t8 : decide ((70000 : Int) < (p.size : Int)) = false := by simp; omega
  have G1 := Lib.hid (fun W => get8_any p W (by omega))
  have G2 := Lib.hid (fun W => refget8_any p W (by omega))
  unfold Get8End at G1
  unfold Ref8Got at G2
  generalize get8H p = g at *
  generalize get8N p = s at *
  generalize get8E p = D at *
  unfold D8.cells at G1 G2
  go_wp2_with fail
  refine (H1.out _).mono ?_
  rintro e w3 ⟨rfl, hb3⟩
  have Q4 := Lib.hid (Q3.out.below hb3)
  clear hb3 Q3 H1 c0 c1 c2 t7
  have ⟨c0, c1, c2⟩ := Hc8.of Q4.out.b
  go_wp2_with fail
  refine (H2.out _).mono ?_
  rintro e w4 ⟨rfl, hb4⟩
  have Q5 := Lib.hid (Q4.out.below hb4)
  clear hb4 Q4 H2 c0 c1 c2 t8
  go_wp2_with fail
  refine (G1.out _).mono ?_
  rintro e w5 ⟨rfl, hb5⟩
  have Q6 := Lib.hid ((Q5.out.below hb5).alloc (.cells g.cells 23))
  have B6 := Lib.hid (Blk.new w5 g.cells 23)
  unfold D8.cells at Q6 B6
  clear hb5 Q5 G1
  go_wp2_with fail
  generalize w5.alloc (.cells #[.int .i64 g.src, .int .i64 g.dst, .string g.pay] 23) = w6 at *
  generalize w5.heap.size = M at *
  refine (G2.out _).mono ?_
  rintro e w7 ⟨rfl, hb7⟩
  have Q7 := Lib.hid ((Q6.out.below hb7).alloc (.cells g.cells 23))
  have B7 : Hid (Blk (w7.alloc (.cells g.cells 23)) M g.cells 23) := Blk.alloc (show Blk w7 M g.cells 23 from (hb7.block _ B6.out.lt).trans B6.out) _
  have B8 := Lib.hid (Blk.new w7 g.cells 23)
  unfold D8.cells at Q7 B7 B8
  clear hb7 Q6 B6 G2
  go_wp2_with fail
  generalize w7.alloc (.cells #[.int .i64 g.src, .int .i64 g.dst, .string g.pay] 23) = u at *
  generalize w7.heap.size = N at *
  have ⟨c0, c1, c2⟩ := Hc8.of Q7.out.b
  have ⟨d0, d1, d2⟩ := Hc8.of B7.out
  have ⟨e0, e1, e2⟩ := Hc8.of B8.out
  have ts := str_same8 P
  have tE : ((E : Int) == (E : Int)) = true := by simp
  have tR : ((er : Int) == (er : Int)) = true := by simp
  have tD : ((D : Int) == (D : Int)) = true := by simp
  have tS : ((s : Int) == (s : Int)) = true := by simp
  go_region_held3 (fun W => W.cell? ⟨w.heap.size, 0, none⟩ = some (.int .i64 h.src) ∧ W.cell? ⟨w.heap.size, 1, none⟩ = some (.int .i64 h.dst) ∧ W.cell? ⟨w.heap.size, 2, none⟩ = some (.string h.pay) ∧ W.cell? ⟨M, 0, none⟩ = some (.int .i64 g.src) ∧ W.cell? ⟨M, 1, none⟩ = some (.int .i64 g.dst) ∧ W.cell? ⟨M, 2, none⟩ = some (.string g.pay) ∧ W.cell? ⟨N, 0, none⟩ = some (.int .i64 g.src) ∧ W.cell? ⟨N, 1, none⟩ = some (.int .i64 g.dst) ∧ W.cell? ⟨N, 2, none⟩ = some (.string g.pay) ∧ Hid (Held8 w W h ∧ Blk W M g.cells 23 ∧ Blk W N g.cells 23))
    (first | exact ⟨c0, c1, c2, d0, d1, d2, e0, e1, e2, Lib.hid ⟨⟨Q7.out.b.drew, below_drewN Q7.out.bel 1⟩, B7.out.drew, B8.out.drew⟩⟩ | exact keep28 (by assumption) (by assumption))
    (first
      | (go_at_call 11; ((with_reducible refine (H3.out _).mono ?_); rintro e w' ⟨rfl, hb⟩))
      | (go_at_call 12; ((with_reducible refine (H4.out _).mono ?_); rintro e w' ⟨rfl, hb⟩)))
  rename_i held
  have Q8 := Lib.hid held.2.2.2.2.2.2.2.2.2.out.1
  clear held c0 c1 c2 d0 d1 d2 e0 e1 e2 tE tD ts tS tR
  go_wp2_with fail
  go_ret
  exact ⟨rfl, Q8.out.bel⟩

end Go.Proofs.Ytcalpkdgpiebmaa
