/-
  TcpTells returns true at every input.
-/
import Derived.Test.YthfelnocdeknaaaTcpAwake
import Derived.Test.YthfelnocdeknaaaTcpPut
import Derived.Test.YthfelnocdeknaaaTcpGet
import Derived.Test.YthfelnocdeknaaaTcpRefPut
import Derived.Test.YthfelnocdeknaaaTcpRefGet
namespace Go.Proofs.Ythfelnocdeknaaa
open Go.RowKit
set_option linter.unusedVariables false

theorem str_same7 (s : ByteArray) : (s.toList == s.toList) = true := by simp

theorem keep27 {w W W' : World} {h g : S7} {M N : Nat} (hb : Below W.heap.size W W')
    (r : W.cell? ⟨w.heap.size, 0, none⟩ = some (.int .i64 h.src) ∧ W.cell? ⟨w.heap.size, 1, none⟩ = some (.int .i64 h.dst) ∧ W.cell? ⟨w.heap.size, 2, none⟩ = some (.int .u32 h.seq) ∧ W.cell? ⟨w.heap.size, 3, none⟩ = some (.int .u32 h.ack) ∧ W.cell? ⟨w.heap.size, 4, none⟩ = some (.int .i64 h.flg) ∧ W.cell? ⟨w.heap.size, 5, none⟩ = some (.int .i64 h.win) ∧ W.cell? ⟨w.heap.size, 6, none⟩ = some (.int .i64 h.urg) ∧ W.cell? ⟨w.heap.size, 7, none⟩ = some (.string h.opt) ∧ W.cell? ⟨w.heap.size, 8, none⟩ = some (.string h.pay) ∧ W.cell? ⟨M, 0, none⟩ = some (.int .i64 g.src) ∧ W.cell? ⟨M, 1, none⟩ = some (.int .i64 g.dst) ∧ W.cell? ⟨M, 2, none⟩ = some (.int .u32 g.seq) ∧ W.cell? ⟨M, 3, none⟩ = some (.int .u32 g.ack) ∧ W.cell? ⟨M, 4, none⟩ = some (.int .i64 g.flg) ∧ W.cell? ⟨M, 5, none⟩ = some (.int .i64 g.win) ∧ W.cell? ⟨M, 6, none⟩ = some (.int .i64 g.urg) ∧ W.cell? ⟨M, 7, none⟩ = some (.string g.opt) ∧ W.cell? ⟨M, 8, none⟩ = some (.string g.pay) ∧ W.cell? ⟨N, 0, none⟩ = some (.int .i64 g.src) ∧ W.cell? ⟨N, 1, none⟩ = some (.int .i64 g.dst) ∧ W.cell? ⟨N, 2, none⟩ = some (.int .u32 g.seq) ∧ W.cell? ⟨N, 3, none⟩ = some (.int .u32 g.ack) ∧ W.cell? ⟨N, 4, none⟩ = some (.int .i64 g.flg) ∧ W.cell? ⟨N, 5, none⟩ = some (.int .i64 g.win) ∧ W.cell? ⟨N, 6, none⟩ = some (.int .i64 g.urg) ∧ W.cell? ⟨N, 7, none⟩ = some (.string g.opt) ∧ W.cell? ⟨N, 8, none⟩ = some (.string g.pay) ∧ Hid (Held7 w W h ∧ Blk W M g.cells 24 ∧ Blk W N g.cells 24)) :
    W'.cell? ⟨w.heap.size, 0, none⟩ = some (.int .i64 h.src) ∧ W'.cell? ⟨w.heap.size, 1, none⟩ = some (.int .i64 h.dst) ∧ W'.cell? ⟨w.heap.size, 2, none⟩ = some (.int .u32 h.seq) ∧ W'.cell? ⟨w.heap.size, 3, none⟩ = some (.int .u32 h.ack) ∧ W'.cell? ⟨w.heap.size, 4, none⟩ = some (.int .i64 h.flg) ∧ W'.cell? ⟨w.heap.size, 5, none⟩ = some (.int .i64 h.win) ∧ W'.cell? ⟨w.heap.size, 6, none⟩ = some (.int .i64 h.urg) ∧ W'.cell? ⟨w.heap.size, 7, none⟩ = some (.string h.opt) ∧ W'.cell? ⟨w.heap.size, 8, none⟩ = some (.string h.pay) ∧ W'.cell? ⟨M, 0, none⟩ = some (.int .i64 g.src) ∧ W'.cell? ⟨M, 1, none⟩ = some (.int .i64 g.dst) ∧ W'.cell? ⟨M, 2, none⟩ = some (.int .u32 g.seq) ∧ W'.cell? ⟨M, 3, none⟩ = some (.int .u32 g.ack) ∧ W'.cell? ⟨M, 4, none⟩ = some (.int .i64 g.flg) ∧ W'.cell? ⟨M, 5, none⟩ = some (.int .i64 g.win) ∧ W'.cell? ⟨M, 6, none⟩ = some (.int .i64 g.urg) ∧ W'.cell? ⟨M, 7, none⟩ = some (.string g.opt) ∧ W'.cell? ⟨M, 8, none⟩ = some (.string g.pay) ∧ W'.cell? ⟨N, 0, none⟩ = some (.int .i64 g.src) ∧ W'.cell? ⟨N, 1, none⟩ = some (.int .i64 g.dst) ∧ W'.cell? ⟨N, 2, none⟩ = some (.int .u32 g.seq) ∧ W'.cell? ⟨N, 3, none⟩ = some (.int .u32 g.ack) ∧ W'.cell? ⟨N, 4, none⟩ = some (.int .i64 g.flg) ∧ W'.cell? ⟨N, 5, none⟩ = some (.int .i64 g.win) ∧ W'.cell? ⟨N, 6, none⟩ = some (.int .i64 g.urg) ∧ W'.cell? ⟨N, 7, none⟩ = some (.string g.opt) ∧ W'.cell? ⟨N, 8, none⟩ = some (.string g.pay) ∧ Hid (Held7 w W' h ∧ Blk W' M g.cells 24 ∧ Blk W' N g.cells 24) := by
  have r1 := r.2.2.2.2.2.2.2.2.2.2.2.2.2.2.2.2.2.2.2.2.2.2.2.2.2.2.2.out
  have r2 := r1.1.below hb
  have r3 : Blk W' M g.cells 24 := (hb.block _ r1.2.1.lt).trans r1.2.1
  have r4 : Blk W' N g.cells 24 := (hb.block _ r1.2.2.lt).trans r1.2.2
  have c := Hc7.of r2.b
  have d := Hc7.of r3
  have e := Hc7.of r4
  exact ⟨c.c0, c.c1, c.c2, c.c3, c.c4, c.c5, c.c6, c.c7, c.c8, d.c0, d.c1, d.c2, d.c3, d.c4, d.c5, d.c6, d.c7, d.c8, e.c0, e.c1, e.c2, e.c3, e.c4, e.c5, e.c6, e.c7, e.c8, Lib.hid ⟨r2, r3, r4⟩⟩

set_option maxRecDepth 100000 in
set_option maxHeartbeats 4000000 in
theorem tells7_any (h : S7) (sum : Int) (p : ByteArray) (w : World) (hwf : h.Wf) (hp2 : p.size ≤ 140737488355328) :
    Calls Try.prog 3 #[.agg h.cells, .int .i64 sum, .string p] w (AwakeEnd w) := by
  have HA := Lib.hid (awake7_any (w.alloc (.cells h.cells 24)))
  have HF := Lib.hid (fun W => few7_any h W)
  have FW := Lib.hid ((S7.few_iff h).1)
  have H1 := Lib.hid (fun W hp => put7_any h sum W hwf hp)
  have H2 := Lib.hid (fun W hp => refput7_any h sum W hwf hp)
  have H3 := Lib.hid (fun W => check7_any h W)
  have H4 := Lib.hid (fun W => may7_any h W)
  have Q1 := Lib.hid (Held7.new w h)
  have HE : Hid (((h.err : Int) == 0) = h.ok) := by
    show ((h.err : Int) == 0) = h.ok
    unfold S7.err; cases h.ok <;> rfl
  unfold Check7End at H3
  generalize h.ok = ok at *
  generalize h.err = er at *
  generalize h.few = fw at *
  unfold Put7End at H1
  generalize put7S h sum = P at *
  generalize put7E h sum = E at *
  unfold S7.cells at HA HF H1 H2 H3 H4 Q1 ⊢
  go_enter Try.func3, Try.ntmps3
  go_wp2_with fail
  refine HA.out.mono ?_
  rintro e w1 ⟨rfl, hb1⟩
  have Q2 := Lib.hid (Q1.out.below hb1)
  clear hb1 Q1 HA
  have ⟨c0, c1, c2, c3, c4, c5, c6, c7, c8⟩ := Hc7.of Q2.out.b
  go_wp2_with fail
  refine (HF.out _).mono ?_
  rintro e w2 ⟨rfl, hb2⟩
  have Q3 := Lib.hid (Q2.out.below hb2)
  clear hb2 Q2 HF c0 c1 c2 c3 c4 c5 c6 c7 c8
  cases fw
  · go_wp2_with fail
    go_ret
    exact ⟨rfl, Q3.out.bel⟩
  have hfew := FW.out rfl
  by_cases h8 : p.size ≤ 5000
  case neg =>
    have t8 : decide ((5000 : Int) < (p.size : Int)) = true := by simp; omega
    go_wp2_with fail
    go_ret
    exact ⟨rfl, Q3.out.bel⟩
  have t8 : decide ((5000 : Int) < (p.size : Int)) = false := by simp; omega
  have I1 := Lib.hid (fun W => H1.out W (by omega))
  have I2 := Lib.hid (fun W => H2.out W (by omega))
  clear H1 H2 FW hfew
  have ⟨c0, c1, c2, c3, c4, c5, c6, c7, c8⟩ := Hc7.of Q3.out.b
  have G1 := Lib.hid (fun W => get7_any p W (by omega))
  have G2 := Lib.hid (fun W => refget7_any p W (by omega))
  unfold Get7End at G1
  unfold Ref7Got at G2
  generalize get7H p = g at *
  generalize get7N p = s at *
  generalize get7E p = D at *
  unfold S7.cells at G1 G2
  go_wp2_with fail
  refine (I1.out _).mono ?_
  rintro e w3 ⟨rfl, hb3⟩
  have Q4 := Lib.hid (Q3.out.below hb3)
  clear hb3 Q3 I1 c0 c1 c2 c3 c4 c5 c6 c7 c8
  have ⟨c0, c1, c2, c3, c4, c5, c6, c7, c8⟩ := Hc7.of Q4.out.b
  go_wp2_with fail
  refine (I2.out _).mono ?_
  rintro e w4 ⟨rfl, hb4⟩
  have Q5 := Lib.hid (Q4.out.below hb4)
  clear hb4 Q4 I2 c0 c1 c2 c3 c4 c5 c6 c7 c8 t8
  go_wp2_with fail
  refine (G1.out _).mono ?_
  rintro e w5 ⟨rfl, hb5⟩
  have Q6 := Lib.hid ((Q5.out.below hb5).alloc (.cells g.cells 24))
  have B6 := Lib.hid (Blk.new w5 g.cells 24)
  unfold S7.cells at Q6 B6
  clear hb5 Q5 G1
  go_wp2_with fail
  generalize w5.alloc (.cells #[.int .i64 g.src, .int .i64 g.dst, .int .u32 g.seq, .int .u32 g.ack, .int .i64 g.flg, .int .i64 g.win, .int .i64 g.urg, .string g.opt, .string g.pay] 24) = w6 at *
  generalize w5.heap.size = M at *
  refine (G2.out _).mono ?_
  rintro e w7 ⟨rfl, hb7⟩
  have Q7 := Lib.hid ((Q6.out.below hb7).alloc (.cells g.cells 24))
  have B7 : Hid (Blk (w7.alloc (.cells g.cells 24)) M g.cells 24) := Blk.alloc (show Blk w7 M g.cells 24 from (hb7.block _ B6.out.lt).trans B6.out) _
  have B8 := Lib.hid (Blk.new w7 g.cells 24)
  unfold S7.cells at Q7 B7 B8
  clear hb7 Q6 B6 G2
  go_wp2_with fail
  generalize w7.alloc (.cells #[.int .i64 g.src, .int .i64 g.dst, .int .u32 g.seq, .int .u32 g.ack, .int .i64 g.flg, .int .i64 g.win, .int .i64 g.urg, .string g.opt, .string g.pay] 24) = u at *
  generalize w7.heap.size = N at *
  have ⟨c0, c1, c2, c3, c4, c5, c6, c7, c8⟩ := Hc7.of Q7.out.b
  have ⟨d0, d1, d2, d3, d4, d5, d6, d7, d8⟩ := Hc7.of B7.out
  have ⟨e0, e1, e2, e3, e4, e5, e6, e7, e8⟩ := Hc7.of B8.out
  have ts := str_same7 P
  have tE : ((E : Int) == (E : Int)) = true := by simp
  have tD : ((D : Int) == (D : Int)) = true := by simp
  have tS : ((s : Int) == (s : Int)) = true := by simp
  have eo := HE.out
  go_region_held3 (fun W => W.cell? ⟨w.heap.size, 0, none⟩ = some (.int .i64 h.src) ∧ W.cell? ⟨w.heap.size, 1, none⟩ = some (.int .i64 h.dst) ∧ W.cell? ⟨w.heap.size, 2, none⟩ = some (.int .u32 h.seq) ∧ W.cell? ⟨w.heap.size, 3, none⟩ = some (.int .u32 h.ack) ∧ W.cell? ⟨w.heap.size, 4, none⟩ = some (.int .i64 h.flg) ∧ W.cell? ⟨w.heap.size, 5, none⟩ = some (.int .i64 h.win) ∧ W.cell? ⟨w.heap.size, 6, none⟩ = some (.int .i64 h.urg) ∧ W.cell? ⟨w.heap.size, 7, none⟩ = some (.string h.opt) ∧ W.cell? ⟨w.heap.size, 8, none⟩ = some (.string h.pay) ∧ W.cell? ⟨M, 0, none⟩ = some (.int .i64 g.src) ∧ W.cell? ⟨M, 1, none⟩ = some (.int .i64 g.dst) ∧ W.cell? ⟨M, 2, none⟩ = some (.int .u32 g.seq) ∧ W.cell? ⟨M, 3, none⟩ = some (.int .u32 g.ack) ∧ W.cell? ⟨M, 4, none⟩ = some (.int .i64 g.flg) ∧ W.cell? ⟨M, 5, none⟩ = some (.int .i64 g.win) ∧ W.cell? ⟨M, 6, none⟩ = some (.int .i64 g.urg) ∧ W.cell? ⟨M, 7, none⟩ = some (.string g.opt) ∧ W.cell? ⟨M, 8, none⟩ = some (.string g.pay) ∧ W.cell? ⟨N, 0, none⟩ = some (.int .i64 g.src) ∧ W.cell? ⟨N, 1, none⟩ = some (.int .i64 g.dst) ∧ W.cell? ⟨N, 2, none⟩ = some (.int .u32 g.seq) ∧ W.cell? ⟨N, 3, none⟩ = some (.int .u32 g.ack) ∧ W.cell? ⟨N, 4, none⟩ = some (.int .i64 g.flg) ∧ W.cell? ⟨N, 5, none⟩ = some (.int .i64 g.win) ∧ W.cell? ⟨N, 6, none⟩ = some (.int .i64 g.urg) ∧ W.cell? ⟨N, 7, none⟩ = some (.string g.opt) ∧ W.cell? ⟨N, 8, none⟩ = some (.string g.pay) ∧ Hid (Held7 w W h ∧ Blk W M g.cells 24 ∧ Blk W N g.cells 24))
    (first | exact ⟨c0, c1, c2, c3, c4, c5, c6, c7, c8, d0, d1, d2, d3, d4, d5, d6, d7, d8, e0, e1, e2, e3, e4, e5, e6, e7, e8, Lib.hid ⟨Q7.out.drew, B7.out.drew, B8.out.drew⟩⟩ | exact keep27 (by assumption) (by assumption))
    (first
      | (go_at_call 14; ((with_reducible refine (H3.out _).mono ?_); rintro e w' ⟨rfl, hb⟩))
      | (go_at_call 15; ((with_reducible refine (H4.out _).mono ?_); rintro e w' ⟨rfl, hb⟩)))
  rename_i held
  have Q8 := Lib.hid held.2.2.2.2.2.2.2.2.2.2.2.2.2.2.2.2.2.2.2.2.2.2.2.2.2.2.2.out.1
  clear held c0 c1 c2 c3 c4 c5 c6 c7 c8 d0 d1 d2 d3 d4 d5 d6 d7 d8 e0 e1 e2 e3 e4 e5 e6 e7 e8 eo tE tD ts tS
  go_wp2_with fail
  go_ret
  exact ⟨rfl, Q8.out.bel⟩

end Go.Proofs.Ythfelnocdeknaaa
