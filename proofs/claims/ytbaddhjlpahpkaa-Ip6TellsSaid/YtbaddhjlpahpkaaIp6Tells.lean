/-
  Ip6Tells returns true at every input.
-/
import Derived.Test.YtbaddhjlpahpkaaIp6Awake
import Derived.Test.YtbaddhjlpahpkaaIp6Get
import Derived.Test.YtbaddhjlpahpkaaIp6RefPut
import Derived.Test.YtbaddhjlpahpkaaIp6RefGet
namespace Go.Proofs.Ytbaddhjlpahpkaa
open Go.RowKit
set_option linter.unusedVariables false

theorem str_same6 (s : ByteArray) : (s.toList == s.toList) = true := by simp

theorem keep18 {w W W' : World} {h g : H6} {M N : Nat} (hb : Below W.heap.size W W')
    (r : W.cell? ⟨w.heap.size, 0, none⟩ = some (.int .i64 h.cls) ∧ W.cell? ⟨w.heap.size, 1, none⟩ = some (.int .i64 h.lab) ∧ W.cell? ⟨w.heap.size, 2, none⟩ = some (.int .i64 h.nxt) ∧ W.cell? ⟨w.heap.size, 3, none⟩ = some (.int .i64 h.hops) ∧ W.cell? ⟨w.heap.size, 4, none⟩ = some (.string h.src) ∧ W.cell? ⟨w.heap.size, 5, none⟩ = some (.string h.dst) ∧ W.cell? ⟨M, 0, none⟩ = some (.int .i64 g.cls) ∧ W.cell? ⟨M, 1, none⟩ = some (.int .i64 g.lab) ∧ W.cell? ⟨M, 2, none⟩ = some (.int .i64 g.nxt) ∧ W.cell? ⟨M, 3, none⟩ = some (.int .i64 g.hops) ∧ W.cell? ⟨M, 4, none⟩ = some (.string g.src) ∧ W.cell? ⟨M, 5, none⟩ = some (.string g.dst) ∧ W.cell? ⟨N, 0, none⟩ = some (.int .i64 g.cls) ∧ W.cell? ⟨N, 1, none⟩ = some (.int .i64 g.lab) ∧ W.cell? ⟨N, 2, none⟩ = some (.int .i64 g.nxt) ∧ W.cell? ⟨N, 3, none⟩ = some (.int .i64 g.hops) ∧ W.cell? ⟨N, 4, none⟩ = some (.string g.src) ∧ W.cell? ⟨N, 5, none⟩ = some (.string g.dst) ∧ Hid (Held6 w W h ∧ Blk W M g.cells 23 ∧ Blk W N g.cells 23)) :
    W'.cell? ⟨w.heap.size, 0, none⟩ = some (.int .i64 h.cls) ∧ W'.cell? ⟨w.heap.size, 1, none⟩ = some (.int .i64 h.lab) ∧ W'.cell? ⟨w.heap.size, 2, none⟩ = some (.int .i64 h.nxt) ∧ W'.cell? ⟨w.heap.size, 3, none⟩ = some (.int .i64 h.hops) ∧ W'.cell? ⟨w.heap.size, 4, none⟩ = some (.string h.src) ∧ W'.cell? ⟨w.heap.size, 5, none⟩ = some (.string h.dst) ∧ W'.cell? ⟨M, 0, none⟩ = some (.int .i64 g.cls) ∧ W'.cell? ⟨M, 1, none⟩ = some (.int .i64 g.lab) ∧ W'.cell? ⟨M, 2, none⟩ = some (.int .i64 g.nxt) ∧ W'.cell? ⟨M, 3, none⟩ = some (.int .i64 g.hops) ∧ W'.cell? ⟨M, 4, none⟩ = some (.string g.src) ∧ W'.cell? ⟨M, 5, none⟩ = some (.string g.dst) ∧ W'.cell? ⟨N, 0, none⟩ = some (.int .i64 g.cls) ∧ W'.cell? ⟨N, 1, none⟩ = some (.int .i64 g.lab) ∧ W'.cell? ⟨N, 2, none⟩ = some (.int .i64 g.nxt) ∧ W'.cell? ⟨N, 3, none⟩ = some (.int .i64 g.hops) ∧ W'.cell? ⟨N, 4, none⟩ = some (.string g.src) ∧ W'.cell? ⟨N, 5, none⟩ = some (.string g.dst) ∧ Hid (Held6 w W' h ∧ Blk W' M g.cells 23 ∧ Blk W' N g.cells 23) := by
  have r1 := r.2.2.2.2.2.2.2.2.2.2.2.2.2.2.2.2.2.2.out
  have r2 := r1.1.below hb
  have r3 : Blk W' M g.cells 23 := (hb.block _ r1.2.1.lt).trans r1.2.1
  have r4 : Blk W' N g.cells 23 := (hb.block _ r1.2.2.lt).trans r1.2.2
  have c := Hc6.of r2.b
  have d := Hc6.of r3
  have e := Hc6.of r4
  exact ⟨c.c0, c.c1, c.c2, c.c3, c.c4, c.c5, d.c0, d.c1, d.c2, d.c3, d.c4, d.c5, e.c0, e.c1, e.c2, e.c3, e.c4, e.c5, Lib.hid ⟨r2, r3, r4⟩⟩

set_option maxRecDepth 100000 in
set_option maxHeartbeats 2000000 in
theorem tells6_any (h : H6) (pay p : ByteArray) (w : World) (hp1 : pay.size ≤ 140737488355328) (hp2 : p.size ≤ 140737488355328) :
    Calls Try.prog 3 #[.agg h.cells, .string pay, .string p] w (AwakeEnd w) := by
  have HA := Lib.hid (awake6_any (w.alloc (.cells h.cells 23)))
  have HF := Lib.hid (fun W => few6_any h W)
  have H1 := Lib.hid (fun W => put6_any h pay W)
  have H2 := Lib.hid (fun W => refput6_any h pay W)
  have H3 := Lib.hid (fun W => check6_any h W)
  have H4' := Lib.hid (fun W => refright6_any h W)
  have S1 := Lib.hid (Held6.new w h)
  have HE : Hid (((h.err : Int) == 0) = h.ok) := by
    show ((h.err : Int) == 0) = h.ok
    unfold H6.err; cases h.ok <;> rfl
  generalize h.ok = ok at *
  generalize h.err = er at *
  generalize h.few = fw at *
  unfold Put6End at H1
  generalize put6S h pay = P at *
  generalize put6E h pay = E at *
  unfold H6.cells at HA HF H1 H2 H3 H4' S1 ⊢
  go_enter Try.func3, Try.ntmps3
  go_wp2_with fail
  refine HA.out.mono ?_
  rintro e w1 ⟨rfl, hb1⟩
  have S2 := Lib.hid (S1.out.below hb1)
  clear hb1 S1 HA
  have ⟨c0, c1, c2, c3, c4, c5⟩ := Hc6.of S2.out.b
  go_wp2_with fail
  refine (HF.out _).mono ?_
  rintro e w2 ⟨rfl, hb2⟩
  have S3 := Lib.hid (S2.out.below hb2)
  clear hb2 S2 HF c0 c1 c2 c3 c4 c5
  cases fw
  · go_wp2_with fail
    go_ret
    exact ⟨rfl, S3.out.bel⟩
  by_cases h7 : pay.size ≤ 70000
  case neg =>
    have t7 : decide ((70000 : Int) < (pay.size : Int)) = true := by simp; omega
    go_wp2_with fail
    go_ret
    exact ⟨rfl, S3.out.bel⟩
  have t7 : decide ((70000 : Int) < (pay.size : Int)) = false := by simp; omega
  by_cases h8 : p.size ≤ 70000
  case neg =>
    have t8 : decide ((70000 : Int) < (p.size : Int)) = true := by simp; omega
    go_wp2_with fail
    go_ret
    exact ⟨rfl, S3.out.bel⟩
  have t8 : decide ((70000 : Int) < (p.size : Int)) = false := by simp; omega
  have ⟨c0, c1, c2, c3, c4, c5⟩ := Hc6.of S3.out.b
  have G1 := Lib.hid (fun W => get6_any p W (by omega))
  have G2 := Lib.hid (fun W => refget6_any p W (by omega))
  unfold Get6End at G1
  unfold Ref6Got at G2
  generalize get6H p = g at *
  generalize get6S p = s at *
  generalize get6E p = D at *
  unfold H6.cells at G1 G2
  go_wp2_with fail
  refine (H1.out _).mono ?_
  rintro e w3 ⟨rfl, hb3⟩
  have S4 := Lib.hid (S3.out.below hb3)
  clear hb3 S3 H1 c0 c1 c2 c3 c4 c5
  have ⟨c0, c1, c2, c3, c4, c5⟩ := Hc6.of S4.out.b
  go_wp2_with fail
  refine (H2.out _).mono ?_
  rintro e w4 ⟨rfl, hb4⟩
  have S5 := Lib.hid (S4.out.below hb4)
  clear hb4 S4 H2 c0 c1 c2 c3 c4 c5 t7 t8
  go_wp2_with fail
  refine (G1.out _).mono ?_
  rintro e w5 ⟨rfl, hb5⟩
  have S6 := Lib.hid ((S5.out.below hb5).alloc (.cells g.cells 23))
  have B6 := Lib.hid (Blk.new w5 g.cells 23)
  unfold H6.cells at S6 B6
  clear hb5 S5 G1
  go_wp2_with fail
  generalize w5.alloc (.cells #[.int .i64 g.cls, .int .i64 g.lab, .int .i64 g.nxt, .int .i64 g.hops, .string g.src, .string g.dst] 23) = w6 at *
  generalize w5.heap.size = M at *
  refine (G2.out _).mono ?_
  rintro e w7 ⟨rfl, hb7⟩
  have S7 := Lib.hid ((S6.out.below hb7).alloc (.cells g.cells 23))
  have B7 : Hid (Blk (w7.alloc (.cells g.cells 23)) M g.cells 23) := Blk.alloc (show Blk w7 M g.cells 23 from (hb7.block _ B6.out.lt).trans B6.out) _
  have B8 := Lib.hid (Blk.new w7 g.cells 23)
  unfold H6.cells at S7 B7 B8
  clear hb7 S6 B6 G2
  go_wp2_with fail
  generalize w7.alloc (.cells #[.int .i64 g.cls, .int .i64 g.lab, .int .i64 g.nxt, .int .i64 g.hops, .string g.src, .string g.dst] 23) = u at *
  generalize w7.heap.size = N at *
  have ⟨c0, c1, c2, c3, c4, c5⟩ := Hc6.of S7.out.b
  have ⟨d0, d1, d2, d3, d4, d5⟩ := Hc6.of B7.out
  have ⟨e0, e1, e2, e3, e4, e5⟩ := Hc6.of B8.out
  have ts := str_same6 P
  have tr := str_same6 s
  have tE : ((E : Int) == (E : Int)) = true := by simp
  have tD : ((D : Int) == (D : Int)) = true := by simp
  have eo := HE.out
  go_region_held3 (fun W => W.cell? ⟨w.heap.size, 0, none⟩ = some (.int .i64 h.cls) ∧ W.cell? ⟨w.heap.size, 1, none⟩ = some (.int .i64 h.lab) ∧ W.cell? ⟨w.heap.size, 2, none⟩ = some (.int .i64 h.nxt) ∧ W.cell? ⟨w.heap.size, 3, none⟩ = some (.int .i64 h.hops) ∧ W.cell? ⟨w.heap.size, 4, none⟩ = some (.string h.src) ∧ W.cell? ⟨w.heap.size, 5, none⟩ = some (.string h.dst) ∧ W.cell? ⟨M, 0, none⟩ = some (.int .i64 g.cls) ∧ W.cell? ⟨M, 1, none⟩ = some (.int .i64 g.lab) ∧ W.cell? ⟨M, 2, none⟩ = some (.int .i64 g.nxt) ∧ W.cell? ⟨M, 3, none⟩ = some (.int .i64 g.hops) ∧ W.cell? ⟨M, 4, none⟩ = some (.string g.src) ∧ W.cell? ⟨M, 5, none⟩ = some (.string g.dst) ∧ W.cell? ⟨N, 0, none⟩ = some (.int .i64 g.cls) ∧ W.cell? ⟨N, 1, none⟩ = some (.int .i64 g.lab) ∧ W.cell? ⟨N, 2, none⟩ = some (.int .i64 g.nxt) ∧ W.cell? ⟨N, 3, none⟩ = some (.int .i64 g.hops) ∧ W.cell? ⟨N, 4, none⟩ = some (.string g.src) ∧ W.cell? ⟨N, 5, none⟩ = some (.string g.dst) ∧ Hid (Held6 w W h ∧ Blk W M g.cells 23 ∧ Blk W N g.cells 23))
    (first | exact ⟨c0, c1, c2, c3, c4, c5, d0, d1, d2, d3, d4, d5, e0, e1, e2, e3, e4, e5, Lib.hid ⟨S7.out.drew, B7.out.drew, B8.out.drew⟩⟩ | exact keep18 (by assumption) (by assumption))
    (first
      | (go_at_call 12; ((with_reducible refine (H3.out _).mono ?_); rintro e w' ⟨rfl, hb⟩))
      | (go_at_call 13; ((with_reducible refine (H4'.out _).mono ?_); rintro e w' ⟨rfl, hb⟩)))
  rename_i held
  have S8 := Lib.hid held.2.2.2.2.2.2.2.2.2.2.2.2.2.2.2.2.2.2.out.1
  clear held c0 c1 c2 c3 c4 c5 d0 d1 d2 d3 d4 d5 e0 e1 e2 e3 e4 e5 eo tE tD ts tr
  go_wp2_with fail
  go_ret
  exact ⟨rfl, S8.out.bel⟩

end Go.Proofs.Ytbaddhjlpahpkaa
