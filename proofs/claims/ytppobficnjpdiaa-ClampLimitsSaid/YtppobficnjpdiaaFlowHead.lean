/-
  A header of either version: is it a piece, its flow, may a datagram behind it do without a sum; and the small questions.
-/
import Derived.Test.YtppobficnjpdiaaFlowSpec
import Derived.Handy
namespace Go.Proofs.Ytppobficnjpdiaa
open Go.RowKit
set_option linter.unusedVariables false

/-- A flow stored into a block, cell by cell. -/
def put9c (v : World) (N : Nat) (f : F9) : World := ((((v.setCell ⟨N, 0, none⟩ (.int .i64 f.proto)).setCell ⟨N, 1, none⟩ (.string f.src)).setCell ⟨N, 2, none⟩ (.string f.dst)).setCell ⟨N, 3, none⟩ (.int .i64 f.sp)).setCell ⟨N, 4, none⟩ (.int .i64 f.dp)
theorem put9c_blk {v : World} {N : Nat} {g : F9} {T : TypeId} (hb : Blk v N g.cells T) (f : F9) : Blk (put9c v N f) N f.cells T :=
  ((((hb.set 0 (.int .i64 f.proto)).set 1 (.string f.src)).set 2 (.string f.dst)).set 3 (.int .i64 f.sp)).set 4 (.int .i64 f.dp)
theorem put9c_kb {S : Nat → Prop} {u v : World} {N : Nat} (hk : Kb S u v) (hN : N < u.heap.size → S N) (f : F9) : Kb S u (put9c v N f) :=
  ((((hk.setCell (p := ⟨N, 0, none⟩) hN _).setCell (p := ⟨N, 1, none⟩) hN _).setCell (p := ⟨N, 2, none⟩) hN _).setCell (p := ⟨N, 3, none⟩) hN _).setCell (p := ⟨N, 4, none⟩) hN _

/-- What a quiet call answers. -/
def Tells (v : Value) (w : World) (e : Ending) (w' : World) : Prop := e = .returned v ∧ Below w.heap.size w w'

set_option maxRecDepth 100000 in
set_option maxHeartbeats 1000000 in
theorem piece4_any (h : H4) (w : World) : Calls Try.prog 118 #[.agg h.cells] w (Tells (.bool (A9.four h).piece) w) := by
  have B := Blk.new w h.cells 107
  have ⟨c0, c1, c2, c3, c4, c5, c6, c7, c8, c9⟩ := Hc.of B
  have HB := Lib.hid ((Below.refl w.heap.size w).alloc (Nat.le_refl _) (.cells h.cells 107))
  unfold H4.cells at c0 c1 c2 c3 c4 c5 c6 c7 c8 c9 HB ⊢
  clear B
  unfold Tells
  by_cases h0 : h.off = 0
  · have t1 : (h.off != 0) = false := by simp [h0]
    have HR : Hid ((A9.four h).piece = h.mf) := by
      show (h.off != 0 || h.mf) = h.mf
      rw [t1]; rfl
    clear h0
    go_enter Try.func118, Try.ntmps118
    go_wp2_with fail
    go_ret
    exact ⟨by rw [HR.out]; rfl, HB.out⟩
  · have t1 : (h.off != 0) = true := by simp [h0]
    have HR : Hid ((A9.four h).piece = true) := by
      show (h.off != 0 || h.mf) = true
      rw [t1]; rfl
    clear h0
    go_enter Try.func118, Try.ntmps118
    go_wp2_with fail
    go_ret
    exact ⟨by rw [HR.out]; rfl, HB.out⟩

theorem piece6_any (h : H6) (w : World) : Calls Try.prog 121 #[.agg h.cells] w (Tells (.bool (A9.six h).piece) w) := by
  have HB := Lib.hid ((Below.refl w.heap.size w).alloc (Nat.le_refl _) (.cells h.cells 112))
  unfold H6.cells at HB ⊢
  unfold Tells
  go_enter Try.func121, Try.ntmps121
  go_wp2_with fail
  go_ret
  exact ⟨rfl, HB.out⟩
theorem lax4_any (h : H4) (w : World) : Calls Try.prog 116 #[.agg h.cells] w (Tells (.bool (A9.four h).lax) w) := by
  have HB := Lib.hid ((Below.refl w.heap.size w).alloc (Nat.le_refl _) (.cells h.cells 107))
  unfold H4.cells at HB ⊢
  unfold Tells
  go_enter Try.func116, Try.ntmps116
  go_wp2_with fail
  go_ret
  exact ⟨rfl, HB.out⟩
theorem lax6_any (h : H6) (w : World) : Calls Try.prog 119 #[.agg h.cells] w (Tells (.bool (A9.six h).lax) w) := by
  have HB := Lib.hid ((Below.refl w.heap.size w).alloc (Nat.le_refl _) (.cells h.cells 112))
  unfold H6.cells at HB ⊢
  unfold Tells
  go_enter Try.func119, Try.ntmps119
  go_wp2_with fail
  go_ret
  exact ⟨rfl, HB.out⟩

/-- A header's block, and its flow's behind it. -/
theorem bare_made (w : World) (cs : Array Value) (T : TypeId) (f : F9) : Blk ((w.alloc (.cells cs T)).alloc (.cells f.cells 30)) (w.heap.size + 1) f.cells 30 ∧ Below w.heap.size w ((w.alloc (.cells cs T)).alloc (.cells f.cells 30)) := by
  have e := Blk.new (w.alloc (.cells cs T)) f.cells 30
  rw [show (w.alloc (.cells cs T)).heap.size = w.heap.size + 1 from by simp] at e
  exact ⟨e, ((Below.refl _ _).alloc (Nat.le_refl _) _).alloc (by simp) _⟩

set_option maxRecDepth 100000 in
set_option maxHeartbeats 1000000 in
theorem bare4_any (h : H4) (w : World) : Calls Try.prog 117 #[.agg h.cells] w (Tells (.agg (A9.four h).bare.cells) w) := by
  have B := (Blk.new w h.cells 107).alloc (.cells F9.zero.cells 30)
  have ⟨c0, c1, c2, c3, c4, c5, c6, c7, c8, c9⟩ := Hc.of B
  have G := Lib.hid (bare_made w h.cells 107 (A9.four h).bare)
  unfold H4.cells F9.cells F9.zero at c0 c1 c2 c3 c4 c5 c6 c7 c8 c9
  clear B
  unfold Tells
  show Calls _ _ #[.agg #[.int .i64 h.tos, .int .i64 h.id, .int .i64 h.off, .int .i64 h.ttl, .int .i64 h.proto, .bool h.df, .bool h.mf, .string h.src, .string h.dst, .string h.opt]] w _
  go_enter Try.func117, Try.ntmps117
  go_wp2_with fail
  clear c0 c1 c2 c3 c4 c5 c6 c7 c8 c9
  have ⟨r0, r1, r2, r3, r4⟩ := Hc9.of G.out.1
  refine ⟨rfl, .agg (A9.four h).bare.cells, ?_, rfl, G.out.2⟩
  unfold H4.cells F9.cells A9.bare A9.proto A9.src A9.dst at *
  simp only at r0 r1 r2 r3 r4 ⊢
  simp [results, Try.results117, go_sem, r0, r1, r2, r3, r4]

set_option maxRecDepth 100000 in
set_option maxHeartbeats 1000000 in
theorem bare6_any (h : H6) (w : World) : Calls Try.prog 120 #[.agg h.cells] w (Tells (.agg (A9.six h).bare.cells) w) := by
  have B := (Blk.new w h.cells 112).alloc (.cells F9.zero.cells 30)
  have ⟨c0, c1, c2, c3, c4, c5⟩ := Hc6.of B
  have G := Lib.hid (bare_made w h.cells 112 (A9.six h).bare)
  unfold H6.cells F9.cells F9.zero at c0 c1 c2 c3 c4 c5
  clear B
  unfold Tells
  show Calls _ _ #[.agg #[.int .i64 h.cls, .int .i64 h.lab, .int .i64 h.nxt, .int .i64 h.hops, .string h.src, .string h.dst]] w _
  go_enter Try.func120, Try.ntmps120
  go_wp2_with fail
  clear c0 c1 c2 c3 c4 c5
  have ⟨r0, r1, r2, r3, r4⟩ := Hc9.of G.out.1
  refine ⟨rfl, .agg (A9.six h).bare.cells, ?_, rfl, G.out.2⟩
  unfold H6.cells F9.cells A9.bare A9.proto A9.src A9.dst at *
  simp only at r0 r1 r2 r3 r4 ⊢
  simp [results, Try.results120, go_sem, r0, r1, r2, r3, r4]

/-- OK, or an error. -/
def kU (b : Bool) (k : Nat) : Nat := if b then 0 else k
theorem unless_any (b : Bool) (k : Nat) (w : World) : Calls Try.prog 32 #[.bool b, .int .i64 k] w fun e w' => e = .returned (.int .i64 (kU b k : Nat)) ∧ w = w' := by
  cases b
  · go_enter Try.func32, Try.ntmps32
    go_wp2_with fail
    go_ret
    exact ⟨rfl, rfl⟩
  · go_enter Try.func32, Try.ntmps32
    go_wp2_with fail
    go_ret
    exact ⟨rfl, rfl⟩
theorem isKnown_any (n : Int) (w : World) : Calls Try.prog 34 #[.int .i64 n] w fun e w' => e = .returned (.bool (isK n)) ∧ w = w' := by
  unfold isK
  by_cases h : n = 6
  · have t1 : (n == 6) = true := by simp [h]
    rw [t1]
    clear h
    go_enter Try.func34, Try.ntmps34
    go_wp2_with fail
    go_ret
    exact ⟨rfl, rfl⟩
  · have t1 : (n == 6) = false := by simp [h]
    rw [t1]
    clear h
    go_enter Try.func34, Try.ntmps34
    go_wp2_with fail
    go_ret
    exact ⟨rfl, rfl⟩

end Go.Proofs.Ytppobficnjpdiaa
