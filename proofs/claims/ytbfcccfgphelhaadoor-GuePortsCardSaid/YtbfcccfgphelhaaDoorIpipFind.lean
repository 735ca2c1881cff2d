/-
  find: the row of the table that a text's first four bits tell; isKnown.
-/
import Derived.Test.YtbfcccfgphelhaaDoorIpipSpec
import Derived.Test.YtbfcccfgphelhaaDoorGround
import Derived.LoopN
import Derived.BigQuiet
namespace Go.Proofs.YtbfcccfgphelhaaDoor
open Go.RowKit
set_option linter.unusedVariables false

/-- The answer's block, and what was there. -/
structure F11 (w u : World) (xs : Array Value) : Prop where
  z : Blk u w.heap.size xs 67
  bel : Below w.heap.size w u
theorem F11.new (w : World) (xs : Array Value) : F11 w (w.alloc (.cells xs 67)) xs := ⟨Blk.new _ _ _, (Below.refl _ _).alloc (Nat.le_refl _) _⟩
theorem F11.alloc {w u : World} {xs : Array Value} (h : F11 w u xs) (o : Obj) : F11 w (u.alloc o) xs := ⟨h.z.alloc o, h.bel.alloc h.bel.size o⟩
theorem F11.drewN {w u : World} {xs : Array Value} (h : F11 w u xs) (n : Nat) : F11 w (u.drewN n) xs := ⟨h.z.drewN n, below_drewN h.bel n⟩
theorem F11.put {w u : World} {xs : Array Value} (h : F11 w u xs) (k : Nat) (x : Value) (ys : Array Value) (e : xs.setIfInBounds k x = ys) : F11 w (u.setCell ⟨w.heap.size, k, none⟩ x) ys := by
  subst e
  exact ⟨h.z.set k x, h.bel.setCell (p := ⟨w.heap.size, k, none⟩) (Nat.le_refl _) _⟩
theorem F11.put3 {w u : World} {a b c : Value} (h : F11 w u #[a, b, c]) (x y z : Value) : F11 w (((u.setCell ⟨w.heap.size, 0, none⟩ x).setCell ⟨w.heap.size, 1, none⟩ y).setCell ⟨w.heap.size, 2, none⟩ z) #[x, y, z] :=
  ((h.put 0 x #[x, b, c] rfl).put 1 y #[x, y, c] rfl).put 2 z #[x, y, z] rfl
theorem F11.cells {w u : World} {a b c : Value} (h : F11 w u #[a, b, c]) : u.cell? ⟨w.heap.size, 0, none⟩ = some a ∧ u.cell? ⟨w.heap.size, 1, none⟩ = some b ∧ u.cell? ⟨w.heap.size, 2, none⟩ = some c :=
  ⟨by simpa using h.z.cell 0, by simpa using h.z.cell 1, by simpa using h.z.cell 2⟩

set_option maxRecDepth 100000 in
set_option maxHeartbeats 1000000 in
theorem find11_any (s : ByteArray) (w : World) (hg : Vers w) :
    Calls Tryd.prog 31 #[.string s] w (Tells (.tuple #[.agg (v11 s).cells, .int .i64 (v11 s).err]) w) := by
  have hi : (Tryd.prog.info? 96).map (·.size) = some versions6.size := by kernel_rfl
  obtain ⟨T0, fr0, hg0⟩ := (hg.alloc (.cells #[.int .i64 0, .int .i64 0, .int .i64 0] 67)).at0
  have i0 := idxV_0
  have i1 := idxV_1
  unfold Tells
  rcases v11_ways s with ⟨h0, hv⟩ | ⟨h0, hv⟩
  · rw [hv]
    have te : s.toList.isEmpty = true := by
      have : s.data.toList.length = 0 := by simpa using h0
      rw [ByteArray.toList_eq, List.length_eq_zero_iff.1 this]
      rfl
    clear hv
    go_enter Tryd.func31, Tryd.ntmps31
    go_wp2_with fail
    have Z := F11.new w #[.int .i64 0, .int .i64 0, .int .i64 0]
    have ⟨r0, r1, r2⟩ := Z.cells
    refine ⟨rfl, .tuple #[.agg V11.short.cells, .int .i64 V11.short.err], ?_, rfl, Z.bel⟩
    simp [results, Tryd.results31, go_sem, r0, r1, r2, V11.cells, V11.bits, V11.proto, V11.kind, V11.err]
  have te : s.toList.isEmpty = false := by
    rw [ByteArray.toList_eq]
    cases hl : s.data.toList with
    | nil => exact absurd (by simpa using congrArg List.length hl) h0
    | cons a l => rfl
  have hz : 0 < s.size := by omega
  have b0 : (0 : Int) < (s.size : Int) := by omega
  have hb := first11_at s hz
  have hl := first11_lt s
  rcases hv with ⟨hv, hk⟩ | ⟨hv, hk⟩ | ⟨hv, h4, h6⟩
  · rw [hv]
    generalize first11 s = n at *
    have e1 : (n : Int) / 16 = 4 := by omega
    clear hv hk h0
    go_enter Tryd.func31, Tryd.ntmps31
    go_wp2_with (refine wpList_load_row rfl 96 (.global 1) rfl 1 rfl T0 versions6 fr0 _ hg0 Tryd.underlying96 rfl hi ?_)
    clear hg0 hi hg
    refine wp_loop_rounds 3 ?_
    rw [rounds_succ]
    go_wp2_with fail
    go_quiet (fail)
    have Z := Lib.hid (((F11.new w #[.int .i64 0, .int .i64 0, .int .i64 0]).alloc (.cells #[.int .i64 4, .int .i64 4, .int .i64 2048] 67)).drewN nq)
    go_wp2_with fail
    have Z9 := Z.out.put3 (.int .i64 4) (.int .i64 4) (.int .i64 2048)
    have ⟨r0, r1, r2⟩ := Z9.cells
    refine ⟨rfl, .tuple #[.agg V11.four.cells, .int .i64 V11.four.err], ?_, rfl, Z9.bel⟩
    simp [results, Tryd.results31, go_sem, r0, r1, r2, V11.cells, V11.bits, V11.proto, V11.kind, V11.err]
  · rw [hv]
    generalize first11 s = n at *
    have e1 : (n : Int) / 16 = 6 := by omega
    clear hv hk h0
    go_enter Tryd.func31, Tryd.ntmps31
    go_wp2_with (refine wpList_load_row rfl 96 (.global 1) rfl 1 rfl T0 versions6 fr0 _ hg0 Tryd.underlying96 rfl hi ?_)
    clear hg0 hi hg
    refine wp_loop_rounds 3 ?_
    rw [rounds_succ]
    go_wp2_with fail
    go_quiet (fail)
    have ZA := Lib.hid (((F11.new w #[.int .i64 0, .int .i64 0, .int .i64 0]).alloc (.cells #[.int .i64 4, .int .i64 4, .int .i64 2048] 67)).drewN nq)
    have hzs : ((w.alloc (.cells #[.int .i64 0, .int .i64 0, .int .i64 0] 67)).alloc (.cells #[.int .i64 4, .int .i64 4, .int .i64 2048] 67)).heap.size = w.heap.size + 2 := by simp
    go_wp2_with fail
    rw [rounds_succ]
    go_wp2_with fail
    go_quiet (fail)
    have Z := Lib.hid ((ZA.out.alloc (.cells #[.int .i64 6, .int .i64 41, .int .i64 34525] 67)).drewN nq)
    go_wp2_with fail
    have Z9 := Z.out.put3 (.int .i64 6) (.int .i64 41) (.int .i64 34525)
    have ⟨r0, r1, r2⟩ := Z9.cells
    refine ⟨rfl, .tuple #[.agg V11.six.cells, .int .i64 V11.six.err], ?_, rfl, Z9.bel⟩
    simp [results, Tryd.results31, go_sem, r0, r1, r2, V11.cells, V11.bits, V11.proto, V11.kind, V11.err]
  · rw [hv]
    generalize first11 s = n at *
    obtain ⟨m, e1, hm⟩ : ∃ m : Nat, (n : Int) / 16 = (m : Int) ∧ m < 16 ∧ ¬ m = 4 ∧ ¬ m = 6 := ⟨n / 16, by omega, by omega, h4, h6⟩
    have t1 : ((4 : Int) == (m : Int)) = false := by simp; omega
    have t2 : ((6 : Int) == (m : Int)) = false := by simp; omega
    have hw1 : IntKind.u8.wrap (m : Int) = (m : Int) := by rw [IntKind.wrap_u8]; omega
    have hw2 : IntKind.i64.wrap (m : Int) = (m : Int) := by rw [IntKind.wrap_i64]; omega
    clear hv h4 h6 h0 hm
    go_enter Tryd.func31, Tryd.ntmps31
    go_wp2_with (refine wpList_load_row rfl 96 (.global 1) rfl 1 rfl T0 versions6 fr0 _ hg0 Tryd.underlying96 rfl hi ?_)
    clear hg0 hi hg
    refine wp_loop_rounds 3 ?_
    rw [rounds_succ]
    go_wp2_with fail
    go_quiet (fail)
    have ZA := Lib.hid (((F11.new w #[.int .i64 0, .int .i64 0, .int .i64 0]).alloc (.cells #[.int .i64 4, .int .i64 4, .int .i64 2048] 67)).drewN nq)
    have hzs : ((w.alloc (.cells #[.int .i64 0, .int .i64 0, .int .i64 0] 67)).alloc (.cells #[.int .i64 4, .int .i64 4, .int .i64 2048] 67)).heap.size = w.heap.size + 2 := by simp
    go_wp2_with fail
    rw [rounds_succ]
    go_wp2_with fail
    go_quiet (fail)
    have Z := Lib.hid ((ZA.out.alloc (.cells #[.int .i64 6, .int .i64 41, .int .i64 34525] 67)).drewN nq)
    go_wp2_with fail
    rw [rounds_succ]
    go_wp2_with fail
    trace_state
    have Z9 := Z.out.put3 (.int .i64 0) (.int .i64 0) (.int .i64 0)
    have ⟨r0, r1, r2⟩ := Z9.cells
    refine ⟨rfl, .tuple #[.agg V11.other.cells, .int .i64 V11.other.err], ?_, rfl, Z9.bel⟩
    simp [results, Tryd.results31, go_sem, r0, r1, r2, V11.cells, V11.bits, V11.proto, V11.kind, V11.err]

set_option maxRecDepth 100000 in
set_option maxHeartbeats 1000000 in
theorem known11_any (proto : Int) (w : World) (hg : Vers w) :
    Calls Tryd.prog 60 #[.int .i64 proto] w (Tells (.bool (decide (proto = 4) || decide (proto = 41))) w) := by
  have hi : (Tryd.prog.info? 96).map (·.size) = some versions6.size := by kernel_rfl
  obtain ⟨T0, fr0, hg0⟩ := hg.at0
  have i0 := idxV_0
  have i1 := idxV_1
  have Z1 := Lib.hid ((Below.refl w.heap.size w).alloc (Nat.le_refl _) (.cells #[.int .i64 4, .int .i64 4, .int .i64 2048] 67))
  have Z2 := Lib.hid (Z1.out.alloc (by simp) (.cells #[.int .i64 6, .int .i64 41, .int .i64 34525] 67))
  unfold Tells
  have ways : (((4 : Int) == proto) = true ∧ (decide (proto = 4) || decide (proto = 41)) = true) ∨ (((4 : Int) == proto) = false ∧ ((41 : Int) == proto) = true ∧ (decide (proto = 4) || decide (proto = 41)) = true) ∨ (((4 : Int) == proto) = false ∧ ((41 : Int) == proto) = false ∧ (decide (proto = 4) || decide (proto = 41)) = false) := by
    simp only [Bool.or_eq_true, Bool.or_eq_false_iff, decide_eq_true_eq, decide_eq_false_iff_not, beq_iff_eq, beq_eq_false_iff_ne]
    omega
  generalize (decide (proto = 4) || decide (proto = 41)) = b at *
  rcases ways with ⟨t1, rfl⟩ | ⟨t1, t2, rfl⟩ | ⟨t1, t2, rfl⟩
  all_goals
    go_enter Tryd.func60, Tryd.ntmps60
    go_wp2_with (refine wpList_load_row rfl 96 (.global 1) rfl 1 rfl T0 versions6 fr0 _ hg0 Tryd.underlying96 rfl hi ?_)
    clear hg0 hi hg
    refine wp_loop_rounds 3 ?_
    rw [rounds_succ]
    go_wp2_with fail
  · go_ret
    exact ⟨rfl, Z1.out⟩
  · rw [rounds_succ]
    go_wp2_with fail
    go_ret
    exact ⟨rfl, Z2.out⟩
  · rw [rounds_succ]
    go_wp2_with fail
    rw [rounds_succ]
    go_wp2_with fail
    go_ret
    exact ⟨rfl, Z2.out⟩

end Go.Proofs.YtbfcccfgphelhaaDoor
