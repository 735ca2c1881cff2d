/-
  New: an empty table.
-/
import Derived.Test.YtoijomdgcgbpbaaReasmMade
namespace Go.Proofs.Ytoijomdgcgbpbaa
open Go.RowKit
set_option linter.unusedVariables false

/-- A store. -/
structure S16 where
  e : Int
  b : Int
  l : Int
def S16.cells (s : S16) : Array Value := #[.int .i64 s.e, .int .i64 s.b, .int .i64 s.l]
/-- May a store be? -/
def S16.Right (s : S16) : Prop := (1 ≤ s.e ∧ s.e ≤ 64) ∧ (1 ≤ s.b ∧ s.b ≤ 1048576) ∧ 1 ≤ s.l ∧ s.l ≤ 64
theorem Tab16.nil {s : S16} (h : s.Right) : Tab16 s.e.toNat s.b.toNat s.l.toNat [] := by
  obtain ⟨h1, h2, h3⟩ := h
  refine ⟨by omega, by simp, by simp [bytes16], List.Pairwise.nil, fun e he => absurd he (by simp)⟩

/-- What New leaves. -/
def NewEnd16 (s : S16) (w : World) (r : Ending) (w' : World) : Prop :=
  (s.Right ∧ ∃ tb mb clock, r = .returned (.tuple #[.pointer (some ⟨tb, 0, none⟩), .int .i64 0]) ∧ Tb16 (fun i => w.heap.size ≤ i) w' tb mb s.e.toNat s.b.toNat s.l.toNat [] clock ∧ Below w.heap.size w w') ∨
  (¬ s.Right ∧ r = .returned (.tuple #[.pointer none, .int .i64 1]) ∧ Below w.heap.size w w')

theorem Tb16.fresh {s : S16} (h : s.Right) (w u : World) (hb : Below w.heap.size w u) : Tb16 (fun i => w.heap.size ≤ i) ((u.alloc (.map #[] 0)).alloc (.cells #[.int .i64 s.e, .int .i64 s.b, .int .i64 s.l, .map (some u.heap.size)] 65)) (u.heap.size + 1) u.heap.size s.e.toNat s.b.toNat s.l.toNat [] 0 := by
  have z := hb.size
  have q := Blk.new (u.alloc (.map #[] 0)) #[.int .i64 s.e, .int .i64 s.b, .int .i64 s.l, .map (some u.heap.size)] 65
  simp only [World.size_alloc] at q
  have e1 : ((s.e.toNat : Nat) : Int) = s.e := by have := h.1; omega
  have e2 : ((s.b.toNat : Nat) : Int) = s.b := by have := h.2.1; omega
  have e3 : ((s.l.toNat : Nat) : Int) = s.l := by have := h.2.2; omega
  refine ⟨?_, ?_, fun m hm => absurd hm (by simp), List.Pairwise.nil, fun m hm => absurd hm (by simp), by simp, by omega, z, fun m hm => absurd hm (by simp), Tab16.nil h⟩
  · rw [e1, e2, e3]; exact q
  · show ((u.heap.push _).push _)[u.heap.size]? = _
    rw [Array.getElem?_push_lt (by simp)]
    simp


set_option maxRecDepth 100000 in
set_option maxHeartbeats 1000000 in
theorem new16_any (s : S16) (w : World) :
    Calls Try.prog 11 #[.agg s.cells] w (NewEnd16 s w) := by
  have hmm := @run_makeMap Try.prog
  obtain ⟨e, b, l⟩ := s
  unfold S16.cells
  dsimp only
  by_cases he1 : e < 1
  · have t1 : decide (e < 1) = true := decide_eq_true he1
    go_enter Try.func11, Try.ntmps11
    go_wp2_with fail
    refine wp_loop_rounds 4 ?_
    rw [rounds_succ]
    go_wp2_with fail
    go_ret2
    exact Or.inr ⟨fun h => by have := h.1.1; dsimp only at this; omega, rfl, by (repeat (first | exact Below.refl _ _ | refine Below.alloc ?_ (by (try simp only [World.size_alloc]); omega) _))⟩
  have t1 : decide (e < 1) = false := decide_eq_false he1
  by_cases he2 : 64 < e
  · have t2 : decide (64 < e) = true := decide_eq_true he2
    go_enter Try.func11, Try.ntmps11
    go_wp2_with fail
    refine wp_loop_rounds 4 ?_
    rw [rounds_succ]
    go_wp2_with fail
    go_ret2
    exact Or.inr ⟨fun h => by have := h.1.2; dsimp only at this; omega, rfl, by (repeat (first | exact Below.refl _ _ | refine Below.alloc ?_ (by (try simp only [World.size_alloc]); omega) _))⟩
  have t2 : decide (64 < e) = false := decide_eq_false he2
  by_cases hb1 : b < 1
  · have t3 : decide (b < 1) = true := decide_eq_true hb1
    go_enter Try.func11, Try.ntmps11
    go_wp2_with fail
    refine wp_loop_rounds 4 ?_
    rw [rounds_succ]
    go_wp2_with fail
    rw [rounds_succ]
    go_wp2_with fail
    go_ret2
    exact Or.inr ⟨fun h => by have := h.2.1.1; dsimp only at this; omega, rfl, by (repeat (first | exact Below.refl _ _ | refine Below.alloc ?_ (by (try simp only [World.size_alloc]); omega) _))⟩
  have t3 : decide (b < 1) = false := decide_eq_false hb1
  by_cases hb2 : 1048576 < b
  · have t4 : decide (1048576 < b) = true := decide_eq_true hb2
    go_enter Try.func11, Try.ntmps11
    go_wp2_with fail
    refine wp_loop_rounds 4 ?_
    rw [rounds_succ]
    go_wp2_with fail
    rw [rounds_succ]
    go_wp2_with fail
    go_ret2
    exact Or.inr ⟨fun h => by have := h.2.1.2; dsimp only at this; omega, rfl, by (repeat (first | exact Below.refl _ _ | refine Below.alloc ?_ (by (try simp only [World.size_alloc]); omega) _))⟩
  have t4 : decide (1048576 < b) = false := decide_eq_false hb2
  by_cases hl1 : l < 1
  · have t5 : decide (l < 1) = true := decide_eq_true hl1
    go_enter Try.func11, Try.ntmps11
    go_wp2_with fail
    refine wp_loop_rounds 4 ?_
    rw [rounds_succ]
    go_wp2_with fail
    rw [rounds_succ]
    go_wp2_with fail
    rw [rounds_succ]
    go_wp2_with fail
    go_ret2
    exact Or.inr ⟨fun h => by have := h.2.2.1; dsimp only at this; omega, rfl, by (repeat (first | exact Below.refl _ _ | refine Below.alloc ?_ (by (try simp only [World.size_alloc]); omega) _))⟩
  have t5 : decide (l < 1) = false := decide_eq_false hl1
  by_cases hl2 : 64 < l
  · have t6 : decide (64 < l) = true := decide_eq_true hl2
    go_enter Try.func11, Try.ntmps11
    go_wp2_with fail
    refine wp_loop_rounds 4 ?_
    rw [rounds_succ]
    go_wp2_with fail
    rw [rounds_succ]
    go_wp2_with fail
    rw [rounds_succ]
    go_wp2_with fail
    go_ret2
    exact Or.inr ⟨fun h => by have := h.2.2.2; dsimp only at this; omega, rfl, by (repeat (first | exact Below.refl _ _ | refine Below.alloc ?_ (by (try simp only [World.size_alloc]); omega) _))⟩
  have t6 : decide (64 < l) = false := decide_eq_false hl2
  have hr : S16.Right ⟨e, b, l⟩ := by unfold S16.Right; dsimp only; omega
  have F := Lib.hid (fun u hb => Tb16.fresh hr w u hb)
  go_enter Try.func11, Try.ntmps11
  go_wp2_with fail
  refine wp_loop_rounds 4 ?_
  rw [rounds_succ]
  go_wp2_with fail
  rw [rounds_succ]
  go_wp2_with fail
  rw [rounds_succ]
  go_wp2_with fail
  rw [rounds_succ]
  go_wp2_with fail
  go_ret2
  refine Or.inl ⟨hr, w.heap.size + 1 + 1 + 1 + 1 + 1 + 1, w.heap.size + 1 + 1 + 1 + 1 + 1, 0, rfl, ?_, by (repeat (first | exact Below.refl _ _ | refine Below.alloc ?_ (by (try simp only [World.size_alloc]); omega) _))⟩
  refine cast ?_ (F.out _ (?_ : Below w.heap.size w (((((w.alloc (.cells #[.int .i64 e, .int .i64 b, .int .i64 l] 23)).alloc (.cells #[.int .i64 e, .int .i64 64, .int .i64 b, .int .i64 1048576, .int .i64 l, .int .i64 64] 61)).alloc (.cells #[.int .i64 e, .int .i64 64] 61)).alloc (.cells #[.int .i64 b, .int .i64 1048576] 61)).alloc (.cells #[.int .i64 l, .int .i64 64] 61))))
  · simp only [World.size_alloc]
  · (repeat (first | exact Below.refl _ _ | refine Below.alloc ?_ (by (try simp only [World.size_alloc]); omega) _))

end Go.Proofs.Ytoijomdgcgbpbaa
