/-
  The laws' 'awake', 'few' and 'way'.
-/
import Derived.Test.YtmghdgkdnacinaaDoorTunnelPut
import Derived.Test.YtmghdgkdnacinaaDoorTunnelUnwrap
import Derived.Test.YtmghdgkdnacinaaDoorTunnelPlain
namespace Go.Proofs.YtmghdgkdnacinaaDoor
open Go.RowKit
set_option linter.unusedVariables false

theorem ex14_1 : size14 ⟨1, false, false, 0, false, 0, 0⟩ = 20 := by decide
theorem ex14_2 : size14 ⟨2, true, true, 0, false, 0, 0⟩ = 32 := by decide
theorem ex14_3 : size14 ⟨3, false, false, 0, false, 0, 0⟩ = 32 := by decide
set_option maxHeartbeats 1000000 in
theorem awake14_any (w : World) : Calls Tryd.prog 6 #[] w (AwakeEnd w) := by
  have H1 := Lib.hid (fun W => size14_any ⟨1, false, false, 0, false, 0, 0⟩ W)
  have H2 := Lib.hid (fun W => size14_any ⟨2, true, true, 0, false, 0, 0⟩ W)
  have H3 := Lib.hid (fun W => size14_any ⟨3, false, false, 0, false, 0, 0⟩ W)
  rw [ex14_1] at H1
  rw [ex14_2] at H2
  rw [ex14_3] at H3
  unfold Tells T14.cells at H1 H2 H3
  simp only [show ((0 : Nat) : Int) = 0 from rfl, show ((20 : Nat) : Int) = 20 from rfl, show ((32 : Nat) : Int) = 32 from rfl] at H1 H2 H3
  go_enter Tryd.func6, Tryd.ntmps6
  go_wp2_with fail
  refine (H1.out _).mono ?_
  rintro e w1 ⟨rfl, hb⟩
  have B1 := Lib.hid hb
  clear hb H1
  go_wp2_with fail
  refine (H2.out _).mono ?_
  rintro e w2 ⟨rfl, hb⟩
  have B2 := Lib.hid (B1.out.trans (hb.mono B1.out.size))
  clear hb H2 B1
  go_wp2_with fail
  refine (H3.out _).mono ?_
  rintro e w3 ⟨rfl, hb⟩
  have B3 := Lib.hid (B2.out.trans (hb.mono B2.out.size))
  clear hb H3 B2
  go_wp2_with fail
  go_ret
  exact ⟨rfl, B3.out⟩

def few14 (y : W14) (s p : ByteArray) : Bool := decide (y.src.size ≤ 300) && decide (y.dst.size ≤ 300) && decide (s.size ≤ 70000) && decide (p.size ≤ 70000)
theorem few14_iff (y : W14) (s p : ByteArray) : few14 y s p = true ↔ y.src.size ≤ 300 ∧ y.dst.size ≤ 300 ∧ s.size ≤ 70000 ∧ p.size ≤ 70000 := by
  simp [few14, and_assoc]
set_option maxHeartbeats 1000000 in
theorem few14_any (y : W14) (s p : ByteArray) (w : World) : Calls Tryd.prog 7 #[.agg y.cells, .string s, .string p] w (Tells (.bool (few14 y s p)) w) := by
  have L := Lib.hid ((Below.refl w.heap.size w).alloc (Nat.le_refl _) (.cells y.cells 26))
  obtain ⟨src, dst, id, port⟩ := y
  unfold Tells few14
  unfold W14.cells at L ⊢
  simp only at L ⊢
  have e1 : decide ((src.size : Int) ≤ 300) = decide (src.size ≤ 300) := decide_eq_decide.2 (by omega)
  have e2 : decide ((dst.size : Int) ≤ 300) = decide (dst.size ≤ 300) := decide_eq_decide.2 (by omega)
  have e3 : decide ((s.size : Int) ≤ 70000) = decide (s.size ≤ 70000) := decide_eq_decide.2 (by omega)
  have e4 : decide ((p.size : Int) ≤ 70000) = decide (p.size ≤ 70000) := decide_eq_decide.2 (by omega)
  generalize decide (src.size ≤ 300) = x1 at *
  generalize decide (dst.size ≤ 300) = x2 at *
  generalize decide (s.size ≤ 70000) = x3 at *
  generalize decide (p.size ≤ 70000) = x4 at *
  cases x1 <;> cases x2 <;> cases x3
  all_goals
    go_enter Tryd.func7, Tryd.ntmps7
    go_wp2_with fail
    go_ret
    exact ⟨rfl, L.out⟩

set_option maxHeartbeats 1000000 in
theorem way14_any (y : W14) (w : World) : Calls Tryd.prog 10 #[.agg y.cells] w (Tells (.agg y.cells) w) := by
  have L := Lib.hid (((Below.refl w.heap.size w).alloc (Nat.le_refl _) (.cells y.cells 32)).alloc (by simp) (.cells y.cells 26))
  have B := bare14 w y.cells y.cells 32 26
  obtain ⟨src, dst, id, port⟩ := y
  unfold Tells
  unfold W14.cells at L B ⊢
  simp only at L B ⊢
  have c0 := B.cell 0
  have c1 := B.cell 1
  have c2 := B.cell 2
  have c3 := B.cell 3
  simp only [List.getElem?_toArray, List.getElem?_cons_zero, List.getElem?_cons_succ] at c0 c1 c2 c3
  have C0 := Lib.hid c0
  have C1 := Lib.hid c1
  have C2 := Lib.hid c2
  have C3 := Lib.hid c3
  clear c0 c1 c2 c3 B
  go_enter Tryd.func10, Tryd.ntmps10
  go_wp2_with fail
  refine ⟨rfl, .agg #[.string src, .string dst, .int .i64 id, .int .i64 port], ?_, rfl, L.out⟩
  simp [results, Tryd.results10, go_sem, C0.out, C1.out, C2.out, C3.out]

end Go.Proofs.YtmghdgkdnacinaaDoor
