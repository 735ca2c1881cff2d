/-
  readHead: four numbers of two bytes each, read by a reader that is stopped.
-/
import Derived.Test.YtcalpkdgpiebmaaUdpCheck
import Derived.Test.YtcalpkdgpiebmaaRdDo
import Derived.Test.YtcalpkdgpiebmaaBits
import Derived.LoopN
import Derived.Test.YtcalpkdgpiebmaaRow
namespace Go.Proofs.Ytcalpkdgpiebmaa
open Go.RowKit
set_option linter.unusedVariables false

/-- Four numbers, as cells. -/
def four (a b c d : Int) : Array Value := #[.int .i64 a, .int .i64 b, .int .i64 c, .int .i64 d]
/-- A head's four numbers. -/
def head8 (p : ByteArray) : Array Value := four (numOf p 0 2) (numOf p 2 2) (numOf p 4 2) (numOf p 6 2)

/-- While it reads: the reader, the answer's block, the head's, and what was there. -/
structure Rw8 (u v : World) (R : Nat) (p : ByteArray) (i : Nat) (s : Array Value) : Prop where
  rd : Rd v R p i
  kb : Kb (· = R) u v
  zb : Blk v u.heap.size (four 0 0 0 0) 44
  sb : Blk v (u.heap.size + 1) s 44
  lt : R < u.heap.size
theorem Rw8.step {u v v' : World} {R : Nat} {p : ByteArray} {i j : Nat} {s : Array Value} (r : Rw8 u v R p i s) (hr : Rd v' R p j) (hk : Kb (· = R) v v') : Rw8 u v' R p j s :=
  ⟨hr, r.kb.trans hk, r.zb.kb hk (by have := r.lt; omega), r.sb.kb hk (by have := r.lt; omega), r.lt⟩
theorem Rw8.new {u : World} {R : Nat} {p : ByteArray} {i : Nat} (hr : Rd u R p i) : Rw8 u ((u.alloc (.cells (four 0 0 0 0) 44)).alloc (.cells (four 0 0 0 0) 44)) R p i (four 0 0 0 0) := by
  have e2 := Blk.new (u.alloc (.cells (four 0 0 0 0) 44)) (four 0 0 0 0) 44
  rw [World.size_alloc] at e2
  exact ⟨(hr.alloc _).alloc _, ((Kb.refl _ _).alloc _).alloc _, (Blk.new u _ _).alloc _, e2, hr.lt⟩
theorem Rw8.put {u v : World} {R : Nat} {p : ByteArray} {i : Nat} {s : Array Value} (r : Rw8 u v R p i s) (s' : Array Value) (k : Nat) (x : Value) (hx : s.setIfInBounds k x = s') : Rw8 u (v.setCell ⟨u.heap.size + 1, k, none⟩ x) R p i s' := by
  subst hx
  exact ⟨r.rd.set_other (by have := r.lt; simp; omega) _, r.kb.setCell (fun h => absurd h (by simp)) _, r.zb.set_other (by simp) _, r.sb.set k x, r.lt⟩
theorem rw8_u16 {u v : World} {R : Nat} {p : ByteArray} {i : Nat} {s : Array Value} (r : Rw8 u v R p i s) (hi : i + 2 ≤ p.size) (hs : p.size ≤ 1000000) :
    Calls Try.prog 28 #[.pointer (some ⟨R, 0, none⟩)] v fun e v' => e = .returned (.int .i64 (numOf p i 2)) ∧ Rw8 u v' R p (i + 2) s :=
  (u16_yes R p i v r.rd hi (by unfold maxLen; omega)).mono fun e v' h => ⟨h.1, r.step h.2.1 h.2.2⟩

/-- How it ends. -/
def Head8End (u : World) (R : Nat) (p : ByteArray) (e : Ending) (u' : World) : Prop :=
  Kb (· = R) u u' ∧ ((8 ≤ p.size ∧ Rd u' R p 8 ∧ e = .returned (.agg (head8 p))) ∨ (p.size < 8 ∧ e = .panicked (stopped 2)))
theorem Head8End.stop {u u' : World} {R : Nat} {p : ByteArray} (hk : Kb (· = R) u u') (h0 : p.size < 8) : Head8End u R p (.panicked (stopped 2)) u' :=
  ⟨hk, Or.inr ⟨h0, rfl⟩⟩

set_option maxRecDepth 100000 in
set_option maxHeartbeats 4000000 in
theorem readHead_any (R : Nat) (p : ByteArray) (u : World) (hr : Rd u R p 0) (hs : p.size ≤ 1000000) :
    Calls Try.prog 21 #[.pointer (some ⟨R, 0, none⟩)] u (Head8End u R p) := by
  have R0 := Lib.hid (Rw8.new hr)
  have HL := Lib.hid hs
  clear hr hs
  go_enter Try.func21, Try.ntmps21
  go_wp2_with fail
  simp only [show #[Value.int IntKind.i64 0, Value.int IntKind.i64 0, Value.int IntKind.i64 0, Value.int IntKind.i64 0] = four 0 0 0 0 from rfl]
  generalize (u.alloc (.cells (four 0 0 0 0) 44)).alloc (.cells (four 0 0 0 0) 44) = v0 at *
  refine wp_loop_rounds 5 ?_
  rw [rounds_succ]
  go_wp2_with fail
  by_cases hp0 : 0 + 2 ≤ p.size
  case neg =>
    refine (u16_no R p 0 v0 R0.out.rd (by omega) (by omega) (by have := HL.out; unfold maxLen; omega)).mono ?_
    rintro e w' ⟨rfl, m, rfl⟩
    exact ⟨rfl, Head8End.stop (R0.out.kb.drewN m) (by omega)⟩
  refine (rw8_u16 R0.out hp0 HL.out).mono ?_
  rintro e w1 ⟨rfl, r1⟩
  have Q0 := Lib.hid r1
  clear r1 R0
  have HZ0 : Hid (four 0 0 0 0 = four 0 0 0 0) := rfl
  have f0 := Q0.out.sb.frozen 0
  have s0 := Q0.out.sb.cell 0
  generalize hn0 : (numOf p 0 2 : Int) = n0 at *
  have HN0 := Lib.hid hn0
  clear hn0 HZ0
  simp only [four] at s0
  simp at s0
  go_wp2_with fail
  clear f0 s0
  have R1 := Lib.hid (Q0.out.put (four n0 0 0 0) 0 (.int .i64 n0) rfl)
  clear Q0
  generalize w1.setCell ⟨u.heap.size + 1, 0, none⟩ (.int .i64 n0) = v1 at *
  rw [rounds_succ]
  go_wp2_with fail
  by_cases hp1 : 2 + 2 ≤ p.size
  case neg =>
    refine (u16_no R p 2 v1 R1.out.rd (by omega) (by omega) (by have := HL.out; unfold maxLen; omega)).mono ?_
    rintro e w' ⟨rfl, m, rfl⟩
    exact ⟨rfl, Head8End.stop (R1.out.kb.drewN m) (by omega)⟩
  refine (rw8_u16 R1.out hp1 HL.out).mono ?_
  rintro e w2 ⟨rfl, r2⟩
  have Q1 := Lib.hid r2
  clear r2 R1
  have HZ1 : Hid (four n0 0 0 0 = four n0 0 0 0) := rfl
  have f1 := Q1.out.sb.frozen 1
  have s1 := Q1.out.sb.cell 1
  generalize hn1 : (numOf p 2 2 : Int) = n1 at *
  have HN1 := Lib.hid hn1
  clear hn1 HZ1
  simp only [four] at s1
  simp at s1
  go_wp2_with fail
  clear f1 s1
  have R2 := Lib.hid (Q1.out.put (four n0 n1 0 0) 1 (.int .i64 n1) rfl)
  clear Q1
  generalize w2.setCell ⟨u.heap.size + 1, 1, none⟩ (.int .i64 n1) = v2 at *
  rw [rounds_succ]
  go_wp2_with fail
  by_cases hp2 : 4 + 2 ≤ p.size
  case neg =>
    refine (u16_no R p 4 v2 R2.out.rd (by omega) (by omega) (by have := HL.out; unfold maxLen; omega)).mono ?_
    rintro e w' ⟨rfl, m, rfl⟩
    exact ⟨rfl, Head8End.stop (R2.out.kb.drewN m) (by omega)⟩
  refine (rw8_u16 R2.out hp2 HL.out).mono ?_
  rintro e w3 ⟨rfl, r3⟩
  have Q2 := Lib.hid r3
  clear r3 R2
  have HZ2 : Hid (four n0 n1 0 0 = four n0 n1 0 0) := rfl
  have f2 := Q2.out.sb.frozen 2
  have s2 := Q2.out.sb.cell 2
  generalize hn2 : (numOf p 4 2 : Int) = n2 at *
  have HN2 := Lib.hid hn2
  clear hn2 HZ2
  simp only [four] at s2
  simp at s2
  go_wp2_with fail
  clear f2 s2
  have R3 := Lib.hid (Q2.out.put (four n0 n1 n2 0) 2 (.int .i64 n2) rfl)
  clear Q2
  generalize w3.setCell ⟨u.heap.size + 1, 2, none⟩ (.int .i64 n2) = v3 at *
  rw [rounds_succ]
  go_wp2_with fail
  by_cases hp3 : 6 + 2 ≤ p.size
  case neg =>
    refine (u16_no R p 6 v3 R3.out.rd (by omega) (by omega) (by have := HL.out; unfold maxLen; omega)).mono ?_
    rintro e w' ⟨rfl, m, rfl⟩
    exact ⟨rfl, Head8End.stop (R3.out.kb.drewN m) (by omega)⟩
  refine (rw8_u16 R3.out hp3 HL.out).mono ?_
  rintro e w4 ⟨rfl, r4⟩
  have Q3 := Lib.hid r4
  clear r4 R3
  have HZ3 : Hid (four n0 n1 n2 0 = four n0 n1 n2 0) := rfl
  have f3 := Q3.out.sb.frozen 3
  have s3 := Q3.out.sb.cell 3
  generalize hn3 : (numOf p 6 2 : Int) = n3 at *
  have HN3 := Lib.hid hn3
  clear hn3 HZ3
  simp only [four] at s3
  simp at s3
  go_wp2_with fail
  clear f3 s3
  have R4 := Lib.hid (Q3.out.put (four n0 n1 n2 n3) 3 (.int .i64 n3) rfl)
  clear Q3
  generalize w4.setCell ⟨u.heap.size + 1, 3, none⟩ (.int .i64 n3) = v4 at *
  rw [rounds_succ]
  have hi : (Try.prog.info? 44).map (·.size) = some (four n0 n1 n2 n3).size := by kernel_rfl
  have h1 : (four n0 n1 n2 n3).all (·.oneCell') = true := by simp [four]; exact ⟨rfl, rfl, rfl, rfl⟩
  go_wp2_with (first | (refine wpList_load_row rfl 44 (.tmp 3) rfl (u.heap.size + 1) rfl 44 (four n0 n1 n2 n3) (0, 0) _ R4.out.sb Try.underlying44 rfl hi ?_) | (refine wpList_store_row rfl 44 (.tmp 2) (.tmp 13) rfl u.heap.size (four n0 n1 n2 n3) rfl rfl 44 (four 0 0 0 0) R4.out.zb hi rfl h1 ?_))
  have B2 := Blk.row R4.out.zb (four n0 n1 n2 n3)
  have D2 : Rd (v4.setRow u.heap.size (four n0 n1 n2 n3)) R p 8 := Blk.row_other R4.out.rd (by have := R4.out.lt; omega) _
  have K2 := Kb.row R4.out.kb (g := u.heap.size) (fun h => absurd h (by omega)) (four n0 n1 n2 n3)
  refine bodyPost_ret (v := .agg (four n0 n1 n2 n3)) (results_cell_row rfl _ _ u.heap.size 44 (four n0 n1 n2 n3) (0, 0) _ rfl B2 Try.underlying44 rfl hi) rfl ?_
  refine ⟨K2, Or.inl ⟨by omega, D2, ?_⟩⟩
  rw [head8, HN0.out, HN1.out, HN2.out, HN3.out]
end Go.Proofs.Ytcalpkdgpiebmaa
