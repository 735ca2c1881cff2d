/-
  Read, by what the function that it calls does to the blocks that were there; the readings of WireInside.
-/
import Derived.Test.YtgpknkfdchiidaaAwake
namespace Go.Proofs.Ytgpknkfdchiidaa
open Go.RowKit
set_option linter.unusedVariables false

/-- How what is called ends, and which blocks it writes: those of S, and the reader's. -/
def DoKb (S : Nat → Prop) (R : Nat) (u : World) (Q : Int → World → Prop) (e : Ending) (u' : World) : Prop :=
  ((e = .returned (.tuple #[]) ∧ Q 0 u') ∨ ∃ k, e = .panicked (stopped k) ∧ Q k u') ∧ Kb (fun k => S k ∨ k = R) u u'
def ReadKb (S : Nat → Prop) (w : World) (Q : Int → World → Prop) (e : Ending) (w' : World) : Prop :=
  ∃ k w1, e = .returned (.int .i64 k) ∧ Q k w1 ∧ Kb S w w1 ∧ Kb (· = w.heap.size) w1 w'

theorem read_kb (s : ByteArray) (F : Nat) (cap : Array Value) (w : World) (S : Nat → Prop) (Q : Int → World → Prop) (hS : ∀ k, S k → k < w.heap.size)
    (hF : ∀ args u, (callFunc F args).run Try.prog u = .ok (.enter F args) u)
    (h : ∀ R u, Rd u R s 0 → w.heap.size ≤ R → Kb (fun _ => False) w u → Calls Try.prog F (#[.pointer (some ⟨R, 0, none⟩)] ++ cap) u (DoKb S R u Q)) :
    Calls Try.prog 19 #[.string s, .func (Fn.func F) #[] cap] w (ReadKb S w Q) := by
  refine (read_any s F cap w (fun k u => Q k u ∧ Kb S w u) hF ?_).mono ?_
  · have hR : Rd ((w.alloc (.cells #[.int .i64 0] 26)).alloc (.cells #[.string s, .int .i64 0] 68)) (w.heap.size + 1) s 0 := by
      have := Blk.new (w.alloc (.cells #[.int .i64 0] 26)) #[.string s, .int .i64 0] 68
      rw [show (w.alloc (.cells #[.int .i64 0] 26)).heap.size = w.heap.size + 1 from by simp] at this; exact this
    have hE : Blk ((w.alloc (.cells #[.int .i64 0] 26)).alloc (.cells #[.string s, .int .i64 0] 68)) w.heap.size #[.int .i64 0] 26 := (Blk.new w #[.int .i64 0] 26).alloc _
    have hk : Kb (fun _ => False) w ((w.alloc (.cells #[.int .i64 0] 26)).alloc (.cells #[.string s, .int .i64 0] 68)) := ((Kb.refl _ _).alloc _).alloc _
    have hsz : ((w.alloc (.cells #[.int .i64 0] 26)).alloc (.cells #[.string s, .int .i64 0] 68)).heap.size = w.heap.size + 2 := by simp
    generalize (w.alloc (.cells #[.int .i64 0] 26)).alloc (.cells #[.string s, .int .i64 0] 68) = u at *
    refine (h (w.heap.size + 1) u hR (by omega) hk).mono ?_
    rintro e u' ⟨hq, hk'⟩
    have hE' : Blk u' w.heap.size #[.int .i64 0] 26 := hE.kb hk' (by
      rintro (hs | hs)
      · have := hS _ hs; omega
      · omega)
    have hkw : Kb S w u' := ⟨hk'.os.trans hk.os, hk'.tape.trans hk.tape, hk'.output.trans hk.output, Nat.le_trans hk.size hk'.size, fun k hk1 hs =>
      (hk'.block k (by omega) (by rintro (h1 | h1); exact hs h1; omega)).trans (hk.block k hk1 (fun f => f))⟩
    rcases hq with ⟨rfl, hq⟩ | ⟨k, rfl, hq⟩
    · exact ⟨hE', Or.inl ⟨rfl, hq, hkw⟩⟩
    · exact ⟨hE', Or.inr ⟨k, rfl, hq, hkw⟩⟩
  · rintro e w' ⟨k, w1, rfl, ⟨hq, hkw⟩, hk⟩
    exact ⟨k, w1, rfl, hq, hkw, hk⟩

/-- The inner reading's error. -/
def wantOf (n : Int) (t : ByteArray) (e : Int) : Int := if n < 0 ∨ (t.size : Int) < n then 2 else e

set_option maxHeartbeats 400000 in
theorem inner_do (R Nb Eb : Nat) (t : ByteArray) (n k : Int) (w : World) (hR : Rd w R t 0) (hN : Blk w Nb #[.int .i64 n] 3) (hE : Blk w Eb #[.int .i64 k] 3) (hne : Eb ≠ R) (ht : t.size ≤ maxLen) :
    Calls Try.prog 21 #[.pointer (some ⟨R, 0, none⟩), .pointer (some ⟨Nb, 0, none⟩), .pointer (some ⟨Eb, 0, none⟩)] w fun e w' => e = .panicked (stopped (wantOf n t k)) ∧ Kb (· = R) w w' := by
  have cN := hN.cell 0
  simp at cN
  by_cases hn : n < 0 ∨ (t.size : Int) < n
  · have hw : wantOf n t k = 2 := if_pos hn
    rw [hw]
    clear hw
    go_enter Try.func21, Try.ntmps21
    go_wp2_with fail
    refine (take_no R t 0 n _ hR (by omega) (by omega) ht).mono ?_
    rintro e w' ⟨rfl, n1, rfl⟩
    exact ⟨rfl, rfl, (Kb.refl _ _).drewN _⟩
  · have hw : wantOf n t k = k := if_neg hn
    rw [hw]
    clear hw
    go_enter Try.func21, Try.ntmps21
    go_wp2_with fail
    refine (take_yes R t 0 n _ hR (by omega) (by omega) (by omega) ht).mono ?_
    rintro e w' ⟨rfl, n1, rfl⟩
    have hk : Kb (· = R) w ((w.drewN n1).setCell ⟨R, 1, none⟩ (.int .i64 ((0 + n.toNat : Nat) : Int))) := Kb.setCell (S := (· = R)) ((Kb.refl _ _).drewN n1) (p := ⟨R, 1, none⟩) (fun _ => rfl) _
    generalize (w.drewN n1).setCell ⟨R, 1, none⟩ (.int .i64 ((0 + n.toNat : Nat) : Int)) = w1 at *
    have cE := (hE.kb hk hne).cell 0
    simp at cE
    have HK := Lib.hid hk
    clear hk
    go_wp2_with fail
    refine (need_no _ _ _ _ rfl).mono ?_
    rintro e w' ⟨rfl, rfl⟩
    exact ⟨rfl, rfl, HK.out⟩

end Go.Proofs.Ytgpknkfdchiidaa
