/-
  Read: whatever the function that it calls does with the reader, Read answers with what it was stopped, or OK.
-/
import Derived.Test.YtcalpkdgpiebmaaRd
import Derived.Defers
import Derived.Recover
namespace Go.Proofs.Ytcalpkdgpiebmaa
open Go.RowKit
set_option linter.unusedVariables false

/-- How what is called ends: at its end, or stopped; Q tells of the error and the world. -/
def DoEnd (N : Nat) (Q : Int → World → Prop) (e : Ending) (w' : World) : Prop :=
  Blk w' N #[.int .i64 0] 25 ∧ ((e = .returned (.tuple #[]) ∧ Q 0 w') ∨ ∃ k, e = .panicked (stopped k) ∧ Q k w')

/-- Read's end. -/
def ReadEnd (N : Nat) (Q : Int → World → Prop) (e : Ending) (w' : World) : Prop :=
  ∃ k w1, e = .returned (.int .i64 k) ∧ Q k w1 ∧ Kb (· = N) w1 w'

theorem assert65 (W : World) (v : Value) : (Instr.typeAssert (.iface 60 v) 20 60 true).run Try.prog W = .ok (.tuple #[v, .bool true]) W := by kernel_rfl

theorem frame42 (p V : Value) : (#[p] ++ ((Array.replicate 16 undef).setIfInBounds 3 V).setIfInBounds 0 V) = #[p, V, undef, undef, V, undef, undef, undef, undef, undef, undef, undef, undef, undef, undef, undef, undef] := rfl

theorem catch_stopped (b : Nat) (k : Int) (w : World) (hb : Blk w b #[.int .i64 0] 25) :
    CallsD Try.prog 27 #[.pointer (some ⟨b, 0, none⟩)] (.panicking (stopped k)) w fun e u' w' =>
      e = .returned (.tuple #[]) ∧ u' = .panicking [{ v := .iface 60 (.agg #[.int .i64 k]), recovered := true }] ∧ w' = (w.setCell ⟨b, 0, none⟩ (.int .i64 k)).alloc (.cells #[.int .i64 k] 60) := by
  have c0 := (hb.alloc (.cells #[.int .i64 k] 60)).cell 0
  have f0 := (hb.alloc (.cells #[.int .i64 k] 60)).frozen 0
  have hlt := hb.lt
  have has := assert65
  simp at c0
  clear hb
  refine callsD_of_wpS Try.func27 rfl fun c₀ cs hu => ?_
  unfold stopped at hu
  apply wpS_seq
  apply wpS_region
  simp [wpOpsS, go_sem, recoverD, hu, Try.ntmps27, Exit.thenS]
  refine wpS_of_wp ?_
  rw [frame42]
  go_wp2
  exact ⟨rfl, _, rfl, _, results_none rfl _ _ _, rfl, rfl, rfl⟩

theorem catch_none (p : Addr) (w : World) :
    CallsD Try.prog 27 #[.pointer (some p)] .returning w fun e u' w' => e = .returned (.tuple #[]) ∧ u' = .returning ∧ w' = w := by
  refine callsD_of_wpS Try.func27 rfl fun c₀ cs hu => ?_
  apply wpS_seq
  apply wpS_region
  simp [wpOpsS, go_sem, recoverD, hu, Try.ntmps27, Exit.thenS]
  refine wpS_of_wp ?_
  rw [frame42]
  go_wp2
  exact ⟨rfl, .returning, by cases c₀; simp_all, _, results_none rfl _ _ _, rfl, rfl, rfl⟩

set_option maxHeartbeats 400000 in
theorem read_any (s : ByteArray) (F : Nat) (cap : Array Value) (w : World) (Q : Int → World → Prop)
    (hF : ∀ args u, (callFunc F args).run Try.prog u = .ok (.enter F args) u)
    (h : Calls Try.prog F (#[.pointer (some ⟨w.heap.size + 1, 0, none⟩)] ++ cap) ((w.alloc (.cells #[.int .i64 0] 25)).alloc (.cells #[.string s, .int .i64 0] 63)) (DoEnd w.heap.size Q)) :
    Calls Try.prog 19 #[.string s, .func (Fn.func F) #[] cap] w (ReadEnd w.heap.size Q) := by
  have hmf : ∀ (fn : Fn) (first cap : Array Value) (w : World), (Instr.makeFunc fn first cap).run Try.prog w = .ok (.func fn first cap) w := fun _ _ _ _ => rfl
  have H := Lib.hid h
  clear h
  go_enter_defers Try.func19, Try.ntmps19
  go_wp2_with fail
  refine H.out.mono ?_
  rintro e w' ⟨hb, ⟨rfl, hq⟩ | ⟨k, rfl, hq⟩⟩
  · have f0 := hb.frozen 0
    have c0 := hb.cell 0
    simp at c0
    have HB := Lib.hid hb
    clear hb
    go_wp2
    refine leaves_cons (f := 27) (args := #[.pointer (some ⟨w.heap.size, 0, none⟩)]) (by simp) (by simp [go_sem]) ?_
    refine (catch_none _ _).mono ?_
    rintro e u' w'' ⟨rfl, rfl, rfl⟩
    have c1 := (HB.out.set 0 (.int .i64 0)).cell 0
    simp at c1
    have hr : (results Try.f19 #[Value.string s, Value.func (Fn.func F) #[] cap, undef, undef, Value.pointer (some { block := w.heap.size, off := 0 }), Value.func (Fn.func 27) #[] #[Value.pointer (some { block := w.heap.size, off := 0 })], Value.func (Fn.func F) #[] cap, Value.string s, Value.agg #[Value.string s, Value.int IntKind.i64 0], Value.pointer (some { block := w.heap.size + 1, off := 0 }), Value.tuple #[]]).run Try.prog (w'.setCell ⟨w.heap.size, 0, none⟩ (.int .i64 0)) = .ok (.int .i64 0) (w'.setCell ⟨w.heap.size, 0, none⟩ (.int .i64 0)) := by
      simp [results, Try.results19, go_sem, c1]
    exact ⟨_, hr, 0, w', rfl, hq, Kb.setCell (S := (· = w.heap.size)) (Kb.refl _ _) (p := ⟨w.heap.size, 0, none⟩) (fun _ => rfl) _⟩
  · have f0 := hb.frozen 0
    have c0 := hb.cell 0
    simp at c0
    refine leaves_cons (f := 27) (args := #[.pointer (some ⟨w.heap.size, 0, none⟩)]) (by simp) (by simp [go_sem]) ?_
    refine (catch_stopped _ k _ hb).mono ?_
    rintro e u' w'' ⟨rfl, rfl, rfl⟩
    have c1 := ((hb.set 0 (.int .i64 k)).alloc (.cells #[.int .i64 k] 60)).cell 0
    simp at c1
    have hr : (results Try.f19 #[Value.string s, Value.func (Fn.func F) #[] cap, undef, undef, Value.pointer (some { block := w.heap.size, off := 0 }), Value.func (Fn.func 27) #[] #[Value.pointer (some { block := w.heap.size, off := 0 })], Value.func (Fn.func F) #[] cap, Value.string s, Value.agg #[Value.string s, Value.int IntKind.i64 0], Value.pointer (some { block := w.heap.size + 1, off := 0 }), undef]).run Try.prog ((w'.setCell ⟨w.heap.size, 0, none⟩ (.int .i64 k)).alloc (.cells #[.int .i64 k] 60)) = .ok (.int .i64 k) ((w'.setCell ⟨w.heap.size, 0, none⟩ (.int .i64 k)).alloc (.cells #[.int .i64 k] 60)) := by
      simp [results, Try.results19, go_sem, c1]
    exact ⟨_, hr, k, w', rfl, hq, (Kb.setCell (S := (· = w.heap.size)) (Kb.refl _ _) (p := ⟨w.heap.size, 0, none⟩) (fun _ => rfl) _).alloc _⟩

/-- How what is called ends, and which blocks it writes: those of S, and the reader's. -/
def DoKb (S : Nat → Prop) (R : Nat) (u : World) (Q : Int → World → Prop) (e : Ending) (u' : World) : Prop :=
  ((e = .returned (.tuple #[]) ∧ Q 0 u') ∨ ∃ k, e = .panicked (stopped k) ∧ Q k u') ∧ Kb (fun k => S k ∨ k = R) u u'
def ReadKb (S : Nat → Prop) (w : World) (Q : Int → World → Prop) (e : Ending) (w' : World) : Prop :=
  ∃ k w1, e = .returned (.int .i64 k) ∧ Q k w1 ∧ Kb S w w1 ∧ Kb (· = w.heap.size) w1 w'

theorem read_kb (s : ByteArray) (F : Nat) (cap : Array Value) (w : World) (S : Nat → Prop) (Q : Int → World → Prop) (hS : ∀ k, S k → k < w.heap.size)
    (hF : ∀ args u, (callFunc F args).run Try.prog u = .ok (.enter F args) u)
    (h : ∀ R u, Rd u R s 0 → w.heap.size ≤ R → Kb (fun _ => False) w u → Calls Try.prog F (#[.pointer (some ⟨R, 0, none⟩)] ++ cap) u (DoKb S R u Q)) :
    Calls Try.prog 19 #[.string s, .func (Fn.func F) #[] cap] w (ReadKb S w Q) := by
  refine (read_any s F cap w (fun k u => Q k u ∧ Kb S w u) hF ?_).mono ?_
  · have hR : Rd ((w.alloc (.cells #[.int .i64 0] 25)).alloc (.cells #[.string s, .int .i64 0] 63)) (w.heap.size + 1) s 0 := by
      have := Blk.new (w.alloc (.cells #[.int .i64 0] 25)) #[.string s, .int .i64 0] 63
      rw [show (w.alloc (.cells #[.int .i64 0] 25)).heap.size = w.heap.size + 1 from by simp] at this; exact this
    have hE : Blk ((w.alloc (.cells #[.int .i64 0] 25)).alloc (.cells #[.string s, .int .i64 0] 63)) w.heap.size #[.int .i64 0] 25 := (Blk.new w #[.int .i64 0] 25).alloc _
    have hk : Kb (fun _ => False) w ((w.alloc (.cells #[.int .i64 0] 25)).alloc (.cells #[.string s, .int .i64 0] 63)) := ((Kb.refl _ _).alloc _).alloc _
    have hsz : ((w.alloc (.cells #[.int .i64 0] 25)).alloc (.cells #[.string s, .int .i64 0] 63)).heap.size = w.heap.size + 2 := by simp
    generalize (w.alloc (.cells #[.int .i64 0] 25)).alloc (.cells #[.string s, .int .i64 0] 63) = u at *
    refine (h (w.heap.size + 1) u hR (by omega) hk).mono ?_
    rintro e u' ⟨hq, hk'⟩
    have hE' : Blk u' w.heap.size #[.int .i64 0] 25 := hE.kb hk' (by
      rintro (hs | hs)
      · have := hS _ hs; omega
      · omega)
    have hkw : Kb S w u' := ⟨hk'.os.trans hk.os, hk'.tape.trans hk.tape, hk'.output.trans hk.output, Nat.le_trans hk.size hk'.size, fun k hk1 hs =>
      (hk'.block k (by omega) (by rintro (h1 | h1); exact hs h1; omega)).trans (hk.block k hk1 (fun f => f))⟩
    rcases hq with ⟨rfl, hq⟩ | ⟨k, rfl, hq⟩
    · exact ⟨hE', Or.inl ⟨rfl, hq, hkw⟩⟩
    · exact ⟨hE', Or.inr ⟨k, rfl, hq, hkw⟩⟩
  · rintro e w' ⟨k, w1, rfl, ⟨hq, hkw⟩, hk⟩
    exact ⟨k, w1, rfl, hq, hkw, hk⟩

end Go.Proofs.Ytcalpkdgpiebmaa
