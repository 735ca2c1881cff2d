/-
  The document's own example (awake) is answered with true, and nothing that was there has turned.
-/
import Derived.Test.YtgpknkfdchiidaaRead2
import Derived.Test.YtgpknkfdchiidaaRead3
import Derived.RegionDies
namespace Go.Proofs.Ytgpknkfdchiidaa
open Go.RowKit
set_option linter.unusedVariables false

def s123 : ByteArray := ⟨#[1, 2, 3]⟩
theorem s123_size : s123.size = 3 := rfl
theorem s123_0 : numOf s123 0 1 = 1 := by decide +kernel
theorem s123_1 : numOf s123 1 2 = 515 := by decide +kernel

/-- What the example's reading leaves. -/
def AwakeEnd (A B R : Nat) (w : World) (e : Ending) (w' : World) : Prop :=
  e = .panicked (stopped 2) ∧ Blk w' A #[.int .i64 1] 3 ∧ Blk w' B #[.int .i64 515] 3 ∧ Kb (fun k => k = A ∨ k = B ∨ k = R) w w'

set_option maxHeartbeats 400000 in
theorem awake_do (A B R : Nat) (w : World) (hA : Blk w A #[.int .i64 0] 3) (hB : Blk w B #[.int .i64 0] 3) (hR : Rd w R s123 0) (hAB : A ≠ B) (hAR : A ≠ R) (hBR : B ≠ R) :
    Calls Try.prog 29 #[.pointer (some ⟨R, 0, none⟩), .pointer (some ⟨A, 0, none⟩), .pointer (some ⟨B, 0, none⟩)] w (AwakeEnd A B R w) := by
  go_enter Try.func29, Try.ntmps29
  go_wp2_with fail
  refine (u8_yes R s123 0 _ hR (by decide) (by decide)).mono ?_
  rintro e w1 ⟨rfl, hr1, hk1⟩
  rw [s123_0]
  go_wp2_with fail
  refine (u16_yes R s123 1 _ hr1 (by decide) (by decide)).mono ?_
  rintro e w2 ⟨rfl, hr2, hk2⟩
  rw [s123_1]
  have hk := hk1.trans hk2
  have hA2 := hA.kb hk hAR
  have hB2 := hB.kb hk hBR
  clear hk1 hr1 hk2
  have cA := hA2.cell 0
  have fA := hA2.frozen 0
  have cB := hB2.cell 0
  have fB := hB2.frozen 0
  have cA3 := ((hA2.set 0 (.int .i64 1)).set_other (p := ⟨B, 0, none⟩) hAB (.int .i64 515))
  have cB3 := ((hB2.set_other (p := ⟨A, 0, none⟩) (Ne.symm hAB) (.int .i64 1)).set 0 (.int .i64 515))
  have cR3 := ((hr2.set_other (p := ⟨A, 0, none⟩) (Ne.symm hAR) (.int .i64 1)).set_other (p := ⟨B, 0, none⟩) (Ne.symm hBR) (.int .i64 515))
  simp at cA cB cA3 cB3
  go_wp2_with fail
  have hk3 : Kb (fun k => k = A ∨ k = B ∨ k = R) w ((w2.setCell ⟨A, 0, none⟩ (.int .i64 1)).setCell ⟨B, 0, none⟩ (.int .i64 515)) :=
    Kb.setCell (S := fun k => k = A ∨ k = B ∨ k = R) (Kb.setCell (S := fun k => k = A ∨ k = B ∨ k = R) (hk.mono fun k _ h => Or.inr (Or.inr h)) (p := ⟨A, 0, none⟩) (fun _ => Or.inl rfl) _) (p := ⟨B, 0, none⟩) (fun _ => Or.inr (Or.inl rfl)) _
  clear cA fA cB fB hA2 hB2 hk hA hB hR hr2
  generalize (w2.setCell ⟨A, 0, none⟩ (.int .i64 1)).setCell ⟨B, 0, none⟩ (.int .i64 515) = W3 at *
  have c0 := cB3.cell 0
  simp at c0
  have HA := Lib.hid cA3
  have HB := Lib.hid cB3
  have HR := Lib.hid cR3
  have HK := Lib.hid hk3
  clear cA3 cB3 cR3 hk3
  go_region_dies
  all_goals
    refine (u8_no R s123 3 _ ?_ (by decide) (by decide) (by decide)).mono ?_
    · exact HR.out
    · rintro e w' ⟨rfl, n1, rfl⟩
      exact ⟨rfl, rfl, HA.out, HB.out, HK.out.os, HK.out.tape, HK.out.output, HK.out.size, HK.out.block⟩

/-- The example's reading. -/
def AwakeRead (w : World) (e : Ending) (w' : World) : Prop :=
  e = .returned (.int .i64 2) ∧ Blk w' w.heap.size #[.int .i64 1] 3 ∧ Blk w' (w.heap.size + 1) #[.int .i64 515] 3 ∧ Below w.heap.size w w'

theorem awake_read (w : World) :
    Calls Try.prog 19 #[.string ⟨#[1, 2, 3]⟩, .func (Fn.func 29) #[] #[.pointer (some ⟨w.heap.size, 0, none⟩), .pointer (some ⟨w.heap.size + 1, 0, none⟩)]]
      ((w.alloc (.cells #[.int .i64 0] 3)).alloc (.cells #[.int .i64 0] 3)) (AwakeRead w) := by
  have hA : Blk (w.alloc (.cells #[.int .i64 0] 3)) w.heap.size #[.int .i64 0] 3 := Blk.new w _ _
  have hsz : ((w.alloc (.cells #[.int .i64 0] 3)).alloc (.cells #[.int .i64 0] 3)).heap.size = w.heap.size + 2 := by simp
  have hsz1 : (w.alloc (.cells #[.int .i64 0] 3)).heap.size = w.heap.size + 1 := by simp
  have hB : Blk ((w.alloc (.cells #[.int .i64 0] 3)).alloc (.cells #[.int .i64 0] 3)) (w.heap.size + 1) #[.int .i64 0] 3 := by
    have := Blk.new (w.alloc (.cells #[.int .i64 0] 3)) #[.int .i64 0] 3
    rw [hsz1] at this; exact this
  have hA' := hA.alloc (.cells #[.int .i64 0] 3)
  have hb : Below w.heap.size w ((w.alloc (.cells #[.int .i64 0] 3)).alloc (.cells #[.int .i64 0] 3)) := ((Below.refl _ _).alloc (Nat.le_refl _) _).alloc (by omega) _
  clear hA hsz1
  generalize (w.alloc (.cells #[.int .i64 0] 3)).alloc (.cells #[.int .i64 0] 3) = w0 at *
  refine (read_any s123 29 _ w0 (fun k u => k = 2 ∧ Blk u w.heap.size #[.int .i64 1] 3 ∧ Blk u (w.heap.size + 1) #[.int .i64 515] 3 ∧ Below w.heap.size w u) (fun args u => by kernel_rfl) ?_).mono ?_
  · have hR : Rd ((w0.alloc (.cells #[.int .i64 0] 26)).alloc (.cells #[.string s123, .int .i64 0] 68)) (w0.heap.size + 1) s123 0 := by
      have := Blk.new (w0.alloc (.cells #[.int .i64 0] 26)) #[.string s123, .int .i64 0] 68
      rw [show (w0.alloc (.cells #[.int .i64 0] 26)).heap.size = w0.heap.size + 1 from by simp] at this; exact this
    have hE : Blk ((w0.alloc (.cells #[.int .i64 0] 26)).alloc (.cells #[.string s123, .int .i64 0] 68)) w0.heap.size #[.int .i64 0] 26 := (Blk.new w0 #[.int .i64 0] 26).alloc _
    have hb2 : Below w.heap.size w ((w0.alloc (.cells #[.int .i64 0] 26)).alloc (.cells #[.string s123, .int .i64 0] 68)) := (hb.alloc (by omega) _).alloc (by simp; omega) _
    refine (awake_do w.heap.size (w.heap.size + 1) (w0.heap.size + 1) _ ((hA'.alloc _).alloc _) ((hB.alloc _).alloc _) hR (by omega) (by omega) (by omega)).mono ?_
    rintro e w' ⟨rfl, ha, hb', hk⟩
    refine ⟨hE.kb hk (by omega), Or.inr ⟨2, rfl, rfl, ha, hb', hb2.trans ((hk.mono (T := fun k => w.heap.size ≤ k) fun k _ h => by omega).below (by simp; omega))⟩⟩
  · rintro e w' ⟨k, w1, rfl, ⟨rfl, ha, hb', hbl⟩, hk⟩
    exact ⟨rfl, ha.kb hk (by omega), hb'.kb hk (by omega), hbl.trans ((hk.mono (T := fun k => w.heap.size ≤ k) fun k _ h => by omega).below hbl.size)⟩

set_option maxHeartbeats 400000 in
/-- What a law needs of the example: true, and what was there is there. -/
theorem awake_any (w : World) : Calls Try.prog 8 #[] w fun e w' => e = .returned (.bool true) ∧ Below w.heap.size w w' := by
  have hmf : ∀ (fn : Fn) (first cap : Array Value) (w : World), (Instr.makeFunc fn first cap).run Try.prog w = .ok (.func fn first cap) w := fun _ _ _ _ => rfl
  go_enter Try.func8, Try.ntmps8
  go_wp2_with fail
  refine (awake_read w).mono ?_
  rintro e w1 ⟨rfl, ha, hb, hbl⟩
  have ca := ha.cell 0
  have cb := hb.cell 0
  simp at ca cb
  go_wp2_with fail
  go_ret
  exact ⟨rfl, hbl⟩
end Go.Proofs.Ytgpknkfdchiidaa
