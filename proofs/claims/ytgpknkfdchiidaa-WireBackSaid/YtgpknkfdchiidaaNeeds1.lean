/-
  The two readings of WireNeeds.
-/
import Derived.Test.YtgpknkfdchiidaaInside2
namespace Go.Proofs.Ytgpknkfdchiidaa
open Go.RowKit
set_option linter.unusedVariables false

/-- Left, its number by another name. -/
theorem left_v (b : Nat) (s : ByteArray) (i : Nat) (v : Int) (w : World) (hr : Rd w b s i) (hi : i ≤ s.size) (hs : s.size ≤ maxLen) (hv : v = (s.size : Int) - i) :
    Calls Try.prog 26 #[.pointer (some ⟨b, 0, none⟩)] w fun e w' => e = .returned (.int .i64 v) ∧ ∃ n, w' = w.drewN n := by
  subst hv; exact left_any b s i w hr hi hs
theorem at_v (b : Nat) (s : ByteArray) (i : Nat) (v : Int) (w : World) (hr : Rd w b s i) (hv : v = i) :
    Calls Try.prog 27 #[.pointer (some ⟨b, 0, none⟩)] w fun e w' => e = .returned (.int .i64 v) ∧ w' = w := by
  subst hv; exact at_any b s i w hr
theorem need_y (r : Value) (x : Bool) (k : Int) (w : World) (hx : x = true) :
    Calls Try.prog 23 #[r, .bool x, .int .i64 k] w fun e w' => e = .returned (.tuple #[]) ∧ w' = w :=
  (need_yes r x k w hx).mono fun _ _ ⟨a, b⟩ => ⟨a, b.symm⟩

def Needs1End (Rb Nb R : Nat) (s : ByteArray) (w : World) (e : Ending) (w' : World) : Prop :=
  e = .returned (.tuple #[]) ∧ Blk w' Rb #[.string s] 9 ∧ Blk w' Nb #[.int .i64 1] 3 ∧ Kb (fun j => (j = Rb ∨ j = Nb) ∨ j = R) w w'

set_option maxHeartbeats 1000000 in
theorem needs1_do (R Sb Eb Ab Rb Nb : Nat) (s tr : ByteArray) (a : Nat) (k : Int) (r0 n0 : Value) (w : World) (hR : Rd w R s 0) (hS : Blk w Sb #[.string s] 9) (hE : Blk w Eb #[.int .i64 k] 3) (hA : Blk w Ab #[.int .i64 a] 3)
    (hRb : Blk w Rb #[r0] 9) (hNb : Blk w Nb #[n0] 3) (ha : a ≤ s.size) (hs : s.size ≤ maxLen)
    (h1 : Sb ≠ R) (h2 : Eb ≠ R) (h3 : Ab ≠ R) (h4 : Rb ≠ R) (h5 : Nb ≠ R) (h6 : Rb ≠ Nb) (h7 : Rb ≠ Eb) (h8 : Nb ≠ Eb) (htr : s.extract a s.size = tr) :
    Calls Try.prog 25 #[.pointer (some ⟨R, 0, none⟩), .pointer (some ⟨Sb, 0, none⟩), .pointer (some ⟨Eb, 0, none⟩), .pointer (some ⟨Ab, 0, none⟩), .pointer (some ⟨Rb, 0, none⟩), .pointer (some ⟨Nb, 0, none⟩)] w (Needs1End Rb Nb R tr w) := by
  have HT := Lib.hid htr
  clear htr
  have cS := hS.cell 0
  have cE := hE.cell 0
  have cA := hA.cell 0
  simp at cS cE cA
  have hs' := hs
  unfold maxLen at hs'
  have hz : ((s.size : Int) == s.size) = true := by simp
  go_enter Try.func25, Try.ntmps25
  go_wp2_with fail
  go_quiet (first
    | (go_at_call 26; exact Calls.quiet_of (left_v R s 0 s.size _ (hR.drewN _) (by omega) hs (by omega)))
    | (go_at_call 27; exact Calls.quiet_of_same (at_v R s 0 0 _ (hR.drewN _) rfl))
    | (go_at_call 23; exact Calls.quiet_of_same (need_y _ _ _ _ rfl)))
  go_wp2_with fail
  refine (take_nat R s 0 a _ (hR.drewN nq) (by omega) hs).mono ?_
  rintro e w' ⟨rfl, n1, rfl⟩
  rw [Nat.zero_add]
  have hk1 : Kb (fun j => (j = Rb ∨ j = Nb) ∨ j = R) w (((w.drewN nq).drewN n1).setCell ⟨R, 1, none⟩ (.int .i64 (a : Int))) := Kb.setCell (S := fun j => (j = Rb ∨ j = Nb) ∨ j = R) (((Kb.refl _ _).drewN nq).drewN n1) (p := ⟨R, 1, none⟩) (fun _ => Or.inr rfl) _
  have hR1 : Rd (((w.drewN nq).drewN n1).setCell ⟨R, 1, none⟩ (.int .i64 (a : Int))) R s a := ((hR.drewN nq).drewN n1).set 1 _
  have hS1 := ((hS.drewN nq).drewN n1).set_other (p := ⟨R, 1, none⟩) h1 (.int .i64 (a : Int))
  have hE1 := ((hE.drewN nq).drewN n1).set_other (p := ⟨R, 1, none⟩) h2 (.int .i64 (a : Int))
  have hA1 := ((hA.drewN nq).drewN n1).set_other (p := ⟨R, 1, none⟩) h3 (.int .i64 (a : Int))
  have hRb1 := ((hRb.drewN nq).drewN n1).set_other (p := ⟨R, 1, none⟩) h4 (.int .i64 (a : Int))
  have hNb1 := ((hNb.drewN nq).drewN n1).set_other (p := ⟨R, 1, none⟩) h5 (.int .i64 (a : Int))
  clear hR hS hE hA hRb hNb cS cE cA
  generalize ((w.drewN nq).drewN n1).setCell ⟨R, 1, none⟩ (.int .i64 (a : Int)) = w1 at *
  generalize s.extract 0 a = t0
  have cS := hS1.cell 0
  have cE := hE1.cell 0
  have cA := hA1.cell 0
  simp at cS cE cA
  have ha0 : ((a : Int) == a) = true := by simp
  have hd0 : ((s.size : Int) - a == (s.size : Int) - a) = true := by simp
  go_wp2_with fail
  go_quiet (first
    | (go_at_call 26; exact Calls.quiet_of (left_v R s a (s.size - a) _ (hR1.drewN _) (by omega) hs (by omega)))
    | (go_at_call 27; exact Calls.quiet_of_same (at_v R s a a _ (hR1.drewN _) rfl))
    | (go_at_call 23; exact Calls.quiet_of_same (need_y _ _ _ _ rfl)))
  go_wp2_with fail
  refine (rest_any R s a _ (hR1.drewN nq) ha hs).mono ?_
  rintro e w' ⟨rfl, n2, rfl⟩
  rw [HT.out]
  have hk2 : Kb (fun j => (j = Rb ∨ j = Nb) ∨ j = R) w (((w1.drewN nq).drewN n2).setCell ⟨R, 1, none⟩ (.int .i64 (s.size : Int))) := Kb.setCell (S := fun j => (j = Rb ∨ j = Nb) ∨ j = R) ((hk1.drewN nq).drewN n2) (p := ⟨R, 1, none⟩) (fun _ => Or.inr rfl) _
  have hR2 : Rd (((w1.drewN nq).drewN n2).setCell ⟨R, 1, none⟩ (.int .i64 (s.size : Int))) R s s.size := ((hR1.drewN nq).drewN n2).set 1 _
  have hE2 := ((hE1.drewN nq).drewN n2).set_other (p := ⟨R, 1, none⟩) h2 (.int .i64 (s.size : Int))
  have hRb2 := ((hRb1.drewN nq).drewN n2).set_other (p := ⟨R, 1, none⟩) h4 (.int .i64 (s.size : Int))
  have hNb2 := ((hNb1.drewN nq).drewN n2).set_other (p := ⟨R, 1, none⟩) h5 (.int .i64 (s.size : Int))
  clear hR1 hS1 hE1 hA1 hRb1 hNb1 hk1 cS cE cA ha0 hd0
  generalize ((w1.drewN nq).drewN n2).setCell ⟨R, 1, none⟩ (.int .i64 (s.size : Int)) = w2 at *
  have cR := hRb2.cell 0
  have fR := hRb2.frozen 0
  simp at cR
  have hk3 : Kb (fun j => (j = Rb ∨ j = Nb) ∨ j = R) w (w2.setCell ⟨Rb, 0, none⟩ (.string tr)) := Kb.setCell (S := fun j => (j = Rb ∨ j = Nb) ∨ j = R) hk2 (p := ⟨Rb, 0, none⟩) (fun _ => Or.inl (Or.inl rfl)) _
  have hR3 : Rd (w2.setCell ⟨Rb, 0, none⟩ (.string tr)) R s s.size := Blk.set_other hR2 (p := ⟨Rb, 0, none⟩) (Ne.symm h4) (.string tr)
  have hE3 := hE2.set_other (p := ⟨Rb, 0, none⟩) (Ne.symm h7) (.string tr)
  have hNb3 := hNb2.set_other (p := ⟨Rb, 0, none⟩) (Ne.symm h6) (.string tr)
  have hRb3 := hRb2.set 0 (.string tr)
  simp at hRb3
  clear hR2 hE2 hRb2 hNb2 hk2
  go_wp2_with fail
  generalize w2.setCell ⟨Rb, 0, none⟩ (.string tr) = w3 at *
  clear cR fR
  have cE := hE3.cell 0
  simp at cE
  go_quiet (first
    | (go_at_call 26; exact Calls.quiet_of (left_v R s s.size 0 _ (hR3.drewN _) (by omega) hs (by omega)))
    | (go_at_call 23; exact Calls.quiet_of_same (need_y _ _ _ _ rfl)))
  have cN := (hNb3.drewN nq).cell 0
  have fN := (hNb3.drewN nq).frozen 0
  simp at cN
  have HK : Hid (Kb (fun j => (j = Rb ∨ j = Nb) ∨ j = R) w ((w3.drewN nq).setCell ⟨Nb, 0, none⟩ (.int .i64 1))) := Kb.setCell (S := fun j => (j = Rb ∨ j = Nb) ∨ j = R) (hk3.drewN nq) (p := ⟨Nb, 0, none⟩) (fun _ => Or.inl (Or.inr rfl)) _
  have HR := Lib.hid ((hRb3.drewN nq).set_other (p := ⟨Nb, 0, none⟩) h6 (.int .i64 1))
  have HN := Lib.hid ((hNb3.drewN nq).set 0 (.int .i64 1))
  go_wp2_with fail
  go_end0
  exact ⟨rfl, HR.out, by simpa using HN.out, HK.out⟩

end Go.Proofs.Ytgpknkfdchiidaa
