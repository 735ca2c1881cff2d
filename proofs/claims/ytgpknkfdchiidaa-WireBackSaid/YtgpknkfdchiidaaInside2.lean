/-
  The outer reading of WireInside, and the law itself, walked.
-/
import Derived.Test.YtgpknkfdchiidaaInside1
namespace Go.Proofs.Ytgpknkfdchiidaa
open Go.RowKit
set_option linter.unusedVariables false

theorem inner_read (Nb Eb : Nat) (t : ByteArray) (n k : Int) (w : World) (hN : Blk w Nb #[.int .i64 n] 3) (hE : Blk w Eb #[.int .i64 k] 3) (ht : t.size ≤ maxLen) :
    Calls Try.prog 19 #[.string t, .func (Fn.func 21) #[] #[.pointer (some ⟨Nb, 0, none⟩), .pointer (some ⟨Eb, 0, none⟩)]] w fun e w' => e = .returned (.int .i64 (wantOf n t k)) ∧ Kb (fun _ => False) w w' := by
  refine (read_kb t 21 _ w (fun _ => False) (fun j _ => j = wantOf n t k) (fun _ h => h.elim) (fun args u => by kernel_rfl) ?_).mono ?_
  · intro R u hR hge hk
    refine (inner_do R Nb Eb t n k u hR (hN.kb hk (fun f => f)) (hE.kb hk (fun f => f)) (by have := hE.lt; omega) ht).mono ?_
    rintro e w' ⟨rfl, hk'⟩
    exact ⟨Or.inr ⟨_, rfl, rfl⟩, hk'.mono fun k _ h => Or.inr h⟩
  · rintro e w' ⟨j, w1, rfl, rfl, hk1, hk2⟩
    exact ⟨rfl, ⟨hk2.os.trans hk1.os, hk2.tape.trans hk1.tape, hk2.output.trans hk1.output, Nat.le_trans hk1.size hk2.size, fun i hi _ =>
      (hk2.block i (Nat.lt_of_lt_of_le hi hk1.size) (by omega)).trans (hk1.block i hi (fun f => f))⟩⟩

theorem extract_all (s : ByteArray) : s.extract 0 s.size = s := by
  apply ByteArray.ext
  rw [ByteArray.data_extract]
  simp

/-- What the outer reading leaves. -/
def OuterEnd (I S R : Nat) (s t : ByteArray) (n k : Int) (w : World) (e : Ending) (w' : World) : Prop :=
  e = .returned (.tuple #[]) ∧ Blk w' I #[.int .i64 (wantOf n t k)] 26 ∧ Blk w' S #[.string s] 9 ∧ Kb (fun j => (j = I ∨ j = S) ∨ j = R) w w'

set_option maxHeartbeats 400000 in
theorem outer_do (R T Nb Eb I S : Nat) (s t : ByteArray) (n k : Int) (i0 : Value) (s0 : Value) (w : World) (hR : Rd w R s 0) (hT : Blk w T #[.string t] 9) (hN : Blk w Nb #[.int .i64 n] 3) (hE : Blk w Eb #[.int .i64 k] 3)
    (hI : Blk w I #[i0] 26) (hS : Blk w S #[s0] 9) (h1 : I ≠ R) (h2 : S ≠ R) (h3 : I ≠ S) (hs : s.size ≤ maxLen) (ht : t.size ≤ maxLen) :
    Calls Try.prog 20 #[.pointer (some ⟨R, 0, none⟩), .pointer (some ⟨T, 0, none⟩), .pointer (some ⟨Nb, 0, none⟩), .pointer (some ⟨Eb, 0, none⟩), .pointer (some ⟨I, 0, none⟩), .pointer (some ⟨S, 0, none⟩)] w (OuterEnd I S R s t n k w) := by
  have hmf : ∀ (fn : Fn) (first cap : Array Value) (w : World), (Instr.makeFunc fn first cap).run Try.prog w = .ok (.func fn first cap) w := fun _ _ _ _ => rfl
  have cT := hT.cell 0
  simp at cT
  go_enter Try.func20, Try.ntmps20
  go_wp2_with fail
  refine (inner_read Nb Eb t n k _ hN hE ht).mono ?_
  rintro e w1 ⟨rfl, hk1⟩
  have hI1 := hI.kb hk1 (fun f => f)
  have hS1 := hS.kb hk1 (fun f => f)
  have hR1 := Blk.kb hR hk1 (fun f => f)
  have cI := hI1.cell 0
  have fI := hI1.frozen 0
  simp at cI
  have hI2 := hI1.set 0 (.int .i64 (wantOf n t k))
  have hS2 := hS1.set_other (p := ⟨I, 0, none⟩) (Ne.symm h3) (.int .i64 (wantOf n t k))
  have hR2 := hR1.set_other (p := ⟨I, 0, none⟩) (Ne.symm h1) (.int .i64 (wantOf n t k))
  have hk2 : Kb (fun j => (j = I ∨ j = S) ∨ j = R) w (w1.setCell ⟨I, 0, none⟩ (.int .i64 (wantOf n t k))) := Kb.setCell (S := fun j => (j = I ∨ j = S) ∨ j = R) (hk1.mono fun _ _ f => f.elim) (p := ⟨I, 0, none⟩) (fun _ => Or.inl (Or.inl rfl)) _
  clear hI1 hS1 hR1 hk1
  go_wp2_with fail
  generalize w1.setCell ⟨I, 0, none⟩ (.int .i64 (wantOf n t k)) = w2 at *
  refine (rest_any R s 0 _ hR2 (by omega) hs).mono ?_
  rintro e w3 ⟨rfl, n1, rfl⟩
  rw [extract_all]
  have hI3 := (hI2.drewN n1).set_other (p := ⟨R, 1, none⟩) h1 (.int .i64 (s.size : Int))
  have hS3 := (hS2.drewN n1).set_other (p := ⟨R, 1, none⟩) h2 (.int .i64 (s.size : Int))
  have hk3 : Kb (fun j => (j = I ∨ j = S) ∨ j = R) w ((w2.drewN n1).setCell ⟨R, 1, none⟩ (.int .i64 (s.size : Int))) := Kb.setCell (S := fun j => (j = I ∨ j = S) ∨ j = R) (hk2.drewN n1) (p := ⟨R, 1, none⟩) (fun _ => Or.inr rfl) _
  clear hI2 hS2 hR2 hk2 cI fI
  generalize (w2.drewN n1).setCell ⟨R, 1, none⟩ (.int .i64 (s.size : Int)) = w3 at *
  have cS := hS3.cell 0
  have fS := hS3.frozen 0
  simp at cS
  have HI := Lib.hid (hI3.set_other (p := ⟨S, 0, none⟩) h3 (.string s))
  have HS := Lib.hid (hS3.set 0 (.string s))
  have HK : Hid (Kb (fun j => (j = I ∨ j = S) ∨ j = R) w (w3.setCell ⟨S, 0, none⟩ (.string s))) := Kb.setCell (S := fun j => (j = I ∨ j = S) ∨ j = R) hk3 (p := ⟨S, 0, none⟩) (fun _ => Or.inl (Or.inr rfl)) _
  clear hI3 hS3 hk3
  go_wp2_with fail
  go_end0
  refine ⟨rfl, ?_, ?_, HK.out⟩
  · simpa using HI.out
  · simpa using HS.out

end Go.Proofs.Ytgpknkfdchiidaa
