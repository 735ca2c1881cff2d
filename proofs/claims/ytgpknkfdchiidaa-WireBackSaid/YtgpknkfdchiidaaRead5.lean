/-
  What any calls tell of a text, and with which error the reading is stopped: the code's answer, in memory.
-/
import Derived.Test.YtgpknkfdchiidaaReadDo
namespace Go.Proofs.Ytgpknkfdchiidaa
open Go.RowKit
set_option linter.unusedVariables false

/-- The answers as a slice in new memory, and the error. -/
def Told (T : St) (w : World) (e : Ending) (w' : World) : Prop :=
  ∃ v B0, w.heap.size ≤ B0 ∧ e = .returned (.tuple #[v, .int .i64 (errOf T)]) ∧ w'.ownsRow B0 46 4 v T.ans.length (ansCells T.ans) ∧ Below w.heap.size w w'

def ToldAt (O : Nat) (T : St) (w : World) (e : Ending) (w' : World) : Prop :=
  ∃ v B0, w.heap.size < B0 ∧ e = .returned (.int .i64 (errOf T)) ∧ Blk w' O #[v] 25 ∧ w'.ownsRow B0 46 4 v T.ans.length (ansCells T.ans) ∧ Kb (· = O) w w'

theorem told_read (L O B : Nat) (s : ByteArray) (a : Option Addr) (len cap : Nat) (C : Nat → CallD) (w : World) (hL : Blk w L #[.slice a len cap] 22) (hO : Blk w O #[.slice none 0 0] 25) (hC : CallsAt w B a len C)
    (hBO : B ≤ O) (nLO : L ≠ O) (hs : s.size ≤ maxLen) (hl : len ≤ 1000) :
    Calls Try.prog 19 #[.string s, .func (Fn.func 32) #[] #[.pointer (some ⟨L, 0, none⟩), .pointer (some ⟨O, 0, none⟩)]] w (ToldAt O (st s C len) w) := by
  have lL := hL.lt
  have lO := hO.lt
  refine (read_kb s 32 _ w (· = O) (fun k u' => ∃ B0, w.heap.size < B0 ∧ ReadQ O B0 (st s C len) k u') (fun _ h => by omega) (fun args u => by kernel_rfl) ?_).mono ?_
  · intro R u hR hge hk
    have lR := Blk.lt hR
    refine (read_do R L O B s a len cap C u hR (hL.kb hk (fun f => f)) (hO.kb hk (fun f => f)) (hC.kb hk (by omega) (fun _ _ f => f)) hBO (by omega) (by omega) (by omega) nLO hs hl).mono ?_
    rintro e u' ⟨hq, hk'⟩
    refine ⟨?_, hk'⟩
    rcases hq with ⟨rfl, hq⟩ | ⟨k, rfl, hq⟩
    · exact Or.inl ⟨rfl, _, by omega, hq⟩
    · exact Or.inr ⟨k, rfl, _, by omega, hq⟩
  · rintro e w' ⟨k, w1, rfl, ⟨B0, hB0, rfl, v, hv, hown⟩, hk1, hk2⟩
    refine ⟨v, B0, hB0, rfl, hv.kb hk2 (by omega), ?_, ?_⟩
    · refine hown.kept (row := some w.heap.size) ⟨hk2.os, hk2.tape, hk2.output, hk2.size, fun i hi hne => hk2.block i hi (fun e => hne (by rw [e]))⟩ (Or.inr fun e => ?_)
      have := (hown.lt _ e).1
      omega
    · exact ⟨hk2.os.trans hk1.os, hk2.tape.trans hk1.tape, hk2.output.trans hk1.output, Nat.le_trans hk1.size hk2.size, fun i hi h =>
        (hk2.block i (Nat.lt_of_lt_of_le hi hk1.size) (by omega)).trans (hk1.block i hi h)⟩

set_option maxHeartbeats 400000 in
theorem told_any (s : ByteArray) (a : Option Addr) (len cap : Nat) (C : Nat → CallD) (w : World) (hC : CallsAt w w.heap.size a len C) (hs : s.size ≤ maxLen) (hl : len ≤ 1000) :
    Calls Try.prog 11 #[.string s, .slice a len cap] w (Told (st s C len) w) := by
  have hmf : ∀ (fn : Fn) (first cap : Array Value) (w : World), (Instr.makeFunc fn first cap).run Try.prog w = .ok (.func fn first cap) w := fun _ _ _ _ => rfl
  have HL : Hid (Blk ((w.alloc (.cells #[.slice a len cap] 22)).alloc (.cells #[.slice none 0 0] 25)) w.heap.size #[.slice a len cap] 22) := (Blk.new w _ _).alloc _
  have HO : Hid (Blk ((w.alloc (.cells #[.slice a len cap] 22)).alloc (.cells #[.slice none 0 0] 25)) (w.heap.size + 1) #[.slice none 0 0] 25) := by
    have := Blk.new (w.alloc (.cells #[.slice a len cap] 22)) #[.slice none 0 0] 25
    rw [show (w.alloc (.cells #[.slice a len cap] 22)).heap.size = w.heap.size + 1 from by simp] at this
    exact this
  have HK : Hid (Kb (fun _ => False) w ((w.alloc (.cells #[.slice a len cap] 22)).alloc (.cells #[.slice none 0 0] 25))) := ((Kb.refl _ _).alloc _).alloc _
  have HC : Hid (CallsAt ((w.alloc (.cells #[.slice a len cap] 22)).alloc (.cells #[.slice none 0 0] 25)) w.heap.size a len C) := hC.kb HK.out (Nat.le_refl _) (fun _ _ f => f)
  clear hC
  go_enter Try.func11, Try.ntmps11
  go_wp2_with fail
  generalize (w.alloc (.cells #[.slice a len cap] 22)).alloc (.cells #[.slice none 0 0] 25) = w0 at *
  refine (told_read w.heap.size (w.heap.size + 1) w.heap.size s a len cap C w0 HL.out HO.out HC.out (by omega) (by omega) hs hl).mono ?_
  rintro e w1 ⟨v, B0, hB0, rfl, hv, hown, hk⟩
  have cO := hv.cell 0
  simp at cO
  have hsz : w.heap.size ≤ w0.heap.size := HK.out.size
  have HB : Hid (Below w.heap.size w w1) := ⟨hk.os.trans HK.out.os, hk.tape.trans HK.out.tape, hk.output.trans HK.out.output, Nat.le_trans HK.out.size hk.size, fun i hi => (hk.block i (by omega) (by omega)).trans (HK.out.block i hi (fun f => f))⟩
  have HW := Lib.hid hown
  clear hv hown hk HL HO HC HK
  go_wp2_with fail
  go_ret2
  exact ⟨v, B0, by omega, rfl, HW.out, HB.out⟩

end Go.Proofs.Ytgpknkfdchiidaa
