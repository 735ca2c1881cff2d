/-
  Two headers in blocks of the call's own; is a header not too long?
-/
import Derived.Test.YtimcjhekldnipaaDoorFlowBuild
import Derived.Test.YtimcjhekldnipaaDoorFlowAwake
namespace Go.Proofs.YtimcjhekldnipaaDoor
open Go.RowKit
set_option linter.unusedVariables false

/-- Two headers' blocks, and the program's places. -/
structure Two9 (w W : World) (h : H4) (k : H6) : Prop where
  b4 : Blk W w.heap.size h.cells 23
  b6 : Blk W (w.heap.size + 1) k.cells 25
  bel : Below w.heap.size w W
  pl : Places W
theorem Two9.below {w W W' : World} {h : H4} {k : H6} (r : Two9 w W h k) (hb : Below W.heap.size W W') : Two9 w W' h k :=
  ⟨(hb.block _ r.b4.lt).trans r.b4, (hb.block _ r.b6.lt).trans r.b6, r.bel.trans (hb.mono r.bel.size), r.pl.below hb r.pl.lt⟩
theorem Two9.drew {w W : World} {h : H4} {k : H6} (r : Two9 w W h k) : Two9 w W.drew h k := ⟨r.b4.drew, r.b6.drew, below_drewN r.bel 1, ⟨r.pl.at0⟩⟩
theorem Two9.new (w : World) (h : H4) (k : H6) (hg : Places w) : Two9 w ((w.alloc (.cells h.cells 23)).alloc (.cells k.cells 25)) h k := by
  have e := Blk.new (w.alloc (.cells h.cells 23)) k.cells 25
  rw [show (w.alloc (.cells h.cells 23)).heap.size = w.heap.size + 1 from by simp] at e
  have b : Below w.heap.size w ((w.alloc (.cells h.cells 23)).alloc (.cells k.cells 25)) := ((Below.refl _ _).alloc (Nat.le_refl _) _).alloc (by simp) _
  exact ⟨(Blk.new w _ _).alloc _, e, b, hg.below b hg.lt⟩
def few9 (a b c : ByteArray) : Bool := decide (a.size ≤ 300) && decide (b.size ≤ 300) && decide (c.size ≤ 300)
theorem few9_iff (a b c : ByteArray) : few9 a b c = true ↔ a.size ≤ 300 ∧ b.size ≤ 300 ∧ c.size ≤ 300 := by
  unfold few9
  simp [and_assoc]
theorem few9_any (a b c : ByteArray) (w : World) : Calls Tryd.prog 7 #[.string a, .string b, .string c] w fun e w' => e = .returned (.bool (few9 a b c)) ∧ Below w.heap.size w w' := by
  have HF : Hid (few9 a b c = (decide (a.size ≤ 300) && decide (b.size ≤ 300) && decide (c.size ≤ 300))) := rfl
  generalize few9 a b c = r at *
  by_cases h0 : a.size ≤ 300
  case neg =>
    have t0 : decide ((a.size : Int) ≤ 300) = false := by simp; omega
    have HR : Hid (r = false) := by rw [show r = _ from HF.out, decide_eq_false h0]; exact Lib.hid rfl
    clear HF h0
    go_enter Tryd.func7, Tryd.ntmps7
    go_wp2_with fail
    go_ret
    exact ⟨by rw [HR.out]; rfl, Below.refl _ _⟩
  have t0 : decide ((a.size : Int) ≤ 300) = true := by simp; omega
  by_cases h1 : b.size ≤ 300
  case neg =>
    have t1 : decide ((b.size : Int) ≤ 300) = false := by simp; omega
    have HR : Hid (r = false) := by rw [show r = _ from HF.out, decide_eq_true h0, decide_eq_false h1]; exact Lib.hid rfl
    clear HF h0 h1
    go_enter Tryd.func7, Tryd.ntmps7
    go_wp2_with fail
    go_ret
    exact ⟨by rw [HR.out]; rfl, Below.refl _ _⟩
  have t1 : decide ((b.size : Int) ≤ 300) = true := by simp; omega
  by_cases h2 : c.size ≤ 300
  case neg =>
    have t2 : decide ((c.size : Int) ≤ 300) = false := by simp; omega
    have HR : Hid (r = false) := by rw [show r = _ from HF.out, decide_eq_true h0, decide_eq_true h1, decide_eq_false h2]; exact Lib.hid rfl
    clear HF h0 h1 h2
    go_enter Tryd.func7, Tryd.ntmps7
    go_wp2_with fail
    go_ret
    exact ⟨by rw [HR.out]; rfl, Below.refl _ _⟩
  have t2 : decide ((c.size : Int) ≤ 300) = true := by simp; omega
  have HR : Hid (r = true) := by rw [show r = _ from HF.out, decide_eq_true h0, decide_eq_true h1, decide_eq_true h2]; exact Lib.hid rfl
  clear HF h0 h1 h2
  go_enter Tryd.func7, Tryd.ntmps7
  go_wp2_with fail
  go_ret
  exact ⟨by rw [HR.out]; rfl, Below.refl _ _⟩

end Go.Proofs.YtimcjhekldnipaaDoor
