/-
  The reader's numbers of four and eight bytes; the four kinds as one.
-/
import Derived.Test.YtgpknkfdchiidaaReadSpec
import Derived.Test.YtgpknkfdchiidaaInside1
namespace Go.Proofs.Ytgpknkfdchiidaa
open Go.RowKit
set_option linter.unusedVariables false

set_option maxHeartbeats 400000 in
theorem u32_yes (b : Nat) (s : ByteArray) (i : Nat) (w : World) (hr : Rd w b s i) (hi : i + 4 ≤ s.size) (hs : s.size ≤ maxLen) :
    Calls Try.prog 33 #[.pointer (some ⟨b, 0, none⟩)] w fun e w' => e = .returned (.int .u32 (numOf s i 4)) ∧ Rd w' b s (i + 4) ∧ Kb (· = b) w w' := by
  have hlt := numOf_lt s i 4 hi
  have hw := wrap_u32 (numOf s i 4)
  rw [Nat.mod_eq_of_lt (show numOf s i 4 < 4294967296 from hlt)] at hw
  go_enter Try.func33, Try.ntmps33
  go_wp2_with fail
  refine (number_yes b s i 4 _ hr (by omega) hi hs).mono ?_
  rintro e w' ⟨rfl, hr', hk'⟩
  go_wp2_with fail
  go_ret
  exact ⟨rfl, hr', hk'⟩
set_option maxHeartbeats 400000 in
theorem u32_no (b : Nat) (s : ByteArray) (i : Nat) (w : World) (hr : Rd w b s i) (hi : i ≤ s.size) (hk : s.size < i + 4) (hs : s.size ≤ maxLen) :
    Calls Try.prog 33 #[.pointer (some ⟨b, 0, none⟩)] w fun e w' => e = .panicked (stopped 2) ∧ ∃ m, w' = w.drewN m := by
  go_enter Try.func33, Try.ntmps33
  go_wp2_with fail
  refine (number_no b s i 4 _ hr hi hk hs).mono ?_
  rintro e w' ⟨rfl, n1, rfl⟩
  exact ⟨rfl, rfl, n1, rfl⟩
set_option maxHeartbeats 400000 in
theorem u64_yes (b : Nat) (s : ByteArray) (i : Nat) (w : World) (hr : Rd w b s i) (hi : i + 8 ≤ s.size) (hs : s.size ≤ maxLen) :
    Calls Try.prog 34 #[.pointer (some ⟨b, 0, none⟩)] w fun e w' => e = .returned (.int .u64 (numOf s i 8)) ∧ Rd w' b s (i + 8) ∧ Kb (· = b) w w' := by
  go_enter Try.func34, Try.ntmps34
  go_wp2_with fail
  refine (number_yes b s i 8 _ hr (by omega) hi hs).mono ?_
  rintro e w' ⟨rfl, hr', hk'⟩
  go_wp2_with fail
  go_ret
  exact ⟨rfl, hr', hk'⟩
set_option maxHeartbeats 400000 in
theorem u64_no (b : Nat) (s : ByteArray) (i : Nat) (w : World) (hr : Rd w b s i) (hi : i ≤ s.size) (hk : s.size < i + 8) (hs : s.size ≤ maxLen) :
    Calls Try.prog 34 #[.pointer (some ⟨b, 0, none⟩)] w fun e w' => e = .panicked (stopped 2) ∧ ∃ m, w' = w.drewN m := by
  go_enter Try.func34, Try.ntmps34
  go_wp2_with fail
  refine (number_no b s i 8 _ hr hi hk hs).mono ?_
  rintro e w' ⟨rfl, n1, rfl⟩
  exact ⟨rfl, rfl, n1, rfl⟩

/-- A new answer's variable. -/
theorem Mid.new {u w : World} {R L O : Nat} {s : ByteArray} {pos : Nat} {lv v : Value} {ans : List AnsD} (rd : Rd w R s pos) (l : Blk w L #[lv] 22) (o : Blk w O #[v] 25) (own : w.ownsRow u.heap.size 46 4 v ans.length (ansCells ans))
    (kb : Kb (fun k => k = O ∨ k = R) u w) (lR : R < u.heap.size) (lL : L < u.heap.size) (lO : O < u.heap.size) (nRL : L ≠ R) (nRO : O ≠ R) (nLO : L ≠ O) (xs : Array Value) :
    Mid u (w.alloc (.cells xs 46)) R L O w.heap.size s pos lv v ans xs := by
  refine ⟨Blk.alloc rd _, l.alloc _, o.alloc _, own.alloc _, Blk.new w xs 46, kb.alloc _, lR, lL, lO, kb.size, nRL, nRO, nLO, fun e => ?_⟩
  have := (own.lt _ e).2
  omega

end Go.Proofs.Ytgpknkfdchiidaa
