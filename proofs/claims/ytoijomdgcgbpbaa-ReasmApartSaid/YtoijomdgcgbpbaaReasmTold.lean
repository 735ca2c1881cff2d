/-
  A builder is told as a text: no block but its own row of bytes is changed.
-/
import Derived.Test.YtoijomdgcgbpbaaReasmBuilder
namespace Go.Proofs.Ytoijomdgcgbpbaa
open Go.RowKit
set_option linter.unusedVariables false

/-- All blocks that are no rows of bytes stay. -/
structure Stay16 (w w' : World) : Prop where
  os : w'.os = w.os
  tape : w'.tape = w.tape
  output : w'.output = w.output
  size : w.heap.size ≤ w'.heap.size
  block : ∀ (k : Nat) (xs : Array Value) (T : TypeId), T ≠ 5 → Blk w k xs T → Blk w' k xs T
theorem Stay16.of_below {w w' : World} (h : Below w.heap.size w w') : Stay16 w w' := ⟨h.os, h.tape, h.output, h.size, fun k xs T _ hb => (h.block k hb.lt).trans hb⟩

set_option maxRecDepth 100000 in
set_option maxHeartbeats 2000000 in
theorem toldSome16_any (B b g cap : Nat) (p : Value) (l : List UInt8) (cur : Array Value) (w : World) (hbk : w.heap[b]? = some (.cells #[p, .slice (some ⟨g, 0, none⟩) l.length cap] 111 (0, 0))) (hB : B ≤ g) (hg : w.heap[g]? = some (.cells cur 5 (0, 0)))
    (hnc : l.length ≤ cap) (hcm : cap ≤ maxLen) (hcs : cur.size = cap) (ht : cur.toList.take l.length = byteCells l) (h0 : l ≠ []) :
    Calls Try.prog 61 #[.pointer (some ⟨b, 0, none⟩)] w fun e w' => e = .returned (.string ⟨l.toArray⟩) ∧ Below B w w' ∧ Stay16 w w' := by
  have hl0 : l.length ≠ 0 := by simpa using h0
  have c1 : w.drew.cell? ⟨b, 1, none⟩ = some (.slice (some ⟨g, 0, none⟩) l.length cap) := by
    have : w.drew.heap[b]? = some (.cells #[p, .slice (some ⟨g, 0, none⟩) l.length cap] 111 (0, 0)) := hbk
    rw [Lib.cell_of_heap this]; rfl
  have hSD : (Builtin.unsafeSliceData_ #[57] 146 #[.slice (some ⟨g, 0, none⟩) l.length cap]).run Try.prog w.drew = .ok (.pointer (some ⟨g, 0, none⟩)) w.drew := Lib.run_unsafeSliceData_row _ _ _ _ _ _ (by omega)
  have hco : Try.prog.cellsOf 5 = 1 := by
    obtain ⟨i0, hi, hz0, hz1, hz2⟩ := Try.infoB
    simp [Program.cellsOf, hi, hz1]
  have hUS : (Builtin.unsafeString_ #[146, 3] 9 #[.pointer (some ⟨g, 0, none⟩), .int .i64 (l.length : Nat)]).run Try.prog w.drew = .ok (.string ⟨l.toArray⟩) (w.drew.freeze ⟨g, 0, none⟩ l.length) := by
    refine Lib.run_unsafeString_row w.drew 146 3 9 5 Try.underlying146 hco g cur.size (by have hg' : w.drew.heap[g]? = some (.cells cur 5 (0, 0)) := hg; simp [World.shape?, hg']) l h0 (by omega) (by unfold maxLen at hcm; omega) ?_
    intro j x hx
    rw [addr_add]
    have hj : j < l.length := (List.getElem?_eq_some_iff.1 hx).1
    have e1 : (cur.toList.take l.length)[j]? = some (.int .u8 (x.toNat : Int)) := by rw [ht]; simp [byteCells, hx]
    rw [List.getElem?_take_of_lt hj] at e1
    have hg' : w.drew.heap[g]? = some (.cells cur 5 (0, 0)) := hg
    simpa [World.cell?, hg'] using e1
  have HB := Lib.hid (Lib.below_freeze (Below.drew (Below.refl B w)) (p := ⟨g, 0, none⟩) hB l.length)
  have HS : Hid (Stay16 w (w.drew.freeze ⟨g, 0, none⟩ l.length)) := by
    have hbb := Lib.below_freeze (Below.drew (Below.refl g w)) (p := ⟨g, 0, none⟩) (Nat.le_refl _) l.length
    refine ⟨hbb.os, hbb.tape, hbb.output, hbb.size, fun k xs T hT hb => ?_⟩
    have hk : k ≠ g := fun e => by
      subst e
      unfold Blk at hb
      rw [hg] at hb
      have h3 : 5 = T := by simp at hb; exact hb.2
      exact hT h3.symm
    unfold Blk World.freeze
    split
    · exact hb
    · show (w.heap.modify g _)[k]? = _
      rw [Array.getElem?_modify, if_neg (fun e => hk e.symm)]
      exact hb
  clear hg ht hbk
  go_enter Try.func61, Try.ntmps61
  go_wp2_with fail
  go_region
  all_goals (go_wp2_with fail; go_ret; exact ⟨rfl, HB.out, HS.out⟩)

theorem toldStay16_any (B b : Nat) (l : List UInt8) (w : World) (h : Bd16 w B b l) :
    Calls Try.prog 61 #[.pointer (some ⟨b, 0, none⟩)] w fun e w' => e = .returned (.string ⟨l.toArray⟩) ∧ Below B w w' ∧ Stay16 w w' := by
  obtain ⟨p, hB, v, hbk, hown, hne⟩ : ∃ p, Lib.BuilderAt 111 5 B b p (byteCells l) w := by
    rcases h with h | h
    · exact ⟨_, h⟩
    · exact ⟨_, h⟩
  have hbl : b < w.heap.size := (Array.getElem?_eq_some_iff.1 hbk).1
  rw [byteCells_length] at hown
  cases l with
  | nil =>
    have fin : (Calls Try.prog 61 #[.pointer (some ⟨b, 0, none⟩)] w fun e w' => e = .returned (.string ⟨#[]⟩) ∧ Below w.heap.size w w') → Calls Try.prog 61 #[.pointer (some ⟨b, 0, none⟩)] w fun e w' => e = .returned (.string ⟨([] : List UInt8).toArray⟩) ∧ Below B w w' ∧ Stay16 w w' := fun hc => by
      refine hc.mono ?_
      rintro e w' ⟨he, hb⟩
      exact ⟨he, hb.mono (by omega), .of_below hb⟩
    apply fin
    rcases hown.2 with ⟨rfl, _⟩ | ⟨g, cap, cur, rfl, hbg, hg, _, _, _, _⟩
    · exact Go.Proofs.Any.Builder_String_nil Try.lays169 Try.extra169 w.heap.size b p w hbk
    · by_cases hc0 : cap = 0
      · subst hc0
        exact Go.Proofs.Any.Builder_String_noroom Try.lays169 Try.extra169 w.heap.size b g p cur w (Nat.le_refl _) hbk hg
      · exact Go.Proofs.Any.Builder_String_room Try.lays169 Try.extra169 w.heap.size b g cap p w hc0 hbk
  | cons x r =>
    rcases hown.2 with ⟨_, hz⟩ | ⟨g, cap, cur, rfl, hbg, hg, hnc, hcm, hcs, ht⟩
    · simp at hz
    · exact toldSome16_any B b g cap p (x :: r) cur w hbk hbg hg hnc hcm (by omega) (by rw [Nat.mul_one] at ht; exact ht) (by simp)

end Go.Proofs.Ytoijomdgcgbpbaa
