/-
  What the library makes of texts: a copy of one; a builder that is written to, and told as a text.
-/
import Derived.Test.YtoijomdgcgbpbaaGround
import Derived.WalkKit
import Derived.Lib.Builder
import Derived.Lib.UnsafeStr
import Derived.Lib.BufferWrite
import Derived.Lib.AppendStr
import Derived.Laws.Externs
import Derived.Laws.MakeOwn
import Derived.Shelf.Strings.Builder1
namespace Go.Proofs.Ytoijomdgcgbpbaa
open Go.RowKit
set_option linter.unusedVariables false

/-- A builder that holds these bytes, written to or not; its blocks lie from B on. -/
def Bd16 (w : World) (B b : Nat) (l : List UInt8) : Prop := Lib.IsBuilder 111 5 B b (byteCells l) w

theorem Try.infoBuilder : (Try.prog.info? 111).map (·.size) = some 2 := by kernel_rfl
theorem Try.liesBuilder16 : liesAt Try.prog Try.prog.depth 111 (2 / Try.prog.cellsOf 111) 0 111 1 = true := by kernel_rfl

set_option maxRecDepth 100000 in
set_option maxHeartbeats 1000000 in
theorem copycheck16_any (B b : Nat) (bs : List Value) (w : World) (h : Lib.IsBuilder 111 5 B b bs w) :
    Calls Try.prog 84 #[.pointer (some ⟨b, 0, none⟩)] w fun e w' => e = .returned (.tuple #[]) ∧ Lib.BuilderAt 111 5 B b (.pointer (some ⟨b, 0, none⟩)) bs w' ∧ Below B w w' := by
  obtain ⟨j, hj, hjs⟩ := Option.map_eq_some_iff.1 Try.infoBuilder
  have same : ∀ W : World, (binOp .neq 109 (.pointer (some ⟨b, 0, none⟩)) (.pointer (some ⟨b, 0, none⟩))).run Try.prog W = .ok (.bool false) W := fun W => Lib.run_neq_ptr_same W _ Try.underlying109 hj
  rcases h with h | h
  · have hu := h.used
    have c0 := h.cell0
    have f0 := h.frozen0
    have to := Lib.run_to_unsafe (P := Try.prog) w ⟨b, 0, none⟩ Try.underlying109 Try.underlying150 hj (by rw [hjs]; decide) h.shape (Nat.zero_lt_succ 1)
    have out := Lib.run_from_unsafe (P := Try.prog) w ⟨b, 0, none⟩ Try.underlying150 Try.underlying109 hj h.shape Try.liesBuilder16
    have ext : ∀ x W, (callFunc 96 #[x]).run Try.prog W = .ok (.value x) W := fun x W => by
      rw [run_callFunc_extern Try.func96 (by kernel_rfl) (by kernel_rfl) (by kernel_rfl) (e := Extern.AbiNoEscape.same) (by kernel_rfl), Lib.run_noEscape]
      rfl
    have hB := Lib.hid h.1
    have hbel := Lib.hid ((Below.refl B w).setCell (p := ⟨b, 0, none⟩) h.1 (.pointer (some ⟨b, 0, none⟩)))
    have HU := Lib.hid (hu (.pointer (some ⟨b, 0, none⟩)))
    clear h hu
    go_enter Try.func84, Try.ntmps84
    go_wp2_with fail
    go_end0
    exact ⟨rfl, HU.out, hbel.out⟩
  · have c0 := h.cell0
    have H := Lib.hid h
    clear h
    go_enter Try.func84, Try.ntmps84
    go_wp2_with fail
    go_end0
    exact ⟨rfl, H.out, Below.refl _ _⟩

theorem strCells_bytes (s : ByteArray) : Lib.strCells s = byteCells s.data.toList := rfl
set_option maxRecDepth 100000 in
set_option maxHeartbeats 2000000 in
theorem write16_any (B b : Nat) (l : List UInt8) (s : ByteArray) (w : World) (h : Bd16 w B b l) (hs : l.length + s.size ≤ 140737488355328) (hB : B ≤ w.heap.size) :
    Calls Try.prog 59 #[.pointer (some ⟨b, 0, none⟩), .string s] w fun e w' => (∃ v, e = .returned v) ∧ Bd16 w' B b (l ++ s.data.toList) ∧ Below B w w' := by
  obtain ⟨i0, hi, hz0, hz1, hz2⟩ := Try.infoB
  have HC := Lib.hid (copycheck16_any B b (byteCells l) w h)
  have HL := Lib.hid (show (byteCells l).length = l.length from byteCells_length l)
  clear h
  unfold Bd16
  go_enter Try.func59, Try.ntmps59
  go_wp2_with fail
  refine HC.out.mono ?_
  rintro e w1 ⟨rfl, h1, hb1⟩
  obtain ⟨hBb, v, hbk, hown, hne⟩ := h1
  have K1 := Lib.hid hbk
  have c1 : w1.cell? ⟨b, 1, none⟩ = some v := by rw [Lib.cell_of_heap hbk]; rfl
  have HO := Lib.hid hown
  have HB1 := Lib.hid hb1
  have HNE := Lib.hid hne
  have hb1s := hb1.size
  clear hbk hown hb1 hne HC
  go_wp2_with (at_builtin; refine Lib.wpList_append_own_string _ rfl _ _ 57 9 rfl B 5 i0 Try.underlying57 Try.underlying9 hi hz0 hz1 hz2 _ _ _ rfl HO.out s rfl ?c3 ?c4 ?c5 ?_)
  case c3 => rw [HL.out]; unfold maxLen; omega
  case c4 => rw [HL.out]; omega
  case c5 => omega
  intro v' w2 hown' hgrow _
  have hlt : b < w1.heap.size := (Array.getElem?_eq_some_iff.1 K1.out).1
  have hb2 : w2.heap[b]? = some (.cells #[.pointer (some ⟨b, 0, none⟩), v] 111 (0, 0)) := by
    rw [hgrow.block b hlt (fun e => HNE.out e.symm)]
    exact K1.out
  have d1 : w2.cell? ⟨b, 1, none⟩ = some v := by rw [Lib.cell_of_heap hb2]; rfl
  have f1 : w2.frozen? ⟨b, 1, none⟩ = false := Lib.frozen_of_heap hb2 1
  have hEnd : Lib.BuilderAt 111 5 B b (.pointer (some ⟨b, 0, none⟩)) (byteCells l ++ Lib.strCells s) (w2.setCell ⟨b, 1, none⟩ v') :=
    Lib.BuilderAt.put hBb hb2 (bs' := byteCells l ++ Lib.strCells s) (by rw [List.length_append, Lib.strCells_length]; exact hown') (by decide)
  have HE := Lib.hid hEnd
  have HBel := Lib.hid ((HB1.out.grown hgrow (by omega) (fun k hk => (HO.out.lt k hk).1)).setCell (p := ⟨b, 1, none⟩) hBb v')
  obtain ⟨ao, n', cap, rfl⟩ : ∃ ao n' cap, v' = .slice ao n' cap := by
    rcases hown'.2 with ⟨hv, _⟩ | ⟨g, cap, cur, hv, _⟩
    · exact ⟨_, _, _, hv⟩
    · exact ⟨_, _, _, hv⟩
  clear hown' hgrow hb2 hEnd K1 HO HB1 HNE c1
  go_wp2_with fail
  go_ret2
  refine ⟨⟨_, rfl⟩, Or.inr ?_, HBel.out⟩
  rw [byteCells_append]
  exact HE.out

/-- The library's contract of String, at this program. -/
def Try.ren169 : Go.Shelf.Ren := ⟨fun | 169 => 61 | n => n, fun | 70 => 109 | 9 => 9 | 0 => 0 | 72 => 111 | 37 => 57 | 127 => 146 | 3 => 3 | 5 => 5 | n => n, fun | n => n⟩
theorem Try.lays169 : Go.Proofs.Lays.n169 Try.prog Try.ren169 := {
  mixed := by kernel_rfl
  f169 := Try.func61.trans (congrArg some (by kernel_rfl))
  t0 := Try.underlying0
  a0 := Try.isAgg0
  z0 := Try.sizeOf0
  v0 := Try.zeroValue0
  t3 := Try.underlying3
  a3 := Try.isAgg3
  z3 := Try.sizeOf3
  v3 := Try.zeroValue3
  t9 := Try.underlying9
  a9 := Try.isAgg9
  z9 := Try.sizeOf9
  v9 := Try.zeroValue9
  t37 := Try.underlying57
  a37 := Try.isAgg57
  z37 := Try.sizeOf57
  v37 := Try.zeroValue57
  t70 := Try.underlying109
  a70 := Try.isAgg109
  z70 := Try.sizeOf109
  v70 := Try.zeroValue109
  t72 := Try.underlying111
  a72 := Try.isAgg111
  z72 := Try.sizeOf111
  v72 := Try.zeroValue111
  t127 := Try.underlying146
  a127 := Try.isAgg146
  z127 := Try.sizeOf146
  v127 := Try.zeroValue146 }
theorem Try.extra169 : Go.Proofs.Builder.Extra Try.prog Try.ren169 := {
  sizeBuilder := by kernel_rfl
  liesBuilder := by kernel_rfl
  t5 := Try.underlying5
  a5 := Try.isAgg5
  z5 := Try.sizeOf5
  v5 := Try.zeroValue5
  infoByte := by kernel_rfl
  cellsByte := by kernel_rfl
  sizeByte := by kernel_rfl
  neB5 := by decide }
theorem told16_any (B b : Nat) (l : List UInt8) (w : World) (h : Bd16 w B b l) (hB : B ≤ w.heap.size) :
    Calls Try.prog 61 #[.pointer (some ⟨b, 0, none⟩)] w fun e w' => e = .returned (.string ⟨l.toArray⟩) ∧ Below B w w' :=
  Go.Proofs.Any.Builder_String_any Try.lays169 Try.extra169 B b l w h hB

set_option maxRecDepth 100000 in
set_option maxHeartbeats 2000000 in
theorem clone16_in (s : ByteArray) (w : World) (hs : s.size ≤ 140737488355328) : Calls Try.prog 79 #[.string s] w (Tells (.string s) w) := by
  unfold Tells
  by_cases h0 : s.size = 0
  · have e : s = ⟨#[]⟩ := by
      apply text_ext
      have : s.data.toList.length = 0 := by simpa using h0
      rw [List.length_eq_zero_iff.1 this]
    subst e
    go_enter Try.func79, Try.ntmps79
    go_wp2_with fail
    go_ret
    exact ⟨rfl, Below.refl _ _⟩
  · obtain ⟨i0, hi, hz0, hz1, hz2⟩ := Try.infoB
    have hinfo : (Try.prog.info? 5).map (·.size) = some 1 := by rw [hi]; simp [hz1]
    have hco : Try.prog.cellsOf 5 = 1 := by simp [Program.cellsOf, hi, hz1]
    obtain ⟨M, hM⟩ : ∃ M, M = madeCells (Value.int .u8 0).cells (((s.size : Nat) : Int).toNat * i0.size) := ⟨_, rfl⟩
    have hMs : M.size = s.size := by rw [hM, size_madeCells, hz1]; simp
    have hmk : ∀ W : World, (Instr.makeSlice 57 (.int .i64 (s.size : Int)) (.int .i64 (s.size : Int))).run Try.prog W = .ok (.slice (some ⟨W.heap.size, 0, none⟩) s.size s.size) (W.alloc (.cells M 5)) := fun W => by
      have h := run_make (P := Try.prog) W 57 5 i0 (.int .u8 0) Try.underlying57 hi hz0 .i64 .i64 (s.size : Int) (s.size : Int) (by omega) (by omega) (by rw [hz2]; omega) (by omega)
      rw [← hM] at h
      simpa using h
    clear hM
    have hcp := Lib.run_copy_row_string (P := Try.prog) (w.alloc (.cells M 5)) 57 9 3 5 w.heap.size 0 s.size s.size s M 5 Try.underlying57 hinfo (heap_alloc_new w _) (Nat.le_refl _) (by omega)
    obtain ⟨Y, hY⟩ : ∃ Y, Y = (M.toList.take 0 ++ Lib.byteCells s.data.toList ++ M.toList.drop (0 + s.size)).toArray := ⟨_, rfl⟩
    rw [← hY] at hcp
    have hYl : Y.toList = Lib.byteCells s.data.toList := by
      rw [hY, List.toList_toArray, List.take_zero, List.nil_append, List.drop_of_length_le (by rw [Array.length_toList]; omega), List.append_nil]
    have hgY : ((w.alloc (.cells M 5)).setRow w.heap.size Y).heap[w.heap.size]? = some (.cells Y 5 (0, 0)) := setRow_heap _ _ M _ 5 (0, 0) (heap_alloc_new w _)
    have hne : s.data.toList ≠ [] := fun e => h0 (by rw [Lib.size_eq, e]; rfl)
    have hUS := Lib.run_unsafeString_row (P := Try.prog) ((w.alloc (.cells M 5)).setRow w.heap.size Y) 146 3 9 5 Try.underlying146 hco w.heap.size Y.size (by unfold World.shape?; rw [hgY]) s.data.toList hne (by rw [← Lib.size_eq]; have : Y.size = s.size := by { rw [← Array.length_toList, hYl, Lib.byteCells_length, ← Lib.size_eq] }; omega) (by rw [← Lib.size_eq]; omega)
      (fun j x hx => Lib.cells_of_row hgY Y.size j _ (by rw [List.take_of_length_le (by rw [Array.length_toList]; exact Nat.le_refl _), hYl]; simp [Lib.byteCells, hx]))
    rw [← Lib.size_eq] at hUS
    have hb1 : Below w.heap.size w (w.alloc (.cells M 5)) := (Below.refl _ w).alloc (Nat.le_refl _) _
    have hb2 : Below w.heap.size (w.alloc (.cells M 5)) ((w.alloc (.cells M 5)).setRow w.heap.size Y) := ⟨rfl, rfl, rfl, by simp, fun k hk => setRow_other _ _ _ _ (by omega)⟩
    have HF := Lib.hid (Lib.below_freeze (hb1.trans hb2) (p := ⟨w.heap.size, 0, none⟩) (Nat.le_refl _) s.size)
    clear hY hb1 hb2 hgY hYl
    go_enter Try.func79, Try.ntmps79
    go_wp2_with fail
    go_ret
    exact ⟨rfl, HF.out⟩
theorem clone16_any (s : ByteArray) (w : World) (hs : s.size ≤ 140737488355328) : Calls Try.prog 55 #[.string s] w (Tells (.string s) w) := by
  have H := Lib.hid (clone16_in s w hs)
  unfold Tells at H ⊢
  go_enter Try.func55, Try.ntmps55
  go_wp2_with fail
  refine H.out.mono ?_
  rintro e w1 ⟨rfl, hb⟩
  have HB := Lib.hid hb
  clear hb H
  go_wp2_with fail
  go_ret
  exact ⟨rfl, HB.out⟩

end Go.Proofs.Ytoijomdgcgbpbaa

/-
  A builder is told as a text: no block but its own row of bytes is changed.
-/
namespace Go.Proofs.Ytoijomdgcgbpbaa
open Go.RowKit
set_option linter.unusedVariables false

/-- All blocks that are no rows of bytes stay. -/
structure Stay16 (w w' : World) : Prop where
  os : w'.os = w.os
  tape : w'.tape = w.tape
  output : w'.output = w.output
  size : w.heap.size ≤ w'.heap.size
  block : ∀ (k : Nat) (xs : Array Value) (T : TypeId), T ≠ 5 → Blk w k xs T → Blk w' k xs T
theorem Stay16.of_below {w w' : World} (h : Below w.heap.size w w') : Stay16 w w' := ⟨h.os, h.tape, h.output, h.size, fun k xs T _ hb => (h.block k hb.lt).trans hb⟩

set_option maxRecDepth 100000 in
set_option maxHeartbeats 2000000 in
theorem toldSome16_any (B b g cap : Nat) (p : Value) (l : List UInt8) (cur : Array Value) (w : World) (hbk : w.heap[b]? = some (.cells #[p, .slice (some ⟨g, 0, none⟩) l.length cap] 111 (0, 0))) (hB : B ≤ g) (hg : w.heap[g]? = some (.cells cur 5 (0, 0)))
    (hnc : l.length ≤ cap) (hcm : cap ≤ maxLen) (hcs : cur.size = cap) (ht : cur.toList.take l.length = byteCells l) (h0 : l ≠ []) :
    Calls Try.prog 61 #[.pointer (some ⟨b, 0, none⟩)] w fun e w' => e = .returned (.string ⟨l.toArray⟩) ∧ Below B w w' ∧ Stay16 w w' := by
  have hl0 : l.length ≠ 0 := by simpa using h0
  have c1 : w.drew.cell? ⟨b, 1, none⟩ = some (.slice (some ⟨g, 0, none⟩) l.length cap) := by
    have : w.drew.heap[b]? = some (.cells #[p, .slice (some ⟨g, 0, none⟩) l.length cap] 111 (0, 0)) := hbk
    rw [Lib.cell_of_heap this]; rfl
  have hSD : (Builtin.unsafeSliceData_ #[57] 146 #[.slice (some ⟨g, 0, none⟩) l.length cap]).run Try.prog w.drew = .ok (.pointer (some ⟨g, 0, none⟩)) w.drew := Lib.run_unsafeSliceData_row _ _ _ _ _ _ (by omega)
  have hco : Try.prog.cellsOf 5 = 1 := by
    obtain ⟨i0, hi, hz0, hz1, hz2⟩ := Try.infoB
    simp [Program.cellsOf, hi, hz1]
  have hUS : (Builtin.unsafeString_ #[146, 3] 9 #[.pointer (some ⟨g, 0, none⟩), .int .i64 (l.length : Nat)]).run Try.prog w.drew = .ok (.string ⟨l.toArray⟩) (w.drew.freeze ⟨g, 0, none⟩ l.length) := by
    refine Lib.run_unsafeString_row w.drew 146 3 9 5 Try.underlying146 hco g cur.size (by have hg' : w.drew.heap[g]? = some (.cells cur 5 (0, 0)) := hg; simp [World.shape?, hg']) l h0 (by omega) (by unfold maxLen at hcm; omega) ?_
    intro j x hx
    rw [addr_add]
    have hj : j < l.length := (List.getElem?_eq_some_iff.1 hx).1
    have e1 : (cur.toList.take l.length)[j]? = some (.int .u8 (x.toNat : Int)) := by rw [ht]; simp [byteCells, hx]
    rw [List.getElem?_take_of_lt hj] at e1
    have hg' : w.drew.heap[g]? = some (.cells cur 5 (0, 0)) := hg
    simpa [World.cell?, hg'] using e1
  have HB := Lib.hid (Lib.below_freeze (Below.drew (Below.refl B w)) (p := ⟨g, 0, none⟩) hB l.length)
  have HS : Hid (Stay16 w (w.drew.freeze ⟨g, 0, none⟩ l.length)) := by
    have hbb := Lib.below_freeze (Below.drew (Below.refl g w)) (p := ⟨g, 0, none⟩) (Nat.le_refl _) l.length
    refine ⟨hbb.os, hbb.tape, hbb.output, hbb.size, fun k xs T hT hb => ?_⟩
    have hk : k ≠ g := fun e => by
      subst e
      unfold Blk at hb
      rw [hg] at hb
      have h3 : 5 = T := by simp at hb; exact hb.2
      exact hT h3.symm
    unfold Blk World.freeze
    split
    · exact hb
    · show (w.heap.modify g _)[k]? = _
      rw [Array.getElem?_modify, if_neg (fun e => hk e.symm)]
      exact hb
  clear hg ht hbk
  go_enter Try.func61, Try.ntmps61
  go_wp2_with fail
  go_region
  all_goals (go_wp2_with fail; go_ret; exact ⟨rfl, HB.out, HS.out⟩)

theorem toldStay16_any (B b : Nat) (l : List UInt8) (w : World) (h : Bd16 w B b l) :
    Calls Try.prog 61 #[.pointer (some ⟨b, 0, none⟩)] w fun e w' => e = .returned (.string ⟨l.toArray⟩) ∧ Below B w w' ∧ Stay16 w w' := by
  obtain ⟨p, hB, v, hbk, hown, hne⟩ : ∃ p, Lib.BuilderAt 111 5 B b p (byteCells l) w := by
    rcases h with h | h
    · exact ⟨_, h⟩
    · exact ⟨_, h⟩
  have hbl : b < w.heap.size := (Array.getElem?_eq_some_iff.1 hbk).1
  rw [byteCells_length] at hown
  cases l with
  | nil =>
    have fin : (Calls Try.prog 61 #[.pointer (some ⟨b, 0, none⟩)] w fun e w' => e = .returned (.string ⟨#[]⟩) ∧ Below w.heap.size w w') → Calls Try.prog 61 #[.pointer (some ⟨b, 0, none⟩)] w fun e w' => e = .returned (.string ⟨([] : List UInt8).toArray⟩) ∧ Below B w w' ∧ Stay16 w w' := fun hc => by
      refine hc.mono ?_
      rintro e w' ⟨he, hb⟩
      exact ⟨he, hb.mono (by omega), .of_below hb⟩
    apply fin
    rcases hown.2 with ⟨rfl, _⟩ | ⟨g, cap, cur, rfl, hbg, hg, _, _, _, _⟩
    · exact Go.Proofs.Any.Builder_String_nil Try.lays169 Try.extra169 w.heap.size b p w hbk
    · by_cases hc0 : cap = 0
      · subst hc0
        exact Go.Proofs.Any.Builder_String_noroom Try.lays169 Try.extra169 w.heap.size b g p cur w (Nat.le_refl _) hbk hg
      · exact Go.Proofs.Any.Builder_String_room Try.lays169 Try.extra169 w.heap.size b g cap p w hc0 hbk
  | cons x r =>
    rcases hown.2 with ⟨_, hz⟩ | ⟨g, cap, cur, rfl, hbg, hg, hnc, hcm, hcs, ht⟩
    · simp at hz
    · exact toldSome16_any B b g cap p (x :: r) cur w hbk hbg hg hnc hcm (by omega) (by rw [Nat.mul_one] at ht; exact ht) (by simp)

end Go.Proofs.Ytoijomdgcgbpbaa
