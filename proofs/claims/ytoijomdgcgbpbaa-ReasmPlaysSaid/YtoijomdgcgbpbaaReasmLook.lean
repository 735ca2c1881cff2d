/-
  Len, Bytes and Open: what a table tells of itself.
-/
import Derived.Test.YtoijomdgcgbpbaaReasmTable
import Derived.WalkKit
import Derived.Maps.OwnSet
namespace Go.Proofs.Ytoijomdgcgbpbaa
open Go.RowKit
set_option linter.unusedVariables false

theorem run_len16 {w : World} {b clock : Nat} {ms : List Me16} (ty : TypeId) (hb : Map16 w b ms clock) : (Builtin.len_ #[63] ty #[.map (some b)]).run Try.prog w = .ok (.int .i64 (ms.length : Nat)) w := by
  have hm := run_underlying (P := Try.prog) Try.underlying63
  have hg := MapKept.run_getObj_map (P := Try.prog) hb
  simp [Builtin.len_, hm, hg, Result.andThen, goInt]
theorem wpList_len16 {w : World} {ops : Array Oper} {rest : List Oper} {o : Oper} {a : Act} {Q : Exit → Act → World → Prop} (hg : o.guard = none) (m : Operand) (hop : o.op = Op.call { callee := Callee.builtin Builtin.len, args := #[m], argTypes := #[63] })
    (b clock : Nat) (ms : List Me16) (hm : a.eval m = .map (some b)) (hb : Map16 w b ms clock) (n : Nat) (hn : ms.length = n)
    (hK : wpList Try.prog ops Q rest (a.put o.dst (.int .i64 (n : Nat))) w) : wpList Try.prog ops Q (o :: rest) a w := by
  subst hn
  refine wpList_plain hg fun K' hK' => ?_
  unfold Oper.wp
  simp [execOp, hop, resolve, invoke, builtin, hm, run_len16 o.type hb, Result.andThen]
  exact hK' _ _ hK

theorem len16_any {O : Nat → Prop} {tb mb E B L clock : Nat} {ms : List M16} (w : World) (h : Tb16 O w tb mb E B L ms clock) :
    Calls Try.prog 17 #[.pointer (some ⟨tb, 0, none⟩)] w (Tells (.int .i64 (ms.length : Nat)) w) := by
  have HM := Lib.hid h.map
  have c0 := h.tbl.cell 0
  have c3 := h.tbl.cell 3
  simp only [List.getElem?_toArray, List.getElem?_cons_zero, List.getElem?_cons_succ] at c0 c3
  clear h
  unfold Tells
  go_enter Try.func17, Try.ntmps17
  go_wp2_with (at_len; refine wpList_len16 rfl _ rfl mb clock _ rfl HM.out _ (List.length_map ..) ?_)
  go_ret
  exact ⟨rfl, Below.refl _ _⟩

theorem rangeLeft16 {w : World} {r mb since clock : Nat} {seen : Array Nat} {ms : List Me16} (hi : Iter16 w r mb since seen) (hm : Map16 w mb ms clock) : w.rangeLeft mb r = (left16 ms seen).length := by
  obtain ⟨c, _, hr⟩ := hi
  have hm' : w.heap[mb]? = some _ := hm
  simp [World.rangeLeft, hr, hm', leftOf16]

/-- A sum over what is still to come. -/
def rest16 (f : Me16 → Nat) (l : List Me16) : Nat := (l.map f).sum
theorem rest16_split (f : Me16 → Nat) (a b : List Me16) (m : Me16) : rest16 f (a ++ m :: b) = f m + rest16 f (a ++ b) := by
  simp [rest16]
  omega
theorem left16_all (ms : List Me16) : left16 ms #[] = ms := by
  unfold left16
  rw [List.filter_eq_self]
  simp
/-- How many bytes the entry in this block has. -/
def sizeAt (ms : List M16) (x : Me16) : Nat := ((ms.find? fun m => decide (m.eb = x.eb)).map fun m => sum16 m.e.qs).getD 0
def openAt (ms : List M16) (x : Me16) : Nat := ((ms.find? fun m => decide (m.eb = x.eb)).map fun m => if m.e.done = true then 0 else 1).getD 0

theorem ebs16 {ms : List M16} (h : ms.Pairwise fun a b => ∀ k, a.own k → ¬ b.own k) : ∀ m ∈ ms, ms.find? (fun x => decide (x.eb = m.eb)) = some m := by
  induction ms with
  | nil => intro m hm; cases hm
  | cons a r ih =>
    intro m hm
    rw [List.pairwise_cons] at h
    rcases List.mem_cons.1 hm with rfl | hm
    · simp
    · have hne : a.eb ≠ m.eb := fun e => h.1 m hm a.eb (Or.inl rfl) (Or.inl e)
      rw [List.find?_cons, decide_eq_false hne]
      exact ih h.2 m hm
theorem rest16_bytes {ms : List M16} (h : ms.Pairwise fun a b => ∀ k, a.own k → ¬ b.own k) : rest16 (sizeAt ms) (ms.map M16.me) = bytes16 (ms.map (·.e)) := by
  unfold rest16 bytes16
  rw [List.map_map, List.map_map]
  congr 1
  apply List.map_congr_left
  intro m hm
  show sizeAt ms m.me = _
  unfold sizeAt
  have := ebs16 h m hm
  rw [show (M16.me m).eb = m.eb from rfl, this]
  rfl
theorem rest16_open {ms : List M16} (h : ms.Pairwise fun a b => ∀ k, a.own k → ¬ b.own k) : rest16 (openAt ms) (ms.map M16.me) = open16 (ms.map (·.e)) := by
  have e : rest16 (openAt ms) (ms.map M16.me) = (ms.map fun m => if m.e.done = true then 0 else 1).sum := by
    unfold rest16
    rw [List.map_map]
    congr 1
    apply List.map_congr_left
    intro m hm
    show openAt ms m.me = _
    unfold openAt
    rw [show (M16.me m).eb = m.eb from rfl, ebs16 h m hm]
    rfl
  rw [e]
  clear e h
  unfold open16
  induction ms with
  | nil => rfl
  | cons a r ih =>
    simp only [List.map_cons, List.sum_cons, List.countP_cons, ih]
    cases a.e.done <;> simp <;> omega

set_option maxRecDepth 100000 in
theorem bytes16_any {O : Nat → Prop} {tb mb E B L clock : Nat} {ms : List M16} (w : World) (h : Tb16 O w tb mb E B L ms clock) :
    Calls Try.prog 18 #[.pointer (some ⟨tb, 0, none⟩)] w (Tells (.int .i64 (bytes16 (ms.map (·.e)) : Nat)) w) := by
  have H := Lib.hid h
  have HT := Lib.hid (rest16_bytes h.apart)
  have HB := Lib.hid (show bytes16 (ms.map (·.e)) ≤ 1048576 from Nat.le_trans h.tab.bytes h.tab.store.2.2.2.1)
  have c3 := h.tbl.cell 3
  simp only [List.getElem?_toArray, List.getElem?_cons_zero, List.getElem?_cons_succ] at c3
  clear h
  unfold Tells
  generalize bytes16 (ms.map (·.e)) = T at *
  go_enter Try.func18, Try.ntmps18
  go_wp2_with (at_range; refine wpList_range16 rfl _ rfl mb clock _ rfl H.out.map ?_; intro w0 hi0 hb0 hs0)
  go_frame
  go_loopw [3] (fun t wr => ∃ (n : Nat) (seen : Array Nat), t = .int .i64 (n : Nat) ∧ n + rest16 (sizeAt ms) (left16 (ms.map M16.me) seen) = T ∧ Iter16 wr w.heap.size mb clock seen ∧ Below w.heap.size w wr) (fun _ wr => wr.rangeLeft mb w.heap.size)
  case atStart => exact ⟨0, #[], rfl, by rw [left16_all, HT.out]; omega, hi0, hb0⟩
  case round =>
    obtain ⟨n, seen, rfl, hn, hi, hb⟩ := hrel
    have H1 := Lib.hid (H.out.below hb)
    have hlt := H.out.lt
    have HNE := Lib.hid (show mb ≠ w.heap.size from by have := hlt.2.1; omega)
    have HI := Lib.hid hi
    have HN := Lib.hid hn
    have HBW := Lib.hid hb
    have hlen := rangeLeft16 hi H1.out.map
    have HLEN := Lib.hid hlen
    clear hi hn hb hlt hlen hi0 hb0 hs0 c3
    go_wp2_with (at_next; refine wpList_next16 rfl _ rfl w.heap.size mb clock clock seen _ rfl HI.out H1.out.map (fun m hm => ?hold) (Nat.le_refl _) ?nod HNE.out ?done ?more)
    case hold =>
      obtain ⟨x, hx, rfl⟩ := List.mem_map.1 hm
      exact H1.out.born x hx
    case nod =>
      have := H1.out.nodup
      rw [List.map_map]
      exact this
    case done =>
      intro hl
      have hnT := HN.out
      rw [hl] at hnT
      have : n = T := by simpa [rest16] using hnT
      subst this
      clear hnT hl
      go_wp2_with fail
      go_ret
      exact ⟨rfl, HBW.out⟩
    case more =>
      intro x w1 hx hk hsz hi1 hen
      obtain ⟨y, hy, rfl⟩ := List.mem_map.1 (List.mem_filter.1 hx).1
      have hb1 : Below w.heap.size w w1 := ⟨hk.os.trans HBW.out.os, hk.tape.trans HBW.out.tape, hk.output.trans HBW.out.output, Nat.le_trans HBW.out.size hk.size, fun i hi => (hk.block i (Nat.lt_of_lt_of_le hi HBW.out.size) (by omega)).trans (HBW.out.block i hi)⟩
      have H2 := H.out.below hb1
      have he := H2.ents y hy
      obtain ⟨a, b, e1, e2⟩ := left16_push (by rw [List.map_map]; exact H.out.nodup) hx
      have hsum := HN.out
      rw [e1, rest16_split] at hsum
      have hsz2 : sizeAt ms y.me = sum16 y.e.qs := by
        unfold sizeAt
        rw [show (M16.me y).eb = y.eb from rfl, ebs16 H.out.apart y hy]
        rfl
      rw [hsz2] at hsum
      have HS2 := Lib.hid (show n + sum16 y.e.qs + rest16 (sizeAt ms) (left16 (ms.map M16.me) (seen.push y.me.born)) = T by rw [e2]; omega)
      have HLT := Lib.hid (show (left16 (ms.map M16.me) (seen.push y.me.born)).length < (left16 (ms.map M16.me) seen).length by rw [e1, e2]; simp)
      have HL2 := Lib.hid (rangeLeft16 hi1 H2.map)
      have HI2 := Lib.hid hi1
      have HB1 := Lib.hid hb1
      have q := he.b.cell 11
      have hbound := HB.out
      simp only [E16.cells, List.getElem?_toArray, List.getElem?_cons_zero, List.getElem?_cons_succ] at q
      have ew : IntKind.i64.wrap ((n : Int) + ((sum16 y.e.qs : Nat) : Int)) = ((n + sum16 y.e.qs : Nat) : Int) := by rw [IntWalk.i64_in _ (by omega)]; omega
      have heb : y.me.eb = y.eb := rfl
      rw [heb] at hen ⊢
      clear hk hsz hi1 hb1 H2 he e1 e2 hsum hsz2 HI HN HBW H1 hx heb
      generalize y.me.k.val = c at hen ⊢
      go_wp2_with fail
      go_roundw
      case rel => exact ⟨_, _, by first | rfl | rw [ew], HS2.out, HI2.out, HB1.out⟩
      case measure => rw [HL2.out, HLEN.out]; exact HLT.out

set_option maxRecDepth 100000 in
theorem open16_any {O : Nat → Prop} {tb mb E B L clock : Nat} {ms : List M16} (w : World) (h : Tb16 O w tb mb E B L ms clock) :
    Calls Try.prog 20 #[.pointer (some ⟨tb, 0, none⟩)] w (Tells (.int .i64 (open16 (ms.map (·.e)) : Nat)) w) := by
  have H := Lib.hid h
  have HT := Lib.hid (rest16_open h.apart)
  have HB := Lib.hid (show open16 (ms.map (·.e)) ≤ 1048576 from Nat.le_trans (Nat.le_trans List.countP_le_length h.tab.len) (by have := h.tab.store; omega))
  have c3 := h.tbl.cell 3
  simp only [List.getElem?_toArray, List.getElem?_cons_zero, List.getElem?_cons_succ] at c3
  clear h
  unfold Tells
  generalize open16 (ms.map (·.e)) = T at *
  go_enter Try.func20, Try.ntmps20
  go_wp2_with (at_range; refine wpList_range16 rfl _ rfl mb clock _ rfl H.out.map ?_; intro w0 hi0 hb0 hs0)
  go_frame
  go_loopw [3] (fun t wr => ∃ (n : Nat) (seen : Array Nat), t = .int .i64 (n : Nat) ∧ n + rest16 (openAt ms) (left16 (ms.map M16.me) seen) = T ∧ Iter16 wr w.heap.size mb clock seen ∧ Below w.heap.size w wr) (fun _ wr => wr.rangeLeft mb w.heap.size)
  case atStart => exact ⟨0, #[], rfl, by rw [left16_all, HT.out]; omega, hi0, hb0⟩
  case round =>
    obtain ⟨n, seen, rfl, hn, hi, hb⟩ := hrel
    have H1 := Lib.hid (H.out.below hb)
    have hlt := H.out.lt
    have HNE := Lib.hid (show mb ≠ w.heap.size from by have := hlt.2.1; omega)
    have HI := Lib.hid hi
    have HN := Lib.hid hn
    have HBW := Lib.hid hb
    have hlen := rangeLeft16 hi H1.out.map
    have HLEN := Lib.hid hlen
    clear hi hn hb hlt hlen hi0 hb0 hs0 c3
    go_wp2_with (at_next; refine wpList_next16 rfl _ rfl w.heap.size mb clock clock seen _ rfl HI.out H1.out.map (fun m hm => ?hold) (Nat.le_refl _) ?nod HNE.out ?done ?more)
    case hold =>
      obtain ⟨x, hx, rfl⟩ := List.mem_map.1 hm
      exact H1.out.born x hx
    case nod =>
      have := H1.out.nodup
      rw [List.map_map]
      exact this
    case done =>
      intro hl
      have hnT := HN.out
      rw [hl] at hnT
      have : n = T := by simpa [rest16] using hnT
      subst this
      clear hnT hl
      go_wp2_with fail
      go_ret
      exact ⟨rfl, HBW.out⟩
    case more =>
      intro x w1 hx hk hsz hi1 hen
      obtain ⟨y, hy, rfl⟩ := List.mem_map.1 (List.mem_filter.1 hx).1
      have hb1 : Below w.heap.size w w1 := ⟨hk.os.trans HBW.out.os, hk.tape.trans HBW.out.tape, hk.output.trans HBW.out.output, Nat.le_trans HBW.out.size hk.size, fun i hi => (hk.block i (Nat.lt_of_lt_of_le hi HBW.out.size) (by omega)).trans (HBW.out.block i hi)⟩
      have H2 := H.out.below hb1
      have he := H2.ents y hy
      obtain ⟨a, b, e1, e2⟩ := left16_push (by rw [List.map_map]; exact H.out.nodup) hx
      have hsum := HN.out
      rw [e1, rest16_split] at hsum
      have hsz2 : openAt ms y.me = (if y.e.done = true then 0 else 1) := by
        unfold openAt
        rw [show (M16.me y).eb = y.eb from rfl, ebs16 H.out.apart y hy]
        rfl
      rw [hsz2] at hsum
      have HS2 := Lib.hid (show n + (if y.e.done = true then 0 else 1) + rest16 (openAt ms) (left16 (ms.map M16.me) (seen.push y.me.born)) = T by rw [e2]; omega)
      have HLT := Lib.hid (show (left16 (ms.map M16.me) (seen.push y.me.born)).length < (left16 (ms.map M16.me) seen).length by rw [e1, e2]; simp)
      have HL2 := Lib.hid (rangeLeft16 hi1 H2.map)
      have HI2 := Lib.hid hi1
      have HB1 := Lib.hid hb1
      have q := he.b.cell 13
      have hbound := HB.out
      simp only [E16.cells, List.getElem?_toArray, List.getElem?_cons_zero, List.getElem?_cons_succ] at q
      have heb : y.me.eb = y.eb := rfl
      rw [heb] at hen ⊢
      clear hk hsz hi1 hb1 H2 he e1 e2 hsum hsz2 HI HN HBW H1 hx heb
      generalize y.me.k.val = c at hen ⊢
      cases hd : y.e.done with
      | true =>
        have HS3 := HS2.out
        simp only [hd, if_true] at HS3
        rw [hd] at q
        clear HS2 hd
        go_wp2_with fail
        go_roundw
        case rel => exact ⟨_, _, by first | rfl, HS3, HI2.out, HB1.out⟩
        case measure => rw [HL2.out, HLEN.out]; exact HLT.out
      | false =>
        have HS3 := HS2.out
        simp only [hd, Bool.false_eq_true, if_false] at HS3
        have HS4 := Lib.hid HS3
        rw [hd] at q
        have ew : IntKind.i64.wrap ((n : Int) + 1) = ((n + 1 : Nat) : Int) := by rw [IntWalk.i64_in _ (by omega)]; omega
        clear HS2 HS3 hd
        go_wp2_with fail
        go_roundw
        case rel => exact ⟨_, _, by first | rfl | rw [ew], HS4.out, HI2.out, HB1.out⟩
        case measure => rw [HL2.out, HLEN.out]; exact HLT.out

end Go.Proofs.Ytoijomdgcgbpbaa
