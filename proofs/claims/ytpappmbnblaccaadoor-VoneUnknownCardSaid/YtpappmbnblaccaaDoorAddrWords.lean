/-
  parted and wordsOf16: what a text is parted into.
-/
import Derived.Test.YtpappmbnblaccaaDoorAddrNumber
import Derived.Lib.Split
import Derived.Deep.AppendLies
import Derived.OwnWalk
namespace Go.Proofs.YtpappmbnblaccaaDoor
open Go.RowKit
set_option linter.unusedVariables false

/-- Texts as cells. -/
def scells (l : List ByteArray) : List Value := l.map Value.string
theorem scells_len (l : List ByteArray) : (scells l).length = l.length := by simp [scells]
theorem scells_app (l m : List ByteArray) : scells (l ++ m) = scells l ++ scells m := by simp [scells]
theorem scells_one (l : List ByteArray) : ∀ u ∈ scells l, u.oneCell' = true := by
  intro u hu
  obtain ⟨c, _, rfl⟩ := List.mem_map.1 hu
  rfl
/-- A slice of texts that was made since w. -/
structure Wd (w W : World) (v : Value) (l : List ByteArray) : Prop where
  row : W.ownsRow w.heap.size 9 1 v l.length (scells l)
  bel : Below w.heap.size w W
/-- Its bytes. -/
def lists (l : List ByteArray) : List (List UInt8) := l.map (·.data.toList)

theorem Wd.form {w W : World} {v : Value} {l : List ByteArray} (h : Wd w W v l) : ∃ a c, v = .slice a l.length c := by
  rcases h.row.2 with ⟨rfl, h0⟩ | ⟨g, cap, cur, rfl, _⟩
  · exact ⟨none, 0, by rw [h0]⟩
  · exact ⟨_, _, rfl⟩
theorem Wd.lies {w W : World} {v : Value} {l : List ByteArray} (h : Wd w W v l) (hl : l ≠ []) : ∃ g c, v = .slice (some ⟨g, 0, none⟩) l.length c ∧ w.heap.size ≤ g ∧ g < W.heap.size ∧ (∀ i, (hi : i < l.length) → W.cell? ⟨g, i, none⟩ = some (.string (l[i]'hi))) ∧ l.length ≤ c := by
  have hlt := h.row.lt
  rcases h.row.2 with ⟨rfl, h0⟩ | ⟨g, cap, cur, rfl, hb, hg, hle, _⟩
  · exact absurd (List.length_eq_zero_iff.1 h0) hl
  · refine ⟨g, cap, rfl, hb, (hlt g rfl).2, fun i hi => ?_, hle⟩
    rw [World.ownsRow.cellAt h.row i (by omega)]
    simp [scells, hi]
theorem Wd.below {w W W' : World} {v : Value} {l : List ByteArray} (h : Wd w W v l) (hb : Below W.heap.size W W') : Wd w W' v l := by
  refine ⟨⟨h.row.1, ?_⟩, h.bel.trans (hb.mono h.bel.size)⟩
  rcases h.row.2 with h2 | ⟨g, cap, cur, rfl, h3, hg, r⟩
  · exact Or.inl h2
  · exact Or.inr ⟨g, cap, cur, rfl, h3, (hb.block g (Array.getElem?_eq_some_iff.1 hg).1).trans hg, r⟩
theorem Wd.base {w w0 W : World} {v : Value} {l : List ByteArray} (h : Wd w W v l) (hb : Below w0.heap.size w0 w) : Wd w0 W v l := by
  refine ⟨⟨h.row.1, ?_⟩, hb.trans (h.bel.mono hb.size)⟩
  rcases h.row.2 with h2 | ⟨g, cap, cur, rfl, h3, hg, r⟩
  · exact Or.inl h2
  · exact Or.inr ⟨g, cap, cur, rfl, Nat.le_trans hb.size h3, hg, r⟩

/-- How a call ends that tells a slice of texts. -/
def WEnd (w : World) (ws : List (List UInt8)) (e : Ending) (w' : World) : Prop := ∃ v l, e = .returned v ∧ Wd w w' v l ∧ lists l = ws

theorem splitn_row (w : World) (s : ByteArray) (c : UInt8) (most : Nat) (hm : most ≤ 100) : Wd w (w.alloc (.cells (Lib.cellsOf (Lib.splitB ⟨#[c]⟩ 0 (min (most + 1) (s.size + 1) - 1) s) (min (most + 1) (s.size + 1))) 9))
    (.slice (some ⟨w.heap.size, 0, none⟩) (Lib.splitB ⟨#[c]⟩ 0 (min (most + 1) (s.size + 1) - 1) s).length (min (most + 1) (s.size + 1))) (Lib.splitB ⟨#[c]⟩ 0 (min (most + 1) (s.size + 1) - 1) s) := by
  have hle := Lib.splitB_length_le ⟨#[c]⟩ 0 (min (most + 1) (s.size + 1) - 1) s
  generalize Lib.splitB ⟨#[c]⟩ 0 (min (most + 1) (s.size + 1) - 1) s = l at *
  have hl : l.length ≤ min (most + 1) (s.size + 1) := by omega
  refine ⟨⟨by rw [scells_len, Nat.mul_one], Or.inr ⟨w.heap.size, _, _, rfl, Nat.le_refl _, Blk.new w _ _, hl, by unfold maxLen; omega, by rw [Lib.cellsOf_size hl, Nat.mul_one], ?_⟩⟩, (Below.refl _ _).alloc (Nat.le_refl _) _⟩
  unfold Lib.cellsOf scells
  rw [Nat.mul_one, List.take_left' (by simp)]

theorem parted_any (s : ByteArray) (c : UInt8) (most : Nat) (hm : most ≤ 100) (hs : s.size ≤ 100000) (w : World) (hg : G17 w) :
    Calls Tryd.prog 73 #[.string s, .string ⟨#[c]⟩, .int .i64 (most : Int)] w (WEnd w (pt c most s.data.toList)) := by
  by_cases h0 : s.data.toList = []
  · have hs0 : s = ⟨#[]⟩ := text_ext h0
    subst hs0
    go_enter Tryd.func73, Tryd.ntmps73
    go_wp2_with fail
    go_ret
    exact ⟨_, [], rfl, ⟨⟨rfl, Or.inl ⟨rfl, rfl⟩⟩, Below.refl _ _⟩, rfl⟩
  · have hemp : s.toList.isEmpty = false := by
      rw [ByteArray.toList_eq]
      cases h : s.data.toList with
      | nil => exact absurd h h0
      | cons a l => rfl
    obtain ⟨m, hm1⟩ := hg.mx
    have J := Tryd.strings_SplitN s ⟨#[c]⟩ (most + 1) m w (by omega) hm1 (by show 1 ≤ 1; omega) (by omega) (by omega)
    have e1 : ((most + 1 : Nat) : Int) = (most : Int) + 1 := by omega
    rw [e1] at J
    have hd : lists (Lib.splitB ⟨#[c]⟩ 0 (min (most + 1) (s.size + 1) - 1) s) = pt c most s.data.toList := by
      unfold lists pt
      rw [if_neg h0, Lib.splitB_data]
      congr 1
    have HW := Lib.hid (splitn_row w s c most hm)
    go_enter Tryd.func73, Tryd.ntmps73
    go_wp2_with fail
    refine J.mono ?_
    rintro e w1 ⟨rfl, rfl⟩
    generalize Lib.splitB ⟨#[c]⟩ 0 (min (most + 1) (s.size + 1) - 1) s = l at *
    generalize min (most + 1) (s.size + 1) = N at *
    generalize w.alloc _ = w1 at *
    go_wp2_with fail
    go_ret
    exact ⟨_, l, rfl, HW.out, hd⟩

end Go.Proofs.YtpappmbnblaccaaDoor
