/-
  textOf4: the text of four bytes.
-/
import Derived.Test.YtpappmbnblaccaaDoorVoneLib
import Derived.Test.YtpappmbnblaccaaDoorAddrBack
import Derived.OwnWalk
namespace Go.Proofs.YtpappmbnblaccaaDoor
open Go.RowKit
set_option linter.unusedVariables false

/-- A block of texts. -/
def SRow (w : World) (N : Nat) (l : List ByteArray) (T : TypeId) : Prop := Blk w N (l.map Value.string).toArray T
theorem SRow.cell {w : World} {N : Nat} {l : List ByteArray} {T : TypeId} (h : SRow w N l T) (i : Nat) (hi : i < l.length) : w.cell? ⟨N, i, none⟩ = some (.string (l[i]'hi)) := by
  rw [Blk.cell h i]
  simp [hi]
theorem SRow.get {w : World} {N : Nat} {l : List ByteArray} {T : TypeId} (h : SRow w N l T) (i : Nat) {x : ByteArray} (hi : l[i]? = some x) : w.cell? ⟨N, i, none⟩ = some (.string x) := by
  rw [Blk.cell h i]
  simp [hi]
theorem SRow.set {w : World} {N : Nat} {l : List ByteArray} {T : TypeId} (h : SRow w N l T) (i : Nat) (x : ByteArray) : SRow (w.setCell ⟨N, i, none⟩ (.string x)) N (l.set i x) T := by
  have := Blk.set h i (.string x)
  unfold SRow
  rw [List.map_set, ← List.setIfInBounds_toArray]
  exact this
theorem SRow.below {w w' : World} {N : Nat} {l : List ByteArray} {T : TypeId} (h : SRow w N l T) (hb : Below w.heap.size w w') : SRow w' N l T := (hb.block N (Blk.lt h)).trans h

/-- Where the words of four bytes stand, so many of them written. -/
structure Tx4 (w W : World) (N : Nat) (a : ByteArray) (k : Nat) (l : List ByteArray) : Prop where
  row : SRow W N l 70
  len : l.length = 4
  told : ∀ j, (h : j < k) → (h4 : j < a.data.toList.length) → l[j]? = some ⟨(digs 10 (a.data.toList[j]'h4).toNat).toArray⟩
  bel : Below N w W

theorem tx4_start (w : World) (a : ByteArray) : Tx4 w (w.alloc (.cells #[.string ⟨#[]⟩, .string ⟨#[]⟩, .string ⟨#[]⟩, .string ⟨#[]⟩] 70)) w.heap.size a 0 (List.replicate 4 ⟨#[]⟩) := by
  have hb : Below w.heap.size w (w.alloc (.cells #[.string ⟨#[]⟩, .string ⟨#[]⟩, .string ⟨#[]⟩, .string ⟨#[]⟩] 70)) := (Below.refl _ _).alloc (Nat.le_refl _) _
  refine ⟨?_, rfl, fun j h => absurd h (by omega), hb⟩
  have hz : (#[.string ⟨#[]⟩, .string ⟨#[]⟩, .string ⟨#[]⟩, .string ⟨#[]⟩] : Array Value) = ((List.replicate 4 (⟨#[]⟩ : ByteArray)).map Value.string).toArray := rfl
  rw [hz]
  exact Blk.new w _ _
theorem Tx4.next {w W W' : World} {N : Nat} {a : ByteArray} {k : Nat} {l : List ByteArray} (h : Tx4 w W N a k l) (hk : k < 4) (ha : k < a.data.toList.length) (hb : Below W.heap.size W W') (hN : N < W.heap.size) (x : ByteArray) (hx : x = ⟨(digs 10 (a.data.toList[k]'ha).toNat).toArray⟩) :
    Tx4 w (W'.setCell ⟨N, k, none⟩ (.string x)) N a (k + 1) (l.set k x) := by
  refine ⟨(h.row.below hb).set k x, by simp [h.len], fun j hj hj4 => ?_, (h.bel.trans (hb.mono (Nat.le_of_lt hN))).setCell (Nat.le_refl _) _⟩
  · by_cases e : j = k
    · subst e
      rw [List.getElem?_set_self (by rw [h.len]; exact hk), hx]
    · rw [List.getElem?_set_ne (Ne.symm e)]
      exact h.told j (by omega) hj4

theorem text4_len4 (a : List UInt8) (h : a.length = 4) : (text4 a).length ≤ 40 := by
  have := text_len (a := a) (Or.inl h)
  rwa [text_4 h] at this

set_option maxRecDepth 100000 in
theorem text4_any (a : ByteArray) (ha : a.size = 4) (w : World) (hg : G17 w) : Calls Tryd.prog 29 #[.string a] w (Tells (.string ⟨(text4 a.data.toList).toArray⟩) w) := by
  have H0 := Lib.hid (tx4_start w a)
  generalize hN : w.heap.size = N at *
  go_enter Tryd.func29, Tryd.ntmps29
  go_wp2_with fail
  have hNle : w.heap.size ≤ N := Nat.le_of_eq hN
  generalize w.alloc (.cells #[.string ⟨#[]⟩, .string ⟨#[]⟩, .string ⟨#[]⟩, .string ⟨#[]⟩] 70) = W at *
  clear hN
  go_loopw [5] (fun si wr => ∃ (k : Nat) (l : List ByteArray), si = .int .i64 (k : Int) ∧ k ≤ 4 ∧ Hid (Tx4 w wr N a k l)) (fun si _ => 4 - (intOf si).toNat)
  case atStart => exact ⟨0, _, rfl, by omega, H0⟩
  case round =>
    obtain ⟨k, l, rfl, hk, HT⟩ := hrel
    have hgr := hg.on (HT.out.bel.mono hNle)
    have hlen := HT.out.len
    have hN : N < wr.heap.size := Blk.lt HT.out.row
    by_cases hlt : k < 4
    · have hka : k < a.size := by omega
      have hw : wrap64 ((a[k]'hka).toNat : Int) = ((a[k]'hka).toNat : Int) := by have := (a[k]'hka).toNat_lt; simp [wrap64]; omega
      go_wp2_with fail
      rw [hw]
      refine (itoa_any _ (by have := (a[k]'hka).toNat_lt; omega) wr hgr).mono ?_
      rintro e w1 ⟨rfl, hb1⟩
      have hc := (HT.out.row.below hb1).cell k (by omega)
      have hz := Blk.frozen (HT.out.row.below hb1) k
      have HN := Lib.hid (HT.out.next hlt (by rw [Array.length_toList]; exact hka) hb1 hN _ rfl)
      generalize (l[k]'(by omega)) = old at hc
      clear hb1
      go_wp2_with fail
      exact ⟨⟨k + 1, _, rfl, by omega, HN⟩, by simp [intOf]; omega⟩
    · obtain rfl : k = 4 := by omega
      have hl : l.map (·.data.toList) = a.data.toList.map fun c => digs 10 c.toNat := by
        apply List.ext_getElem?
        intro j
        by_cases hj : j < 4
        · have hja : j < a.data.toList.length := by rw [Array.length_toList]; show j < a.size; omega
          have := HT.out.told j hj hja
          rw [List.getElem?_map, this, List.getElem?_map, List.getElem?_eq_getElem hja]
          rfl
        · rw [List.getElem?_eq_none (by simp; omega), List.getElem?_eq_none (by simp; show a.size ≤ j; omega)]
      have hj : Lib.join (l.map (·.data.toList)) (⟨#[46]⟩ : ByteArray).data.toList = text4 a.data.toList := by rw [hl]; exact jn_eq 46 _
      have hb4 := text4_len4 a.data.toList (by rw [Array.length_toList]; exact ha)
      have J := join_any N 0 4 l ⟨#[46]⟩ wr (fun j x hx => by rw [Nat.zero_add]; exact HT.out.row.get j hx) hN (by omega) (by omega) (by rw [hj]; omega)
      rw [hj, hlen] at J
      go_wp2_with fail
      refine J.mono ?_
      rintro e w1 ⟨rfl, hb1⟩
      go_wp2_with fail
      go_ret
      exact ⟨rfl, (HT.out.bel.mono hNle).trans (hb1.mono (by have := HT.out.bel.size; omega))⟩

end Go.Proofs.YtpappmbnblaccaaDoor
