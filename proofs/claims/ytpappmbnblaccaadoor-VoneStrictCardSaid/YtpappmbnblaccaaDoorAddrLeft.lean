/-
  leftOut: where the first of the longest rows of noughts begins and ends.
-/
import Derived.Test.YtpappmbnblaccaaDoorVoneLib
import Derived.Test.YtpappmbnblaccaaDoorAddrBack
import Derived.Test.YtpappmbnblaccaaDoorGround
import Derived.OwnWalk
namespace Go.Proofs.YtpappmbnblaccaaDoor
open Go.RowKit
set_option linter.unusedVariables false

/-- Numbers as cells. -/
def cells8 (l : List Nat) : Array Value := (l.map fun (n : Nat) => Value.int .u64 (n : Int)).toArray
theorem cells8_get (l : List Nat) (i : Nat) (h : i < l.length) : (cells8 l)[i]? = some (.int .u64 ((l[i]'h : Nat) : Int)) := by simp [cells8, h]

set_option maxRecDepth 100000 in
theorem left_any (l : List Nat) (hl : l.length = 8) (h16 : ∀ n ∈ l, n ≤ 65535) (w : World) : Calls Tryd.prog 41 #[.agg (cells8 l)] w (Tells (.tuple #[.int .i64 ((left0 l 8).1 : Int), .int .i64 ((left0 l 8).2 : Int)]) w) := by
  have hB := Lib.hid (Blk.new w (cells8 l) 72)
  have hbel : Below w.heap.size w (w.alloc (.cells (cells8 l) 72)) := (Below.refl _ _).alloc (Nat.le_refl _) _
  generalize hN : w.heap.size = N at *
  go_enter Tryd.func41, Tryd.ntmps41
  go_wp2_with fail
  have hNle : w.heap.size ≤ N := Nat.le_of_eq hN
  generalize w.alloc (.cells (cells8 l) 72) = W at *
  clear hN
  have HC : Hid (∀ i, (h : i < 8) → W.cell? ⟨N, i, none⟩ = some (.int .u64 ((l[i]'(by omega) : Nat) : Int))) := Lib.hid fun i h => by rw [hB.out.cell i]; exact cells8_get l i (by omega)
  clear hB
  have HB := Lib.hid (hbel.mono hNle)
  clear hbel
  go_loop [4, 5, 8] (fun sf st si => ∃ k : Nat, k ≤ 8 ∧ si = .int .i64 (k : Int) ∧ sf = .int .i64 ((left0 l k).1 : Int) ∧ st = .int .i64 ((left0 l k).2 : Int)) (fun _ _ si => 8 - (intOf si).toNat)
  case atStart => exact ⟨0, by omega, rfl, rfl, rfl⟩
  case round =>
    obtain ⟨k, hk, rfl, rfl, rfl⟩ := hrel
    by_cases hlt : k < 8
    · have hnext : left0 l (k + 1) = if 2 ≤ run0 l k ∧ run0 l k > (left0 l k).2 - (left0 l k).1 then (k, k + run0 l k) else left0 l k := rfl
      have hft : (left0 l k).1 ≤ (left0 l k).2 ∧ (left0 l k).2 ≤ 16 := by
        have h1 := long_row l k
        have h2 := run0_le l (long l k).1
        rw [left0_eq]
        split
        · simp only; omega
        · simp
      have hrl := run0_le l k
      generalize left0 l k = p at *
      obtain ⟨f, t⟩ := p
      simp only at hft hnext ⊢
      go_wp2_with fail
      go_loop [7] (fun se => ∃ e : Nat, k ≤ e ∧ e ≤ 8 ∧ se = .int .i64 (e : Int) ∧ Hid (run0 l k = e - k + run0 l e)) (fun se => 8 - (intOf se).toNat)
      case atStart => exact ⟨k, by omega, by omega, rfl, Lib.hid (by omega)⟩
      case round =>
        obtain ⟨e, he, he8, rfl, HE⟩ := hrel
        by_cases hlt8 : e < 8
        · have hc := HC.out e hlt8
          by_cases h0 : l[e]'(by omega) = 0
          · have hz : l[e]? = some 0 := by rw [List.getElem?_eq_getElem (by omega), h0]
            have HN : Hid (run0 l k = (e + 1) - k + run0 l (e + 1)) := Lib.hid (by have := HE.out; rw [run0_next l e hz] at this; omega)
            rw [h0] at hc
            go_wp2_with fail
            exact ⟨⟨e + 1, by omega, by omega, rfl, HN⟩, by simp [intOf]; omega⟩
          · have hz : l[e]? ≠ some 0 := by rw [List.getElem?_eq_getElem (by omega)]; exact fun x => h0 (Option.some.inj x)
            have HN : Hid (run0 l k = e - k) := Lib.hid (by have := HE.out; rw [run0_stop l e hz] at this; omega)
            generalize l[e]'(by omega) = n at hc h0
            have HZ := Lib.hid hnext
            clear hnext
            by_cases d1 : (2 : Int) ≤ (e : Int) - (k : Int)
            · by_cases d2 : (t : Int) - (f : Int) < (e : Int) - (k : Int)
              · have HX : Hid (left0 l (k + 1) = (k, e)) := Lib.hid (by rw [HZ.out, if_pos (by have := HN.out; omega)]; have := HN.out; congr 1; omega)
                go_wp2_with fail
                exact ⟨⟨k + 1, by omega, rfl, by rw [HX.out], by rw [HX.out]⟩, by simp [intOf]; omega⟩
              · have HX : Hid (left0 l (k + 1) = (f, t)) := Lib.hid (by rw [HZ.out, if_neg (by have := HN.out; omega)])
                go_wp2_with fail
                exact ⟨⟨k + 1, by omega, rfl, by rw [HX.out], by rw [HX.out]⟩, by simp [intOf]; omega⟩
            · have HX : Hid (left0 l (k + 1) = (f, t)) := Lib.hid (by rw [HZ.out, if_neg (by have := HN.out; omega)])
              go_wp2_with fail
              exact ⟨⟨k + 1, by omega, rfl, by rw [HX.out], by rw [HX.out]⟩, by simp [intOf]; omega⟩
        · have HN : Hid (run0 l k = e - k) := Lib.hid (by have := HE.out; rw [run0_stop l e (by rw [List.getElem?_eq_none (by omega)]; simp)] at this; omega)
          have HZ := Lib.hid hnext
          clear hnext
          by_cases d1 : (2 : Int) ≤ (e : Int) - (k : Int)
          · by_cases d2 : (t : Int) - (f : Int) < (e : Int) - (k : Int)
            · have HX : Hid (left0 l (k + 1) = (k, e)) := Lib.hid (by rw [HZ.out, if_pos (by have := HN.out; omega)]; have := HN.out; congr 1; omega)
              go_wp2_with fail
              exact ⟨⟨k + 1, by omega, rfl, by rw [HX.out], by rw [HX.out]⟩, by simp [intOf]; omega⟩
            · have HX : Hid (left0 l (k + 1) = (f, t)) := Lib.hid (by rw [HZ.out, if_neg (by have := HN.out; omega)])
              go_wp2_with fail
              exact ⟨⟨k + 1, by omega, rfl, by rw [HX.out], by rw [HX.out]⟩, by simp [intOf]; omega⟩
          · have HX : Hid (left0 l (k + 1) = (f, t)) := Lib.hid (by rw [HZ.out, if_neg (by have := HN.out; omega)])
            go_wp2_with fail
            exact ⟨⟨k + 1, by omega, rfl, by rw [HX.out], by rw [HX.out]⟩, by simp [intOf]; omega⟩
    · obtain rfl : k = 8 := by omega
      go_wp2_with fail
      go_ret2
      exact ⟨rfl, HB.out⟩

end Go.Proofs.YtpappmbnblaccaaDoor
