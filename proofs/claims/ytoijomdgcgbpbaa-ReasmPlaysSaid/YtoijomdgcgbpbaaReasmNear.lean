/-
  near: the pieces between which a piece would stand, as a slice of the entry's row.
-/
import Derived.Test.YtoijomdgcgbpbaaReasmPlace
namespace Go.Proofs.Ytoijomdgcgbpbaa
open Go.RowKit
set_option linter.unusedVariables false

/-- A slice that holds these pieces. -/
def Near16 (w : World) (v : Value) (qs : List P16) : Prop :=
  (qs = [] ∧ ∃ a c, v = .slice a 0 c) ∨ ∃ g o cap, v = .slice (some ⟨g, o, none⟩) qs.length cap ∧ g < w.heap.size ∧
    ∀ i (hi : i < qs.length), w.cell? ⟨g, o + i * 3, none⟩ = some (.int .i64 ((qs[i]'hi).lo : Nat)) ∧ w.cell? ⟨g, o + i * 3 + 1, none⟩ = some (.string (qs[i]'hi).s) ∧ w.cell? ⟨g, o + i * 3 + 2, none⟩ = some (.bool (qs[i]'hi).last)
theorem Near16.below {w w' : World} {v : Value} {qs : List P16} (h : Near16 w v qs) (hb : Below w.heap.size w w') : Near16 w' v qs := by
  rcases h with h | ⟨g, o, cap, rfl, hg, hc⟩
  · exact Or.inl h
  · refine Or.inr ⟨g, o, cap, rfl, Nat.lt_of_lt_of_le hg hb.size, fun i hi => ?_⟩
    have ⟨a, b, c⟩ := hc i hi
    exact ⟨(hb.cell (p := ⟨g, o + i * 3, none⟩) hg).trans a, (hb.cell (p := ⟨g, o + i * 3 + 1, none⟩) hg).trans b, (hb.cell (p := ⟨g, o + i * 3 + 2, none⟩) hg).trans c⟩

set_option maxRecDepth 100000 in
theorem near16_any (e : E16) (eb : Nat) (v : Value) (x : P16) (w : World) (h : En16 w e eb v) (hg : Good16 e.qs) :
    Calls Try.prog 76 #[.pointer (some ⟨eb, 0, none⟩), x.val] w (fun r w' => ∃ u, r = .returned u ∧ Below w.heap.size w w' ∧ Near16 w' u (near16 e.qs x.lo)) := by
  have hfew := hg.few
  have hle := place16_le e.qs x.lo
  have hlen : (near16 e.qs x.lo).length = min (place16 e.qs x.lo + 1) e.qs.length - (place16 e.qs x.lo - 1) := by simp [near16]
  have hb : Below w.heap.size w (w.alloc (.cells #[.int .i64 (x.lo : Nat), .string x.s, .bool x.last] 79)) := (Below.refl _ w).alloc (Nat.le_refl _) _
  have HE := Lib.hid (h.below hb)
  have HB := Lib.hid hb
  have HC := Lib.hid (fun W (hW : En16 W e eb v) => place16_any e eb v x W hW hg)
  unfold Tells at HC
  unfold P16.val at HC ⊢
  clear hb h
  have hmax : (if ((place16 e.qs x.lo : Nat) : Int) - 1 < 0 then (0 : Int) else ((place16 e.qs x.lo : Nat) : Int) - 1) = ((place16 e.qs x.lo - 1 : Nat) : Int) := by split <;> omega
  have hmin : (if ((e.qs.length : Nat) : Int) < ((place16 e.qs x.lo : Nat) : Int) + 1 then ((e.qs.length : Nat) : Int) else ((place16 e.qs x.lo : Nat) : Int) + 1) = ((min (place16 e.qs x.lo + 1) e.qs.length : Nat) : Int) := by split <;> omega
  have HMX := Lib.hid hmax
  have HMN := Lib.hid hmin
  have w1 : IntKind.i64.wrap ((place16 e.qs x.lo : Int) - 1) = (place16 e.qs x.lo : Int) - 1 := IntWalk.i64_in _ (by omega)
  have w2 : IntKind.i64.wrap ((place16 e.qs x.lo : Int) + 1) = (place16 e.qs x.lo : Int) + 1 := IntWalk.i64_in _ (by omega)
  clear hmax hmin
  have hcase : (e.qs = [] ∧ (v = .slice none 0 0 ∨ ∃ g cap, v = .slice (some ⟨g, 0, none⟩) 0 cap ∧ cap ≤ maxLen)) ∨ (e.qs ≠ [] ∧ ∃ g cap, v = .slice (some ⟨g, 0, none⟩) e.qs.length cap ∧ g < w.heap.size + 1 ∧ e.qs.length ≤ cap ∧ cap ≤ maxLen) := by
    rcases HE.out.r.2 with ⟨r, h0⟩ | ⟨g, cap, cur, r, _, hg, hn, hm, _⟩
    · exact Or.inl ⟨List.length_eq_zero_iff.1 h0, Or.inl r⟩
    · by_cases hq : e.qs = []
      · exact Or.inl ⟨hq, Or.inr ⟨g, cap, by rw [r, hq]; rfl, hm⟩⟩
      · exact Or.inr ⟨hq, g, cap, r, by have := (Array.getElem?_eq_some_iff.1 hg).1; simpa using this, hn, hm⟩
  rcases hcase with ⟨hq, hv⟩ | ⟨hq, g, cap, rfl, hgs, hn, hm⟩
  · have hp0 : place16 e.qs x.lo = 0 := by rw [hq] at hle ⊢; simpa using hle
    have hnear : near16 e.qs x.lo = [] := by rw [hq]; simp [near16]
    rw [hp0] at HC w1 w2
    rw [hnear]
    clear HMX HMN hnear hp0 hfew hle hlen hq hg
    rcases hv with rfl | ⟨g, cap, rfl, hm⟩
    all_goals
      go_enter Try.func76, Try.ntmps76
      go_wp2_with fail
      refine (HC.out _ HE.out).mono ?_
      rintro r w1 ⟨rfl, hb1⟩
      have HE1 := Lib.hid (HE.out.below hb1)
      have HB1 := Lib.hid (HB.out.trans (hb1.mono HB.out.size))
      have c10 := HE1.out.row
      clear hb1 HC HB HE
      go_upto_region 2 with (fail)
      go_quiet (fail)
      go_wp2_with fail
      go_ret
      exact ⟨_, rfl, below_drewN HB1.out _, Or.inl ⟨rfl, _, _, rfl⟩⟩
  · have hl0 : 0 < e.qs.length := List.length_pos_iff.2 hq
    have hc0 : ¬ cap = 0 := by omega
    have hp1 : place16 e.qs x.lo - 1 ≤ min (place16 e.qs x.lo + 1) e.qs.length := by omega
    have HL := Lib.hid hlen
    clear hlen
    go_enter Try.func76, Try.ntmps76
    go_wp2_with fail
    refine (HC.out _ HE.out).mono ?_
    rintro r w1 ⟨rfl, hb1⟩
    have HE1 := Lib.hid (HE.out.below hb1)
    have HB1 := Lib.hid (HB.out.trans (hb1.mono HB.out.size))
    have c10 := HE1.out.row
    have HQ := Lib.hid hq
    clear hb1 HC HB HE hq
    go_upto_region 2 with (fail)
    go_quiet (fail)
    rw [HMX.out, HMN.out]
    simp only [Int.toNat_natCast]
    rw [← HL.out]
    clear HMX HMN
    go_wp2_with fail
    go_ret
    refine ⟨_, rfl, below_drewN HB1.out _, ?_⟩
    obtain ⟨g', cap', he, hgl, _, _, hc⟩ := HE1.out.r.some HQ.out
    have : g' = g := by simp at he; omega
    subst this
    refine Or.inr ⟨g', (place16 e.qs x.lo - 1) * 3, _, rfl, hgl, fun i hi => ?_⟩
    obtain ⟨h1, h2, _⟩ := near16_get hi
    have ⟨a, b, c⟩ := hc _ h1
    rw [h2]
    have e3 : (place16 e.qs x.lo - 1) * 3 + i * 3 = (place16 e.qs x.lo - 1 + i) * 3 := by omega
    rw [e3]
    exact ⟨a, b, c⟩

end Go.Proofs.Ytoijomdgcgbpbaa
