/-
  place: where a piece stands among an entry's, or would: the library's binary search.
-/
import Derived.Test.YtoijomdgcgbpbaaReasmTable
import Derived.WalkKit
namespace Go.Proofs.Ytoijomdgcgbpbaa
open Go.RowKit
set_option linter.unusedVariables false

/-- An entry's row with its block. -/
theorem En16.row {w : World} {e : E16} {eb : Nat} {v : Value} (h : En16 w e eb v) : w.cell? ⟨eb, 10, none⟩ = some v := by
  have := h.b.cell 10
  simpa [E16.cells] using this
/-- What the search's closure reads: the entry's pointer, the piece. -/
structure Pl16 (W : World) (pb xb eb : Nat) (v : Value) (e : E16) (x : P16) : Prop where
  pp : Blk W pb #[.pointer (some ⟨eb, 0, none⟩)] 69
  xx : Blk W xb #[.int .i64 (x.lo : Nat), .string x.s, .bool x.last] 79
  ee : En16 W e eb v
theorem En16.below {w w' : World} {e : E16} {eb : Nat} {v : Value} (h : En16 w e eb v) (hb : Below w.heap.size w w') : En16 w' e eb v := by
  have k : Kb (fun i => w.heap.size ≤ i) w w' := ⟨hb.os, hb.tape, hb.output, hb.size, fun i hi _ => hb.block i hi⟩
  exact h.kb k (by have := h.b.lt; omega) (fun g e => by have := h.r.lt g e; omega)
theorem Pl16.below {W W' : World} {pb xb eb : Nat} {v : Value} {e : E16} {x : P16} (h : Pl16 W pb xb eb v e x) (hb : Below W.heap.size W W') : Pl16 W' pb xb eb v e x :=
  ⟨(hb.block _ h.pp.lt).trans h.pp, (hb.block _ h.xx.lt).trans h.xx, h.ee.below hb⟩

theorem place1_any (pb xb eb : Nat) (v : Value) (e : E16) (x : P16) (i : Nat) (hi : i < e.qs.length) (hl : e.qs.length ≤ 65515) (W : World) (h : Pl16 W pb xb eb v e x) :
    Calls Try.prog 83 #[.int .i64 (i : Nat), .pointer (some ⟨pb, 0, none⟩), .pointer (some ⟨xb, 0, none⟩)] W (Tells (.bool (decide (x.lo ≤ (e.qs[i]'hi).lo))) W) := by
  have hq : e.qs ≠ [] := fun x => by rw [x] at hi; cases hi
  obtain ⟨g, cap, rfl, hg, hn, hm, hc⟩ := h.ee.r.some hq
  have ⟨c0, c1, c2⟩ := hc i hi
  have p0 := h.pp.cell 0
  have x0 := h.xx.cell 0
  have e0 := h.ee.row
  simp only [List.getElem?_toArray, List.getElem?_cons_zero] at p0 x0
  have T : decide ((x.lo : Int) ≤ ((e.qs[i]'hi).lo : Int)) = decide (x.lo ≤ (e.qs[i]'hi).lo) := by rw [Bool.eq_iff_iff]; simp
  have hi2 : (i : Int) < (e.qs.length : Int) := by omega
  have hi3 : (0 : Int) ≤ (i : Int) := by omega
  unfold Tells
  clear h hc c1 c2 hq
  generalize (e.qs[i]'hi).lo = Y at *
  generalize hN : e.qs.length = N at *
  generalize x.lo = X at *
  go_enter Try.func83, Try.ntmps83
  go_upto_region 1 with (fail)
  go_quiet (fail)
  go_wp2_with fail
  go_ret
  exact ⟨by first | rfl | rw [T] | simp, below_drewN (Below.refl _ _) _⟩

set_option maxRecDepth 100000 in
set_option maxHeartbeats 1000000 in
/-- The library's binary search, at this closure. -/
theorem search16_any (n k : Nat) (a b : Value) (hn : n ≤ 65515) (hk : k ≤ n) (w : World)
    (hf : ∀ W, Below w.heap.size w W → ∀ i : Nat, i < n → Calls Try.prog 83 #[.int .i64 (i : Nat), a, b] W (Tells (.bool (decide (k ≤ i))) W)) :
    Calls Try.prog 82 #[.int .i64 (n : Nat), .func (.func 83) #[] #[a, b]] w (Tells (.int .i64 (k : Nat)) w) := by
  have HF := Lib.hid hf
  clear hf
  unfold Tells at HF ⊢
  go_enter Try.func82, Try.ntmps82
  go_wp2_with fail
  go_loopw [5, 6] (fun x y wr => ∃ i j : Nat, x = .int .i64 (i : Nat) ∧ y = .int .i64 (j : Nat) ∧ i ≤ k ∧ k ≤ j ∧ j ≤ n ∧ Below w.heap.size w wr) (fun x y _ => (intOf y).toNat - (intOf x).toNat)
  case atStart => exact ⟨0, n, rfl, rfl, Nat.zero_le _, hk, Nat.le_refl _, Below.refl _ _⟩
  case round =>
    obtain ⟨i, j, rfl, rfl, h1, h2, h3, hb⟩ := hrel
    have HB := Lib.hid hb
    clear hb
    by_cases hij : i < j
    · have t1 : decide ((i : Int) < (j : Int)) = true := decide_eq_true (by omega)
      have e0 : IntKind.i64.wrap ((i : Int) + (j : Int)) = ((i + j : Nat) : Int) := by rw [IntWalk.i64_in _ (by omega)]; omega
      go_upto_region 4 with (fail)
      have eh : ((i : Int) + (j : Int)) / 2 = (((i + j) / 2 : Nat) : Int) := by omega
      have b1 : i ≤ (i + j) / 2 ∧ (i + j) / 2 < j := by omega
      rw [eh]
      generalize (i + j) / 2 = h at *
      have hw : IntKind.i64.wrap ((h : Int) + 1) = ((h + 1 : Nat) : Int) := by rw [IntWalk.i64_in _ (by omega)]; omega
      have HC := Lib.hid (HF.out wr HB.out h (by omega))
      clear eh t1 e0
      go_wp2_with fail
      refine HC.out.mono ?_
      rintro e w1 ⟨rfl, hb1⟩
      have HB1 := Lib.hid (HB.out.trans (hb1.mono HB.out.size))
      clear hb1 HC
      by_cases hkh : k ≤ h
      · have t2 : decide (k ≤ h) = true := decide_eq_true hkh
        rw [t2]
        clear t2
        go_wp2_with fail
        exact ⟨⟨i, h, rfl, rfl, h1, hkh, by omega, HB1.out⟩, by simp [intOf]; omega⟩
      · have t2 : decide (k ≤ h) = false := decide_eq_false hkh
        rw [t2]
        clear t2
        go_wp2_with fail
        exact ⟨⟨h + 1, j, by first | rfl | rw [← hw]; rfl, rfl, by omega, h2, h3, HB1.out⟩, by simp [intOf]; omega⟩
    · have t1 : decide ((i : Int) < (j : Int)) = false := decide_eq_false (by omega)
      have hik : i = k := by omega
      subst hik
      go_wp2_with fail
      go_ret
      exact ⟨rfl, HB.out⟩

/-- place. -/
theorem place16_any (e : E16) (eb : Nat) (v : Value) (x : P16) (w : World) (h : En16 w e eb v) (hg : Good16 e.qs) :
    Calls Try.prog 57 #[.pointer (some ⟨eb, 0, none⟩), x.val] w (Tells (.int .i64 (place16 e.qs x.lo : Nat)) w) := by
  have hfew := hg.few
  have hN : ∀ i (hi : i < e.qs.length), decide (x.lo ≤ (e.qs[i]'hi).lo) = decide (place16 e.qs x.lo ≤ i) := by
    intro i hi
    rw [Bool.eq_iff_iff]
    simp only [decide_eq_true_eq]
    constructor
    · intro h1
      rcases Nat.lt_or_ge i (place16 e.qs x.lo) with h2 | h2
      · have := place16_before h2 hi; omega
      · exact h2
    · intro h1
      have h2 := place16_at (qs := e.qs) (n := x.lo) (by omega)
      have h3 := hg.up h1 hi
      omega
  have e1 := Blk.new w #[.pointer (some ⟨eb, 0, none⟩)] 69
  have e2 := Blk.new (w.alloc (.cells #[.pointer (some ⟨eb, 0, none⟩)] 69)) #[.int .i64 (x.lo : Nat), .string x.s, .bool x.last] 79
  simp only [World.size_alloc] at e2
  have hb : Below w.heap.size w ((w.alloc (.cells #[.pointer (some ⟨eb, 0, none⟩)] 69)).alloc (.cells #[.int .i64 (x.lo : Nat), .string x.s, .bool x.last] 79)) := ((Below.refl _ w).alloc (Nat.le_refl _) _).alloc (by simp) _
  have HP : Hid (Pl16 ((w.alloc (.cells #[.pointer (some ⟨eb, 0, none⟩)] 69)).alloc (.cells #[.int .i64 (x.lo : Nat), .string x.s, .bool x.last] 79)) w.heap.size (w.heap.size + 1) eb v e x) := ⟨e1.alloc _, e2, h.below hb⟩
  have HC := Lib.hid (search16_any e.qs.length (place16 e.qs x.lo) (.pointer (some ⟨w.heap.size, 0, none⟩)) (.pointer (some ⟨w.heap.size + 1, 0, none⟩)) hfew.2 (place16_le _ _)
    ((w.alloc (.cells #[.pointer (some ⟨eb, 0, none⟩)] 69)).alloc (.cells #[.int .i64 (x.lo : Nat), .string x.s, .bool x.last] 79)) (fun W hW i hi => by
      have hp := place1_any w.heap.size (w.heap.size + 1) eb v e x i hi hfew.2 W (HP.out.below hW)
      rw [hN i hi] at hp
      exact hp))
  have HB := Lib.hid hb
  have c10 := HP.out.ee.row
  obtain ⟨va, vc, rfl, _, _⟩ := h.r.none
  have hmf : ∀ (fn : Fn) (first cap : Array Value) (w : World), (Instr.makeFunc fn first cap).run Try.prog w = .ok (.func fn first cap) w := fun _ _ _ _ => rfl
  unfold Tells at HC ⊢
  clear e1 e2 hb HP hN h hg hfew
  unfold P16.val
  generalize place16 e.qs x.lo = k at *
  generalize e.qs.length = N at *
  go_enter Try.func57, Try.ntmps57
  go_wp2_with fail
  refine HC.out.mono ?_
  rintro e w1 ⟨rfl, hb1⟩
  have HB1 := Lib.hid (HB.out.trans (hb1.mono HB.out.size))
  clear hb1 HC
  go_wp2_with fail
  go_ret
  exact ⟨rfl, HB1.out⟩

end Go.Proofs.Ytoijomdgcgbpbaa
