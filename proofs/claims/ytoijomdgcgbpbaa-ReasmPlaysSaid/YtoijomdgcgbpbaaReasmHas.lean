/-
  has and fits: is a piece like one that is there; does it clash with one. (The library's Index, Contains, IndexFunc, ContainsFunc, at pieces.)
-/
import Derived.Test.YtoijomdgcgbpbaaReasmNear
import Derived.Deep.RegionHeld3
namespace Go.Proofs.Ytoijomdgcgbpbaa
open Go.RowKit
set_option linter.unusedVariables false

/-- Where one is found, or nowhere: what the library's searches answer. -/
def Found16 (p : P16 → Bool) (qs : List P16) (w : World) (e : Ending) (w' : World) : Prop :=
  ∃ r : Int, e = .returned (.int .i64 r) ∧ decide (0 ≤ r) = qs.any p ∧ Below w.heap.size w w'
theorem none16 {p : P16 → Bool} {qs : List P16} {i : Nat} (h : ∀ j (hj : j < qs.length), j < i → p (qs[j]'hj) = false) (hi : qs.length ≤ i) : qs.any p = false := by
  rw [List.any_eq_false]
  intro y hy
  obtain ⟨j, hj, rfl⟩ := List.getElem_of_mem hy
  rw [h j hj (by omega)]
  simp
theorem some16 {p : P16 → Bool} {qs : List P16} {i : Nat} (hi : i < qs.length) (h : p (qs[i]'hi) = true) : qs.any p = true := by
  rw [List.any_eq_true]
  exact ⟨_, List.getElem_mem hi, h⟩

set_option maxRecDepth 100000 in
set_option maxHeartbeats 1000000 in
theorem index16_any (v : Value) (qs : List P16) (x : P16) (hl : qs.length ≤ 65515) (w : World) (h : Near16 w v qs) :
    Calls Try.prog 93 #[v, x.val] w (Found16 (alike16 x) qs w) := by
  have N0 := Lib.hid (Blk.new w #[.int .i64 (x.lo : Nat), .string x.s, .bool x.last] 79)
  have hb : Below w.heap.size w (w.alloc (.cells #[.int .i64 (x.lo : Nat), .string x.s, .bool x.last] 79)) := (Below.refl _ w).alloc (Nat.le_refl _) _
  have B0 := Lib.hid hb
  have H0 := Lib.hid (h.below hb)
  have HA : Hid (∀ y : P16, alike16 x y = (decide (x.lo = y.lo) && decide (x.s = y.s) && decide (x.last = y.last))) := fun y => rfl
  have hv : ∃ a c, v = .slice a qs.length c := by
    rcases h with ⟨hq, a, c, r⟩ | ⟨g, o, cap, r, _⟩
    · exact ⟨a, c, by rw [r, hq]; rfl⟩
    · exact ⟨_, _, r⟩
  obtain ⟨a, c, rfl⟩ := hv
  clear h hb
  unfold Found16
  unfold P16.val
  obtain ⟨xl, xs, xf⟩ := x
  dsimp only at *
  go_enter Try.func93, Try.ntmps93
  go_wp2_with fail
  generalize hw0 : w.alloc (.cells #[.int .i64 (xl : Nat), .string xs, .bool xf] 79) = w0 at *
  go_loopw [8] (fun i wr => ∃ k : Nat, i = .int .i64 (k : Nat) ∧ k ≤ qs.length ∧ (∀ j (hj : j < qs.length), j < k → alike16 ⟨xl, xs, xf⟩ (qs[j]'hj) = false) ∧ Below w0.heap.size w0 wr) (fun i _ => qs.length - (intOf i).toNat)
  case atStart => exact ⟨0, rfl, Nat.zero_le _, fun j hj h => absurd h (Nat.not_lt_zero _), Below.refl _ _⟩
  case round =>
    obtain ⟨k, rfl, hk, hno, hb⟩ := hrel
    have HNO := Lib.hid hno
    have BK := Lib.hid hb
    have B1 := Lib.hid (B0.out.trans (hb.mono B0.out.size))
    have N1 := (hb.block _ N0.out.lt).trans N0.out
    have c0 := Blk.cell N1 0
    have c1 := Blk.cell N1 1
    have c2 := Blk.cell N1 2
    simp only [List.getElem?_toArray, List.getElem?_cons_zero, List.getElem?_cons_succ] at c0 c1 c2
    have H1 := H0.out.below hb
    clear N1 hno hb
    by_cases hlt : k < qs.length
    · have t1 : decide ((k : Int) < (qs.length : Int)) = true := decide_eq_true (by omega)
      have hk0 : (0 : Int) ≤ (k : Int) := by omega
      have hk1 : (k : Int) < (qs.length : Int) := by omega
      rcases H1 with ⟨hq, _⟩ | ⟨g, o, cap, rr, hg, hc⟩
      · rw [hq] at hlt; cases hlt
      obtain ⟨rfl, rfl⟩ : a = some ⟨g, o, none⟩ ∧ c = cap := by simpa using rr
      have ⟨d0, d1, d2⟩ := hc k hlt
      have HK := Lib.hid hlt
      have HAK := Lib.hid (HA.out (qs[k]'hlt))
      have hnext : ∀ (p : alike16 ⟨xl, xs, xf⟩ (qs[k]'hlt) = false), ∀ j (hj : j < qs.length), j < k + 1 → alike16 ⟨xl, xs, xf⟩ (qs[j]'hj) = false := by
        intro p j hj hjk
        by_cases e : j = k
        · subst e; exact p
        · exact HNO.out j hj (by omega)
      have hyes := fun p : alike16 ⟨xl, xs, xf⟩ (qs[k]'hlt) = true => some16 (p := alike16 ⟨xl, xs, xf⟩) hlt p
      have HNX := Lib.hid hnext
      have HYS := Lib.hid hyes
      clear rr hc hnext hyes
      generalize qs[k]'hlt = y at *
      obtain ⟨yl, ys, yf⟩ := y
      dsimp only at d0 d1 d2 HAK
      have ew : IntKind.i64.wrap ((k : Int) + 1) = ((k + 1 : Nat) : Int) := by rw [IntWalk.i64_in _ (by omega)]; omega
      have hkk := HK.out
      by_cases e1 : xl = yl
      · have q1 : ((xl : Int) == (yl : Int)) = true := by simp [e1]
        by_cases e2 : xs = ys
        · have q2 : (xs.toList == ys.toList) = true := by simp [e2]
          by_cases e3 : xf = yf
          · have q3 : (xf == yf) = true := by simp [e3]
            have hal := HAK.out
            rw [decide_eq_true e1, decide_eq_true e2, decide_eq_true e3] at hal
            have HANY := Lib.hid (HYS.out hal)
            clear e1 e2 e3 hal HNX HYS HAK
            go_upto_region 4 with (fail)
            go_quiet (fail)
            go_wp2_with fail
            go_ret
            exact ⟨k, rfl, by rw [HANY.out]; simp, below_drewN B1.out _⟩
          · have q3 : (xf == yf) = false := by simp [e3]
            have hal := HAK.out
            rw [decide_eq_false e3, Bool.and_false] at hal
            clear e1 e2 e3
            clear HYS HAK
            go_upto_region 4 with (fail)
            go_quiet (fail)
            go_wp2_with fail
            exact ⟨⟨k + 1, by first | rfl | rw [← ew]; rfl, by omega, HNX.out hal, below_drewN BK.out _⟩, by simp [intOf]; omega⟩
        · have q2 : (xs.toList == ys.toList) = false := by rw [bytes_dec]; simp [e2]
          have hal := HAK.out
          rw [decide_eq_false e2, Bool.and_false, Bool.false_and] at hal
          clear e1 e2
          clear HYS HAK
          go_upto_region 4 with (fail)
          go_quiet (fail)
          go_wp2_with fail
          exact ⟨⟨k + 1, by first | rfl | rw [← ew]; rfl, by omega, HNX.out hal, below_drewN BK.out _⟩, by simp [intOf]; omega⟩
      · have q1 : ((xl : Int) == (yl : Int)) = false := by simp; omega
        have hal := HAK.out
        rw [decide_eq_false e1, Bool.false_and, Bool.false_and] at hal
        clear e1
        clear HYS HAK
        go_upto_region 4 with (fail)
        go_quiet (fail)
        go_wp2_with fail
        exact ⟨⟨k + 1, by first | rfl | rw [← ew]; rfl, by omega, HNX.out hal, below_drewN BK.out _⟩, by simp [intOf]; omega⟩
    · have t1 : decide ((k : Int) < (qs.length : Int)) = false := decide_eq_false (by omega)
      have hn := none16 HNO.out (by omega)
      clear H1
      go_wp2_with fail
      go_ret
      exact ⟨-1, rfl, by rw [hn]; rfl, B1.out⟩

theorem contains16_any (v : Value) (qs : List P16) (x : P16) (hl : qs.length ≤ 65515) (w : World) (h : Near16 w v qs) :
    Calls Try.prog 75 #[v, x.val] w (Tells (.bool (qs.any (alike16 x))) w) := by
  have hb : Below w.heap.size w (w.alloc (.cells #[.int .i64 (x.lo : Nat), .string x.s, .bool x.last] 79)) := (Below.refl _ w).alloc (Nat.le_refl _) _
  have HC := Lib.hid (index16_any v qs x hl _ (h.below hb))
  have HB := Lib.hid hb
  unfold Found16 at HC
  unfold Tells
  unfold P16.val at HC ⊢
  clear hb h
  generalize qs.any (alike16 x) = b at *
  go_enter Try.func75, Try.ntmps75
  go_wp2_with fail
  refine HC.out.mono ?_
  rintro e w1 ⟨r, rfl, hr, hb1⟩
  have HB1 := Lib.hid (HB.out.trans (hb1.mono HB.out.size))
  have HR := Lib.hid hr
  clear hb1 HC hr
  go_wp2_with fail
  go_ret
  exact ⟨by rw [← HR.out]; first | rfl | simp, HB1.out⟩

/-- A piece in its block, while the entry is asked. -/
structure Hs16 (w W : World) (x : P16) : Prop where
  b : Blk W w.heap.size #[.int .i64 (x.lo : Nat), .string x.s, .bool x.last] 79
  bel : Below w.heap.size w W
theorem Hs16.below {w W W' : World} {x : P16} (h : Hs16 w W x) (hb : Below W.heap.size W W') : Hs16 w W' x := ⟨(hb.block _ h.b.lt).trans h.b, h.bel.trans (hb.mono h.bel.size)⟩
theorem keepH16 {w W W' : World} {xl : Nat} {xs : ByteArray} {xf : Bool} (hb : Below W.heap.size W W')
    (r : W.cell? ⟨w.heap.size, 0, none⟩ = some (.int .i64 (xl : Nat)) ∧ W.cell? ⟨w.heap.size, 1, none⟩ = some (.string xs) ∧ W.cell? ⟨w.heap.size, 2, none⟩ = some (.bool xf) ∧ Hid (Hs16 w W ⟨xl, xs, xf⟩)) :
    W'.cell? ⟨w.heap.size, 0, none⟩ = some (.int .i64 (xl : Nat)) ∧ W'.cell? ⟨w.heap.size, 1, none⟩ = some (.string xs) ∧ W'.cell? ⟨w.heap.size, 2, none⟩ = some (.bool xf) ∧ Hid (Hs16 w W' ⟨xl, xs, xf⟩) := by
  have h := r.2.2.2.out.below hb
  exact ⟨h.b.cell 0, h.b.cell 1, h.b.cell 2, Lib.hid h⟩

set_option maxRecDepth 100000 in
set_option maxHeartbeats 1000000 in
theorem has16_any (e : E16) (eb : Nat) (v : Value) (x : P16) (w : World) (h : En16 w e eb v) (hg : Good16 e.qs) :
    Calls Try.prog 53 #[.pointer (some ⟨eb, 0, none⟩), x.val] w (Tells (.bool ((near16 e.qs x.lo).any (alike16 x))) w) := by
  have hfew := hg.few
  have hlen : (near16 e.qs x.lo).length ≤ 65515 := by
    have : (near16 e.qs x.lo).length = min (place16 e.qs x.lo + 1) e.qs.length - (place16 e.qs x.lo - 1) := by simp [near16]
    omega
  have N0 := Lib.hid (Blk.new w #[.int .i64 (x.lo : Nat), .string x.s, .bool x.last] 79)
  have hb : Below w.heap.size w (w.alloc (.cells #[.int .i64 (x.lo : Nat), .string x.s, .bool x.last] 79)) := (Below.refl _ w).alloc (Nat.le_refl _) _
  have HE := Lib.hid (h.below hb)
  have HB := Lib.hid hb
  have HC := Lib.hid (fun W (hW : En16 W e eb v) => near16_any e eb v x W hW hg)
  have HD := Lib.hid (fun u W (hW : Near16 W u (near16 e.qs x.lo)) => contains16_any u (near16 e.qs x.lo) x hlen W hW)
  unfold Tells at HD ⊢
  unfold P16.val at HC HD ⊢
  clear hb h hlen hfew
  generalize (near16 e.qs x.lo).any (alike16 x) = b at *
  generalize near16 e.qs x.lo = L at *
  have S0 := Lib.hid (show Hs16 w (w.alloc (.cells #[.int .i64 (x.lo : Nat), .string x.s, .bool x.last] 79)).drew x from ⟨N0.out.drew, HB.out.drew⟩)
  have HED : Hid (En16 (w.alloc (.cells #[.int .i64 (x.lo : Nat), .string x.s, .bool x.last] 79)).drew e eb v) := HE.out.kb (S := fun _ => False) (Kb.refl _ _).drew id (fun _ _ => id)
  clear N0 HE HB
  obtain ⟨xl, xs, xf⟩ := x
  dsimp only at *
  go_enter Try.func53, Try.ntmps53
  go_upto_region 1 with (fail)
  go_region_held3 (fun W => W.cell? ⟨w.heap.size, 0, none⟩ = some (.int .i64 (xl : Nat)) ∧ W.cell? ⟨w.heap.size, 1, none⟩ = some (.string xs) ∧ W.cell? ⟨w.heap.size, 2, none⟩ = some (.bool xf) ∧ Hid (Hs16 w W ⟨xl, xs, xf⟩))
    (first | exact ⟨S0.out.b.cell 0, S0.out.b.cell 1, S0.out.b.cell 2, S0⟩ | exact keepH16 (by assumption) (by assumption))
    (first
      | (go_at_call 76; ((with_reducible refine (HC.out _ HED.out).mono ?_); rintro e w' ⟨u, rfl, hb, hn⟩))
      | (go_at_call 75; ((with_reducible refine (HD.out _ _ (by assumption)).mono ?_); rintro e w' ⟨rfl, hb⟩)))
  rename_i held
  have S2 := held.2.2.2.out
  clear held
  go_wp2_with fail
  go_ret
  exact ⟨rfl, S2.bel⟩

end Go.Proofs.Ytoijomdgcgbpbaa
