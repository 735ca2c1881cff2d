/-
  isWhole: is an entry whole.
-/
import Derived.Test.YtoijomdgcgbpbaaReasmFits
import Derived.Test.YtoijomdgcgbpbaaGround
namespace Go.Proofs.Ytoijomdgcgbpbaa
open Go.RowKit
set_option linter.unusedVariables false

/-- Few pieces, all small. -/
structure Few16 (qs : List P16) : Prop where
  few : sum16 qs ≤ 65515 ∧ qs.length ≤ 65515
  small : ∀ y ∈ qs, y.Small
theorem Good16.fewer {qs : List P16} (g : Good16 qs) : Few16 qs := ⟨g.few, g.small⟩

theorem whole16_at {qs : List P16} {n : Nat} (h : qs.length = n + 1) : whole16 qs = ((qs[n]'(by omega)).last && decide ((qs[n]'(by omega)).hi = sum16 qs)) := by
  unfold whole16
  have e : qs.getLast? = some (qs[n]'(by omega)) := by
    rw [List.getLast?_eq_getElem?, show qs.length - 1 = n by omega, List.getElem?_eq_getElem (by omega)]
  rw [e]

/-- The hindmost piece in its block. -/
structure Hm16 (w W : World) (M : Nat) (z : P16) (e : E16) (eb : Nat) (v : Value) : Prop where
  b : Blk W M #[.int .i64 (z.lo : Nat), .string z.s, .bool z.last] 79
  en : En16 W e eb v
  bel : Below w.heap.size w W
theorem Hm16.below {w W W' : World} {M : Nat} {z : P16} {e : E16} {eb : Nat} {v : Value} (h : Hm16 w W M z e eb v) (hb : Below W.heap.size W W') : Hm16 w W' M z e eb v := ⟨(hb.block _ h.b.lt).trans h.b, h.en.below hb, h.bel.trans (hb.mono h.bel.size)⟩

theorem Hm16.all {w W : World} {M zl : Nat} {zs : ByteArray} {zf : Bool} {e : E16} {eb : Nat} {v : Value} (h : Hm16 w W M ⟨zl, zs, zf⟩ e eb v) : W.cell? ⟨M, 0, none⟩ = some (.int .i64 (zl : Nat)) ∧ W.cell? ⟨M, 1, none⟩ = some (.string zs) ∧ W.cell? ⟨M, 2, none⟩ = some (.bool zf) ∧ W.cell? ⟨eb, 11, none⟩ = some (.int .i64 (sum16 e.qs : Nat)) ∧ Hid (Hm16 w W M ⟨zl, zs, zf⟩ e eb v) := by
  refine ⟨h.b.cell 0, h.b.cell 1, h.b.cell 2, ?_, Lib.hid h⟩
  have := h.en.b.cell 11
  simpa [E16.cells] using this
/-- The entry's row, and its hindmost piece there. -/
structure Hw16 (w W : World) (g n zl : Nat) (zs : ByteArray) (zf : Bool) (cap : Nat) (e : E16) (eb : Nat) : Prop where
  en : En16 W e eb (.slice (some ⟨g, 0, none⟩) (n + 1) cap)
  d0 : W.cell? ⟨g, n * 3, none⟩ = some (.int .i64 (zl : Nat))
  d1 : W.cell? ⟨g, n * 3 + 1, none⟩ = some (.string zs)
  d2 : W.cell? ⟨g, n * 3 + 2, none⟩ = some (.bool zf)
  bel : Below w.heap.size w W
  lt : g < w.heap.size
theorem Hw16.all {w W : World} {g n zl cap eb : Nat} {zs : ByteArray} {zf : Bool} {e : E16} (h : Hw16 w W g n zl zs zf cap e eb) : W.cell? ⟨eb, 10, none⟩ = some (.slice (some ⟨g, 0, none⟩) (n + 1) cap) ∧ W.cell? ⟨g, n * 3, none⟩ = some (.int .i64 (zl : Nat)) ∧ W.cell? ⟨g, n * 3 + 1, none⟩ = some (.string zs) ∧ W.cell? ⟨g, n * 3 + 2, none⟩ = some (.bool zf) ∧ Hid (Hw16 w W g n zl zs zf cap e eb) :=
  ⟨h.en.row, h.d0, h.d1, h.d2, Lib.hid h⟩
theorem Hw16.below {w W W' : World} {g n zl cap eb : Nat} {zs : ByteArray} {zf : Bool} {e : E16} (h : Hw16 w W g n zl zs zf cap e eb) (hb : Below W.heap.size W W') : Hw16 w W' g n zl zs zf cap e eb := by
  have hl : g < W.heap.size := Nat.lt_of_lt_of_le h.lt h.bel.size
  exact ⟨h.en.below hb, (hb.cell (p := ⟨g, n * 3, none⟩) hl).trans h.d0, (hb.cell (p := ⟨g, n * 3 + 1, none⟩) hl).trans h.d1, (hb.cell (p := ⟨g, n * 3 + 2, none⟩) hl).trans h.d2, h.bel.trans (hb.mono h.bel.size), h.lt⟩

set_option maxRecDepth 100000 in
set_option maxHeartbeats 4000000 in
theorem whole16_any (e : E16) (eb : Nat) (v : Value) (w : World) (h : En16 w e eb v) (hq : e.qs ≠ []) (hg : Few16 e.qs) :
    Calls Try.prog 33 #[.pointer (some ⟨eb, 0, none⟩)] w (Tells (.bool (whole16 e.qs)) w) := by
  have hfew := hg.few
  obtain ⟨n, hn⟩ : ∃ n, e.qs.length = n + 1 := ⟨e.qs.length - 1, by have := List.length_pos_iff.2 hq; omega⟩
  obtain ⟨g, cap, rfl, hgl, hnc, hcm, hc⟩ := h.r.some hq
  have hwh := whole16_at hn
  have ⟨d0, d1, d2⟩ := hc n (by omega)
  have hsm := hg.small (e.qs[n]'(by omega)) (List.getElem_mem _)
  have c10 := h.row
  have H := Lib.hid h
  have HE := Lib.hid (fun W => end16_any (e.qs[n]'(by omega)) W hsm)
  clear hc h hq hsm
  generalize hz : e.qs[n]'(by omega) = z at *
  clear hz
  unfold Tells at HE ⊢
  unfold P16.val at HE
  rw [hn] at c10
  have HWH := Lib.hid hwh
  obtain ⟨zl, zs, zf⟩ := z
  dsimp only at *
  have hi1 : (0 : Int) ≤ (n : Int) := by omega
  have hi2 : (n : Int) < (n : Int) + 1 := by omega
  have hwn : IntKind.i64.wrap (n : Int) = (n : Int) := IntWalk.i64_in _ (by omega)
  have H0 : Hid (Hw16 w w.drew g n zl zs zf cap e eb) := ⟨hn ▸ H.out.kb (S := fun _ => False) (Kb.refl _ _).drew id (fun _ _ => id), d0, d1, d2, (Below.refl _ _).drew, hgl⟩
  clear hwh
  generalize whole16 e.qs = b at *
  go_enter Try.func33, Try.ntmps33
  go_upto_region 1 with (fail)
  -- REGION 1
  refine wp_region_held_drew (S := fun W => W.cell? ⟨eb, 10, none⟩ = some (.slice (some ⟨g, 0, none⟩) (n + 1) cap) ∧ W.cell? ⟨g, n * 3, none⟩ = some (.int .i64 (zl : Nat)) ∧ W.cell? ⟨g, n * 3 + 1, none⟩ = some (.string zs) ∧ W.cell? ⟨g, n * 3 + 2, none⟩ = some (.bool zf) ∧ Hid (Hw16 w W g n zl zs zf cap e eb)) (by kernel_rfl) ?_ (fun hHeld => ?_)
  · exact H0.out.all
  generalize hw1 : w.drew = w1 at *
  have HH := Lib.hid hHeld
  refine takeH_yes (i := 0) (d := some 4) (v := ?v1) rfl rfl (by kernel_rfl) (by kernel_rfl) (by kernel_rfl) (fun _ _ _ h => h) (by rfl) ?y1 (by assumption) ?_
  case y1 => (intro w hSw; (try dsimp only at hSw); go_simp <;> with_reducible rfl)
  simp only [Act.put, List.setIfInBounds_toArray, List.set_cons_zero, List.set_cons_succ]
  refine takeH_yes (i := 1) (d := some 5) (v := ?v2) rfl rfl (by kernel_rfl) (by kernel_rfl) (by kernel_rfl) (fun _ _ _ h => h) (by rfl) ?y2 (by assumption) ?_
  case y2 => (intro w hSw; (try dsimp only at hSw); go_simp <;> with_reducible rfl)
  simp only [Act.put, List.setIfInBounds_toArray, List.set_cons_zero, List.set_cons_succ]
  refine takeH_yes (i := 2) (d := some 6) (v := ?v3) rfl rfl (by kernel_rfl) (by kernel_rfl) (by kernel_rfl) (fun _ _ _ h => h) (by rfl) ?y3 (by assumption) ?_
  case y3 => (intro w hSw; (try dsimp only at hSw); go_simp <;> with_reducible rfl)
  simp only [Act.put, List.setIfInBounds_toArray, List.set_cons_zero, List.set_cons_succ]
  refine takeH_yes (i := 3) (d := some 7) (v := ?v4) rfl rfl (by kernel_rfl) (by kernel_rfl) (by kernel_rfl) (fun _ _ _ h => h) (by rfl) ?y4 (by assumption) ?_
  case y4 => (intro w hSw; (try dsimp only at hSw); go_simp <;> with_reducible rfl)
  simp only [Act.put, List.setIfInBounds_toArray, List.set_cons_zero, List.set_cons_succ]
  refine takeH_yes (i := 4) (d := some 8) (v := ?v5) rfl rfl (by kernel_rfl) (by kernel_rfl) (by kernel_rfl) (fun _ _ _ h => h) (by rfl) ?y5 (by assumption) ?_
  case y5 => (intro w hSw; (try dsimp only at hSw); go_simp <;> with_reducible rfl)
  simp only [Act.put, List.setIfInBounds_toArray, List.set_cons_zero, List.set_cons_succ]
  refine takeH_yes (i := 5) (d := some 9) (v := ?v6) rfl rfl (by kernel_rfl) (by kernel_rfl) (by kernel_rfl) (fun _ _ _ h => h) (by rfl) ?y6 (by assumption) ?_
  case y6 => (intro w hSw; (try dsimp only at hSw); go_simp <;> with_reducible rfl)
  simp only [Act.put, List.setIfInBounds_toArray, List.set_cons_zero, List.set_cons_succ]
  refine takeH_yes (i := 6) (d := some 10) (v := ?v7) rfl rfl (by kernel_rfl) (by kernel_rfl) (by kernel_rfl) (fun _ _ _ h => h) (by rfl) ?y7 (by assumption) ?_
  case y7 => (intro w hSw; (try dsimp only at hSw); go_simp <;> with_reducible rfl)
  simp only [Act.put, List.setIfInBounds_toArray, List.set_cons_zero, List.set_cons_succ]
  refine takeH_yes (i := 7) (d := some 11) (v := ?v8) rfl rfl (by kernel_rfl) (by kernel_rfl) (by kernel_rfl) (fun _ _ _ h => h) (by rfl) ?y8 (by assumption) ?_
  case y8 => (intro w hSw; (try dsimp only at hSw); go_simp <;> with_reducible rfl)
  simp only [Act.put, List.setIfInBounds_toArray, List.set_cons_zero, List.set_cons_succ]
  refine takeH_yes (i := 8) (d := some 12) (v := ?v9) rfl rfl (by kernel_rfl) (by kernel_rfl) (by kernel_rfl) (fun _ _ _ h => h) (by rfl) ?y9 (by assumption) ?_
  case y9 => (intro w hSw; (try dsimp only at hSw); go_simp <;> with_reducible rfl)
  simp only [Act.put, List.setIfInBounds_toArray, List.set_cons_zero, List.set_cons_succ]
  refine takeH_yes (i := 9) (d := some 13) (v := .int .i64 (n : Nat)) rfl rfl (by kernel_rfl) (by kernel_rfl) (by kernel_rfl) (fun _ _ _ h => h) (by rfl) ?y10 (by assumption) ?_
  case y10 => (intro w hSw; (try dsimp only at hSw); go_simp <;> with_reducible rfl)
  simp only [Act.put, List.setIfInBounds_toArray, List.set_cons_zero, List.set_cons_succ]
  refine takeH_yes (i := 10) (d := some 14) (v := ?v11) rfl rfl (by kernel_rfl) (by kernel_rfl) (by kernel_rfl) (fun _ _ _ h => h) (by rfl) ?y11 (by assumption) ?_
  case y11 => (intro w hSw; (try dsimp only at hSw); go_simp <;> with_reducible rfl)
  simp only [Act.put, List.setIfInBounds_toArray, List.set_cons_zero, List.set_cons_succ]
  refine takeH_yes (i := 11) (d := some 15) (v := ?v12) rfl rfl (by kernel_rfl) (by kernel_rfl) (by kernel_rfl) (fun _ _ _ h => h) (by rfl) ?y12 (by assumption) ?_
  case y12 => (intro w hSw; (try dsimp only at hSw); go_simp <;> with_reducible rfl)
  simp only [Act.put, List.setIfInBounds_toArray, List.set_cons_zero, List.set_cons_succ]
  refine wpAnyH_ready (rs := [12]) (by kernel_rfl) (by simp) ?_
  refine AllReadyH.cons rfl (fun K hK => ?_) AllReadyH.nil
  go_simp
  have H1 := Lib.hid (HH.out.2.2.2.2.out.below ((Below.refl w1.heap.size w1).alloc (Nat.le_refl _) (.cells #[.int .i64 0, .string ⟨#[]⟩, .bool false] 79)))
  refine hK.out _ _ H1.out.all (fun held12 => ?_)
  clear hK K
  try simp only [Act.put, List.setIfInBounds_toArray, List.set_cons_zero, List.set_cons_succ]
  refine wpAnyH_ready (rs := [13]) (by kernel_rfl) (by simp) ?_
  refine AllReadyH.cons rfl (fun K hK => ?_) AllReadyH.nil
  go_simp
  have H2 := Lib.hid (HH.out.2.2.2.2.out.below ((Below.refl w1.heap.size w1).alloc (Nat.le_refl _) (.cells #[.int .i64 (zl : Nat), .string zs, .bool zf] 79)))
  have B2 := Lib.hid (Blk.new w1 #[.int .i64 (zl : Nat), .string zs, .bool zf] 79)
  refine hK.out _ _ H2.out.all (fun held13 => ?_)
  clear hK K held12 H1
  try simp only [Act.put, List.setIfInBounds_toArray, List.set_cons_zero, List.set_cons_succ]
  refine wpAnyH_done (by kernel_rfl) ?_ _
  have R0 : Hid (Hm16 w (w1.alloc (.cells #[.int .i64 (zl : Nat), .string zs, .bool zf] 79)) w1.heap.size ⟨zl, zs, zf⟩ e eb (.slice (some ⟨g, 0, none⟩) (n + 1) cap)) := ⟨B2.out, H2.out.en, H2.out.bel⟩
  have T : ((P16.hi ⟨zl, zs, zf⟩ : Int) == (sum16 e.qs : Int)) = decide (P16.hi ⟨zl, zs, zf⟩ = sum16 e.qs) := by rw [Bool.eq_iff_iff]; simp only [beq_iff_eq, decide_eq_true_eq]; omega
  have HT := Lib.hid T
  clear T
  clear held13 HH H2 B2 hHeld
  generalize w1.heap.size = M at *
  go_upto_region 2 with (fail)
  generalize w1.alloc (.cells #[.int .i64 (zl : Nat), .string zs, .bool zf] 79) = w3 at *
  cases zf with
  | true =>
    refine wp_region_held_drew (S := fun W => W.cell? ⟨M, 0, none⟩ = some (.int .i64 (zl : Nat)) ∧ W.cell? ⟨M, 1, none⟩ = some (.string zs) ∧ W.cell? ⟨M, 2, none⟩ = some (.bool true) ∧ W.cell? ⟨eb, 11, none⟩ = some (.int .i64 (sum16 e.qs : Nat)) ∧ Hid (Hm16 w W M ⟨zl, zs, true⟩ e eb (.slice (some ⟨g, 0, none⟩) (n + 1) cap))) (by kernel_rfl) ?_ (fun hHeld => ?_)
    · exact (R0.out.below (Below.refl _ _).drew).all
    refine takeH_yes (i := 0) (d := some 16) (v := ?v13) rfl rfl (by kernel_rfl) (by kernel_rfl) (by kernel_rfl) (fun _ _ _ h => h) (by rfl) ?y13 (by assumption) ?_
    case y13 => (intro w hSw; (try dsimp only at hSw); go_simp <;> with_reducible rfl)
    simp only [Act.put, List.setIfInBounds_toArray, List.set_cons_zero, List.set_cons_succ]
    refine takeH_yes (i := 1) (d := some 17) (v := ?v14) rfl rfl (by kernel_rfl) (by kernel_rfl) (by kernel_rfl) (fun _ _ _ h => h) (by rfl) ?y14 (by assumption) ?_
    case y14 => (intro w hSw; (try dsimp only at hSw); go_simp <;> with_reducible rfl)
    simp only [Act.put, List.setIfInBounds_toArray, List.set_cons_zero, List.set_cons_succ]
    refine takeH_yes (i := 2) (d := some 18) (v := ?v15) rfl rfl (by kernel_rfl) (by kernel_rfl) (by kernel_rfl) (fun _ _ _ h => h) (by rfl) ?y15 (by assumption) ?_
    case y15 => (intro w hSw; (try dsimp only at hSw); go_simp <;> with_reducible rfl)
    simp only [Act.put, List.setIfInBounds_toArray, List.set_cons_zero, List.set_cons_succ]
    refine takeH_yes (i := 3) (d := some 19) (v := ?v16) rfl rfl (by kernel_rfl) (by kernel_rfl) (by kernel_rfl) (fun _ _ _ h => h) (by rfl) ?y16 (by assumption) ?_
    case y16 => (intro w hSw; (try dsimp only at hSw); go_simp <;> with_reducible rfl)
    simp only [Act.put, List.setIfInBounds_toArray, List.set_cons_zero, List.set_cons_succ]
    refine takeH_yes (i := 5) (d := some 21) (v := ?v17) rfl rfl (by kernel_rfl) (by kernel_rfl) (by kernel_rfl) (fun _ _ _ h => h) (by rfl) ?y17 (by assumption) ?_
    case y17 => (intro w hSw; (try dsimp only at hSw); go_simp <;> with_reducible rfl)
    simp only [Act.put, List.setIfInBounds_toArray, List.set_cons_zero, List.set_cons_succ]
    refine takeH_yes (i := 6) (d := some 22) (v := ?v18) rfl rfl (by kernel_rfl) (by kernel_rfl) (by kernel_rfl) (fun _ _ _ h => h) (by rfl) ?y18 (by assumption) ?_
    case y18 => (intro w hSw; (try dsimp only at hSw); go_simp <;> with_reducible rfl)
    simp only [Act.put, List.setIfInBounds_toArray, List.set_cons_zero, List.set_cons_succ]
    refine takeH_yes (i := 7) (d := some 23) (v := ?v19) rfl rfl (by kernel_rfl) (by kernel_rfl) (by kernel_rfl) (fun _ _ _ h => h) (by rfl) ?y19 (by assumption) ?_
    case y19 => (intro w hSw; (try dsimp only at hSw); go_simp <;> with_reducible rfl)
    simp only [Act.put, List.setIfInBounds_toArray, List.set_cons_zero, List.set_cons_succ]
    refine takeH_yes (i := 8) (d := some 24) (v := ?v20) rfl rfl (by kernel_rfl) (by kernel_rfl) (by kernel_rfl) (fun _ _ _ h => h) (by rfl) ?y20 (by assumption) ?_
    case y20 => (intro w hSw; (try dsimp only at hSw); go_simp <;> with_reducible rfl)
    simp only [Act.put, List.setIfInBounds_toArray, List.set_cons_zero, List.set_cons_succ]
    refine wpAnyH_ready (rs := [4]) (by kernel_rfl) (by simp) ?_
    refine AllReadyH.cons rfl (fun K hK => ?_) AllReadyH.nil
    go_simp
    refine (HE.out _).mono ?_
    rintro r wi ⟨rfl, hb⟩
    refine hK.out _ _ ?_ (fun held4 => ?_)
    · exact ((by assumption : _ ∧ _ ∧ _ ∧ _ ∧ Hid (Hm16 _ _ _ _ _ _ _)).2.2.2.2.out.below hb).all
    clear hK K
    try simp only [Act.put, List.setIfInBounds_toArray, List.set_cons_zero, List.set_cons_succ]
    refine takeH_yes (i := 9) (d := some 25) (v := ?v21) rfl rfl (by kernel_rfl) (by kernel_rfl) (by kernel_rfl) (fun _ _ _ h => h) (by rfl) ?y21 (by assumption) ?_
    case y21 => (intro w hSw; (try dsimp only at hSw); go_simp <;> with_reducible rfl)
    simp only [Act.put, List.setIfInBounds_toArray, List.set_cons_zero, List.set_cons_succ]
    refine takeH_yes (i := 10) (d := some 26) (v := ?v22) rfl rfl (by kernel_rfl) (by kernel_rfl) (by kernel_rfl) (fun _ _ _ h => h) (by rfl) ?y22 (by assumption) ?_
    case y22 => (intro w hSw; (try dsimp only at hSw); go_simp <;> with_reducible rfl)
    simp only [Act.put, List.setIfInBounds_toArray, List.set_cons_zero, List.set_cons_succ]
    refine takeH_yes (i := 11) (d := some 2) (v := ?v23) rfl rfl (by kernel_rfl) (by kernel_rfl) (by kernel_rfl) (fun _ _ _ h => h) (by rfl) ?y23 (by assumption) ?_
    case y23 => (intro w hSw; (try dsimp only at hSw); go_simp <;> with_reducible rfl)
    simp only [Act.put, List.setIfInBounds_toArray, List.set_cons_zero, List.set_cons_succ]
    refine wpAnyH_done (by kernel_rfl) ?_ _
    have R1 := held4.2.2.2.2.out
    clear held4
    go_wp2_with fail
    go_ret
    exact ⟨by rw [HWH.out, Bool.true_and, ← HT.out]; rfl, R1.bel⟩
  | false =>
    refine wp_region_held_drew (S := fun W => W.cell? ⟨M, 0, none⟩ = some (.int .i64 (zl : Nat)) ∧ W.cell? ⟨M, 1, none⟩ = some (.string zs) ∧ W.cell? ⟨M, 2, none⟩ = some (.bool false) ∧ W.cell? ⟨eb, 11, none⟩ = some (.int .i64 (sum16 e.qs : Nat)) ∧ Hid (Hm16 w W M ⟨zl, zs, false⟩ e eb (.slice (some ⟨g, 0, none⟩) (n + 1) cap))) (by kernel_rfl) ?_ (fun hHeld => ?_)
    · exact (R0.out.below (Below.refl _ _).drew).all
    refine takeH_yes (i := 0) (d := some 16) (v := ?v24) rfl rfl (by kernel_rfl) (by kernel_rfl) (by kernel_rfl) (fun _ _ _ h => h) (by rfl) ?y24 (by assumption) ?_
    case y24 => (intro w hSw; (try dsimp only at hSw); go_simp <;> with_reducible rfl)
    simp only [Act.put, List.setIfInBounds_toArray, List.set_cons_zero, List.set_cons_succ]
    refine takeH_yes (i := 1) (d := some 17) (v := ?v25) rfl rfl (by kernel_rfl) (by kernel_rfl) (by kernel_rfl) (fun _ _ _ h => h) (by rfl) ?y25 (by assumption) ?_
    case y25 => (intro w hSw; (try dsimp only at hSw); go_simp <;> with_reducible rfl)
    simp only [Act.put, List.setIfInBounds_toArray, List.set_cons_zero, List.set_cons_succ]
    refine takeH_yes (i := 2) (d := some 18) (v := ?v26) rfl rfl (by kernel_rfl) (by kernel_rfl) (by kernel_rfl) (fun _ _ _ h => h) (by rfl) ?y26 (by assumption) ?_
    case y26 => (intro w hSw; (try dsimp only at hSw); go_simp <;> with_reducible rfl)
    simp only [Act.put, List.setIfInBounds_toArray, List.set_cons_zero, List.set_cons_succ]
    refine takeH_no (i := 3) (d := some 19) rfl rfl (by kernel_rfl) (by kernel_rfl) (by kernel_rfl) (fun _ _ _ h => h) (by rfl) (by assumption) ?_
    simp only [Act.put, List.setIfInBounds_toArray, List.set_cons_zero, List.set_cons_succ]
    refine takeH_no (i := 4) (d := some 20) rfl rfl (by kernel_rfl) (by kernel_rfl) (by kernel_rfl) (fun _ _ _ h => h) (by rfl) (by assumption) ?_
    simp only [Act.put, List.setIfInBounds_toArray, List.set_cons_zero, List.set_cons_succ]
    refine takeH_no (i := 5) (d := some 21) rfl rfl (by kernel_rfl) (by kernel_rfl) (by kernel_rfl) (fun _ _ _ h => h) (by rfl) (by assumption) ?_
    simp only [Act.put, List.setIfInBounds_toArray, List.set_cons_zero, List.set_cons_succ]
    refine takeH_no (i := 6) (d := some 22) rfl rfl (by kernel_rfl) (by kernel_rfl) (by kernel_rfl) (fun _ _ _ h => h) (by rfl) (by assumption) ?_
    simp only [Act.put, List.setIfInBounds_toArray, List.set_cons_zero, List.set_cons_succ]
    refine takeH_no (i := 7) (d := some 23) rfl rfl (by kernel_rfl) (by kernel_rfl) (by kernel_rfl) (fun _ _ _ h => h) (by rfl) (by assumption) ?_
    simp only [Act.put, List.setIfInBounds_toArray, List.set_cons_zero, List.set_cons_succ]
    refine takeH_no (i := 8) (d := some 24) rfl rfl (by kernel_rfl) (by kernel_rfl) (by kernel_rfl) (fun _ _ _ h => h) (by rfl) (by assumption) ?_
    simp only [Act.put, List.setIfInBounds_toArray, List.set_cons_zero, List.set_cons_succ]
    refine takeH_no (i := 9) (d := some 25) rfl rfl (by kernel_rfl) (by kernel_rfl) (by kernel_rfl) (fun _ _ _ h => h) (by rfl) (by assumption) ?_
    simp only [Act.put, List.setIfInBounds_toArray, List.set_cons_zero, List.set_cons_succ]
    refine takeH_yes (i := 10) (d := some 26) (v := ?v27) rfl rfl (by kernel_rfl) (by kernel_rfl) (by kernel_rfl) (fun _ _ _ h => h) (by rfl) ?y27 (by assumption) ?_
    case y27 => (intro w hSw; (try dsimp only at hSw); go_simp <;> with_reducible rfl)
    simp only [Act.put, List.setIfInBounds_toArray, List.set_cons_zero, List.set_cons_succ]
    refine takeH_yes (i := 11) (d := some 2) (v := ?v28) rfl rfl (by kernel_rfl) (by kernel_rfl) (by kernel_rfl) (fun _ _ _ h => h) (by rfl) ?y28 (by assumption) ?_
    case y28 => (intro w hSw; (try dsimp only at hSw); go_simp <;> with_reducible rfl)
    simp only [Act.put, List.setIfInBounds_toArray, List.set_cons_zero, List.set_cons_succ]
    refine wpAnyH_done (by kernel_rfl) ?_ _
    have R1 := R0.out.below (Below.refl _ _).drew
    go_wp2_with fail
    go_ret
    exact ⟨by rw [HWH.out, Bool.false_and]; rfl, R1.bel⟩

end Go.Proofs.Ytoijomdgcgbpbaa
