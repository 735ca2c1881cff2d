/-
  Check, cut, and the laws' 'few': a header's own numbers.
-/
import Derived.Test.YtbaddhjlpahpkaaIp6Spec
import Derived.Test.YtbaddhjlpahpkaaBits
import Derived.Test.YtbaddhjlpahpkaaTake
namespace Go.Proofs.Ytbaddhjlpahpkaa
open Go.RowKit
set_option linter.unusedVariables false

set_option maxHeartbeats 400000 in
theorem few6_any (h : H6) (w : World) :
    Calls Try.prog 7 #[.agg h.cells] w fun e w' => e = .returned (.bool h.few) ∧ Below w.heap.size w w' := by
  have HF : Hid (h.few = (decide (h.src.size ≤ 300) && decide (h.dst.size ≤ 300))) := rfl
  generalize h.few = fw at *
  unfold H6.cells
  go_enter Try.func7, Try.ntmps7
  go_wp2_with fail
  all_goals
    go_ret
    refine ⟨?_, (Below.refl _ _).alloc (Nat.le_refl _) _⟩
    have e1 : decide (h.src.size ≤ 300) = decide ((h.src.size : Int) ≤ 300) := decide_eq_decide.2 (by omega)
    have e2 : decide (h.dst.size ≤ 300) = decide ((h.dst.size : Int) ≤ 300) := decide_eq_decide.2 (by omega)
    rw [HF.out, e1, e2]
    first
    | (simp only [decide_eq_true (show (h.src.size : Int) ≤ 300 by omega)]; rfl)
    | (simp only [decide_eq_false (show ¬ (h.src.size : Int) ≤ 300 by omega)]; rfl)

set_option maxHeartbeats 1000000 in
theorem cut6_any (h : H6) (w : World) :
    Calls Try.prog 25 #[.agg h.cells] w fun e w' => e = .returned (.agg h.cut.cells) ∧ Below w.heap.size w w' := by
  have m0 := i64_mask 8 (by decide) h.cls
  have m1 := i64_mask 20 (by decide) h.lab
  have m2 := i64_mask 8 (by decide) h.nxt
  have m3 := i64_mask 8 (by decide) h.hops
  simp only [show (2 ^ 8 - 1 : Nat) = 255 from rfl, show (2 ^ 8 : Nat) = 256 from rfl, show (2 ^ 20 - 1 : Nat) = 1048575 from rfl, show (2 ^ 20 : Nat) = 1048576 from rfl, Int.cast_ofNat_Int] at m0 m1 m2 m3
  unfold H6.cut H6.cells
  go_enter Try.func25, Try.ntmps25
  go_wp2_with fail
  have B := Blk.new (w.alloc (.cells h.cut.cells 23)) h.cut.cells 23
  rw [show (w.alloc (.cells h.cut.cells 23)).heap.size = w.heap.size + 1 from by simp] at B
  have ⟨c0, c1, c2, c3, c4, c5⟩ := Hc6.of B
  have L := ((Below.refl w.heap.size w).alloc (Nat.le_refl _) (.cells h.cut.cells 23)).alloc (by simp) (.cells h.cut.cells 23)
  unfold H6.cut H6.cells at c0 c1 c2 c3 c4 c5 L
  simp only at c0 c1 c2 c3 c4 c5
  refine ⟨rfl, .agg #[.int .i64 (h.cls % 256), .int .i64 (h.lab % 1048576), .int .i64 (h.nxt % 256), .int .i64 (h.hops % 256), .string h.src, .string h.dst], ?_, rfl, L⟩
  simp [results, Try.results25, go_sem, c0, c1, c2, c3, c4, c5]

/-- A header's block, and what was there. -/
structure Held6 (w W : World) (h : H6) : Prop where
  b : Blk W w.heap.size h.cells 23
  bel : Below w.heap.size w W
  lt : w.heap.size < W.heap.size
theorem Held6.new (w : World) (h : H6) : Held6 w (w.alloc (.cells h.cells 23)) h :=
  ⟨Blk.new w _ _, (Below.refl _ _).alloc (Nat.le_refl _) _, by simp⟩
theorem Held6.below {w W W' : World} {h : H6} (r : Held6 w W h) (hb : Below W.heap.size W W') : Held6 w W' h :=
  ⟨(hb.block _ r.b.lt).trans r.b, r.bel.trans (hb.mono r.bel.size), Nat.lt_of_lt_of_le r.lt hb.size⟩
theorem Held6.alloc {w W : World} {h : H6} (r : Held6 w W h) (o : Obj) : Held6 w (W.alloc o) h :=
  ⟨r.b.alloc o, r.bel.alloc r.bel.size o, by have := r.lt; simp; omega⟩
theorem Held6.drew {w W : World} {h : H6} (r : Held6 w W h) : Held6 w W.drew h := ⟨r.b.drew, ⟨r.bel.os, r.bel.tape, r.bel.output, r.bel.size, r.bel.block⟩, r.lt⟩
theorem Held6.drewN {w W : World} {h : H6} (r : Held6 w W h) (n : Nat) : Held6 w (W.drewN n) h := ⟨r.b.drewN n, below_drewN r.bel n, r.lt⟩
theorem Held6.kb {S : Nat → Prop} {w W W' : World} {h : H6} (r : Held6 w W h) (hk : Kb S W W') (hs : ∀ k, S k → w.heap.size < k) : Held6 w W' h :=
  ⟨r.b.kb hk (fun e => Nat.lt_irrefl _ (hs _ e)), r.bel.trans ⟨hk.os, hk.tape, hk.output, hk.size, fun k hk1 => hk.block k (Nat.lt_of_lt_of_le hk1 r.bel.size) (fun e => by have := hs _ e; omega)⟩, Nat.lt_of_lt_of_le r.lt hk.size⟩
theorem keep6 {w W W' : World} {h : H6} (hb : Below W.heap.size W W')
    (r : W.cell? ⟨w.heap.size, 0, none⟩ = some (.int .i64 h.cls) ∧ W.cell? ⟨w.heap.size, 1, none⟩ = some (.int .i64 h.lab) ∧ W.cell? ⟨w.heap.size, 2, none⟩ = some (.int .i64 h.nxt) ∧ W.cell? ⟨w.heap.size, 3, none⟩ = some (.int .i64 h.hops) ∧ W.cell? ⟨w.heap.size, 4, none⟩ = some (.string h.src) ∧ W.cell? ⟨w.heap.size, 5, none⟩ = some (.string h.dst) ∧ Hid (Held6 w W h)) :
    W'.cell? ⟨w.heap.size, 0, none⟩ = some (.int .i64 h.cls) ∧ W'.cell? ⟨w.heap.size, 1, none⟩ = some (.int .i64 h.lab) ∧ W'.cell? ⟨w.heap.size, 2, none⟩ = some (.int .i64 h.nxt) ∧ W'.cell? ⟨w.heap.size, 3, none⟩ = some (.int .i64 h.hops) ∧ W'.cell? ⟨w.heap.size, 4, none⟩ = some (.string h.src) ∧ W'.cell? ⟨w.heap.size, 5, none⟩ = some (.string h.dst) ∧ Hid (Held6 w W' h) := by
  have r2 := r.2.2.2.2.2.2.out.below hb
  have c := Hc6.of r2.b
  exact ⟨c.c0, c.c1, c.c2, c.c3, c.c4, c.c5, Lib.hid r2⟩

theorem H6.ways (h : H6) :
    ((h.cls == h.cls % 256) = false ∧ h.err = 1) ∨
    ((h.cls == h.cls % 256) = true ∧ (h.lab == h.lab % 1048576) = false ∧ h.err = 1) ∨
    ((h.cls == h.cls % 256) = true ∧ (h.lab == h.lab % 1048576) = true ∧ (h.nxt == h.nxt % 256) = false ∧ h.err = 1) ∨
    ((h.cls == h.cls % 256) = true ∧ (h.lab == h.lab % 1048576) = true ∧ (h.nxt == h.nxt % 256) = true ∧ (h.hops == h.hops % 256) = false ∧ h.err = 1) ∨
    ((h.cls == h.cls % 256) = true ∧ (h.lab == h.lab % 1048576) = true ∧ (h.nxt == h.nxt % 256) = true ∧ (h.hops == h.hops % 256) = true ∧ ((h.src.size : Int) != 16) = true ∧ h.err = 1) ∨
    ((h.cls == h.cls % 256) = true ∧ (h.lab == h.lab % 1048576) = true ∧ (h.nxt == h.nxt % 256) = true ∧ (h.hops == h.hops % 256) = true ∧ ((h.src.size : Int) != 16) = false ∧ ((h.dst.size : Int) != 16) = true ∧ h.err = 1) ∨
    ((h.cls == h.cls % 256) = true ∧ (h.lab == h.lab % 1048576) = true ∧ (h.nxt == h.nxt % 256) = true ∧ (h.hops == h.hops % 256) = true ∧ ((h.src.size : Int) != 16) = false ∧ ((h.dst.size : Int) != 16) = false ∧ h.err = 0) := by
  have no : ¬ h.Ok → h.err = 1 := fun hn => H6.err_no (by rw [← Bool.not_eq_true, H6.ok_iff]; exact hn)
  by_cases h0 : h.cls = h.cls % 256
  · by_cases h1 : h.lab = h.lab % 1048576
    · by_cases h2 : h.nxt = h.nxt % 256
      · by_cases h3 : h.hops = h.hops % 256
        · by_cases h4 : h.src.size = 16
          · by_cases h5 : h.dst.size = 16
            · refine Or.inr (Or.inr (Or.inr (Or.inr (Or.inr (Or.inr ⟨by simpa using h0, by simpa using h1, by simpa using h2, by simpa using h3, by simp; omega, by simp; omega, H6.err_ok ((H6.ok_iff h).2 ⟨by omega, by omega, by omega, by omega, h4, h5⟩)⟩)))))
            · exact Or.inr (Or.inr (Or.inr (Or.inr (Or.inr (Or.inl ⟨by simpa using h0, by simpa using h1, by simpa using h2, by simpa using h3, by simp; omega, by simp; omega, no fun k => h5 k.dst⟩)))))
          · exact Or.inr (Or.inr (Or.inr (Or.inr (Or.inl ⟨by simpa using h0, by simpa using h1, by simpa using h2, by simpa using h3, by simp; omega, no fun k => h4 k.src⟩))))
        · exact Or.inr (Or.inr (Or.inr (Or.inl ⟨by simpa using h0, by simpa using h1, by simpa using h2, by simpa using h3, no fun k => h3 (by have := k.hops; omega)⟩)))
      · exact Or.inr (Or.inr (Or.inl ⟨by simpa using h0, by simpa using h1, by simpa using h2, no fun k => h2 (by have := k.nxt; omega)⟩))
    · exact Or.inr (Or.inl ⟨by simpa using h0, by simpa using h1, no fun k => h1 (by have := k.lab; omega)⟩)
  · exact Or.inl ⟨by simpa using h0, no fun k => h0 (by have := k.cls; omega)⟩

set_option maxRecDepth 100000 in
set_option maxHeartbeats 2000000 in
theorem check6_any (h : H6) (w : World) :
    Calls Try.prog 12 #[.agg h.cells] w fun e w' => e = .returned (.int .i64 (h.err : Nat)) ∧ Below w.heap.size w w' := by
  have HC := Lib.hid (fun W => cut6_any h W)
  have S1 := Lib.hid (Held6.new w h)
  have c1' := Hc6.of S1.out.b
  unfold H6.cut at HC
  unfold H6.cells at HC S1 c1' ⊢
  simp only at HC
  have HW := Lib.hid h.ways
  generalize h.err = er at *
  go_enter Try.func12, Try.ntmps12
  go_wp2_with fail
  generalize w.alloc (.cells #[.int .i64 h.cls, .int .i64 h.lab, .int .i64 h.nxt, .int .i64 h.hops, .string h.src, .string h.dst] 23) = u0 at *
  obtain ⟨c0, c1, c2, c3, c4, c5⟩ := c1'
  generalize h.cls % 256 = m0 at *
  generalize h.lab % 1048576 = m1 at *
  generalize h.nxt % 256 = m2 at *
  generalize h.hops % 256 = m3 at *
  rcases HW.out with ⟨t0, rfl⟩ | ⟨t0, t1, rfl⟩ | ⟨t0, t1, t2, rfl⟩ | ⟨t0, t1, t2, t3, rfl⟩ | ⟨t0, t1, t2, t3, t4, rfl⟩ | ⟨t0, t1, t2, t3, t4, t5, rfl⟩ | ⟨t0, t1, t2, t3, t4, t5, rfl⟩
  · refine wp_region_held_drew (S := (fun W => W.cell? ⟨w.heap.size, 0, none⟩ = some (.int .i64 h.cls) ∧ W.cell? ⟨w.heap.size, 1, none⟩ = some (.int .i64 h.lab) ∧ W.cell? ⟨w.heap.size, 2, none⟩ = some (.int .i64 h.nxt) ∧ W.cell? ⟨w.heap.size, 3, none⟩ = some (.int .i64 h.hops) ∧ W.cell? ⟨w.heap.size, 4, none⟩ = some (.string h.src) ∧ W.cell? ⟨w.heap.size, 5, none⟩ = some (.string h.dst) ∧ Hid (Held6 w W h))) (by kernel_rfl) ?_ (fun hHeld => ?_)
    · exact ⟨c0, c1, c2, c3, c4, c5, Lib.hid S1.out.drew⟩
    refine takeH_yes (i := 0) (d := some 3) (v := ?v0) rfl rfl (by kernel_rfl) (by kernel_rfl) (by kernel_rfl) (fun _ _ _ h => h) (by rfl) ?y0 (by assumption) ?_
    case y0 => (intro w hSw; (try dsimp only at hSw); go_simp <;> with_reducible rfl)
    simp only [Act.put, List.setIfInBounds_toArray, List.set_cons_zero, List.set_cons_succ]
    refine takeH_yes (i := 1) (d := some 4) (v := ?v1) rfl rfl (by kernel_rfl) (by kernel_rfl) (by kernel_rfl) (fun _ _ _ h => h) (by rfl) ?y1 (by assumption) ?_
    case y1 => (intro w hSw; (try dsimp only at hSw); go_simp <;> with_reducible rfl)
    simp only [Act.put, List.setIfInBounds_toArray, List.set_cons_zero, List.set_cons_succ]
    refine wpAnyH_ready (rs := [2]) (by kernel_rfl) (by simp) ?_
    refine AllReadyH.cons rfl (fun K hK => ?_) AllReadyH.nil
    go_simp
    refine (HC.out _).mono ?_
    rintro e w' ⟨rfl, hb⟩
    refine hK.out _ _ ?_ (fun held2 => ?_)
    · exact keep6 hb hHeld
    clear hK K
    try simp only [Act.put, List.setIfInBounds_toArray, List.set_cons_zero, List.set_cons_succ]
    refine takeH_yes (i := 3) (d := some 6) (v := .bool true) rfl rfl (by kernel_rfl) (by kernel_rfl) (by kernel_rfl) (fun _ _ _ h => h) (by rfl) ?y3 (by assumption) ?_
    case y3 => (intro w hSw; (try dsimp only at hSw); go_simp <;> with_reducible rfl)
    simp only [Act.put, List.setIfInBounds_toArray, List.set_cons_zero, List.set_cons_succ]
    refine takeH_yes (i := 4) (d := some 7) (v := .bool true) rfl rfl (by kernel_rfl) (by kernel_rfl) (by kernel_rfl) (fun _ _ _ h => h) (by rfl) ?y4 (by assumption) ?_
    case y4 => (intro w hSw; (try dsimp only at hSw); go_simp <;> with_reducible rfl)
    simp only [Act.put, List.setIfInBounds_toArray, List.set_cons_zero, List.set_cons_succ]
    refine takeH_no (i := 5) (d := some 8) rfl rfl (by kernel_rfl) (by kernel_rfl) (by kernel_rfl) (fun _ _ _ h => h) (by rfl) (by assumption) ?_
    simp only [Act.put, List.setIfInBounds_toArray, List.set_cons_zero, List.set_cons_succ]
    refine takeH_no (i := 6) (d := some 9) rfl rfl (by kernel_rfl) (by kernel_rfl) (by kernel_rfl) (fun _ _ _ h => h) (by rfl) (by assumption) ?_
    simp only [Act.put, List.setIfInBounds_toArray, List.set_cons_zero, List.set_cons_succ]
    refine takeH_no (i := 7) (d := some 10) rfl rfl (by kernel_rfl) (by kernel_rfl) (by kernel_rfl) (fun _ _ _ h => h) (by rfl) (by assumption) ?_
    simp only [Act.put, List.setIfInBounds_toArray, List.set_cons_zero, List.set_cons_succ]
    refine takeH_no (i := 8) (d := some 11) rfl rfl (by kernel_rfl) (by kernel_rfl) (by kernel_rfl) (fun _ _ _ h => h) (by rfl) (by assumption) ?_
    simp only [Act.put, List.setIfInBounds_toArray, List.set_cons_zero, List.set_cons_succ]
    refine takeH_yes (i := 9) (d := some 12) (v := .bool true) rfl rfl (by kernel_rfl) (by kernel_rfl) (by kernel_rfl) (fun _ _ _ h => h) (by rfl) ?y9 (by assumption) ?_
    case y9 => (intro w hSw; (try dsimp only at hSw); go_simp <;> with_reducible rfl)
    simp only [Act.put, List.setIfInBounds_toArray, List.set_cons_zero, List.set_cons_succ]
    refine takeH_yes (i := 10) (d := some 13) (v := .bool true) rfl rfl (by kernel_rfl) (by kernel_rfl) (by kernel_rfl) (fun _ _ _ h => h) (by rfl) ?y10 (by assumption) ?_
    case y10 => (intro w hSw; (try dsimp only at hSw); go_simp <;> with_reducible rfl)
    simp only [Act.put, List.setIfInBounds_toArray, List.set_cons_zero, List.set_cons_succ]
    refine takeH_no (i := 11) (d := some 14) rfl rfl (by kernel_rfl) (by kernel_rfl) (by kernel_rfl) (fun _ _ _ h => h) (by rfl) (by assumption) ?_
    simp only [Act.put, List.setIfInBounds_toArray, List.set_cons_zero, List.set_cons_succ]
    refine takeH_no (i := 12) (d := some 15) rfl rfl (by kernel_rfl) (by kernel_rfl) (by kernel_rfl) (fun _ _ _ h => h) (by rfl) (by assumption) ?_
    simp only [Act.put, List.setIfInBounds_toArray, List.set_cons_zero, List.set_cons_succ]
    refine takeH_no (i := 13) (d := some 16) rfl rfl (by kernel_rfl) (by kernel_rfl) (by kernel_rfl) (fun _ _ _ h => h) (by rfl) (by assumption) ?_
    simp only [Act.put, List.setIfInBounds_toArray, List.set_cons_zero, List.set_cons_succ]
    refine takeH_no (i := 14) (d := some 17) rfl rfl (by kernel_rfl) (by kernel_rfl) (by kernel_rfl) (fun _ _ _ h => h) (by rfl) (by assumption) ?_
    simp only [Act.put, List.setIfInBounds_toArray, List.set_cons_zero, List.set_cons_succ]
    refine takeH_yes (i := 15) (d := some 18) (v := .bool true) rfl rfl (by kernel_rfl) (by kernel_rfl) (by kernel_rfl) (fun _ _ _ h => h) (by rfl) ?y15 (by assumption) ?_
    case y15 => (intro w hSw; (try dsimp only at hSw); go_simp <;> with_reducible rfl)
    simp only [Act.put, List.setIfInBounds_toArray, List.set_cons_zero, List.set_cons_succ]
    refine wpAnyH_done (by kernel_rfl) ?_ _
    have S2 := held2.2.2.2.2.2.2
    clear held2 hHeld c0 c1 c2 c3 c4 c5 S1 HC HW
    go_wp2_with fail
    go_ret
    exact ⟨rfl, S2.out.bel⟩
  · refine wp_region_held_drew (S := (fun W => W.cell? ⟨w.heap.size, 0, none⟩ = some (.int .i64 h.cls) ∧ W.cell? ⟨w.heap.size, 1, none⟩ = some (.int .i64 h.lab) ∧ W.cell? ⟨w.heap.size, 2, none⟩ = some (.int .i64 h.nxt) ∧ W.cell? ⟨w.heap.size, 3, none⟩ = some (.int .i64 h.hops) ∧ W.cell? ⟨w.heap.size, 4, none⟩ = some (.string h.src) ∧ W.cell? ⟨w.heap.size, 5, none⟩ = some (.string h.dst) ∧ Hid (Held6 w W h))) (by kernel_rfl) ?_ (fun hHeld => ?_)
    · exact ⟨c0, c1, c2, c3, c4, c5, Lib.hid S1.out.drew⟩
    refine takeH_yes (i := 0) (d := some 3) (v := ?v0) rfl rfl (by kernel_rfl) (by kernel_rfl) (by kernel_rfl) (fun _ _ _ h => h) (by rfl) ?y0 (by assumption) ?_
    case y0 => (intro w hSw; (try dsimp only at hSw); go_simp <;> with_reducible rfl)
    simp only [Act.put, List.setIfInBounds_toArray, List.set_cons_zero, List.set_cons_succ]
    refine takeH_yes (i := 1) (d := some 4) (v := ?v1) rfl rfl (by kernel_rfl) (by kernel_rfl) (by kernel_rfl) (fun _ _ _ h => h) (by rfl) ?y1 (by assumption) ?_
    case y1 => (intro w hSw; (try dsimp only at hSw); go_simp <;> with_reducible rfl)
    simp only [Act.put, List.setIfInBounds_toArray, List.set_cons_zero, List.set_cons_succ]
    refine wpAnyH_ready (rs := [2]) (by kernel_rfl) (by simp) ?_
    refine AllReadyH.cons rfl (fun K hK => ?_) AllReadyH.nil
    go_simp
    refine (HC.out _).mono ?_
    rintro e w' ⟨rfl, hb⟩
    refine hK.out _ _ ?_ (fun held2 => ?_)
    · exact keep6 hb hHeld
    clear hK K
    try simp only [Act.put, List.setIfInBounds_toArray, List.set_cons_zero, List.set_cons_succ]
    refine takeH_yes (i := 3) (d := some 6) (v := .bool true) rfl rfl (by kernel_rfl) (by kernel_rfl) (by kernel_rfl) (fun _ _ _ h => h) (by rfl) ?y3 (by assumption) ?_
    case y3 => (intro w hSw; (try dsimp only at hSw); go_simp <;> with_reducible rfl)
    simp only [Act.put, List.setIfInBounds_toArray, List.set_cons_zero, List.set_cons_succ]
    refine takeH_yes (i := 4) (d := some 7) (v := .bool true) rfl rfl (by kernel_rfl) (by kernel_rfl) (by kernel_rfl) (fun _ _ _ h => h) (by rfl) ?y4 (by assumption) ?_
    case y4 => (intro w hSw; (try dsimp only at hSw); go_simp <;> with_reducible rfl)
    simp only [Act.put, List.setIfInBounds_toArray, List.set_cons_zero, List.set_cons_succ]
    refine takeH_no (i := 5) (d := some 8) rfl rfl (by kernel_rfl) (by kernel_rfl) (by kernel_rfl) (fun _ _ _ h => h) (by rfl) (by assumption) ?_
    simp only [Act.put, List.setIfInBounds_toArray, List.set_cons_zero, List.set_cons_succ]
    refine takeH_no (i := 6) (d := some 9) rfl rfl (by kernel_rfl) (by kernel_rfl) (by kernel_rfl) (fun _ _ _ h => h) (by rfl) (by assumption) ?_
    simp only [Act.put, List.setIfInBounds_toArray, List.set_cons_zero, List.set_cons_succ]
    refine takeH_no (i := 7) (d := some 10) rfl rfl (by kernel_rfl) (by kernel_rfl) (by kernel_rfl) (fun _ _ _ h => h) (by rfl) (by assumption) ?_
    simp only [Act.put, List.setIfInBounds_toArray, List.set_cons_zero, List.set_cons_succ]
    refine takeH_no (i := 8) (d := some 11) rfl rfl (by kernel_rfl) (by kernel_rfl) (by kernel_rfl) (fun _ _ _ h => h) (by rfl) (by assumption) ?_
    simp only [Act.put, List.setIfInBounds_toArray, List.set_cons_zero, List.set_cons_succ]
    refine takeH_yes (i := 9) (d := some 12) (v := .bool true) rfl rfl (by kernel_rfl) (by kernel_rfl) (by kernel_rfl) (fun _ _ _ h => h) (by rfl) ?y9 (by assumption) ?_
    case y9 => (intro w hSw; (try dsimp only at hSw); go_simp <;> with_reducible rfl)
    simp only [Act.put, List.setIfInBounds_toArray, List.set_cons_zero, List.set_cons_succ]
    refine takeH_yes (i := 10) (d := some 13) (v := .bool true) rfl rfl (by kernel_rfl) (by kernel_rfl) (by kernel_rfl) (fun _ _ _ h => h) (by rfl) ?y10 (by assumption) ?_
    case y10 => (intro w hSw; (try dsimp only at hSw); go_simp <;> with_reducible rfl)
    simp only [Act.put, List.setIfInBounds_toArray, List.set_cons_zero, List.set_cons_succ]
    refine takeH_no (i := 11) (d := some 14) rfl rfl (by kernel_rfl) (by kernel_rfl) (by kernel_rfl) (fun _ _ _ h => h) (by rfl) (by assumption) ?_
    simp only [Act.put, List.setIfInBounds_toArray, List.set_cons_zero, List.set_cons_succ]
    refine takeH_no (i := 12) (d := some 15) rfl rfl (by kernel_rfl) (by kernel_rfl) (by kernel_rfl) (fun _ _ _ h => h) (by rfl) (by assumption) ?_
    simp only [Act.put, List.setIfInBounds_toArray, List.set_cons_zero, List.set_cons_succ]
    refine takeH_no (i := 13) (d := some 16) rfl rfl (by kernel_rfl) (by kernel_rfl) (by kernel_rfl) (fun _ _ _ h => h) (by rfl) (by assumption) ?_
    simp only [Act.put, List.setIfInBounds_toArray, List.set_cons_zero, List.set_cons_succ]
    refine takeH_no (i := 14) (d := some 17) rfl rfl (by kernel_rfl) (by kernel_rfl) (by kernel_rfl) (fun _ _ _ h => h) (by rfl) (by assumption) ?_
    simp only [Act.put, List.setIfInBounds_toArray, List.set_cons_zero, List.set_cons_succ]
    refine takeH_yes (i := 15) (d := some 18) (v := .bool true) rfl rfl (by kernel_rfl) (by kernel_rfl) (by kernel_rfl) (fun _ _ _ h => h) (by rfl) ?y15 (by assumption) ?_
    case y15 => (intro w hSw; (try dsimp only at hSw); go_simp <;> with_reducible rfl)
    simp only [Act.put, List.setIfInBounds_toArray, List.set_cons_zero, List.set_cons_succ]
    refine wpAnyH_done (by kernel_rfl) ?_ _
    have S2 := held2.2.2.2.2.2.2
    clear held2 hHeld c0 c1 c2 c3 c4 c5 S1 HC HW
    go_wp2_with fail
    go_ret
    exact ⟨rfl, S2.out.bel⟩
  · refine wp_region_held_drew (S := (fun W => W.cell? ⟨w.heap.size, 0, none⟩ = some (.int .i64 h.cls) ∧ W.cell? ⟨w.heap.size, 1, none⟩ = some (.int .i64 h.lab) ∧ W.cell? ⟨w.heap.size, 2, none⟩ = some (.int .i64 h.nxt) ∧ W.cell? ⟨w.heap.size, 3, none⟩ = some (.int .i64 h.hops) ∧ W.cell? ⟨w.heap.size, 4, none⟩ = some (.string h.src) ∧ W.cell? ⟨w.heap.size, 5, none⟩ = some (.string h.dst) ∧ Hid (Held6 w W h))) (by kernel_rfl) ?_ (fun hHeld => ?_)
    · exact ⟨c0, c1, c2, c3, c4, c5, Lib.hid S1.out.drew⟩
    refine takeH_yes (i := 0) (d := some 3) (v := ?v0) rfl rfl (by kernel_rfl) (by kernel_rfl) (by kernel_rfl) (fun _ _ _ h => h) (by rfl) ?y0 (by assumption) ?_
    case y0 => (intro w hSw; (try dsimp only at hSw); go_simp <;> with_reducible rfl)
    simp only [Act.put, List.setIfInBounds_toArray, List.set_cons_zero, List.set_cons_succ]
    refine takeH_yes (i := 1) (d := some 4) (v := ?v1) rfl rfl (by kernel_rfl) (by kernel_rfl) (by kernel_rfl) (fun _ _ _ h => h) (by rfl) ?y1 (by assumption) ?_
    case y1 => (intro w hSw; (try dsimp only at hSw); go_simp <;> with_reducible rfl)
    simp only [Act.put, List.setIfInBounds_toArray, List.set_cons_zero, List.set_cons_succ]
    refine wpAnyH_ready (rs := [2]) (by kernel_rfl) (by simp) ?_
    refine AllReadyH.cons rfl (fun K hK => ?_) AllReadyH.nil
    go_simp
    refine (HC.out _).mono ?_
    rintro e w' ⟨rfl, hb⟩
    refine hK.out _ _ ?_ (fun held2 => ?_)
    · exact keep6 hb hHeld
    clear hK K
    try simp only [Act.put, List.setIfInBounds_toArray, List.set_cons_zero, List.set_cons_succ]
    refine takeH_yes (i := 3) (d := some 6) (v := .bool true) rfl rfl (by kernel_rfl) (by kernel_rfl) (by kernel_rfl) (fun _ _ _ h => h) (by rfl) ?y3 (by assumption) ?_
    case y3 => (intro w hSw; (try dsimp only at hSw); go_simp <;> with_reducible rfl)
    simp only [Act.put, List.setIfInBounds_toArray, List.set_cons_zero, List.set_cons_succ]
    refine takeH_yes (i := 4) (d := some 7) (v := .bool true) rfl rfl (by kernel_rfl) (by kernel_rfl) (by kernel_rfl) (fun _ _ _ h => h) (by rfl) ?y4 (by assumption) ?_
    case y4 => (intro w hSw; (try dsimp only at hSw); go_simp <;> with_reducible rfl)
    simp only [Act.put, List.setIfInBounds_toArray, List.set_cons_zero, List.set_cons_succ]
    refine takeH_no (i := 5) (d := some 8) rfl rfl (by kernel_rfl) (by kernel_rfl) (by kernel_rfl) (fun _ _ _ h => h) (by rfl) (by assumption) ?_
    simp only [Act.put, List.setIfInBounds_toArray, List.set_cons_zero, List.set_cons_succ]
    refine takeH_no (i := 6) (d := some 9) rfl rfl (by kernel_rfl) (by kernel_rfl) (by kernel_rfl) (fun _ _ _ h => h) (by rfl) (by assumption) ?_
    simp only [Act.put, List.setIfInBounds_toArray, List.set_cons_zero, List.set_cons_succ]
    refine takeH_no (i := 7) (d := some 10) rfl rfl (by kernel_rfl) (by kernel_rfl) (by kernel_rfl) (fun _ _ _ h => h) (by rfl) (by assumption) ?_
    simp only [Act.put, List.setIfInBounds_toArray, List.set_cons_zero, List.set_cons_succ]
    refine takeH_no (i := 8) (d := some 11) rfl rfl (by kernel_rfl) (by kernel_rfl) (by kernel_rfl) (fun _ _ _ h => h) (by rfl) (by assumption) ?_
    simp only [Act.put, List.setIfInBounds_toArray, List.set_cons_zero, List.set_cons_succ]
    refine takeH_yes (i := 9) (d := some 12) (v := .bool true) rfl rfl (by kernel_rfl) (by kernel_rfl) (by kernel_rfl) (fun _ _ _ h => h) (by rfl) ?y9 (by assumption) ?_
    case y9 => (intro w hSw; (try dsimp only at hSw); go_simp <;> with_reducible rfl)
    simp only [Act.put, List.setIfInBounds_toArray, List.set_cons_zero, List.set_cons_succ]
    refine takeH_yes (i := 10) (d := some 13) (v := .bool true) rfl rfl (by kernel_rfl) (by kernel_rfl) (by kernel_rfl) (fun _ _ _ h => h) (by rfl) ?y10 (by assumption) ?_
    case y10 => (intro w hSw; (try dsimp only at hSw); go_simp <;> with_reducible rfl)
    simp only [Act.put, List.setIfInBounds_toArray, List.set_cons_zero, List.set_cons_succ]
    refine takeH_no (i := 11) (d := some 14) rfl rfl (by kernel_rfl) (by kernel_rfl) (by kernel_rfl) (fun _ _ _ h => h) (by rfl) (by assumption) ?_
    simp only [Act.put, List.setIfInBounds_toArray, List.set_cons_zero, List.set_cons_succ]
    refine takeH_no (i := 12) (d := some 15) rfl rfl (by kernel_rfl) (by kernel_rfl) (by kernel_rfl) (fun _ _ _ h => h) (by rfl) (by assumption) ?_
    simp only [Act.put, List.setIfInBounds_toArray, List.set_cons_zero, List.set_cons_succ]
    refine takeH_no (i := 13) (d := some 16) rfl rfl (by kernel_rfl) (by kernel_rfl) (by kernel_rfl) (fun _ _ _ h => h) (by rfl) (by assumption) ?_
    simp only [Act.put, List.setIfInBounds_toArray, List.set_cons_zero, List.set_cons_succ]
    refine takeH_no (i := 14) (d := some 17) rfl rfl (by kernel_rfl) (by kernel_rfl) (by kernel_rfl) (fun _ _ _ h => h) (by rfl) (by assumption) ?_
    simp only [Act.put, List.setIfInBounds_toArray, List.set_cons_zero, List.set_cons_succ]
    refine takeH_yes (i := 15) (d := some 18) (v := .bool true) rfl rfl (by kernel_rfl) (by kernel_rfl) (by kernel_rfl) (fun _ _ _ h => h) (by rfl) ?y15 (by assumption) ?_
    case y15 => (intro w hSw; (try dsimp only at hSw); go_simp <;> with_reducible rfl)
    simp only [Act.put, List.setIfInBounds_toArray, List.set_cons_zero, List.set_cons_succ]
    refine wpAnyH_done (by kernel_rfl) ?_ _
    have S2 := held2.2.2.2.2.2.2
    clear held2 hHeld c0 c1 c2 c3 c4 c5 S1 HC HW
    go_wp2_with fail
    go_ret
    exact ⟨rfl, S2.out.bel⟩
  · refine wp_region_held_drew (S := (fun W => W.cell? ⟨w.heap.size, 0, none⟩ = some (.int .i64 h.cls) ∧ W.cell? ⟨w.heap.size, 1, none⟩ = some (.int .i64 h.lab) ∧ W.cell? ⟨w.heap.size, 2, none⟩ = some (.int .i64 h.nxt) ∧ W.cell? ⟨w.heap.size, 3, none⟩ = some (.int .i64 h.hops) ∧ W.cell? ⟨w.heap.size, 4, none⟩ = some (.string h.src) ∧ W.cell? ⟨w.heap.size, 5, none⟩ = some (.string h.dst) ∧ Hid (Held6 w W h))) (by kernel_rfl) ?_ (fun hHeld => ?_)
    · exact ⟨c0, c1, c2, c3, c4, c5, Lib.hid S1.out.drew⟩
    refine takeH_yes (i := 0) (d := some 3) (v := ?v0) rfl rfl (by kernel_rfl) (by kernel_rfl) (by kernel_rfl) (fun _ _ _ h => h) (by rfl) ?y0 (by assumption) ?_
    case y0 => (intro w hSw; (try dsimp only at hSw); go_simp <;> with_reducible rfl)
    simp only [Act.put, List.setIfInBounds_toArray, List.set_cons_zero, List.set_cons_succ]
    refine takeH_yes (i := 1) (d := some 4) (v := ?v1) rfl rfl (by kernel_rfl) (by kernel_rfl) (by kernel_rfl) (fun _ _ _ h => h) (by rfl) ?y1 (by assumption) ?_
    case y1 => (intro w hSw; (try dsimp only at hSw); go_simp <;> with_reducible rfl)
    simp only [Act.put, List.setIfInBounds_toArray, List.set_cons_zero, List.set_cons_succ]
    refine wpAnyH_ready (rs := [2]) (by kernel_rfl) (by simp) ?_
    refine AllReadyH.cons rfl (fun K hK => ?_) AllReadyH.nil
    go_simp
    refine (HC.out _).mono ?_
    rintro e w' ⟨rfl, hb⟩
    refine hK.out _ _ ?_ (fun held2 => ?_)
    · exact keep6 hb hHeld
    clear hK K
    try simp only [Act.put, List.setIfInBounds_toArray, List.set_cons_zero, List.set_cons_succ]
    refine takeH_yes (i := 3) (d := some 6) (v := .bool true) rfl rfl (by kernel_rfl) (by kernel_rfl) (by kernel_rfl) (fun _ _ _ h => h) (by rfl) ?y3 (by assumption) ?_
    case y3 => (intro w hSw; (try dsimp only at hSw); go_simp <;> with_reducible rfl)
    simp only [Act.put, List.setIfInBounds_toArray, List.set_cons_zero, List.set_cons_succ]
    refine takeH_yes (i := 4) (d := some 7) (v := .bool true) rfl rfl (by kernel_rfl) (by kernel_rfl) (by kernel_rfl) (fun _ _ _ h => h) (by rfl) ?y4 (by assumption) ?_
    case y4 => (intro w hSw; (try dsimp only at hSw); go_simp <;> with_reducible rfl)
    simp only [Act.put, List.setIfInBounds_toArray, List.set_cons_zero, List.set_cons_succ]
    refine takeH_no (i := 5) (d := some 8) rfl rfl (by kernel_rfl) (by kernel_rfl) (by kernel_rfl) (fun _ _ _ h => h) (by rfl) (by assumption) ?_
    simp only [Act.put, List.setIfInBounds_toArray, List.set_cons_zero, List.set_cons_succ]
    refine takeH_no (i := 6) (d := some 9) rfl rfl (by kernel_rfl) (by kernel_rfl) (by kernel_rfl) (fun _ _ _ h => h) (by rfl) (by assumption) ?_
    simp only [Act.put, List.setIfInBounds_toArray, List.set_cons_zero, List.set_cons_succ]
    refine takeH_no (i := 7) (d := some 10) rfl rfl (by kernel_rfl) (by kernel_rfl) (by kernel_rfl) (fun _ _ _ h => h) (by rfl) (by assumption) ?_
    simp only [Act.put, List.setIfInBounds_toArray, List.set_cons_zero, List.set_cons_succ]
    refine takeH_no (i := 8) (d := some 11) rfl rfl (by kernel_rfl) (by kernel_rfl) (by kernel_rfl) (fun _ _ _ h => h) (by rfl) (by assumption) ?_
    simp only [Act.put, List.setIfInBounds_toArray, List.set_cons_zero, List.set_cons_succ]
    refine takeH_yes (i := 9) (d := some 12) (v := .bool true) rfl rfl (by kernel_rfl) (by kernel_rfl) (by kernel_rfl) (fun _ _ _ h => h) (by rfl) ?y9 (by assumption) ?_
    case y9 => (intro w hSw; (try dsimp only at hSw); go_simp <;> with_reducible rfl)
    simp only [Act.put, List.setIfInBounds_toArray, List.set_cons_zero, List.set_cons_succ]
    refine takeH_yes (i := 10) (d := some 13) (v := .bool true) rfl rfl (by kernel_rfl) (by kernel_rfl) (by kernel_rfl) (fun _ _ _ h => h) (by rfl) ?y10 (by assumption) ?_
    case y10 => (intro w hSw; (try dsimp only at hSw); go_simp <;> with_reducible rfl)
    simp only [Act.put, List.setIfInBounds_toArray, List.set_cons_zero, List.set_cons_succ]
    refine takeH_no (i := 11) (d := some 14) rfl rfl (by kernel_rfl) (by kernel_rfl) (by kernel_rfl) (fun _ _ _ h => h) (by rfl) (by assumption) ?_
    simp only [Act.put, List.setIfInBounds_toArray, List.set_cons_zero, List.set_cons_succ]
    refine takeH_no (i := 12) (d := some 15) rfl rfl (by kernel_rfl) (by kernel_rfl) (by kernel_rfl) (fun _ _ _ h => h) (by rfl) (by assumption) ?_
    simp only [Act.put, List.setIfInBounds_toArray, List.set_cons_zero, List.set_cons_succ]
    refine takeH_no (i := 13) (d := some 16) rfl rfl (by kernel_rfl) (by kernel_rfl) (by kernel_rfl) (fun _ _ _ h => h) (by rfl) (by assumption) ?_
    simp only [Act.put, List.setIfInBounds_toArray, List.set_cons_zero, List.set_cons_succ]
    refine takeH_no (i := 14) (d := some 17) rfl rfl (by kernel_rfl) (by kernel_rfl) (by kernel_rfl) (fun _ _ _ h => h) (by rfl) (by assumption) ?_
    simp only [Act.put, List.setIfInBounds_toArray, List.set_cons_zero, List.set_cons_succ]
    refine takeH_yes (i := 15) (d := some 18) (v := .bool true) rfl rfl (by kernel_rfl) (by kernel_rfl) (by kernel_rfl) (fun _ _ _ h => h) (by rfl) ?y15 (by assumption) ?_
    case y15 => (intro w hSw; (try dsimp only at hSw); go_simp <;> with_reducible rfl)
    simp only [Act.put, List.setIfInBounds_toArray, List.set_cons_zero, List.set_cons_succ]
    refine wpAnyH_done (by kernel_rfl) ?_ _
    have S2 := held2.2.2.2.2.2.2
    clear held2 hHeld c0 c1 c2 c3 c4 c5 S1 HC HW
    go_wp2_with fail
    go_ret
    exact ⟨rfl, S2.out.bel⟩
  · refine wp_region_held_drew (S := (fun W => W.cell? ⟨w.heap.size, 0, none⟩ = some (.int .i64 h.cls) ∧ W.cell? ⟨w.heap.size, 1, none⟩ = some (.int .i64 h.lab) ∧ W.cell? ⟨w.heap.size, 2, none⟩ = some (.int .i64 h.nxt) ∧ W.cell? ⟨w.heap.size, 3, none⟩ = some (.int .i64 h.hops) ∧ W.cell? ⟨w.heap.size, 4, none⟩ = some (.string h.src) ∧ W.cell? ⟨w.heap.size, 5, none⟩ = some (.string h.dst) ∧ Hid (Held6 w W h))) (by kernel_rfl) ?_ (fun hHeld => ?_)
    · exact ⟨c0, c1, c2, c3, c4, c5, Lib.hid S1.out.drew⟩
    refine takeH_yes (i := 0) (d := some 3) (v := ?v0) rfl rfl (by kernel_rfl) (by kernel_rfl) (by kernel_rfl) (fun _ _ _ h => h) (by rfl) ?y0 (by assumption) ?_
    case y0 => (intro w hSw; (try dsimp only at hSw); go_simp <;> with_reducible rfl)
    simp only [Act.put, List.setIfInBounds_toArray, List.set_cons_zero, List.set_cons_succ]
    refine takeH_yes (i := 1) (d := some 4) (v := ?v1) rfl rfl (by kernel_rfl) (by kernel_rfl) (by kernel_rfl) (fun _ _ _ h => h) (by rfl) ?y1 (by assumption) ?_
    case y1 => (intro w hSw; (try dsimp only at hSw); go_simp <;> with_reducible rfl)
    simp only [Act.put, List.setIfInBounds_toArray, List.set_cons_zero, List.set_cons_succ]
    refine wpAnyH_ready (rs := [2]) (by kernel_rfl) (by simp) ?_
    refine AllReadyH.cons rfl (fun K hK => ?_) AllReadyH.nil
    go_simp
    refine (HC.out _).mono ?_
    rintro e w' ⟨rfl, hb⟩
    refine hK.out _ _ ?_ (fun held2 => ?_)
    · exact keep6 hb hHeld
    clear hK K
    try simp only [Act.put, List.setIfInBounds_toArray, List.set_cons_zero, List.set_cons_succ]
    refine takeH_yes (i := 3) (d := some 6) (v := .bool false) rfl rfl (by kernel_rfl) (by kernel_rfl) (by kernel_rfl) (fun _ _ _ h => h) (by rfl) ?y3 (by assumption) ?_
    case y3 => (intro w hSw; (try dsimp only at hSw); go_simp <;> with_reducible rfl)
    simp only [Act.put, List.setIfInBounds_toArray, List.set_cons_zero, List.set_cons_succ]
    refine takeH_yes (i := 4) (d := some 7) (v := .bool false) rfl rfl (by kernel_rfl) (by kernel_rfl) (by kernel_rfl) (fun _ _ _ h => h) (by rfl) ?y4 (by assumption) ?_
    case y4 => (intro w hSw; (try dsimp only at hSw); go_simp <;> with_reducible rfl)
    simp only [Act.put, List.setIfInBounds_toArray, List.set_cons_zero, List.set_cons_succ]
    refine takeH_yes (i := 5) (d := some 8) (v := ?v5) rfl rfl (by kernel_rfl) (by kernel_rfl) (by kernel_rfl) (fun _ _ _ h => h) (by rfl) ?y5 (by assumption) ?_
    case y5 => (intro w hSw; (try dsimp only at hSw); go_simp <;> with_reducible rfl)
    simp only [Act.put, List.setIfInBounds_toArray, List.set_cons_zero, List.set_cons_succ]
    refine takeH_yes (i := 6) (d := some 9) (v := ?v6) rfl rfl (by kernel_rfl) (by kernel_rfl) (by kernel_rfl) (fun _ _ _ h => h) (by rfl) ?y6 (by assumption) ?_
    case y6 => (intro w hSw; (try dsimp only at hSw); go_simp <;> with_reducible rfl)
    simp only [Act.put, List.setIfInBounds_toArray, List.set_cons_zero, List.set_cons_succ]
    refine takeH_yes (i := 7) (d := some 10) (v := ?v7) rfl rfl (by kernel_rfl) (by kernel_rfl) (by kernel_rfl) (fun _ _ _ h => h) (by rfl) ?y7 (by assumption) ?_
    case y7 => (intro w hSw; (try dsimp only at hSw); go_simp <;> with_reducible rfl)
    simp only [Act.put, List.setIfInBounds_toArray, List.set_cons_zero, List.set_cons_succ]
    refine takeH_yes (i := 8) (d := some 11) (v := .bool true) rfl rfl (by kernel_rfl) (by kernel_rfl) (by kernel_rfl) (fun _ _ _ h => h) (by rfl) ?y8 (by assumption) ?_
    case y8 => (intro w hSw; (try dsimp only at hSw); go_simp <;> with_reducible rfl)
    simp only [Act.put, List.setIfInBounds_toArray, List.set_cons_zero, List.set_cons_succ]
    refine takeH_yes (i := 9) (d := some 12) (v := .bool true) rfl rfl (by kernel_rfl) (by kernel_rfl) (by kernel_rfl) (fun _ _ _ h => h) (by rfl) ?y9 (by assumption) ?_
    case y9 => (intro w hSw; (try dsimp only at hSw); go_simp <;> with_reducible rfl)
    simp only [Act.put, List.setIfInBounds_toArray, List.set_cons_zero, List.set_cons_succ]
    refine takeH_yes (i := 10) (d := some 13) (v := .bool true) rfl rfl (by kernel_rfl) (by kernel_rfl) (by kernel_rfl) (fun _ _ _ h => h) (by rfl) ?y10 (by assumption) ?_
    case y10 => (intro w hSw; (try dsimp only at hSw); go_simp <;> with_reducible rfl)
    simp only [Act.put, List.setIfInBounds_toArray, List.set_cons_zero, List.set_cons_succ]
    refine takeH_no (i := 11) (d := some 14) rfl rfl (by kernel_rfl) (by kernel_rfl) (by kernel_rfl) (fun _ _ _ h => h) (by rfl) (by assumption) ?_
    simp only [Act.put, List.setIfInBounds_toArray, List.set_cons_zero, List.set_cons_succ]
    refine takeH_no (i := 12) (d := some 15) rfl rfl (by kernel_rfl) (by kernel_rfl) (by kernel_rfl) (fun _ _ _ h => h) (by rfl) (by assumption) ?_
    simp only [Act.put, List.setIfInBounds_toArray, List.set_cons_zero, List.set_cons_succ]
    refine takeH_no (i := 13) (d := some 16) rfl rfl (by kernel_rfl) (by kernel_rfl) (by kernel_rfl) (fun _ _ _ h => h) (by rfl) (by assumption) ?_
    simp only [Act.put, List.setIfInBounds_toArray, List.set_cons_zero, List.set_cons_succ]
    refine takeH_no (i := 14) (d := some 17) rfl rfl (by kernel_rfl) (by kernel_rfl) (by kernel_rfl) (fun _ _ _ h => h) (by rfl) (by assumption) ?_
    simp only [Act.put, List.setIfInBounds_toArray, List.set_cons_zero, List.set_cons_succ]
    refine takeH_yes (i := 15) (d := some 18) (v := .bool true) rfl rfl (by kernel_rfl) (by kernel_rfl) (by kernel_rfl) (fun _ _ _ h => h) (by rfl) ?y15 (by assumption) ?_
    case y15 => (intro w hSw; (try dsimp only at hSw); go_simp <;> with_reducible rfl)
    simp only [Act.put, List.setIfInBounds_toArray, List.set_cons_zero, List.set_cons_succ]
    refine wpAnyH_done (by kernel_rfl) ?_ _
    have S2 := held2.2.2.2.2.2.2
    clear held2 hHeld c0 c1 c2 c3 c4 c5 S1 HC HW
    go_wp2_with fail
    go_ret
    exact ⟨rfl, S2.out.bel⟩
  · refine wp_region_held_drew (S := (fun W => W.cell? ⟨w.heap.size, 0, none⟩ = some (.int .i64 h.cls) ∧ W.cell? ⟨w.heap.size, 1, none⟩ = some (.int .i64 h.lab) ∧ W.cell? ⟨w.heap.size, 2, none⟩ = some (.int .i64 h.nxt) ∧ W.cell? ⟨w.heap.size, 3, none⟩ = some (.int .i64 h.hops) ∧ W.cell? ⟨w.heap.size, 4, none⟩ = some (.string h.src) ∧ W.cell? ⟨w.heap.size, 5, none⟩ = some (.string h.dst) ∧ Hid (Held6 w W h))) (by kernel_rfl) ?_ (fun hHeld => ?_)
    · exact ⟨c0, c1, c2, c3, c4, c5, Lib.hid S1.out.drew⟩
    refine takeH_yes (i := 0) (d := some 3) (v := ?v0) rfl rfl (by kernel_rfl) (by kernel_rfl) (by kernel_rfl) (fun _ _ _ h => h) (by rfl) ?y0 (by assumption) ?_
    case y0 => (intro w hSw; (try dsimp only at hSw); go_simp <;> with_reducible rfl)
    simp only [Act.put, List.setIfInBounds_toArray, List.set_cons_zero, List.set_cons_succ]
    refine takeH_yes (i := 1) (d := some 4) (v := ?v1) rfl rfl (by kernel_rfl) (by kernel_rfl) (by kernel_rfl) (fun _ _ _ h => h) (by rfl) ?y1 (by assumption) ?_
    case y1 => (intro w hSw; (try dsimp only at hSw); go_simp <;> with_reducible rfl)
    simp only [Act.put, List.setIfInBounds_toArray, List.set_cons_zero, List.set_cons_succ]
    refine wpAnyH_ready (rs := [2]) (by kernel_rfl) (by simp) ?_
    refine AllReadyH.cons rfl (fun K hK => ?_) AllReadyH.nil
    go_simp
    refine (HC.out _).mono ?_
    rintro e w' ⟨rfl, hb⟩
    refine hK.out _ _ ?_ (fun held2 => ?_)
    · exact keep6 hb hHeld
    clear hK K
    try simp only [Act.put, List.setIfInBounds_toArray, List.set_cons_zero, List.set_cons_succ]
    refine takeH_yes (i := 3) (d := some 6) (v := .bool false) rfl rfl (by kernel_rfl) (by kernel_rfl) (by kernel_rfl) (fun _ _ _ h => h) (by rfl) ?y3 (by assumption) ?_
    case y3 => (intro w hSw; (try dsimp only at hSw); go_simp <;> with_reducible rfl)
    simp only [Act.put, List.setIfInBounds_toArray, List.set_cons_zero, List.set_cons_succ]
    refine takeH_yes (i := 4) (d := some 7) (v := .bool false) rfl rfl (by kernel_rfl) (by kernel_rfl) (by kernel_rfl) (fun _ _ _ h => h) (by rfl) ?y4 (by assumption) ?_
    case y4 => (intro w hSw; (try dsimp only at hSw); go_simp <;> with_reducible rfl)
    simp only [Act.put, List.setIfInBounds_toArray, List.set_cons_zero, List.set_cons_succ]
    refine takeH_yes (i := 5) (d := some 8) (v := ?v5) rfl rfl (by kernel_rfl) (by kernel_rfl) (by kernel_rfl) (fun _ _ _ h => h) (by rfl) ?y5 (by assumption) ?_
    case y5 => (intro w hSw; (try dsimp only at hSw); go_simp <;> with_reducible rfl)
    simp only [Act.put, List.setIfInBounds_toArray, List.set_cons_zero, List.set_cons_succ]
    refine takeH_yes (i := 6) (d := some 9) (v := ?v6) rfl rfl (by kernel_rfl) (by kernel_rfl) (by kernel_rfl) (fun _ _ _ h => h) (by rfl) ?y6 (by assumption) ?_
    case y6 => (intro w hSw; (try dsimp only at hSw); go_simp <;> with_reducible rfl)
    simp only [Act.put, List.setIfInBounds_toArray, List.set_cons_zero, List.set_cons_succ]
    refine takeH_yes (i := 7) (d := some 10) (v := ?v7) rfl rfl (by kernel_rfl) (by kernel_rfl) (by kernel_rfl) (fun _ _ _ h => h) (by rfl) ?y7 (by assumption) ?_
    case y7 => (intro w hSw; (try dsimp only at hSw); go_simp <;> with_reducible rfl)
    simp only [Act.put, List.setIfInBounds_toArray, List.set_cons_zero, List.set_cons_succ]
    refine takeH_yes (i := 8) (d := some 11) (v := .bool false) rfl rfl (by kernel_rfl) (by kernel_rfl) (by kernel_rfl) (fun _ _ _ h => h) (by rfl) ?y8 (by assumption) ?_
    case y8 => (intro w hSw; (try dsimp only at hSw); go_simp <;> with_reducible rfl)
    simp only [Act.put, List.setIfInBounds_toArray, List.set_cons_zero, List.set_cons_succ]
    refine takeH_yes (i := 9) (d := some 12) (v := .bool false) rfl rfl (by kernel_rfl) (by kernel_rfl) (by kernel_rfl) (fun _ _ _ h => h) (by rfl) ?y9 (by assumption) ?_
    case y9 => (intro w hSw; (try dsimp only at hSw); go_simp <;> with_reducible rfl)
    simp only [Act.put, List.setIfInBounds_toArray, List.set_cons_zero, List.set_cons_succ]
    refine takeH_yes (i := 10) (d := some 13) (v := .bool false) rfl rfl (by kernel_rfl) (by kernel_rfl) (by kernel_rfl) (fun _ _ _ h => h) (by rfl) ?y10 (by assumption) ?_
    case y10 => (intro w hSw; (try dsimp only at hSw); go_simp <;> with_reducible rfl)
    simp only [Act.put, List.setIfInBounds_toArray, List.set_cons_zero, List.set_cons_succ]
    refine takeH_yes (i := 11) (d := some 14) (v := ?v11) rfl rfl (by kernel_rfl) (by kernel_rfl) (by kernel_rfl) (fun _ _ _ h => h) (by rfl) ?y11 (by assumption) ?_
    case y11 => (intro w hSw; (try dsimp only at hSw); go_simp <;> with_reducible rfl)
    simp only [Act.put, List.setIfInBounds_toArray, List.set_cons_zero, List.set_cons_succ]
    refine takeH_yes (i := 12) (d := some 15) (v := ?v12) rfl rfl (by kernel_rfl) (by kernel_rfl) (by kernel_rfl) (fun _ _ _ h => h) (by rfl) ?y12 (by assumption) ?_
    case y12 => (intro w hSw; (try dsimp only at hSw); go_simp <;> with_reducible rfl)
    simp only [Act.put, List.setIfInBounds_toArray, List.set_cons_zero, List.set_cons_succ]
    refine takeH_yes (i := 13) (d := some 16) (v := ?v13) rfl rfl (by kernel_rfl) (by kernel_rfl) (by kernel_rfl) (fun _ _ _ h => h) (by rfl) ?y13 (by assumption) ?_
    case y13 => (intro w hSw; (try dsimp only at hSw); go_simp <;> with_reducible rfl)
    simp only [Act.put, List.setIfInBounds_toArray, List.set_cons_zero, List.set_cons_succ]
    refine takeH_yes (i := 14) (d := some 17) (v := .bool true) rfl rfl (by kernel_rfl) (by kernel_rfl) (by kernel_rfl) (fun _ _ _ h => h) (by rfl) ?y14 (by assumption) ?_
    case y14 => (intro w hSw; (try dsimp only at hSw); go_simp <;> with_reducible rfl)
    simp only [Act.put, List.setIfInBounds_toArray, List.set_cons_zero, List.set_cons_succ]
    refine takeH_yes (i := 15) (d := some 18) (v := .bool true) rfl rfl (by kernel_rfl) (by kernel_rfl) (by kernel_rfl) (fun _ _ _ h => h) (by rfl) ?y15 (by assumption) ?_
    case y15 => (intro w hSw; (try dsimp only at hSw); go_simp <;> with_reducible rfl)
    simp only [Act.put, List.setIfInBounds_toArray, List.set_cons_zero, List.set_cons_succ]
    refine wpAnyH_done (by kernel_rfl) ?_ _
    have S2 := held2.2.2.2.2.2.2
    clear held2 hHeld c0 c1 c2 c3 c4 c5 S1 HC HW
    go_wp2_with fail
    go_ret
    exact ⟨rfl, S2.out.bel⟩
  · refine wp_region_held_drew (S := (fun W => W.cell? ⟨w.heap.size, 0, none⟩ = some (.int .i64 h.cls) ∧ W.cell? ⟨w.heap.size, 1, none⟩ = some (.int .i64 h.lab) ∧ W.cell? ⟨w.heap.size, 2, none⟩ = some (.int .i64 h.nxt) ∧ W.cell? ⟨w.heap.size, 3, none⟩ = some (.int .i64 h.hops) ∧ W.cell? ⟨w.heap.size, 4, none⟩ = some (.string h.src) ∧ W.cell? ⟨w.heap.size, 5, none⟩ = some (.string h.dst) ∧ Hid (Held6 w W h))) (by kernel_rfl) ?_ (fun hHeld => ?_)
    · exact ⟨c0, c1, c2, c3, c4, c5, Lib.hid S1.out.drew⟩
    refine takeH_yes (i := 0) (d := some 3) (v := ?v0) rfl rfl (by kernel_rfl) (by kernel_rfl) (by kernel_rfl) (fun _ _ _ h => h) (by rfl) ?y0 (by assumption) ?_
    case y0 => (intro w hSw; (try dsimp only at hSw); go_simp <;> with_reducible rfl)
    simp only [Act.put, List.setIfInBounds_toArray, List.set_cons_zero, List.set_cons_succ]
    refine takeH_yes (i := 1) (d := some 4) (v := ?v1) rfl rfl (by kernel_rfl) (by kernel_rfl) (by kernel_rfl) (fun _ _ _ h => h) (by rfl) ?y1 (by assumption) ?_
    case y1 => (intro w hSw; (try dsimp only at hSw); go_simp <;> with_reducible rfl)
    simp only [Act.put, List.setIfInBounds_toArray, List.set_cons_zero, List.set_cons_succ]
    refine wpAnyH_ready (rs := [2]) (by kernel_rfl) (by simp) ?_
    refine AllReadyH.cons rfl (fun K hK => ?_) AllReadyH.nil
    go_simp
    refine (HC.out _).mono ?_
    rintro e w' ⟨rfl, hb⟩
    refine hK.out _ _ ?_ (fun held2 => ?_)
    · exact keep6 hb hHeld
    clear hK K
    try simp only [Act.put, List.setIfInBounds_toArray, List.set_cons_zero, List.set_cons_succ]
    refine takeH_yes (i := 3) (d := some 6) (v := .bool false) rfl rfl (by kernel_rfl) (by kernel_rfl) (by kernel_rfl) (fun _ _ _ h => h) (by rfl) ?y3 (by assumption) ?_
    case y3 => (intro w hSw; (try dsimp only at hSw); go_simp <;> with_reducible rfl)
    simp only [Act.put, List.setIfInBounds_toArray, List.set_cons_zero, List.set_cons_succ]
    refine takeH_yes (i := 4) (d := some 7) (v := .bool false) rfl rfl (by kernel_rfl) (by kernel_rfl) (by kernel_rfl) (fun _ _ _ h => h) (by rfl) ?y4 (by assumption) ?_
    case y4 => (intro w hSw; (try dsimp only at hSw); go_simp <;> with_reducible rfl)
    simp only [Act.put, List.setIfInBounds_toArray, List.set_cons_zero, List.set_cons_succ]
    refine takeH_yes (i := 5) (d := some 8) (v := ?v5) rfl rfl (by kernel_rfl) (by kernel_rfl) (by kernel_rfl) (fun _ _ _ h => h) (by rfl) ?y5 (by assumption) ?_
    case y5 => (intro w hSw; (try dsimp only at hSw); go_simp <;> with_reducible rfl)
    simp only [Act.put, List.setIfInBounds_toArray, List.set_cons_zero, List.set_cons_succ]
    refine takeH_yes (i := 6) (d := some 9) (v := ?v6) rfl rfl (by kernel_rfl) (by kernel_rfl) (by kernel_rfl) (fun _ _ _ h => h) (by rfl) ?y6 (by assumption) ?_
    case y6 => (intro w hSw; (try dsimp only at hSw); go_simp <;> with_reducible rfl)
    simp only [Act.put, List.setIfInBounds_toArray, List.set_cons_zero, List.set_cons_succ]
    refine takeH_yes (i := 7) (d := some 10) (v := ?v7) rfl rfl (by kernel_rfl) (by kernel_rfl) (by kernel_rfl) (fun _ _ _ h => h) (by rfl) ?y7 (by assumption) ?_
    case y7 => (intro w hSw; (try dsimp only at hSw); go_simp <;> with_reducible rfl)
    simp only [Act.put, List.setIfInBounds_toArray, List.set_cons_zero, List.set_cons_succ]
    refine takeH_yes (i := 8) (d := some 11) (v := .bool false) rfl rfl (by kernel_rfl) (by kernel_rfl) (by kernel_rfl) (fun _ _ _ h => h) (by rfl) ?y8 (by assumption) ?_
    case y8 => (intro w hSw; (try dsimp only at hSw); go_simp <;> with_reducible rfl)
    simp only [Act.put, List.setIfInBounds_toArray, List.set_cons_zero, List.set_cons_succ]
    refine takeH_yes (i := 9) (d := some 12) (v := .bool false) rfl rfl (by kernel_rfl) (by kernel_rfl) (by kernel_rfl) (fun _ _ _ h => h) (by rfl) ?y9 (by assumption) ?_
    case y9 => (intro w hSw; (try dsimp only at hSw); go_simp <;> with_reducible rfl)
    simp only [Act.put, List.setIfInBounds_toArray, List.set_cons_zero, List.set_cons_succ]
    refine takeH_yes (i := 10) (d := some 13) (v := .bool false) rfl rfl (by kernel_rfl) (by kernel_rfl) (by kernel_rfl) (fun _ _ _ h => h) (by rfl) ?y10 (by assumption) ?_
    case y10 => (intro w hSw; (try dsimp only at hSw); go_simp <;> with_reducible rfl)
    simp only [Act.put, List.setIfInBounds_toArray, List.set_cons_zero, List.set_cons_succ]
    refine takeH_yes (i := 11) (d := some 14) (v := ?v11) rfl rfl (by kernel_rfl) (by kernel_rfl) (by kernel_rfl) (fun _ _ _ h => h) (by rfl) ?y11 (by assumption) ?_
    case y11 => (intro w hSw; (try dsimp only at hSw); go_simp <;> with_reducible rfl)
    simp only [Act.put, List.setIfInBounds_toArray, List.set_cons_zero, List.set_cons_succ]
    refine takeH_yes (i := 12) (d := some 15) (v := ?v12) rfl rfl (by kernel_rfl) (by kernel_rfl) (by kernel_rfl) (fun _ _ _ h => h) (by rfl) ?y12 (by assumption) ?_
    case y12 => (intro w hSw; (try dsimp only at hSw); go_simp <;> with_reducible rfl)
    simp only [Act.put, List.setIfInBounds_toArray, List.set_cons_zero, List.set_cons_succ]
    refine takeH_yes (i := 13) (d := some 16) (v := ?v13) rfl rfl (by kernel_rfl) (by kernel_rfl) (by kernel_rfl) (fun _ _ _ h => h) (by rfl) ?y13 (by assumption) ?_
    case y13 => (intro w hSw; (try dsimp only at hSw); go_simp <;> with_reducible rfl)
    simp only [Act.put, List.setIfInBounds_toArray, List.set_cons_zero, List.set_cons_succ]
    refine takeH_yes (i := 14) (d := some 17) (v := .bool false) rfl rfl (by kernel_rfl) (by kernel_rfl) (by kernel_rfl) (fun _ _ _ h => h) (by rfl) ?y14 (by assumption) ?_
    case y14 => (intro w hSw; (try dsimp only at hSw); go_simp <;> with_reducible rfl)
    simp only [Act.put, List.setIfInBounds_toArray, List.set_cons_zero, List.set_cons_succ]
    refine takeH_yes (i := 15) (d := some 18) (v := .bool false) rfl rfl (by kernel_rfl) (by kernel_rfl) (by kernel_rfl) (fun _ _ _ h => h) (by rfl) ?y15 (by assumption) ?_
    case y15 => (intro w hSw; (try dsimp only at hSw); go_simp <;> with_reducible rfl)
    simp only [Act.put, List.setIfInBounds_toArray, List.set_cons_zero, List.set_cons_succ]
    refine wpAnyH_done (by kernel_rfl) ?_ _
    have S2 := held2.2.2.2.2.2.2
    clear held2 hHeld c0 c1 c2 c3 c4 c5 S1 HC HW
    go_wp2_with fail
    go_ret
    exact ⟨rfl, S2.out.bel⟩

end Go.Proofs.Ytbaddhjlpahpkaa
