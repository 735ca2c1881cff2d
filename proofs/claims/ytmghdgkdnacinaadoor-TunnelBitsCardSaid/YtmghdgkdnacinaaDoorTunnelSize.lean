/-
  tunnel's small functions; Size.
-/
import Derived.Test.YtmghdgkdnacinaaDoorTunnelSpec
import Derived.Test.YtmghdgkdnacinaaDoorGreA
import Derived.Test.YtmghdgkdnacinaaDoorGround
import Derived.RegionTactic
import Derived.BigRegion
import Derived.Deep.RegionHeld3
import Derived.Deep.CutBlock
import Derived.Deep.DeepCutAuto
namespace Go.Proofs.YtmghdgkdnacinaaDoor
open Go.RowKit
set_option linter.unusedVariables false
set_option linter.unusedSimpArgs false

theorem bare14 (w : World) (xs ys : Array Value) (T U : TypeId) : Blk ((w.alloc (.cells xs T)).alloc (.cells ys U)) (w.heap.size + 1) ys U := by
  have e := Blk.new (w.alloc (.cells xs T)) ys U
  rwa [show (w.alloc (.cells xs T)).heap.size = w.heap.size + 1 from by simp] at e
theorem within14_any (n most : Int) (w : World) : Calls Tryd.prog 18 #[.int .i64 n, .int .i64 most] w (fun e w' => e = .returned (.bool (within14 n most)) ∧ w' = w) := by
  unfold within14
  by_cases h : 0 ≤ n
  · have t1 : decide ((0 : Int) ≤ n) = true := decide_eq_true h
    rw [t1, Bool.true_and]
    clear h
    go_enter Tryd.func18, Tryd.ntmps18
    go_wp2_with fail
    go_ret
    exact ⟨rfl, rfl⟩
  · have t1 : decide ((0 : Int) ≤ n) = false := decide_eq_false h
    rw [t1, Bool.false_and]
    clear h
    go_enter Tryd.func18, Tryd.ntmps18
    go_wp2_with fail
    go_ret
    exact ⟨rfl, rfl⟩

/-- A tunnel's block. -/
structure Tw14 (w W : World) (t : T14) : Prop where
  b : Blk W w.heap.size t.cells 24
  bel : Below w.heap.size w W
theorem Tw14.below {w W W' : World} {t : T14} (r : Tw14 w W t) (hb : Below W.heap.size W W') : Tw14 w W' t :=
  ⟨(hb.block _ r.b.lt).trans r.b, r.bel.trans (hb.mono r.bel.size)⟩
theorem Tw14.new (w : World) (t : T14) : Tw14 w (w.alloc (.cells t.cells 24)) t :=
  ⟨Blk.new _ _ _, (Below.refl _ _).alloc (Nat.le_refl _) _⟩
theorem Tw14.alloc {w W : World} {t : T14} (r : Tw14 w W t) (o : Obj) : Tw14 w (W.alloc o) t := r.below ((Below.refl _ _).alloc (Nat.le_refl _) o)
theorem Tw14.drew {w W : World} {t : T14} (r : Tw14 w W t) : Tw14 w W.drew t := r.below (below_drewN (Below.refl _ _) 1)

set_option maxHeartbeats 1000000 in
theorem headGRE14_any (t : T14) (w : World) : Calls Tryd.prog 26 #[.agg t.cells] w (Tells (.agg t.head.cells) w) := by
  have T0 := Lib.hid (Tw14.new w t)
  obtain ⟨mode, sum, key, v, df, ttl, tos⟩ := t
  unfold Tells T14.head H12.cells
  unfold T14.cells at T0 ⊢
  simp only at T0 ⊢
  go_enter Tryd.func26, Tryd.ntmps26
  go_wp2_with fail
  have B := bare14 w #[.int .i64 mode, .bool sum, .bool key, .int .u32 (v : Nat), .bool df, .int .i64 ttl, .int .i64 tos] #[.bool sum, .bool key, .int .u32 (v : Nat)] 24 66
  have c0 := B.cell 0
  have c1 := B.cell 1
  have c2 := B.cell 2
  simp only [List.getElem?_toArray, List.getElem?_cons_zero, List.getElem?_cons_succ] at c0 c1 c2
  refine ⟨rfl, .agg #[.bool sum, .bool key, .int .u32 (v : Nat)], ?_, rfl, (T0.out.alloc _).bel⟩
  simp [results, Tryd.results26, go_sem, c0, c1, c2]

theorem size14_ipip (t : T14) (w : World) : Calls Tryd.prog 19 #[.agg t.cells] w (Tells (.int .i64 0) w) := by
  have L := (Below.refl w.heap.size w).alloc (Nat.le_refl _) (.cells t.cells 24)
  obtain ⟨mode, sum, key, v, df, ttl, tos⟩ := t
  unfold Tells
  unfold T14.cells at L ⊢
  simp only at L ⊢
  go_enter Tryd.func19, Tryd.ntmps19
  go_wp2_with fail
  go_ret
  exact ⟨rfl, L⟩
theorem size14_gue (t : T14) (w : World) : Calls Tryd.prog 31 #[.agg t.cells] w (Tells (.int .i64 12) w) := by
  have L := (Below.refl w.heap.size w).alloc (Nat.le_refl _) (.cells t.cells 24)
  obtain ⟨mode, sum, key, v, df, ttl, tos⟩ := t
  unfold Tells
  unfold T14.cells at L ⊢
  simp only at L ⊢
  go_enter Tryd.func31, Tryd.ntmps31
  go_wp2_with fail
  go_ret
  exact ⟨rfl, L⟩
set_option maxHeartbeats 1000000 in
theorem size14_gre (t : T14) (w : World) : Calls Tryd.prog 24 #[.agg t.cells] w (Tells (.int .i64 (size12 t.sum t.key : Nat)) w) := by
  have T0 := Lib.hid (Tw14.new w t)
  have HH := Lib.hid (fun W => headGRE14_any t W)
  have HS := Lib.hid (fun W => gre_size_any t.head W)
  obtain ⟨mode, sum, key, v, df, ttl, tos⟩ := t
  unfold Tells at HH HS ⊢
  unfold T14.head at HH HS
  unfold H12.cells at HH HS
  unfold T14.cells at T0 HH ⊢
  simp only at T0 HH HS ⊢
  go_enter Tryd.func24, Tryd.ntmps24
  go_wp2_with fail
  refine (HH.out _).mono ?_
  rintro e w1 ⟨rfl, hb⟩
  have T1 := Lib.hid (T0.out.below hb)
  clear hb T0 HH
  go_wp2_with fail
  refine (HS.out _).mono ?_
  rintro e w2 ⟨rfl, hb⟩
  have T2 := Lib.hid (T1.out.below hb)
  clear hb T1 HS
  go_wp2_with fail
  go_ret
  exact ⟨rfl, T2.out.bel⟩
theorem sizeM14_any (m : M14) (hm : m.is = true) (t : T14) (w : World) : Calls Tryd.prog m.nS #[.agg t.cells] w (Tells (.int .i64 (m.size t : Nat)) w) := by
  cases m with
  | none => exact absurd hm (by decide)
  | ipip => exact size14_ipip t w
  | gre => exact size14_gre t w
  | gue => exact size14_gue t w

/-- While a Mode is looked up: the tunnel's block, and the Mode's. -/
structure Lk14 (w W : World) (t : T14) (M : Nat) (xs : Array Value) : Prop where
  tw : Tw14 w W t
  m : Blk W M xs 48
  le : w.heap.size < M
structure Mc14 (u : World) (B : Nat) (a b c d e : Value) : Prop where
  c0 : u.cell? ⟨B, 0, none⟩ = some a
  c1 : u.cell? ⟨B, 1, none⟩ = some b
  c2 : u.cell? ⟨B, 2, none⟩ = some c
  c3 : u.cell? ⟨B, 3, none⟩ = some d
  c4 : u.cell? ⟨B, 4, none⟩ = some e
theorem Mc14.of {u : World} {B : Nat} {a b c d e : Value} {T : TypeId} (hb : Blk u B #[a, b, c, d, e] T) : Mc14 u B a b c d e := ⟨hb.cell 0, hb.cell 1, hb.cell 2, hb.cell 3, hb.cell 4⟩
theorem Lk14.new {w W : World} {t : T14} (r : Tw14 w W t) : Lk14 w (W.alloc (.cells #[.bool false, .bool false, .nilFunc, .nilFunc, .nilFunc] 48)) t W.heap.size #[.bool false, .bool false, .nilFunc, .nilFunc, .nilFunc] :=
  ⟨r.alloc _, Blk.new _ _ _, r.b.lt⟩
theorem Lk14.below {w W W' : World} {t : T14} {M : Nat} {xs : Array Value} (r : Lk14 w W t M xs) (hb : Below W.heap.size W W') : Lk14 w W' t M xs :=
  ⟨r.tw.below hb, (hb.block _ r.m.lt).trans r.m, r.le⟩
theorem Lk14.drew {w W : World} {t : T14} {M : Nat} {xs : Array Value} (r : Lk14 w W t M xs) : Lk14 w W.drew t M xs := r.below (below_drewN (Below.refl _ _) 1)
theorem Lk14.row {w W : World} {t : T14} {M : Nat} {xs : Array Value} (r : Lk14 w W t M xs) (ys : Array Value) : Lk14 w (W.setRow M ys) t M ys :=
  ⟨⟨r.tw.b.row_other (Nat.ne_of_lt r.le) ys, below_row r.tw.bel (Nat.le_of_lt r.le) ys⟩, r.m.row ys, r.le⟩
theorem Modes14.below {w W : World} {b : Nat} (h : Modes14 w b) (hb : Below w.heap.size w W) : Modes14 W b := ⟨(hb.block _ (Array.getElem?_eq_some_iff.1 h.at_).1).trans h.at_⟩
theorem Modes14.alloc {w : World} {b : Nat} (h : Modes14 w b) (o : Obj) : Modes14 (w.alloc o) b := h.below ((Below.refl _ _).alloc (Nat.le_refl _) o)

set_option maxRecDepth 100000 in
set_option maxHeartbeats 2000000 in
theorem size14_any (t : T14) (w : World) : Calls Tryd.prog 11 #[.agg t.cells] w (Tells (.int .i64 (size14 t : Nat)) w) := by
  have T1 := Lib.hid (Tw14.new w t)
  have HX : Hid (size14 t = match (m14 t.mode).is with | true => 20 + (m14 t.mode).size t | false => 0) := rfl
  have HSZ := Lib.hid (fun h W => sizeM14_any (m14 t.mode) h t W)
  have HEN := enterS (m14 t.mode)
  generalize size14 t = R at *
  obtain ⟨n, sum, key, v, df, ttl, tos⟩ := t
  unfold Tells at HSZ ⊢
  unfold T14.cells at T1 HSZ ⊢
  simp only at T1 HX HSZ HEN ⊢
  obtain ⟨t, ht⟩ : ∃ t : T14, t = ⟨n, sum, key, v, df, ttl, tos⟩ := ⟨_, rfl⟩
  rw [← ht] at HX T1 HSZ
  have HN := Lib.hid (show t.mode = n by rw [ht])
  have HTC := Lib.hid (show t.cells = #[.int .i64 n, .bool sum, .bool key, .int .u32 (v : Nat), .bool df, .int .i64 ttl, .int .i64 tos] by rw [ht]; rfl)
  clear ht
  cases his : (m14 n).is with
  | false =>
    have hval : (m14 n).val = .agg #[.bool false, .bool false, .nilFunc, .nilFunc, .nilFunc] := by unfold M14.val; rw [his]; rfl
    rw [his] at HX
    clear HEN HSZ
    go_enter Tryd.func11, Tryd.ntmps11
    go_wp2_with fail
    generalize w.alloc (.cells #[.int .i64 n, .bool sum, .bool key, .int .u32 (v : Nat), .bool df, .int .i64 ttl, .int .i64 tos] 24) = u1 at *
    go_cut [3, 4] (fun v3 v4 wx => ∃ M, v3 = .pointer (some ⟨M, 0, none⟩) ∧ v4 = .bool false ∧ Hid (Lk14 w wx t M #[.bool false, .bool false, .nilFunc, .nilFunc, .nilFunc]))
    case first =>
      have T2 := Lib.hid T1.out.drew
      refine wp_region_held_drew (S := (fun W => W.cell? ⟨w.heap.size, 0, none⟩ = some (.int .i64 n))) (by kernel_rfl) ?_ (fun hHeld => ?_)
      · exact (Tc.of T2.out.b).c0.trans (by rw [HN.out])
      clear T1
      generalize u1.drew = v2 at *
      refine takeH_yes (i := 1) (d := some 7) (v := ?v7) rfl rfl (by kernel_rfl) (by kernel_rfl) (by kernel_rfl) (fun _ _ _ h => h) (by rfl) ?y7 (by assumption) ?_
      case y7 => (intro w hSw; (try dsimp only at hSw); go_simp <;> with_reducible rfl)
      simp only [Act.put, List.setIfInBounds_toArray, List.set_cons_zero, List.set_cons_succ]
      refine takeH_yes (i := 2) (d := some 8) (v := ?v8) rfl rfl (by kernel_rfl) (by kernel_rfl) (by kernel_rfl) (fun _ _ _ h => h) (by rfl) ?y8 (by assumption) ?_
      case y8 => (intro w hSw; (try dsimp only at hSw); go_simp <;> with_reducible rfl)
      simp only [Act.put, List.setIfInBounds_toArray, List.set_cons_zero, List.set_cons_succ]
      refine wpAnyH_ready (rs := [0, 7]) (by kernel_rfl) (by simp) ?_
      refine AllReadyH.cons rfl (fun K hK => ?_) (AllReadyH.cons rfl (fun K hK => ?_) AllReadyH.nil)
      · go_simp
        refine (modes14_any _).mono ?_
        rintro e v3 ⟨rfl, hb, hm⟩
        have hk := look14 n true hm
        have hk2 := look14 n true (hm.alloc (.cells #[.bool false, .bool false, .nilFunc, .nilFunc, .nilFunc] 48))
        rw [hval, his] at hk hk2
        have T3 := Lib.hid (T2.out.below hb)
        clear hb hm T2
        dsimp only
        refine hK.out _ _ ?_ (fun held0 => ?_)
        · exact (Tc.of T3.out.b).c0.trans (by rw [HN.out])
        clear hK K
        try simp only [Act.put, List.setIfInBounds_toArray, List.set_cons_zero, List.set_cons_succ]
        refine wpAnyH_ready (rs := [3, 7]) (by kernel_rfl) (by simp) ?_
        refine AllReadyH.cons rfl (fun K hK => ?_) (AllReadyH.cons rfl (fun K hK => ?_) AllReadyH.nil)
        · go_simp
          refine hK.out _ _ ?_ (fun held3 => ?_)
          · exact (Tc.of T3.out.b).c0.trans (by rw [HN.out])
          clear hK K
          try simp only [Act.put, List.setIfInBounds_toArray, List.set_cons_zero, List.set_cons_succ]
          clear hk hk2
          refine takeH_yes (i := 4) (d := some 5) (v := ?v1) rfl rfl (by kernel_rfl) (by kernel_rfl) (by kernel_rfl) (fun _ _ _ h => h) (by rfl) ?y1 (by assumption) ?_
          case y1 => (intro w hSw; (try dsimp only at hSw); go_simp <;> with_reducible rfl)
          simp only [Act.put, List.setIfInBounds_toArray, List.set_cons_zero, List.set_cons_succ]
          refine takeH_yes (i := 5) (d := some 10) (v := ?v2) rfl rfl (by kernel_rfl) (by kernel_rfl) (by kernel_rfl) (fun _ _ _ h => h) (by rfl) ?y2 (by assumption) ?_
          case y2 => (intro w hSw; (try dsimp only at hSw); go_simp <;> with_reducible rfl)
          simp only [Act.put, List.setIfInBounds_toArray, List.set_cons_zero, List.set_cons_succ]
          refine takeH_yes (i := 6) (d := some 11) (v := ?v3) rfl rfl (by kernel_rfl) (by kernel_rfl) (by kernel_rfl) (fun _ _ _ h => h) (by rfl) ?y3 (by assumption) ?_
          case y3 => (intro w hSw; (try dsimp only at hSw); go_simp <;> with_reducible rfl)
          simp only [Act.put, List.setIfInBounds_toArray, List.set_cons_zero, List.set_cons_succ]
          refine wpAnyH_ready (rs := [7]) (by kernel_rfl) (by simp) ?_
          refine AllReadyH.cons rfl (fun K hK => ?_) AllReadyH.nil
          go_simp
          have LL := Lib.hid (Lk14.new T3.out)
          clear T3
          generalize v3.alloc (.cells #[.bool false, .bool false, .nilFunc, .nilFunc, .nilFunc] 48) = v4 at *
          generalize v3.heap.size = M at *
          refine hK.out _ _ ?_ (fun held7 => ?_)
          · exact (Tc.of LL.out.tw.b).c0.trans (by rw [HN.out])
          clear hK K
          try simp only [Act.put, List.setIfInBounds_toArray, List.set_cons_zero, List.set_cons_succ]
          have LP := Lib.hid (LL.out.row #[.bool false, .bool false, .nilFunc, .nilFunc, .nilFunc])
          refine wpAnyH_ready (rs := [8]) (by kernel_rfl) (by simp) ?_
          refine AllReadyH.cons rfl (fun K hK => ?_) AllReadyH.nil
          rw [if_pos (by rfl)]
          refine wp_store_row 48 (.tmp 3) (.tmp 10) rfl M #[.bool false, .bool false, .nilFunc, .nilFunc, .nilFunc] rfl rfl 48 #[.bool false, .bool false, .nilFunc, .nilFunc, .nilFunc] LL.out.m (by kernel_rfl) rfl (by simp; (repeat' apply And.intro); all_goals rfl) ?_
          clear LL
          refine hK.out _ _ ?_ (fun held8 => ?_)
          · exact (Tc.of LP.out.tw.b).c0.trans (by rw [HN.out])
          clear hK K
          try simp only [Act.put, List.setIfInBounds_toArray, List.set_cons_zero, List.set_cons_succ]
          refine takeH_yes (i := 9) (d := some 4) (v := ?v4) rfl rfl (by kernel_rfl) (by kernel_rfl) (by kernel_rfl) (fun _ _ _ h => h) (by rfl) ?y4 (by assumption) ?_
          case y4 => (intro w hSw; (try dsimp only at hSw); go_simp <;> with_reducible rfl)
          simp only [Act.put, List.setIfInBounds_toArray, List.set_cons_zero, List.set_cons_succ]
          refine wpAnyH_done (by kernel_rfl) ?_ _
          go_wp2_with fail
          go_meet
          exact ⟨_, rfl, rfl, LP⟩
        · go_simp
          clear hk
          have LL := Lib.hid (Lk14.new T3.out)
          clear T3
          generalize v3.alloc (.cells #[.bool false, .bool false, .nilFunc, .nilFunc, .nilFunc] 48) = v4 at *
          generalize v3.heap.size = M at *
          refine hK.out _ _ ?_ (fun held7 => ?_)
          · exact (Tc.of LL.out.tw.b).c0.trans (by rw [HN.out])
          clear hK K
          try simp only [Act.put, List.setIfInBounds_toArray, List.set_cons_zero, List.set_cons_succ]
          refine wpAnyH_ready (rs := [3]) (by kernel_rfl) (by simp) ?_
          refine AllReadyH.cons rfl (fun K hK => ?_) AllReadyH.nil
          go_simp
          refine hK.out _ _ ?_ (fun held3 => ?_)
          · exact (Tc.of LL.out.tw.b).c0.trans (by rw [HN.out])
          clear hK K
          try simp only [Act.put, List.setIfInBounds_toArray, List.set_cons_zero, List.set_cons_succ]
          clear hk2
          refine takeH_yes (i := 4) (d := some 5) (v := ?v1) rfl rfl (by kernel_rfl) (by kernel_rfl) (by kernel_rfl) (fun _ _ _ h => h) (by rfl) ?y1 (by assumption) ?_
          case y1 => (intro w hSw; (try dsimp only at hSw); go_simp <;> with_reducible rfl)
          simp only [Act.put, List.setIfInBounds_toArray, List.set_cons_zero, List.set_cons_succ]
          refine takeH_yes (i := 5) (d := some 10) (v := ?v2) rfl rfl (by kernel_rfl) (by kernel_rfl) (by kernel_rfl) (fun _ _ _ h => h) (by rfl) ?y2 (by assumption) ?_
          case y2 => (intro w hSw; (try dsimp only at hSw); go_simp <;> with_reducible rfl)
          simp only [Act.put, List.setIfInBounds_toArray, List.set_cons_zero, List.set_cons_succ]
          refine takeH_yes (i := 6) (d := some 11) (v := ?v3) rfl rfl (by kernel_rfl) (by kernel_rfl) (by kernel_rfl) (fun _ _ _ h => h) (by rfl) ?y3 (by assumption) ?_
          case y3 => (intro w hSw; (try dsimp only at hSw); go_simp <;> with_reducible rfl)
          simp only [Act.put, List.setIfInBounds_toArray, List.set_cons_zero, List.set_cons_succ]
          have LP := Lib.hid (LL.out.row #[.bool false, .bool false, .nilFunc, .nilFunc, .nilFunc])
          refine wpAnyH_ready (rs := [8]) (by kernel_rfl) (by simp) ?_
          refine AllReadyH.cons rfl (fun K hK => ?_) AllReadyH.nil
          rw [if_pos (by rfl)]
          refine wp_store_row 48 (.tmp 3) (.tmp 10) rfl M #[.bool false, .bool false, .nilFunc, .nilFunc, .nilFunc] rfl rfl 48 #[.bool false, .bool false, .nilFunc, .nilFunc, .nilFunc] LL.out.m (by kernel_rfl) rfl (by simp; (repeat' apply And.intro); all_goals rfl) ?_
          clear LL
          refine hK.out _ _ ?_ (fun held8 => ?_)
          · exact (Tc.of LP.out.tw.b).c0.trans (by rw [HN.out])
          clear hK K
          try simp only [Act.put, List.setIfInBounds_toArray, List.set_cons_zero, List.set_cons_succ]
          refine takeH_yes (i := 9) (d := some 4) (v := ?v5) rfl rfl (by kernel_rfl) (by kernel_rfl) (by kernel_rfl) (fun _ _ _ h => h) (by rfl) ?y5 (by assumption) ?_
          case y5 => (intro w hSw; (try dsimp only at hSw); go_simp <;> with_reducible rfl)
          simp only [Act.put, List.setIfInBounds_toArray, List.set_cons_zero, List.set_cons_succ]
          refine wpAnyH_done (by kernel_rfl) ?_ _
          go_wp2_with fail
          go_meet
          exact ⟨_, rfl, rfl, LP⟩
      · go_simp
        have LL0 := Lib.hid (Lk14.new T2.out)
        clear T2
        generalize v2.alloc (.cells #[.bool false, .bool false, .nilFunc, .nilFunc, .nilFunc] 48) = v4 at *
        generalize v2.heap.size = M at *
        refine hK.out _ _ ?_ (fun held7 => ?_)
        · exact (Tc.of LL0.out.tw.b).c0.trans (by rw [HN.out])
        clear hK K
        try simp only [Act.put, List.setIfInBounds_toArray, List.set_cons_zero, List.set_cons_succ]
        refine wpAnyH_ready (rs := [0]) (by kernel_rfl) (by simp) ?_
        refine AllReadyH.cons rfl (fun K hK => ?_) AllReadyH.nil
        go_simp
        refine (modes14_any _).mono ?_
        rintro e v3 ⟨rfl, hb, hm⟩
        have hk := look14 n true hm
        rw [hval, his] at hk
        have LL := Lib.hid (LL0.out.below hb)
        clear hb hm LL0
        dsimp only
        refine hK.out _ _ ?_ (fun held0 => ?_)
        · exact (Tc.of LL.out.tw.b).c0.trans (by rw [HN.out])
        clear hK K
        try simp only [Act.put, List.setIfInBounds_toArray, List.set_cons_zero, List.set_cons_succ]
        refine wpAnyH_ready (rs := [3]) (by kernel_rfl) (by simp) ?_
        refine AllReadyH.cons rfl (fun K hK => ?_) AllReadyH.nil
        go_simp
        refine hK.out _ _ ?_ (fun held3 => ?_)
        · exact (Tc.of LL.out.tw.b).c0.trans (by rw [HN.out])
        clear hK K
        try simp only [Act.put, List.setIfInBounds_toArray, List.set_cons_zero, List.set_cons_succ]
        clear hk
        refine takeH_yes (i := 4) (d := some 5) (v := ?v1) rfl rfl (by kernel_rfl) (by kernel_rfl) (by kernel_rfl) (fun _ _ _ h => h) (by rfl) ?y1 (by assumption) ?_
        case y1 => (intro w hSw; (try dsimp only at hSw); go_simp <;> with_reducible rfl)
        simp only [Act.put, List.setIfInBounds_toArray, List.set_cons_zero, List.set_cons_succ]
        refine takeH_yes (i := 5) (d := some 10) (v := ?v2) rfl rfl (by kernel_rfl) (by kernel_rfl) (by kernel_rfl) (fun _ _ _ h => h) (by rfl) ?y2 (by assumption) ?_
        case y2 => (intro w hSw; (try dsimp only at hSw); go_simp <;> with_reducible rfl)
        simp only [Act.put, List.setIfInBounds_toArray, List.set_cons_zero, List.set_cons_succ]
        refine takeH_yes (i := 6) (d := some 11) (v := ?v3) rfl rfl (by kernel_rfl) (by kernel_rfl) (by kernel_rfl) (fun _ _ _ h => h) (by rfl) ?y3 (by assumption) ?_
        case y3 => (intro w hSw; (try dsimp only at hSw); go_simp <;> with_reducible rfl)
        simp only [Act.put, List.setIfInBounds_toArray, List.set_cons_zero, List.set_cons_succ]
        have LP := Lib.hid (LL.out.row #[.bool false, .bool false, .nilFunc, .nilFunc, .nilFunc])
        refine wpAnyH_ready (rs := [8]) (by kernel_rfl) (by simp) ?_
        refine AllReadyH.cons rfl (fun K hK => ?_) AllReadyH.nil
        rw [if_pos (by rfl)]
        refine wp_store_row 48 (.tmp 3) (.tmp 10) rfl M #[.bool false, .bool false, .nilFunc, .nilFunc, .nilFunc] rfl rfl 48 #[.bool false, .bool false, .nilFunc, .nilFunc, .nilFunc] LL.out.m (by kernel_rfl) rfl (by simp; (repeat' apply And.intro); all_goals rfl) ?_
        clear LL
        refine hK.out _ _ ?_ (fun held8 => ?_)
        · exact (Tc.of LP.out.tw.b).c0.trans (by rw [HN.out])
        clear hK K
        try simp only [Act.put, List.setIfInBounds_toArray, List.set_cons_zero, List.set_cons_succ]
        refine takeH_yes (i := 9) (d := some 4) (v := ?v6) rfl rfl (by kernel_rfl) (by kernel_rfl) (by kernel_rfl) (fun _ _ _ h => h) (by rfl) ?y6 (by assumption) ?_
        case y6 => (intro w hSw; (try dsimp only at hSw); go_simp <;> with_reducible rfl)
        simp only [Act.put, List.setIfInBounds_toArray, List.set_cons_zero, List.set_cons_succ]
        refine wpAnyH_done (by kernel_rfl) ?_ _
        go_wp2_with fail
        go_meet
        exact ⟨_, rfl, rfl, LP⟩
    case rest =>
      obtain ⟨M, rfl, rfl, L⟩ := hcut
      go_wp2_with fail
      go_ret
      rw [HX.out]
      exact ⟨rfl, L.out.tw.bel⟩
  | true =>
    have hval : (m14 n).val = .agg #[.bool (m14 n).s, .bool (m14 n).k, .func (.func (m14 n).nS) #[] #[], .func (.func (m14 n).nP) #[] #[], .func (.func (m14 n).nG) #[] #[]] := by unfold M14.val; rw [his]; rfl
    rw [his] at HX
    have HS2 := Lib.hid (HSZ.out his)
    clear HSZ
    have HZB : Hid ((m14 n).size t ≤ 12) := by
      show (m14 n).size t ≤ 12
      cases m14 n <;> simp only [M14.size]
      · omega
      · omega
      · exact (size12_le _ _).1
      · omega
    generalize (m14 n).size t = z at *
    generalize (m14 n).nS = nS at *
    generalize (m14 n).nP = nP at *
    generalize (m14 n).nG = nG at *
    generalize (m14 n).s = ms at *
    generalize (m14 n).k = mk at *
    go_enter Tryd.func11, Tryd.ntmps11
    go_wp2_with fail
    generalize w.alloc (.cells #[.int .i64 n, .bool sum, .bool key, .int .u32 (v : Nat), .bool df, .int .i64 ttl, .int .i64 tos] 24) = u1 at *
    go_cut [3, 4] (fun v3 v4 wx => ∃ M, v3 = .pointer (some ⟨M, 0, none⟩) ∧ v4 = .bool true ∧ Hid (Lk14 w wx t M #[.bool ms, .bool mk, .func (.func nS) #[] #[], .func (.func nP) #[] #[], .func (.func nG) #[] #[]]))
    case first =>
      have T2 := Lib.hid T1.out.drew
      refine wp_region_held_drew (S := (fun W => W.cell? ⟨w.heap.size, 0, none⟩ = some (.int .i64 n))) (by kernel_rfl) ?_ (fun hHeld => ?_)
      · exact (Tc.of T2.out.b).c0.trans (by rw [HN.out])
      clear T1
      generalize u1.drew = v2 at *
      refine takeH_yes (i := 1) (d := some 7) (v := ?v15) rfl rfl (by kernel_rfl) (by kernel_rfl) (by kernel_rfl) (fun _ _ _ h => h) (by rfl) ?y15 (by assumption) ?_
      case y15 => (intro w hSw; (try dsimp only at hSw); go_simp <;> with_reducible rfl)
      simp only [Act.put, List.setIfInBounds_toArray, List.set_cons_zero, List.set_cons_succ]
      refine takeH_yes (i := 2) (d := some 8) (v := ?v16) rfl rfl (by kernel_rfl) (by kernel_rfl) (by kernel_rfl) (fun _ _ _ h => h) (by rfl) ?y16 (by assumption) ?_
      case y16 => (intro w hSw; (try dsimp only at hSw); go_simp <;> with_reducible rfl)
      simp only [Act.put, List.setIfInBounds_toArray, List.set_cons_zero, List.set_cons_succ]
      refine wpAnyH_ready (rs := [0, 7]) (by kernel_rfl) (by simp) ?_
      refine AllReadyH.cons rfl (fun K hK => ?_) (AllReadyH.cons rfl (fun K hK => ?_) AllReadyH.nil)
      · go_simp
        refine (modes14_any _).mono ?_
        rintro e v3 ⟨rfl, hb, hm⟩
        have hk := look14 n true hm
        have hk2 := look14 n true (hm.alloc (.cells #[.bool false, .bool false, .nilFunc, .nilFunc, .nilFunc] 48))
        rw [hval, his] at hk hk2
        have T3 := Lib.hid (T2.out.below hb)
        clear hb hm T2
        dsimp only
        refine hK.out _ _ ?_ (fun held0 => ?_)
        · exact (Tc.of T3.out.b).c0.trans (by rw [HN.out])
        clear hK K
        try simp only [Act.put, List.setIfInBounds_toArray, List.set_cons_zero, List.set_cons_succ]
        refine wpAnyH_ready (rs := [3, 7]) (by kernel_rfl) (by simp) ?_
        refine AllReadyH.cons rfl (fun K hK => ?_) (AllReadyH.cons rfl (fun K hK => ?_) AllReadyH.nil)
        · go_simp
          refine hK.out _ _ ?_ (fun held3 => ?_)
          · exact (Tc.of T3.out.b).c0.trans (by rw [HN.out])
          clear hK K
          try simp only [Act.put, List.setIfInBounds_toArray, List.set_cons_zero, List.set_cons_succ]
          clear hk hk2
          refine takeH_yes (i := 4) (d := some 5) (v := ?v9) rfl rfl (by kernel_rfl) (by kernel_rfl) (by kernel_rfl) (fun _ _ _ h => h) (by rfl) ?y9 (by assumption) ?_
          case y9 => (intro w hSw; (try dsimp only at hSw); go_simp <;> with_reducible rfl)
          simp only [Act.put, List.setIfInBounds_toArray, List.set_cons_zero, List.set_cons_succ]
          refine takeH_yes (i := 5) (d := some 10) (v := ?v10) rfl rfl (by kernel_rfl) (by kernel_rfl) (by kernel_rfl) (fun _ _ _ h => h) (by rfl) ?y10 (by assumption) ?_
          case y10 => (intro w hSw; (try dsimp only at hSw); go_simp <;> with_reducible rfl)
          simp only [Act.put, List.setIfInBounds_toArray, List.set_cons_zero, List.set_cons_succ]
          refine takeH_yes (i := 6) (d := some 11) (v := ?v11) rfl rfl (by kernel_rfl) (by kernel_rfl) (by kernel_rfl) (fun _ _ _ h => h) (by rfl) ?y11 (by assumption) ?_
          case y11 => (intro w hSw; (try dsimp only at hSw); go_simp <;> with_reducible rfl)
          simp only [Act.put, List.setIfInBounds_toArray, List.set_cons_zero, List.set_cons_succ]
          refine wpAnyH_ready (rs := [7]) (by kernel_rfl) (by simp) ?_
          refine AllReadyH.cons rfl (fun K hK => ?_) AllReadyH.nil
          go_simp
          have LL := Lib.hid (Lk14.new T3.out)
          clear T3
          generalize v3.alloc (.cells #[.bool false, .bool false, .nilFunc, .nilFunc, .nilFunc] 48) = v4 at *
          generalize v3.heap.size = M at *
          refine hK.out _ _ ?_ (fun held7 => ?_)
          · exact (Tc.of LL.out.tw.b).c0.trans (by rw [HN.out])
          clear hK K
          try simp only [Act.put, List.setIfInBounds_toArray, List.set_cons_zero, List.set_cons_succ]
          have LP := Lib.hid (LL.out.row #[.bool ms, .bool mk, .func (.func nS) #[] #[], .func (.func nP) #[] #[], .func (.func nG) #[] #[]])
          refine wpAnyH_ready (rs := [8]) (by kernel_rfl) (by simp) ?_
          refine AllReadyH.cons rfl (fun K hK => ?_) AllReadyH.nil
          rw [if_pos (by rfl)]
          refine wp_store_row 48 (.tmp 3) (.tmp 10) rfl M #[.bool ms, .bool mk, .func (.func nS) #[] #[], .func (.func nP) #[] #[], .func (.func nG) #[] #[]] rfl rfl 48 #[.bool false, .bool false, .nilFunc, .nilFunc, .nilFunc] LL.out.m (by kernel_rfl) rfl (by simp; (repeat' apply And.intro); all_goals rfl) ?_
          clear LL
          refine hK.out _ _ ?_ (fun held8 => ?_)
          · exact (Tc.of LP.out.tw.b).c0.trans (by rw [HN.out])
          clear hK K
          try simp only [Act.put, List.setIfInBounds_toArray, List.set_cons_zero, List.set_cons_succ]
          refine takeH_yes (i := 9) (d := some 4) (v := ?v12) rfl rfl (by kernel_rfl) (by kernel_rfl) (by kernel_rfl) (fun _ _ _ h => h) (by rfl) ?y12 (by assumption) ?_
          case y12 => (intro w hSw; (try dsimp only at hSw); go_simp <;> with_reducible rfl)
          simp only [Act.put, List.setIfInBounds_toArray, List.set_cons_zero, List.set_cons_succ]
          refine wpAnyH_done (by kernel_rfl) ?_ _
          go_wp2_with fail
          go_meet
          exact ⟨_, rfl, rfl, LP⟩
        · go_simp
          clear hk
          have LL := Lib.hid (Lk14.new T3.out)
          clear T3
          generalize v3.alloc (.cells #[.bool false, .bool false, .nilFunc, .nilFunc, .nilFunc] 48) = v4 at *
          generalize v3.heap.size = M at *
          refine hK.out _ _ ?_ (fun held7 => ?_)
          · exact (Tc.of LL.out.tw.b).c0.trans (by rw [HN.out])
          clear hK K
          try simp only [Act.put, List.setIfInBounds_toArray, List.set_cons_zero, List.set_cons_succ]
          refine wpAnyH_ready (rs := [3]) (by kernel_rfl) (by simp) ?_
          refine AllReadyH.cons rfl (fun K hK => ?_) AllReadyH.nil
          go_simp
          refine hK.out _ _ ?_ (fun held3 => ?_)
          · exact (Tc.of LL.out.tw.b).c0.trans (by rw [HN.out])
          clear hK K
          try simp only [Act.put, List.setIfInBounds_toArray, List.set_cons_zero, List.set_cons_succ]
          clear hk2
          refine takeH_yes (i := 4) (d := some 5) (v := ?v9) rfl rfl (by kernel_rfl) (by kernel_rfl) (by kernel_rfl) (fun _ _ _ h => h) (by rfl) ?y9 (by assumption) ?_
          case y9 => (intro w hSw; (try dsimp only at hSw); go_simp <;> with_reducible rfl)
          simp only [Act.put, List.setIfInBounds_toArray, List.set_cons_zero, List.set_cons_succ]
          refine takeH_yes (i := 5) (d := some 10) (v := ?v10) rfl rfl (by kernel_rfl) (by kernel_rfl) (by kernel_rfl) (fun _ _ _ h => h) (by rfl) ?y10 (by assumption) ?_
          case y10 => (intro w hSw; (try dsimp only at hSw); go_simp <;> with_reducible rfl)
          simp only [Act.put, List.setIfInBounds_toArray, List.set_cons_zero, List.set_cons_succ]
          refine takeH_yes (i := 6) (d := some 11) (v := ?v11) rfl rfl (by kernel_rfl) (by kernel_rfl) (by kernel_rfl) (fun _ _ _ h => h) (by rfl) ?y11 (by assumption) ?_
          case y11 => (intro w hSw; (try dsimp only at hSw); go_simp <;> with_reducible rfl)
          simp only [Act.put, List.setIfInBounds_toArray, List.set_cons_zero, List.set_cons_succ]
          have LP := Lib.hid (LL.out.row #[.bool ms, .bool mk, .func (.func nS) #[] #[], .func (.func nP) #[] #[], .func (.func nG) #[] #[]])
          refine wpAnyH_ready (rs := [8]) (by kernel_rfl) (by simp) ?_
          refine AllReadyH.cons rfl (fun K hK => ?_) AllReadyH.nil
          rw [if_pos (by rfl)]
          refine wp_store_row 48 (.tmp 3) (.tmp 10) rfl M #[.bool ms, .bool mk, .func (.func nS) #[] #[], .func (.func nP) #[] #[], .func (.func nG) #[] #[]] rfl rfl 48 #[.bool false, .bool false, .nilFunc, .nilFunc, .nilFunc] LL.out.m (by kernel_rfl) rfl (by simp; (repeat' apply And.intro); all_goals rfl) ?_
          clear LL
          refine hK.out _ _ ?_ (fun held8 => ?_)
          · exact (Tc.of LP.out.tw.b).c0.trans (by rw [HN.out])
          clear hK K
          try simp only [Act.put, List.setIfInBounds_toArray, List.set_cons_zero, List.set_cons_succ]
          refine takeH_yes (i := 9) (d := some 4) (v := ?v13) rfl rfl (by kernel_rfl) (by kernel_rfl) (by kernel_rfl) (fun _ _ _ h => h) (by rfl) ?y13 (by assumption) ?_
          case y13 => (intro w hSw; (try dsimp only at hSw); go_simp <;> with_reducible rfl)
          simp only [Act.put, List.setIfInBounds_toArray, List.set_cons_zero, List.set_cons_succ]
          refine wpAnyH_done (by kernel_rfl) ?_ _
          go_wp2_with fail
          go_meet
          exact ⟨_, rfl, rfl, LP⟩
      · go_simp
        have LL0 := Lib.hid (Lk14.new T2.out)
        clear T2
        generalize v2.alloc (.cells #[.bool false, .bool false, .nilFunc, .nilFunc, .nilFunc] 48) = v4 at *
        generalize v2.heap.size = M at *
        refine hK.out _ _ ?_ (fun held7 => ?_)
        · exact (Tc.of LL0.out.tw.b).c0.trans (by rw [HN.out])
        clear hK K
        try simp only [Act.put, List.setIfInBounds_toArray, List.set_cons_zero, List.set_cons_succ]
        refine wpAnyH_ready (rs := [0]) (by kernel_rfl) (by simp) ?_
        refine AllReadyH.cons rfl (fun K hK => ?_) AllReadyH.nil
        go_simp
        refine (modes14_any _).mono ?_
        rintro e v3 ⟨rfl, hb, hm⟩
        have hk := look14 n true hm
        rw [hval, his] at hk
        have LL := Lib.hid (LL0.out.below hb)
        clear hb hm LL0
        dsimp only
        refine hK.out _ _ ?_ (fun held0 => ?_)
        · exact (Tc.of LL.out.tw.b).c0.trans (by rw [HN.out])
        clear hK K
        try simp only [Act.put, List.setIfInBounds_toArray, List.set_cons_zero, List.set_cons_succ]
        refine wpAnyH_ready (rs := [3]) (by kernel_rfl) (by simp) ?_
        refine AllReadyH.cons rfl (fun K hK => ?_) AllReadyH.nil
        go_simp
        refine hK.out _ _ ?_ (fun held3 => ?_)
        · exact (Tc.of LL.out.tw.b).c0.trans (by rw [HN.out])
        clear hK K
        try simp only [Act.put, List.setIfInBounds_toArray, List.set_cons_zero, List.set_cons_succ]
        clear hk
        refine takeH_yes (i := 4) (d := some 5) (v := ?v9) rfl rfl (by kernel_rfl) (by kernel_rfl) (by kernel_rfl) (fun _ _ _ h => h) (by rfl) ?y9 (by assumption) ?_
        case y9 => (intro w hSw; (try dsimp only at hSw); go_simp <;> with_reducible rfl)
        simp only [Act.put, List.setIfInBounds_toArray, List.set_cons_zero, List.set_cons_succ]
        refine takeH_yes (i := 5) (d := some 10) (v := ?v10) rfl rfl (by kernel_rfl) (by kernel_rfl) (by kernel_rfl) (fun _ _ _ h => h) (by rfl) ?y10 (by assumption) ?_
        case y10 => (intro w hSw; (try dsimp only at hSw); go_simp <;> with_reducible rfl)
        simp only [Act.put, List.setIfInBounds_toArray, List.set_cons_zero, List.set_cons_succ]
        refine takeH_yes (i := 6) (d := some 11) (v := ?v11) rfl rfl (by kernel_rfl) (by kernel_rfl) (by kernel_rfl) (fun _ _ _ h => h) (by rfl) ?y11 (by assumption) ?_
        case y11 => (intro w hSw; (try dsimp only at hSw); go_simp <;> with_reducible rfl)
        simp only [Act.put, List.setIfInBounds_toArray, List.set_cons_zero, List.set_cons_succ]
        have LP := Lib.hid (LL.out.row #[.bool ms, .bool mk, .func (.func nS) #[] #[], .func (.func nP) #[] #[], .func (.func nG) #[] #[]])
        refine wpAnyH_ready (rs := [8]) (by kernel_rfl) (by simp) ?_
        refine AllReadyH.cons rfl (fun K hK => ?_) AllReadyH.nil
        rw [if_pos (by rfl)]
        refine wp_store_row 48 (.tmp 3) (.tmp 10) rfl M #[.bool ms, .bool mk, .func (.func nS) #[] #[], .func (.func nP) #[] #[], .func (.func nG) #[] #[]] rfl rfl 48 #[.bool false, .bool false, .nilFunc, .nilFunc, .nilFunc] LL.out.m (by kernel_rfl) rfl (by simp; (repeat' apply And.intro); all_goals rfl) ?_
        clear LL
        refine hK.out _ _ ?_ (fun held8 => ?_)
        · exact (Tc.of LP.out.tw.b).c0.trans (by rw [HN.out])
        clear hK K
        try simp only [Act.put, List.setIfInBounds_toArray, List.set_cons_zero, List.set_cons_succ]
        refine takeH_yes (i := 9) (d := some 4) (v := ?v14) rfl rfl (by kernel_rfl) (by kernel_rfl) (by kernel_rfl) (fun _ _ _ h => h) (by rfl) ?y14 (by assumption) ?_
        case y14 => (intro w hSw; (try dsimp only at hSw); go_simp <;> with_reducible rfl)
        simp only [Act.put, List.setIfInBounds_toArray, List.set_cons_zero, List.set_cons_succ]
        refine wpAnyH_done (by kernel_rfl) ?_ _
        go_wp2_with fail
        go_meet
        exact ⟨_, rfl, rfl, LP⟩
    case rest =>
      obtain ⟨M, rfl, rfl, L⟩ := hcut
      have cS := L.out.m.cell 2
      simp only [List.getElem?_toArray, List.getElem?_cons_zero, List.getElem?_cons_succ] at cS
      have hb := L.out.tw.b
      rw [HTC.out] at hb
      have ⟨k0, k1, k2, k3, k4, k5, k6⟩ := Tc.of (t := ⟨n, sum, key, v, df, ttl, tos⟩) hb
      simp only at k0 k1 k2 k3 k4 k5 k6
      clear hb
      have hz : IntKind.i64.wrap (20 + (z : Int)) = (20 + z : Nat) := by have := HZB.out; rw [IntWalk.i64_in _ (by omega)]; omega
      go_wp2_with fail
      refine (HS2.out _).mono ?_
      rintro e w5 ⟨rfl, hb⟩
      have L5 := Lib.hid (L.out.below hb)
      clear hb L HS2
      go_wp2_with fail
      go_ret
      rw [HX.out]
      exact ⟨rfl, L5.out.tw.bel⟩

end Go.Proofs.YtmghdgkdnacinaaDoor
