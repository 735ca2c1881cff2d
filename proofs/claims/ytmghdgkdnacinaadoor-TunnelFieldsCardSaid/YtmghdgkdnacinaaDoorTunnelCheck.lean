/-
  Check: may a tunnel be? mayBe, modeOf. (The look-up's region written by wip/tools/gentunnel.py.)
-/
import Derived.Test.YtmghdgkdnacinaaDoorTunnelSize
namespace Go.Proofs.YtmghdgkdnacinaaDoor
open Go.RowKit
set_option linter.unusedVariables false
set_option linter.unusedSimpArgs false

set_option maxRecDepth 100000 in
set_option maxHeartbeats 4000000 in
theorem check14_any (t : T14) (w : World) : Calls Tryd.prog 12 #[.agg t.cells] w (Tells (.int .i64 (err14 t : Nat)) w) := by
  have T1 := Lib.hid (Tw14.new w t)
  have HX : Hid (err14 t = match (m14 t.mode).is with | false => 15 | true => if range14 t = true then if form14 (m14 t.mode) t = true then 9 else 0 else 1) := rfl
  have HRG : Hid (range14 t = (within14 t.ttl 255 && within14 t.tos 255)) := rfl
  have HF : Hid (form14 (m14 t.mode) t = (t.sum && !(m14 t.mode).s || t.key && !(m14 t.mode).k || decide (t.v ≠ 0) && !t.key)) := rfl
  generalize err14 t = R at *
  generalize form14 (m14 t.mode) t = FM at *
  generalize range14 t = RG at *
  obtain ⟨n, sum, key, v, df, ttl, tos⟩ := t
  unfold Tells
  unfold T14.cells at T1 ⊢
  simp only at T1 HX HRG HF ⊢
  obtain ⟨t, ht⟩ : ∃ t : T14, t = ⟨n, sum, key, v, df, ttl, tos⟩ := ⟨_, rfl⟩
  rw [← ht] at T1
  have HN := Lib.hid (show t.mode = n by rw [ht])
  have HTC := Lib.hid (show t.cells = #[.int .i64 n, .bool sum, .bool key, .int .u32 (v : Nat), .bool df, .int .i64 ttl, .int .i64 tos] by rw [ht]; rfl)
  clear ht
  cases his : (m14 n).is with
  | false =>
    have hval : (m14 n).val = .agg #[.bool false, .bool false, .nilFunc, .nilFunc, .nilFunc] := by unfold M14.val; rw [his]; rfl
    rw [his] at HX
    clear HRG HF
    go_enter Tryd.func12, Tryd.ntmps12
    go_wp2_with fail
    generalize w.alloc (.cells #[.int .i64 n, .bool sum, .bool key, .int .u32 (v : Nat), .bool df, .int .i64 ttl, .int .i64 tos] 24) = u1 at *
    go_cut [3, 4] (fun v3 v4 wx => ∃ M, v3 = .pointer (some ⟨M, 0, none⟩) ∧ v4 = .bool false ∧ Hid (Lk14 w wx t M #[.bool false, .bool false, .nilFunc, .nilFunc, .nilFunc]))
    case first =>
      have T2 := Lib.hid T1.out.drew
      refine wp_region_held_drew (S := (fun W => W.cell? ⟨w.heap.size, 0, none⟩ = some (.int .i64 n))) (by kernel_rfl) ?_ (fun hHeld => ?_)
      · exact (Tc.of T2.out.b).c0.trans (by rw [HN.out])
      clear T1
      generalize u1.drew = v2 at *
      refine takeH_yes (i := 1) (d := some 7) (v := ?v7) rfl rfl (by kernel_rfl) (by kernel_rfl) (by kernel_rfl) (fun _ _ _ h => h) (by rfl) ?y7 (by assumption) ?_
      case y7 => (intro w hSw; (try dsimp only at hSw); go_simp <;> with_reducible rfl)
      simp only [Act.put, List.setIfInBounds_toArray, List.set_cons_zero, List.set_cons_succ]
      refine takeH_yes (i := 2) (d := some 8) (v := ?v8) rfl rfl (by kernel_rfl) (by kernel_rfl) (by kernel_rfl) (fun _ _ _ h => h) (by rfl) ?y8 (by assumption) ?_
      case y8 => (intro w hSw; (try dsimp only at hSw); go_simp <;> with_reducible rfl)
      simp only [Act.put, List.setIfInBounds_toArray, List.set_cons_zero, List.set_cons_succ]
      refine wpAnyH_ready (rs := [0, 7]) (by kernel_rfl) (by simp) ?_
      refine AllReadyH.cons rfl (fun K hK => ?_) (AllReadyH.cons rfl (fun K hK => ?_) AllReadyH.nil)
      · go_simp
        refine (modes14_any _).mono ?_
        rintro e v3 ⟨rfl, hb, hm⟩
        have hk := look14 n true hm
        have hk2 := look14 n true (hm.alloc (.cells #[.bool false, .bool false, .nilFunc, .nilFunc, .nilFunc] 48))
        rw [hval, his] at hk hk2
        have T3 := Lib.hid (T2.out.below hb)
        clear hb hm T2
        dsimp only
        refine hK.out _ _ ?_ (fun held0 => ?_)
        · exact (Tc.of T3.out.b).c0.trans (by rw [HN.out])
        clear hK K
        try simp only [Act.put, List.setIfInBounds_toArray, List.set_cons_zero, List.set_cons_succ]
        refine wpAnyH_ready (rs := [3, 7]) (by kernel_rfl) (by simp) ?_
        refine AllReadyH.cons rfl (fun K hK => ?_) (AllReadyH.cons rfl (fun K hK => ?_) AllReadyH.nil)
        · go_simp
          refine hK.out _ _ ?_ (fun held3 => ?_)
          · exact (Tc.of T3.out.b).c0.trans (by rw [HN.out])
          clear hK K
          try simp only [Act.put, List.setIfInBounds_toArray, List.set_cons_zero, List.set_cons_succ]
          clear hk hk2
          refine takeH_yes (i := 4) (d := some 5) (v := ?v1) rfl rfl (by kernel_rfl) (by kernel_rfl) (by kernel_rfl) (fun _ _ _ h => h) (by rfl) ?y1 (by assumption) ?_
          case y1 => (intro w hSw; (try dsimp only at hSw); go_simp <;> with_reducible rfl)
          simp only [Act.put, List.setIfInBounds_toArray, List.set_cons_zero, List.set_cons_succ]
          refine takeH_yes (i := 5) (d := some 10) (v := ?v2) rfl rfl (by kernel_rfl) (by kernel_rfl) (by kernel_rfl) (fun _ _ _ h => h) (by rfl) ?y2 (by assumption) ?_
          case y2 => (intro w hSw; (try dsimp only at hSw); go_simp <;> with_reducible rfl)
          simp only [Act.put, List.setIfInBounds_toArray, List.set_cons_zero, List.set_cons_succ]
          refine takeH_yes (i := 6) (d := some 11) (v := ?v3) rfl rfl (by kernel_rfl) (by kernel_rfl) (by kernel_rfl) (fun _ _ _ h => h) (by rfl) ?y3 (by assumption) ?_
          case y3 => (intro w hSw; (try dsimp only at hSw); go_simp <;> with_reducible rfl)
          simp only [Act.put, List.setIfInBounds_toArray, List.set_cons_zero, List.set_cons_succ]
          refine wpAnyH_ready (rs := [7]) (by kernel_rfl) (by simp) ?_
          refine AllReadyH.cons rfl (fun K hK => ?_) AllReadyH.nil
          go_simp
          have LL := Lib.hid (Lk14.new T3.out)
          clear T3
          generalize v3.alloc (.cells #[.bool false, .bool false, .nilFunc, .nilFunc, .nilFunc] 48) = v4 at *
          generalize v3.heap.size = M at *
          refine hK.out _ _ ?_ (fun held7 => ?_)
          · exact (Tc.of LL.out.tw.b).c0.trans (by rw [HN.out])
          clear hK K
          try simp only [Act.put, List.setIfInBounds_toArray, List.set_cons_zero, List.set_cons_succ]
          have LP := Lib.hid (LL.out.row #[.bool false, .bool false, .nilFunc, .nilFunc, .nilFunc])
          refine wpAnyH_ready (rs := [8]) (by kernel_rfl) (by simp) ?_
          refine AllReadyH.cons rfl (fun K hK => ?_) AllReadyH.nil
          rw [if_pos (by rfl)]
          refine wp_store_row 48 (.tmp 3) (.tmp 10) rfl M #[.bool false, .bool false, .nilFunc, .nilFunc, .nilFunc] rfl rfl 48 #[.bool false, .bool false, .nilFunc, .nilFunc, .nilFunc] LL.out.m (by kernel_rfl) rfl (by simp; (repeat' apply And.intro); all_goals rfl) ?_
          clear LL
          refine hK.out _ _ ?_ (fun held8 => ?_)
          · exact (Tc.of LP.out.tw.b).c0.trans (by rw [HN.out])
          clear hK K
          try simp only [Act.put, List.setIfInBounds_toArray, List.set_cons_zero, List.set_cons_succ]
          refine takeH_yes (i := 9) (d := some 4) (v := ?v4) rfl rfl (by kernel_rfl) (by kernel_rfl) (by kernel_rfl) (fun _ _ _ h => h) (by rfl) ?y4 (by assumption) ?_
          case y4 => (intro w hSw; (try dsimp only at hSw); go_simp <;> with_reducible rfl)
          simp only [Act.put, List.setIfInBounds_toArray, List.set_cons_zero, List.set_cons_succ]
          refine wpAnyH_done (by kernel_rfl) ?_ _
          go_wp2_with fail
          go_meet
          exact ⟨_, rfl, rfl, LP⟩
        · go_simp
          clear hk
          have LL := Lib.hid (Lk14.new T3.out)
          clear T3
          generalize v3.alloc (.cells #[.bool false, .bool false, .nilFunc, .nilFunc, .nilFunc] 48) = v4 at *
          generalize v3.heap.size = M at *
          refine hK.out _ _ ?_ (fun held7 => ?_)
          · exact (Tc.of LL.out.tw.b).c0.trans (by rw [HN.out])
          clear hK K
          try simp only [Act.put, List.setIfInBounds_toArray, List.set_cons_zero, List.set_cons_succ]
          refine wpAnyH_ready (rs := [3]) (by kernel_rfl) (by simp) ?_
          refine AllReadyH.cons rfl (fun K hK => ?_) AllReadyH.nil
          go_simp
          refine hK.out _ _ ?_ (fun held3 => ?_)
          · exact (Tc.of LL.out.tw.b).c0.trans (by rw [HN.out])
          clear hK K
          try simp only [Act.put, List.setIfInBounds_toArray, List.set_cons_zero, List.set_cons_succ]
          clear hk2
          refine takeH_yes (i := 4) (d := some 5) (v := ?v1) rfl rfl (by kernel_rfl) (by kernel_rfl) (by kernel_rfl) (fun _ _ _ h => h) (by rfl) ?y1 (by assumption) ?_
          case y1 => (intro w hSw; (try dsimp only at hSw); go_simp <;> with_reducible rfl)
          simp only [Act.put, List.setIfInBounds_toArray, List.set_cons_zero, List.set_cons_succ]
          refine takeH_yes (i := 5) (d := some 10) (v := ?v2) rfl rfl (by kernel_rfl) (by kernel_rfl) (by kernel_rfl) (fun _ _ _ h => h) (by rfl) ?y2 (by assumption) ?_
          case y2 => (intro w hSw; (try dsimp only at hSw); go_simp <;> with_reducible rfl)
          simp only [Act.put, List.setIfInBounds_toArray, List.set_cons_zero, List.set_cons_succ]
          refine takeH_yes (i := 6) (d := some 11) (v := ?v3) rfl rfl (by kernel_rfl) (by kernel_rfl) (by kernel_rfl) (fun _ _ _ h => h) (by rfl) ?y3 (by assumption) ?_
          case y3 => (intro w hSw; (try dsimp only at hSw); go_simp <;> with_reducible rfl)
          simp only [Act.put, List.setIfInBounds_toArray, List.set_cons_zero, List.set_cons_succ]
          have LP := Lib.hid (LL.out.row #[.bool false, .bool false, .nilFunc, .nilFunc, .nilFunc])
          refine wpAnyH_ready (rs := [8]) (by kernel_rfl) (by simp) ?_
          refine AllReadyH.cons rfl (fun K hK => ?_) AllReadyH.nil
          rw [if_pos (by rfl)]
          refine wp_store_row 48 (.tmp 3) (.tmp 10) rfl M #[.bool false, .bool false, .nilFunc, .nilFunc, .nilFunc] rfl rfl 48 #[.bool false, .bool false, .nilFunc, .nilFunc, .nilFunc] LL.out.m (by kernel_rfl) rfl (by simp; (repeat' apply And.intro); all_goals rfl) ?_
          clear LL
          refine hK.out _ _ ?_ (fun held8 => ?_)
          · exact (Tc.of LP.out.tw.b).c0.trans (by rw [HN.out])
          clear hK K
          try simp only [Act.put, List.setIfInBounds_toArray, List.set_cons_zero, List.set_cons_succ]
          refine takeH_yes (i := 9) (d := some 4) (v := ?v5) rfl rfl (by kernel_rfl) (by kernel_rfl) (by kernel_rfl) (fun _ _ _ h => h) (by rfl) ?y5 (by assumption) ?_
          case y5 => (intro w hSw; (try dsimp only at hSw); go_simp <;> with_reducible rfl)
          simp only [Act.put, List.setIfInBounds_toArray, List.set_cons_zero, List.set_cons_succ]
          refine wpAnyH_done (by kernel_rfl) ?_ _
          go_wp2_with fail
          go_meet
          exact ⟨_, rfl, rfl, LP⟩
      · go_simp
        have LL0 := Lib.hid (Lk14.new T2.out)
        clear T2
        generalize v2.alloc (.cells #[.bool false, .bool false, .nilFunc, .nilFunc, .nilFunc] 48) = v4 at *
        generalize v2.heap.size = M at *
        refine hK.out _ _ ?_ (fun held7 => ?_)
        · exact (Tc.of LL0.out.tw.b).c0.trans (by rw [HN.out])
        clear hK K
        try simp only [Act.put, List.setIfInBounds_toArray, List.set_cons_zero, List.set_cons_succ]
        refine wpAnyH_ready (rs := [0]) (by kernel_rfl) (by simp) ?_
        refine AllReadyH.cons rfl (fun K hK => ?_) AllReadyH.nil
        go_simp
        refine (modes14_any _).mono ?_
        rintro e v3 ⟨rfl, hb, hm⟩
        have hk := look14 n true hm
        rw [hval, his] at hk
        have LL := Lib.hid (LL0.out.below hb)
        clear hb hm LL0
        dsimp only
        refine hK.out _ _ ?_ (fun held0 => ?_)
        · exact (Tc.of LL.out.tw.b).c0.trans (by rw [HN.out])
        clear hK K
        try simp only [Act.put, List.setIfInBounds_toArray, List.set_cons_zero, List.set_cons_succ]
        refine wpAnyH_ready (rs := [3]) (by kernel_rfl) (by simp) ?_
        refine AllReadyH.cons rfl (fun K hK => ?_) AllReadyH.nil
        go_simp
        refine hK.out _ _ ?_ (fun held3 => ?_)
        · exact (Tc.of LL.out.tw.b).c0.trans (by rw [HN.out])
        clear hK K
        try simp only [Act.put, List.setIfInBounds_toArray, List.set_cons_zero, List.set_cons_succ]
        clear hk
        refine takeH_yes (i := 4) (d := some 5) (v := ?v1) rfl rfl (by kernel_rfl) (by kernel_rfl) (by kernel_rfl) (fun _ _ _ h => h) (by rfl) ?y1 (by assumption) ?_
        case y1 => (intro w hSw; (try dsimp only at hSw); go_simp <;> with_reducible rfl)
        simp only [Act.put, List.setIfInBounds_toArray, List.set_cons_zero, List.set_cons_succ]
        refine takeH_yes (i := 5) (d := some 10) (v := ?v2) rfl rfl (by kernel_rfl) (by kernel_rfl) (by kernel_rfl) (fun _ _ _ h => h) (by rfl) ?y2 (by assumption) ?_
        case y2 => (intro w hSw; (try dsimp only at hSw); go_simp <;> with_reducible rfl)
        simp only [Act.put, List.setIfInBounds_toArray, List.set_cons_zero, List.set_cons_succ]
        refine takeH_yes (i := 6) (d := some 11) (v := ?v3) rfl rfl (by kernel_rfl) (by kernel_rfl) (by kernel_rfl) (fun _ _ _ h => h) (by rfl) ?y3 (by assumption) ?_
        case y3 => (intro w hSw; (try dsimp only at hSw); go_simp <;> with_reducible rfl)
        simp only [Act.put, List.setIfInBounds_toArray, List.set_cons_zero, List.set_cons_succ]
        have LP := Lib.hid (LL.out.row #[.bool false, .bool false, .nilFunc, .nilFunc, .nilFunc])
        refine wpAnyH_ready (rs := [8]) (by kernel_rfl) (by simp) ?_
        refine AllReadyH.cons rfl (fun K hK => ?_) AllReadyH.nil
        rw [if_pos (by rfl)]
        refine wp_store_row 48 (.tmp 3) (.tmp 10) rfl M #[.bool false, .bool false, .nilFunc, .nilFunc, .nilFunc] rfl rfl 48 #[.bool false, .bool false, .nilFunc, .nilFunc, .nilFunc] LL.out.m (by kernel_rfl) rfl (by simp; (repeat' apply And.intro); all_goals rfl) ?_
        clear LL
        refine hK.out _ _ ?_ (fun held8 => ?_)
        · exact (Tc.of LP.out.tw.b).c0.trans (by rw [HN.out])
        clear hK K
        try simp only [Act.put, List.setIfInBounds_toArray, List.set_cons_zero, List.set_cons_succ]
        refine takeH_yes (i := 9) (d := some 4) (v := ?v6) rfl rfl (by kernel_rfl) (by kernel_rfl) (by kernel_rfl) (fun _ _ _ h => h) (by rfl) ?y6 (by assumption) ?_
        case y6 => (intro w hSw; (try dsimp only at hSw); go_simp <;> with_reducible rfl)
        simp only [Act.put, List.setIfInBounds_toArray, List.set_cons_zero, List.set_cons_succ]
        refine wpAnyH_done (by kernel_rfl) ?_ _
        go_wp2_with fail
        go_meet
        exact ⟨_, rfl, rfl, LP⟩
    case rest =>
      obtain ⟨M, rfl, rfl, L⟩ := hcut
      go_wp2_with fail
      go_ret
      rw [HX.out]
      exact ⟨rfl, L.out.tw.bel⟩
  | true =>
    have hval : (m14 n).val = .agg #[.bool (m14 n).s, .bool (m14 n).k, .func (.func (m14 n).nS) #[] #[], .func (.func (m14 n).nP) #[] #[], .func (.func (m14 n).nG) #[] #[]] := by unfold M14.val; rw [his]; rfl
    rw [his] at HX
    generalize (m14 n).nS = nS at *
    generalize (m14 n).nP = nP at *
    generalize (m14 n).nG = nG at *
    generalize (m14 n).s = ms at *
    generalize (m14 n).k = mk at *
    go_enter Tryd.func12, Tryd.ntmps12
    go_wp2_with fail
    generalize w.alloc (.cells #[.int .i64 n, .bool sum, .bool key, .int .u32 (v : Nat), .bool df, .int .i64 ttl, .int .i64 tos] 24) = u1 at *
    go_cut [3, 4] (fun v3 v4 wx => ∃ M, v3 = .pointer (some ⟨M, 0, none⟩) ∧ v4 = .bool true ∧ Hid (Lk14 w wx t M #[.bool ms, .bool mk, .func (.func nS) #[] #[], .func (.func nP) #[] #[], .func (.func nG) #[] #[]]))
    case first =>
      have T2 := Lib.hid T1.out.drew
      refine wp_region_held_drew (S := (fun W => W.cell? ⟨w.heap.size, 0, none⟩ = some (.int .i64 n))) (by kernel_rfl) ?_ (fun hHeld => ?_)
      · exact (Tc.of T2.out.b).c0.trans (by rw [HN.out])
      clear T1
      generalize u1.drew = v2 at *
      refine takeH_yes (i := 1) (d := some 7) (v := ?v15) rfl rfl (by kernel_rfl) (by kernel_rfl) (by kernel_rfl) (fun _ _ _ h => h) (by rfl) ?y15 (by assumption) ?_
      case y15 => (intro w hSw; (try dsimp only at hSw); go_simp <;> with_reducible rfl)
      simp only [Act.put, List.setIfInBounds_toArray, List.set_cons_zero, List.set_cons_succ]
      refine takeH_yes (i := 2) (d := some 8) (v := ?v16) rfl rfl (by kernel_rfl) (by kernel_rfl) (by kernel_rfl) (fun _ _ _ h => h) (by rfl) ?y16 (by assumption) ?_
      case y16 => (intro w hSw; (try dsimp only at hSw); go_simp <;> with_reducible rfl)
      simp only [Act.put, List.setIfInBounds_toArray, List.set_cons_zero, List.set_cons_succ]
      refine wpAnyH_ready (rs := [0, 7]) (by kernel_rfl) (by simp) ?_
      refine AllReadyH.cons rfl (fun K hK => ?_) (AllReadyH.cons rfl (fun K hK => ?_) AllReadyH.nil)
      · go_simp
        refine (modes14_any _).mono ?_
        rintro e v3 ⟨rfl, hb, hm⟩
        have hk := look14 n true hm
        have hk2 := look14 n true (hm.alloc (.cells #[.bool false, .bool false, .nilFunc, .nilFunc, .nilFunc] 48))
        rw [hval, his] at hk hk2
        have T3 := Lib.hid (T2.out.below hb)
        clear hb hm T2
        dsimp only
        refine hK.out _ _ ?_ (fun held0 => ?_)
        · exact (Tc.of T3.out.b).c0.trans (by rw [HN.out])
        clear hK K
        try simp only [Act.put, List.setIfInBounds_toArray, List.set_cons_zero, List.set_cons_succ]
        refine wpAnyH_ready (rs := [3, 7]) (by kernel_rfl) (by simp) ?_
        refine AllReadyH.cons rfl (fun K hK => ?_) (AllReadyH.cons rfl (fun K hK => ?_) AllReadyH.nil)
        · go_simp
          refine hK.out _ _ ?_ (fun held3 => ?_)
          · exact (Tc.of T3.out.b).c0.trans (by rw [HN.out])
          clear hK K
          try simp only [Act.put, List.setIfInBounds_toArray, List.set_cons_zero, List.set_cons_succ]
          clear hk hk2
          refine takeH_yes (i := 4) (d := some 5) (v := ?v9) rfl rfl (by kernel_rfl) (by kernel_rfl) (by kernel_rfl) (fun _ _ _ h => h) (by rfl) ?y9 (by assumption) ?_
          case y9 => (intro w hSw; (try dsimp only at hSw); go_simp <;> with_reducible rfl)
          simp only [Act.put, List.setIfInBounds_toArray, List.set_cons_zero, List.set_cons_succ]
          refine takeH_yes (i := 5) (d := some 10) (v := ?v10) rfl rfl (by kernel_rfl) (by kernel_rfl) (by kernel_rfl) (fun _ _ _ h => h) (by rfl) ?y10 (by assumption) ?_
          case y10 => (intro w hSw; (try dsimp only at hSw); go_simp <;> with_reducible rfl)
          simp only [Act.put, List.setIfInBounds_toArray, List.set_cons_zero, List.set_cons_succ]
          refine takeH_yes (i := 6) (d := some 11) (v := ?v11) rfl rfl (by kernel_rfl) (by kernel_rfl) (by kernel_rfl) (fun _ _ _ h => h) (by rfl) ?y11 (by assumption) ?_
          case y11 => (intro w hSw; (try dsimp only at hSw); go_simp <;> with_reducible rfl)
          simp only [Act.put, List.setIfInBounds_toArray, List.set_cons_zero, List.set_cons_succ]
          refine wpAnyH_ready (rs := [7]) (by kernel_rfl) (by simp) ?_
          refine AllReadyH.cons rfl (fun K hK => ?_) AllReadyH.nil
          go_simp
          have LL := Lib.hid (Lk14.new T3.out)
          clear T3
          generalize v3.alloc (.cells #[.bool false, .bool false, .nilFunc, .nilFunc, .nilFunc] 48) = v4 at *
          generalize v3.heap.size = M at *
          refine hK.out _ _ ?_ (fun held7 => ?_)
          · exact (Tc.of LL.out.tw.b).c0.trans (by rw [HN.out])
          clear hK K
          try simp only [Act.put, List.setIfInBounds_toArray, List.set_cons_zero, List.set_cons_succ]
          have LP := Lib.hid (LL.out.row #[.bool ms, .bool mk, .func (.func nS) #[] #[], .func (.func nP) #[] #[], .func (.func nG) #[] #[]])
          refine wpAnyH_ready (rs := [8]) (by kernel_rfl) (by simp) ?_
          refine AllReadyH.cons rfl (fun K hK => ?_) AllReadyH.nil
          rw [if_pos (by rfl)]
          refine wp_store_row 48 (.tmp 3) (.tmp 10) rfl M #[.bool ms, .bool mk, .func (.func nS) #[] #[], .func (.func nP) #[] #[], .func (.func nG) #[] #[]] rfl rfl 48 #[.bool false, .bool false, .nilFunc, .nilFunc, .nilFunc] LL.out.m (by kernel_rfl) rfl (by simp; (repeat' apply And.intro); all_goals rfl) ?_
          clear LL
          refine hK.out _ _ ?_ (fun held8 => ?_)
          · exact (Tc.of LP.out.tw.b).c0.trans (by rw [HN.out])
          clear hK K
          try simp only [Act.put, List.setIfInBounds_toArray, List.set_cons_zero, List.set_cons_succ]
          refine takeH_yes (i := 9) (d := some 4) (v := ?v12) rfl rfl (by kernel_rfl) (by kernel_rfl) (by kernel_rfl) (fun _ _ _ h => h) (by rfl) ?y12 (by assumption) ?_
          case y12 => (intro w hSw; (try dsimp only at hSw); go_simp <;> with_reducible rfl)
          simp only [Act.put, List.setIfInBounds_toArray, List.set_cons_zero, List.set_cons_succ]
          refine wpAnyH_done (by kernel_rfl) ?_ _
          go_wp2_with fail
          go_meet
          exact ⟨_, rfl, rfl, LP⟩
        · go_simp
          clear hk
          have LL := Lib.hid (Lk14.new T3.out)
          clear T3
          generalize v3.alloc (.cells #[.bool false, .bool false, .nilFunc, .nilFunc, .nilFunc] 48) = v4 at *
          generalize v3.heap.size = M at *
          refine hK.out _ _ ?_ (fun held7 => ?_)
          · exact (Tc.of LL.out.tw.b).c0.trans (by rw [HN.out])
          clear hK K
          try simp only [Act.put, List.setIfInBounds_toArray, List.set_cons_zero, List.set_cons_succ]
          refine wpAnyH_ready (rs := [3]) (by kernel_rfl) (by simp) ?_
          refine AllReadyH.cons rfl (fun K hK => ?_) AllReadyH.nil
          go_simp
          refine hK.out _ _ ?_ (fun held3 => ?_)
          · exact (Tc.of LL.out.tw.b).c0.trans (by rw [HN.out])
          clear hK K
          try simp only [Act.put, List.setIfInBounds_toArray, List.set_cons_zero, List.set_cons_succ]
          clear hk2
          refine takeH_yes (i := 4) (d := some 5) (v := ?v9) rfl rfl (by kernel_rfl) (by kernel_rfl) (by kernel_rfl) (fun _ _ _ h => h) (by rfl) ?y9 (by assumption) ?_
          case y9 => (intro w hSw; (try dsimp only at hSw); go_simp <;> with_reducible rfl)
          simp only [Act.put, List.setIfInBounds_toArray, List.set_cons_zero, List.set_cons_succ]
          refine takeH_yes (i := 5) (d := some 10) (v := ?v10) rfl rfl (by kernel_rfl) (by kernel_rfl) (by kernel_rfl) (fun _ _ _ h => h) (by rfl) ?y10 (by assumption) ?_
          case y10 => (intro w hSw; (try dsimp only at hSw); go_simp <;> with_reducible rfl)
          simp only [Act.put, List.setIfInBounds_toArray, List.set_cons_zero, List.set_cons_succ]
          refine takeH_yes (i := 6) (d := some 11) (v := ?v11) rfl rfl (by kernel_rfl) (by kernel_rfl) (by kernel_rfl) (fun _ _ _ h => h) (by rfl) ?y11 (by assumption) ?_
          case y11 => (intro w hSw; (try dsimp only at hSw); go_simp <;> with_reducible rfl)
          simp only [Act.put, List.setIfInBounds_toArray, List.set_cons_zero, List.set_cons_succ]
          have LP := Lib.hid (LL.out.row #[.bool ms, .bool mk, .func (.func nS) #[] #[], .func (.func nP) #[] #[], .func (.func nG) #[] #[]])
          refine wpAnyH_ready (rs := [8]) (by kernel_rfl) (by simp) ?_
          refine AllReadyH.cons rfl (fun K hK => ?_) AllReadyH.nil
          rw [if_pos (by rfl)]
          refine wp_store_row 48 (.tmp 3) (.tmp 10) rfl M #[.bool ms, .bool mk, .func (.func nS) #[] #[], .func (.func nP) #[] #[], .func (.func nG) #[] #[]] rfl rfl 48 #[.bool false, .bool false, .nilFunc, .nilFunc, .nilFunc] LL.out.m (by kernel_rfl) rfl (by simp; (repeat' apply And.intro); all_goals rfl) ?_
          clear LL
          refine hK.out _ _ ?_ (fun held8 => ?_)
          · exact (Tc.of LP.out.tw.b).c0.trans (by rw [HN.out])
          clear hK K
          try simp only [Act.put, List.setIfInBounds_toArray, List.set_cons_zero, List.set_cons_succ]
          refine takeH_yes (i := 9) (d := some 4) (v := ?v13) rfl rfl (by kernel_rfl) (by kernel_rfl) (by kernel_rfl) (fun _ _ _ h => h) (by rfl) ?y13 (by assumption) ?_
          case y13 => (intro w hSw; (try dsimp only at hSw); go_simp <;> with_reducible rfl)
          simp only [Act.put, List.setIfInBounds_toArray, List.set_cons_zero, List.set_cons_succ]
          refine wpAnyH_done (by kernel_rfl) ?_ _
          go_wp2_with fail
          go_meet
          exact ⟨_, rfl, rfl, LP⟩
      · go_simp
        have LL0 := Lib.hid (Lk14.new T2.out)
        clear T2
        generalize v2.alloc (.cells #[.bool false, .bool false, .nilFunc, .nilFunc, .nilFunc] 48) = v4 at *
        generalize v2.heap.size = M at *
        refine hK.out _ _ ?_ (fun held7 => ?_)
        · exact (Tc.of LL0.out.tw.b).c0.trans (by rw [HN.out])
        clear hK K
        try simp only [Act.put, List.setIfInBounds_toArray, List.set_cons_zero, List.set_cons_succ]
        refine wpAnyH_ready (rs := [0]) (by kernel_rfl) (by simp) ?_
        refine AllReadyH.cons rfl (fun K hK => ?_) AllReadyH.nil
        go_simp
        refine (modes14_any _).mono ?_
        rintro e v3 ⟨rfl, hb, hm⟩
        have hk := look14 n true hm
        rw [hval, his] at hk
        have LL := Lib.hid (LL0.out.below hb)
        clear hb hm LL0
        dsimp only
        refine hK.out _ _ ?_ (fun held0 => ?_)
        · exact (Tc.of LL.out.tw.b).c0.trans (by rw [HN.out])
        clear hK K
        try simp only [Act.put, List.setIfInBounds_toArray, List.set_cons_zero, List.set_cons_succ]
        refine wpAnyH_ready (rs := [3]) (by kernel_rfl) (by simp) ?_
        refine AllReadyH.cons rfl (fun K hK => ?_) AllReadyH.nil
        go_simp
        refine hK.out _ _ ?_ (fun held3 => ?_)
        · exact (Tc.of LL.out.tw.b).c0.trans (by rw [HN.out])
        clear hK K
        try simp only [Act.put, List.setIfInBounds_toArray, List.set_cons_zero, List.set_cons_succ]
        clear hk
        refine takeH_yes (i := 4) (d := some 5) (v := ?v9) rfl rfl (by kernel_rfl) (by kernel_rfl) (by kernel_rfl) (fun _ _ _ h => h) (by rfl) ?y9 (by assumption) ?_
        case y9 => (intro w hSw; (try dsimp only at hSw); go_simp <;> with_reducible rfl)
        simp only [Act.put, List.setIfInBounds_toArray, List.set_cons_zero, List.set_cons_succ]
        refine takeH_yes (i := 5) (d := some 10) (v := ?v10) rfl rfl (by kernel_rfl) (by kernel_rfl) (by kernel_rfl) (fun _ _ _ h => h) (by rfl) ?y10 (by assumption) ?_
        case y10 => (intro w hSw; (try dsimp only at hSw); go_simp <;> with_reducible rfl)
        simp only [Act.put, List.setIfInBounds_toArray, List.set_cons_zero, List.set_cons_succ]
        refine takeH_yes (i := 6) (d := some 11) (v := ?v11) rfl rfl (by kernel_rfl) (by kernel_rfl) (by kernel_rfl) (fun _ _ _ h => h) (by rfl) ?y11 (by assumption) ?_
        case y11 => (intro w hSw; (try dsimp only at hSw); go_simp <;> with_reducible rfl)
        simp only [Act.put, List.setIfInBounds_toArray, List.set_cons_zero, List.set_cons_succ]
        have LP := Lib.hid (LL.out.row #[.bool ms, .bool mk, .func (.func nS) #[] #[], .func (.func nP) #[] #[], .func (.func nG) #[] #[]])
        refine wpAnyH_ready (rs := [8]) (by kernel_rfl) (by simp) ?_
        refine AllReadyH.cons rfl (fun K hK => ?_) AllReadyH.nil
        rw [if_pos (by rfl)]
        refine wp_store_row 48 (.tmp 3) (.tmp 10) rfl M #[.bool ms, .bool mk, .func (.func nS) #[] #[], .func (.func nP) #[] #[], .func (.func nG) #[] #[]] rfl rfl 48 #[.bool false, .bool false, .nilFunc, .nilFunc, .nilFunc] LL.out.m (by kernel_rfl) rfl (by simp; (repeat' apply And.intro); all_goals rfl) ?_
        clear LL
        refine hK.out _ _ ?_ (fun held8 => ?_)
        · exact (Tc.of LP.out.tw.b).c0.trans (by rw [HN.out])
        clear hK K
        try simp only [Act.put, List.setIfInBounds_toArray, List.set_cons_zero, List.set_cons_succ]
        refine takeH_yes (i := 9) (d := some 4) (v := ?v14) rfl rfl (by kernel_rfl) (by kernel_rfl) (by kernel_rfl) (fun _ _ _ h => h) (by rfl) ?y14 (by assumption) ?_
        case y14 => (intro w hSw; (try dsimp only at hSw); go_simp <;> with_reducible rfl)
        simp only [Act.put, List.setIfInBounds_toArray, List.set_cons_zero, List.set_cons_succ]
        refine wpAnyH_done (by kernel_rfl) ?_ _
        go_wp2_with fail
        go_meet
        exact ⟨_, rfl, rfl, LP⟩
    case rest =>
      obtain ⟨M, rfl, rfl, L⟩ := hcut
      have c0 := L.out.m.cell 0
      have c1 := L.out.m.cell 1
      simp only [List.getElem?_toArray, List.getElem?_cons_zero, List.getElem?_cons_succ] at c0 c1
      have hb := L.out.tw.b
      rw [HTC.out] at hb
      have ⟨k0, k1, k2, k3, k4, k5, k6⟩ := Tc.of (t := ⟨n, sum, key, v, df, ttl, tos⟩) hb
      simp only at k0 k1 k2 k3 k4 k5 k6
      clear hb
      have W1 := Lib.hid (within14_any ttl 255 wc)
      have W2 := Lib.hid (within14_any tos 255 wc)
      generalize within14 ttl 255 = b1 at *
      generalize within14 tos 255 = b2 at *
      cases b1 with
      | false =>
        go_wp2_with fail
        refine W1.out.mono ?_
        rintro e w5 ⟨rfl, rfl⟩
        go_wp2_with fail
        go_ret
        rw [HX.out, HRG.out]
        exact ⟨rfl, L.out.tw.bel⟩
      | true =>
        cases b2 with
        | false =>
          go_wp2_with fail
          refine W1.out.mono ?_
          rintro e w5 ⟨rfl, rfl⟩
          go_wp2_with fail
          refine W2.out.mono ?_
          rintro e w5 ⟨rfl, rfl⟩
          go_wp2_with fail
          go_ret
          rw [HX.out, HRG.out]
          exact ⟨rfl, L.out.tw.bel⟩
        | true =>
          have HX2 : Hid (R = if FM = true then 9 else 0) := by show R = _; rw [HX.out, HRG.out]; rfl
          clear HX HRG
          obtain ⟨dv, hdv⟩ : ∃ dv, dv = ((v : Int) != 0) := ⟨_, rfl⟩
          have hd2 : decide (v ≠ 0) = dv := by rw [hdv]; by_cases h : v = 0 <;> simp [h]
          rw [hd2] at HF
          clear hd2
          have tv := hdv.symm
          clear hdv
          go_wp2_with fail
          refine W1.out.mono ?_
          rintro e w5 ⟨rfl, rfl⟩
          go_wp2_with fail
          refine W2.out.mono ?_
          rintro e w5 ⟨rfl, rfl⟩
          clear W1 W2
          cases sum <;> cases ms <;> cases key <;> cases mk <;> cases dv <;> (go_wp2_with fail; go_ret; exact ⟨by rw [HX2.out, HF.out]; rfl, L.out.tw.bel⟩)

end Go.Proofs.YtmghdgkdnacinaaDoor
