/-
  A sum, updated byte by byte; a number, put into a packet; the nearest limit.
-/
import Derived.Test.YtppobficnjpdiaaClampSum
import Derived.Test.YtppobficnjpdiaaFlowHead
import Derived.LoopN
import Derived.Test.YtppobficnjpdiaaSums
import Derived.Test.YtppobficnjpdiaaGround
import Derived.Deep.RegionHeld3
import Derived.Deep.CutBlock
namespace Go.Proofs.Ytppobficnjpdiaa
open Go.RowKit
set_option linter.unusedVariables false

set_option maxRecDepth 100000 in
set_option maxHeartbeats 1000000 in
theorem share0_any (x : NK) (w : World) (hx : x.is_ ≤ 65535) (ha : x.at_ ≤ 1000000) :
    Calls Try.prog 54 #[.agg x.cells, .int .i64 0] w (Tells (.int .i64 (shareK x 0 : Nat)) w) := by
  have HS : Hid (shareK x 0 = if x.at_ % 2 = 0 then x.is_ / 256 % 256 * 256 else x.is_ / 256 % 256) := by
    show shareK x 0 = _
    unfold shareK
    simp only [Nat.add_zero, Nat.sub_zero, Nat.pow_one]
  have B := Lib.hid (Blk.new w x.cells 54)
  have L := Lib.hid ((Below.refl w.heap.size w).alloc (Nat.le_refl _) (.cells x.cells 54))
  have ⟨c0, c1, _, _⟩ := HcK.of B.out
  unfold NK.cells at B L c0 c1 ⊢
  generalize shareK x 0 = r at *
  obtain ⟨a, n⟩ := x
  simp only at HS hx ha c0 c1 B L ⊢
  have em : bits .and .i64 ((n : Int) / 256) 255 = ((n / 256 % 256 : Nat) : Int) := (i64_and255 _).trans (by omega)
  unfold Tells
  by_cases hp : a % 2 = 0
  · have t1 : ((a : Int) % 2 == 0) = true := by simp; omega
    have hr := HS.out.trans (if_pos hp)
    have e1 : ((n : Int) / 256 % 256 * 256) = (r : Int) := by omega
    clear HS hr hp
    go_enter Try.func54, Try.ntmps54
    go_wp2_with fail
    go_ret
    exact ⟨rfl, L.out⟩
  · have t1 : ((a : Int) % 2 == 0) = false := by simp; omega
    have hr := HS.out.trans (if_neg hp)
    have e1 : ((n : Int) / 256 % 256) = (r : Int) := by omega
    clear HS hr hp
    go_enter Try.func54, Try.ntmps54
    go_wp2_with fail
    go_ret
    exact ⟨rfl, L.out⟩

set_option maxRecDepth 100000 in
set_option maxHeartbeats 1000000 in
theorem share1_any (x : NK) (w : World) (hx : x.is_ ≤ 65535) (ha : x.at_ ≤ 1000000) :
    Calls Try.prog 54 #[.agg x.cells, .int .i64 1] w (Tells (.int .i64 (shareK x 1 : Nat)) w) := by
  have HS : Hid (shareK x 1 = if (x.at_ + 1) % 2 = 0 then x.is_ % 256 * 256 else x.is_ % 256) := by
    show shareK x 1 = _
    unfold shareK
    simp only [Nat.sub_self, Nat.pow_zero, Nat.div_one]
  have B := Lib.hid (Blk.new w x.cells 54)
  have L := Lib.hid ((Below.refl w.heap.size w).alloc (Nat.le_refl _) (.cells x.cells 54))
  have ⟨c0, c1, _, _⟩ := HcK.of B.out
  unfold NK.cells at B L c0 c1 ⊢
  generalize shareK x 1 = r at *
  obtain ⟨a, n⟩ := x
  simp only at HS hx ha c0 c1 B L ⊢
  have em : bits .and .i64 ((n : Int)) 255 = ((n % 256 : Nat) : Int) := (i64_and255 _).trans (by omega)
  unfold Tells
  by_cases hp : (a + 1) % 2 = 0
  · have t1 : (((a : Int) + 1) % 2 == 0) = true := by simp; omega
    have hr := HS.out.trans (if_pos hp)
    have e1 : ((n : Int) % 256 * 256) = (r : Int) := by omega
    clear HS hr hp
    go_enter Try.func54, Try.ntmps54
    go_wp2_with fail
    go_ret
    exact ⟨rfl, L.out⟩
  · have t1 : (((a : Int) + 1) % 2 == 0) = false := by simp; omega
    have hr := HS.out.trans (if_neg hp)
    have e1 : ((n : Int) % 256) = (r : Int) := by omega
    clear HS hr hp
    go_enter Try.func54, Try.ntmps54
    go_wp2_with fail
    go_ret
    exact ⟨rfl, L.out⟩

/-- The four blocks of an update. -/
structure Uk (w W : World) (a b c d : NK) : Prop where
  a : Blk W w.heap.size a.cells 54
  b : Blk W (w.heap.size + 1) b.cells 54
  c : Blk W (w.heap.size + 1 + 1) c.cells 54
  d : Blk W (w.heap.size + 1 + 1 + 1) d.cells 54
  bel : Below w.heap.size w W
theorem Uk.new (w : World) (a b c d : NK) : Uk w ((((w.alloc (.cells a.cells 54)).alloc (.cells b.cells 54)).alloc (.cells c.cells 54)).alloc (.cells d.cells 54)) a b c d := by
  have e1 := Blk.new w a.cells 54
  have b1 : Below w.heap.size w (w.alloc (.cells a.cells 54)) := (Below.refl _ _).alloc (Nat.le_refl _) _
  have s1 : (w.alloc (.cells a.cells 54)).heap.size = w.heap.size + 1 := by simp
  generalize w.alloc (.cells a.cells 54) = w1 at *
  have e2 := Blk.new w1 b.cells 54
  have b2 : Below w.heap.size w (w1.alloc (.cells b.cells 54)) := b1.alloc (by omega) _
  have s2 : (w1.alloc (.cells b.cells 54)).heap.size = w.heap.size + 1 + 1 := by simp; omega
  have e1' := e1.alloc (.cells b.cells 54)
  generalize w1.alloc (.cells b.cells 54) = w2 at *
  have e3 := Blk.new w2 c.cells 54
  have b3 : Below w.heap.size w (w2.alloc (.cells c.cells 54)) := b2.alloc (by omega) _
  have s3 : (w2.alloc (.cells c.cells 54)).heap.size = w.heap.size + 1 + 1 + 1 := by simp; omega
  have e1'' := e1'.alloc (.cells c.cells 54)
  have e2' := e2.alloc (.cells c.cells 54)
  generalize w2.alloc (.cells c.cells 54) = w3 at *
  have e4 := Blk.new w3 d.cells 54
  rw [s1] at e2'
  rw [s2] at e3
  rw [s3] at e4
  exact ⟨e1''.alloc _, e2'.alloc _, e3.alloc _, e4, b3.alloc (by omega) _⟩
theorem Uk.below {w W W' : World} {a b c d : NK} (h : Uk w W a b c d) (hb : Below W.heap.size W W') : Uk w W' a b c d :=
  ⟨(hb.block _ h.a.lt).trans h.a, (hb.block _ h.b.lt).trans h.b, (hb.block _ h.c.lt).trans h.c, (hb.block _ h.d.lt).trans h.d, h.bel.trans (hb.mono h.bel.size)⟩
theorem Uk.drew {w W : World} {a b c d : NK} (h : Uk w W a b c d) : Uk w W.drew a b c d := ⟨h.a.drew, h.b.drew, h.c.drew, h.d.drew, below_drewN h.bel 1⟩
theorem Uk.set {w W : World} {a b c d : NK} (h : Uk w W a b c d) (n : Nat) : Uk w (W.setCell ⟨w.heap.size, 1, none⟩ (.int .i64 (n : Nat))) ⟨a.at_, n⟩ b c d :=
  ⟨h.a.set 1 _, h.b.set_other (by simp) _, h.c.set_other (by simp; omega) _, h.d.set_other (by simp; omega) _, h.bel.setCell (p := ⟨w.heap.size, 1, none⟩) (Nat.le_refl _) _⟩

theorem keepUk {w W : World} {a b c d : NK} (h : Uk w W a b c d) :
    W.cell? ⟨w.heap.size + 1, 0, none⟩ = some (.int .i64 (b.at_ : Nat)) ∧ W.cell? ⟨w.heap.size + 1, 1, none⟩ = some (.int .i64 (b.is_ : Nat)) ∧ W.cell? ⟨w.heap.size + 1 + 1, 0, none⟩ = some (.int .i64 (c.at_ : Nat)) ∧ W.cell? ⟨w.heap.size + 1 + 1, 1, none⟩ = some (.int .i64 (c.is_ : Nat)) :=
  ⟨h.b.cell 0, h.b.cell 1, h.c.cell 0, h.c.cell 1⟩

set_option maxRecDepth 100000 in
set_option maxHeartbeats 2000000 in
theorem updated_any (own old fresh : NK) (w : World) (h0 : own.is_ ≤ 65535) (h1 : old.is_ ≤ 65535) (h2 : fresh.is_ ≤ 65535) (g1 : old.at_ ≤ 1000000) (g2 : fresh.at_ ≤ 1000000) :
    Calls Try.prog 24 #[.agg own.cells, .agg old.cells, .agg fresh.cells] w (Tells (.agg (updK own old fresh).cells) w) := by
  have U0 := Lib.hid (Uk.new w own old fresh NK.zero)
  have HO0 := Lib.hid (fun W => share0_any old W h1 g1)
  have HO1 := Lib.hid (fun W => share1_any old W h1 g1)
  have HF0 := Lib.hid (fun W => share0_any fresh W h2 g2)
  have HF1 := Lib.hid (fun W => share1_any fresh W h2 g2)
  have HU0 := Lib.hid (fun W => update_any own.is_ (shareK old 0) (shareK fresh 0) W)
  rw [updI_nat _ _ _ h0 (by have := shareK_le old 0; omega) (by have := shareK_le fresh 0; omega)] at HU0
  have HU1 := Lib.hid (fun W => update_any (updD own.is_ (shareK old 0) (shareK fresh 0)) (shareK old 1) (shareK fresh 1) W)
  rw [updI_nat _ _ _ (updD_le _ _ _) (by have := shareK_le old 1; omega) (by have := shareK_le fresh 1; omega)] at HU1
  have HR : Hid (updK own old fresh = ⟨own.at_, updD (updD own.is_ (shareK old 0) (shareK fresh 0)) (shareK old 1) (shareK fresh 1)⟩) := rfl
  unfold Tells at HO0 HO1 HF0 HF1 ⊢
  unfold SumEnd at HU0 HU1
  rw [HR.out]
  clear HR
  generalize updD (updD own.is_ (shareK old 0) (shareK fresh 0)) (shareK old 1) (shareK fresh 1) = m2 at *
  generalize updD own.is_ (shareK old 0) (shareK fresh 0) = m1 at *
  generalize shareK old 0 = so0 at *
  generalize shareK old 1 = so1 at *
  generalize shareK fresh 0 = sf0 at *
  generalize shareK fresh 1 = sf1 at *
  unfold NK.cells at HO0 HO1 HF0 HF1 ⊢
  unfold NK.cells NK.zero at U0
  simp only [Int.cast_ofNat_Int] at U0
  go_enter Try.func24, Try.ntmps24
  go_wp2_with fail
  generalize (((w.alloc (.cells #[.int .i64 (own.at_ : Nat), .int .i64 (own.is_ : Nat)] 54)).alloc (.cells #[.int .i64 (old.at_ : Nat), .int .i64 (old.is_ : Nat)] 54)).alloc (.cells #[.int .i64 (fresh.at_ : Nat), .int .i64 (fresh.is_ : Nat)] 54)).alloc (.cells #[.int .i64 0, .int .i64 0] 54) = u0 at *
  refine wp_loop_rounds 3 ?_
  rw [rounds_succ]
  go_upto_block 1 with (fail)
  go_cut [7, 8] from 7 to 21 (fun v7 v8 wx => v7 = .int .i64 0 ∧ v8 = .int .i64 0 ∧ Hid (Uk w wx ⟨own.at_, m1⟩ old fresh NK.zero))
  case first =>
    go_upto_region 4 with (fail)
    have A := Lib.hid U0.out.drew
    have ⟨n1, n2, n3, n4⟩ := keepUk A.out
    refine wp_region_held_drew (S := (fun W => W.cell? ⟨w.heap.size + 1, 0, none⟩ = some (.int .i64 (old.at_ : Nat)) ∧ W.cell? ⟨w.heap.size + 1, 1, none⟩ = some (.int .i64 (old.is_ : Nat)) ∧ W.cell? ⟨w.heap.size + 1 + 1, 0, none⟩ = some (.int .i64 (fresh.at_ : Nat)) ∧ W.cell? ⟨w.heap.size + 1 + 1, 1, none⟩ = some (.int .i64 (fresh.is_ : Nat)))) (by kernel_rfl) ?_ (fun hHeld => ?_)
    · exact ⟨n1, n2, n3, n4⟩
    clear n1 n2 n3 n4
    generalize u0.drew = W1 at *
    refine takeH_yes (i := 0) (d := some 11) (v := ?v1) rfl rfl (by kernel_rfl) (by kernel_rfl) (by kernel_rfl) (fun _ _ _ h => h) (by rfl) ?y1 (by assumption) ?_
    case y1 => (intro w hSw; (try dsimp only at hSw); go_simp <;> with_reducible rfl)
    simp only [Act.put, List.setIfInBounds_toArray, List.set_cons_zero, List.set_cons_succ]
    refine takeH_yes (i := 2) (d := some 13) (v := ?v2) rfl rfl (by kernel_rfl) (by kernel_rfl) (by kernel_rfl) (fun _ _ _ h => h) (by rfl) ?y2 (by assumption) ?_
    case y2 => (intro w hSw; (try dsimp only at hSw); go_simp <;> with_reducible rfl)
    simp only [Act.put, List.setIfInBounds_toArray, List.set_cons_zero, List.set_cons_succ]
    refine takeH_yes (i := 3) (d := some 14) (v := ?v3) rfl rfl (by kernel_rfl) (by kernel_rfl) (by kernel_rfl) (fun _ _ _ h => h) (by rfl) ?y3 (by assumption) ?_
    case y3 => (intro w hSw; (try dsimp only at hSw); go_simp <;> with_reducible rfl)
    simp only [Act.put, List.setIfInBounds_toArray, List.set_cons_zero, List.set_cons_succ]
    refine takeH_yes (i := 5) (d := some 16) (v := ?v4) rfl rfl (by kernel_rfl) (by kernel_rfl) (by kernel_rfl) (fun _ _ _ h => h) (by rfl) ?y4 (by assumption) ?_
    case y4 => (intro w hSw; (try dsimp only at hSw); go_simp <;> with_reducible rfl)
    simp only [Act.put, List.setIfInBounds_toArray, List.set_cons_zero, List.set_cons_succ]
    refine takeH_yes (i := 6) (d := some 17) (v := ?v5) rfl rfl (by kernel_rfl) (by kernel_rfl) (by kernel_rfl) (fun _ _ _ h => h) (by rfl) ?y5 (by assumption) ?_
    case y5 => (intro w hSw; (try dsimp only at hSw); go_simp <;> with_reducible rfl)
    simp only [Act.put, List.setIfInBounds_toArray, List.set_cons_zero, List.set_cons_succ]
    refine wpAnyH_ready (rs := [1, 4]) (by kernel_rfl) (by simp) ?_
    refine AllReadyH.cons rfl (fun K hK => ?_) (AllReadyH.cons rfl (fun K hK => ?_) AllReadyH.nil)
    · have c1 := A.out.a.cell 1
      simp only [NK.cells, List.getElem?_toArray, List.getElem?_cons_zero, List.getElem?_cons_succ] at c1
      go_simp
      refine hK.out _ _ ?_ (fun held1 => ?_)
      · exact keepUk A.out
      clear hK K c1
      try simp only [Act.put, List.setIfInBounds_toArray, List.set_cons_zero, List.set_cons_succ]
      refine wpAnyH_ready (rs := [4]) (by kernel_rfl) (by simp) ?_
      refine AllReadyH.cons rfl (fun K hK => ?_) AllReadyH.nil
      go_simp
      refine (HO0.out _).mono ?_
      rintro e vA4 ⟨rfl, hb⟩
      have A4 := Lib.hid (A.out.below hb)
      clear hb A
      dsimp only
      refine hK.out _ _ ?_ (fun held4 => ?_)
      · exact keepUk A4.out
      clear hK K
      try simp only [Act.put, List.setIfInBounds_toArray, List.set_cons_zero, List.set_cons_succ]
      refine wpAnyH_ready (rs := [7]) (by kernel_rfl) (by simp) ?_
      refine AllReadyH.cons rfl (fun K hK => ?_) AllReadyH.nil
      go_simp
      refine (HF0.out _).mono ?_
      rintro e vA47 ⟨rfl, hb⟩
      have A47 := Lib.hid (A4.out.below hb)
      clear hb A4
      dsimp only
      refine hK.out _ _ ?_ (fun held7 => ?_)
      · exact keepUk A47.out
      clear hK K
      try simp only [Act.put, List.setIfInBounds_toArray, List.set_cons_zero, List.set_cons_succ]
      refine wpAnyH_ready (rs := [8]) (by kernel_rfl) (by simp) ?_
      refine AllReadyH.cons rfl (fun K hK => ?_) AllReadyH.nil
      go_simp
      refine (HU0.out _).mono ?_
      rintro e vA478 ⟨rfl, hb⟩
      have A478 := Lib.hid (A47.out.below hb)
      clear hb A47
      dsimp only
      refine hK.out _ _ ?_ (fun held8 => ?_)
      · exact keepUk A478.out
      clear hK K
      try simp only [Act.put, List.setIfInBounds_toArray, List.set_cons_zero, List.set_cons_succ]
      refine takeH_yes (i := 9) (d := some 20) (v := ?v6) rfl rfl (by kernel_rfl) (by kernel_rfl) (by kernel_rfl) (fun _ _ _ h => h) (by rfl) ?y6 (by assumption) ?_
      case y6 => (intro w hSw; (try dsimp only at hSw); go_simp <;> with_reducible rfl)
      simp only [Act.put, List.setIfInBounds_toArray, List.set_cons_zero, List.set_cons_succ]
      have f1 := A478.out.a.frozen 1
      have c1 := A478.out.a.cell 1
      simp only [NK.cells, List.getElem?_toArray, List.getElem?_cons_zero, List.getElem?_cons_succ] at c1
      have Z := Lib.hid (A478.out.set m1)
      refine wpAnyH_ready (rs := [10]) (by kernel_rfl) (by simp) ?_
      refine AllReadyH.cons rfl (fun K hK => ?_) AllReadyH.nil
      go_simp
      refine hK.out _ _ ?_ (fun held10 => ?_)
      · exact keepUk Z.out
      clear hK K c1 f1
      try simp only [Act.put, List.setIfInBounds_toArray, List.set_cons_zero, List.set_cons_succ]
      refine wpAnyH_done (by kernel_rfl) ?_ _
      go_wp2_with fail
      go_meet
      exact ⟨rfl, rfl, Z⟩
    · go_simp
      refine (HO0.out _).mono ?_
      rintro e vA4 ⟨rfl, hb⟩
      have A4 := Lib.hid (A.out.below hb)
      clear hb A
      dsimp only
      refine hK.out _ _ ?_ (fun held4 => ?_)
      · exact keepUk A4.out
      clear hK K
      try simp only [Act.put, List.setIfInBounds_toArray, List.set_cons_zero, List.set_cons_succ]
      refine wpAnyH_ready (rs := [1, 7]) (by kernel_rfl) (by simp) ?_
      refine AllReadyH.cons rfl (fun K hK => ?_) (AllReadyH.cons rfl (fun K hK => ?_) AllReadyH.nil)
      · have c1 := A4.out.a.cell 1
        simp only [NK.cells, List.getElem?_toArray, List.getElem?_cons_zero, List.getElem?_cons_succ] at c1
        go_simp
        refine hK.out _ _ ?_ (fun held1 => ?_)
        · exact keepUk A4.out
        clear hK K c1
        try simp only [Act.put, List.setIfInBounds_toArray, List.set_cons_zero, List.set_cons_succ]
        refine wpAnyH_ready (rs := [7]) (by kernel_rfl) (by simp) ?_
        refine AllReadyH.cons rfl (fun K hK => ?_) AllReadyH.nil
        go_simp
        refine (HF0.out _).mono ?_
        rintro e vA47 ⟨rfl, hb⟩
        have A47 := Lib.hid (A4.out.below hb)
        clear hb A4
        dsimp only
        refine hK.out _ _ ?_ (fun held7 => ?_)
        · exact keepUk A47.out
        clear hK K
        try simp only [Act.put, List.setIfInBounds_toArray, List.set_cons_zero, List.set_cons_succ]
        refine wpAnyH_ready (rs := [8]) (by kernel_rfl) (by simp) ?_
        refine AllReadyH.cons rfl (fun K hK => ?_) AllReadyH.nil
        go_simp
        refine (HU0.out _).mono ?_
        rintro e vA478 ⟨rfl, hb⟩
        have A478 := Lib.hid (A47.out.below hb)
        clear hb A47
        dsimp only
        refine hK.out _ _ ?_ (fun held8 => ?_)
        · exact keepUk A478.out
        clear hK K
        try simp only [Act.put, List.setIfInBounds_toArray, List.set_cons_zero, List.set_cons_succ]
        refine takeH_yes (i := 9) (d := some 20) (v := ?v7) rfl rfl (by kernel_rfl) (by kernel_rfl) (by kernel_rfl) (fun _ _ _ h => h) (by rfl) ?y7 (by assumption) ?_
        case y7 => (intro w hSw; (try dsimp only at hSw); go_simp <;> with_reducible rfl)
        simp only [Act.put, List.setIfInBounds_toArray, List.set_cons_zero, List.set_cons_succ]
        have f1 := A478.out.a.frozen 1
        have c1 := A478.out.a.cell 1
        simp only [NK.cells, List.getElem?_toArray, List.getElem?_cons_zero, List.getElem?_cons_succ] at c1
        have Z := Lib.hid (A478.out.set m1)
        refine wpAnyH_ready (rs := [10]) (by kernel_rfl) (by simp) ?_
        refine AllReadyH.cons rfl (fun K hK => ?_) AllReadyH.nil
        go_simp
        refine hK.out _ _ ?_ (fun held10 => ?_)
        · exact keepUk Z.out
        clear hK K c1 f1
        try simp only [Act.put, List.setIfInBounds_toArray, List.set_cons_zero, List.set_cons_succ]
        refine wpAnyH_done (by kernel_rfl) ?_ _
        go_wp2_with fail
        go_meet
        exact ⟨rfl, rfl, Z⟩
      · go_simp
        refine (HF0.out _).mono ?_
        rintro e vA47 ⟨rfl, hb⟩
        have A47 := Lib.hid (A4.out.below hb)
        clear hb A4
        dsimp only
        refine hK.out _ _ ?_ (fun held7 => ?_)
        · exact keepUk A47.out
        clear hK K
        try simp only [Act.put, List.setIfInBounds_toArray, List.set_cons_zero, List.set_cons_succ]
        refine wpAnyH_ready (rs := [1]) (by kernel_rfl) (by simp) ?_
        refine AllReadyH.cons rfl (fun K hK => ?_) AllReadyH.nil
        have c1 := A47.out.a.cell 1
        simp only [NK.cells, List.getElem?_toArray, List.getElem?_cons_zero, List.getElem?_cons_succ] at c1
        go_simp
        refine hK.out _ _ ?_ (fun held1 => ?_)
        · exact keepUk A47.out
        clear hK K c1
        try simp only [Act.put, List.setIfInBounds_toArray, List.set_cons_zero, List.set_cons_succ]
        refine wpAnyH_ready (rs := [8]) (by kernel_rfl) (by simp) ?_
        refine AllReadyH.cons rfl (fun K hK => ?_) AllReadyH.nil
        go_simp
        refine (HU0.out _).mono ?_
        rintro e vA478 ⟨rfl, hb⟩
        have A478 := Lib.hid (A47.out.below hb)
        clear hb A47
        dsimp only
        refine hK.out _ _ ?_ (fun held8 => ?_)
        · exact keepUk A478.out
        clear hK K
        try simp only [Act.put, List.setIfInBounds_toArray, List.set_cons_zero, List.set_cons_succ]
        refine takeH_yes (i := 9) (d := some 20) (v := ?v8) rfl rfl (by kernel_rfl) (by kernel_rfl) (by kernel_rfl) (fun _ _ _ h => h) (by rfl) ?y8 (by assumption) ?_
        case y8 => (intro w hSw; (try dsimp only at hSw); go_simp <;> with_reducible rfl)
        simp only [Act.put, List.setIfInBounds_toArray, List.set_cons_zero, List.set_cons_succ]
        have f1 := A478.out.a.frozen 1
        have c1 := A478.out.a.cell 1
        simp only [NK.cells, List.getElem?_toArray, List.getElem?_cons_zero, List.getElem?_cons_succ] at c1
        have Z := Lib.hid (A478.out.set m1)
        refine wpAnyH_ready (rs := [10]) (by kernel_rfl) (by simp) ?_
        refine AllReadyH.cons rfl (fun K hK => ?_) AllReadyH.nil
        go_simp
        refine hK.out _ _ ?_ (fun held10 => ?_)
        · exact keepUk Z.out
        clear hK K c1 f1
        try simp only [Act.put, List.setIfInBounds_toArray, List.set_cons_zero, List.set_cons_succ]
        refine wpAnyH_done (by kernel_rfl) ?_ _
        go_wp2_with fail
        go_meet
        exact ⟨rfl, rfl, Z⟩
  case rest =>
    obtain ⟨rfl, rfl, U1⟩ := hcut
    clear U0
    go_wp2_with fail
    rw [rounds_succ]
    go_upto_block 1 with (fail)
    go_cut [7, 8] from 7 to 21 (fun v7 v8 wx => v7 = .int .i64 1 ∧ v8 = .int .i64 1 ∧ Hid (Uk w wx ⟨own.at_, m2⟩ old fresh NK.zero))
    case first =>
      go_upto_region 4 with (fail)
      have A := Lib.hid U1.out.drew
      have ⟨n1, n2, n3, n4⟩ := keepUk A.out
      refine wp_region_held_drew (S := (fun W => W.cell? ⟨w.heap.size + 1, 0, none⟩ = some (.int .i64 (old.at_ : Nat)) ∧ W.cell? ⟨w.heap.size + 1, 1, none⟩ = some (.int .i64 (old.is_ : Nat)) ∧ W.cell? ⟨w.heap.size + 1 + 1, 0, none⟩ = some (.int .i64 (fresh.at_ : Nat)) ∧ W.cell? ⟨w.heap.size + 1 + 1, 1, none⟩ = some (.int .i64 (fresh.is_ : Nat)))) (by kernel_rfl) ?_ (fun hHeld => ?_)
      · exact ⟨n1, n2, n3, n4⟩
      clear n1 n2 n3 n4
      generalize wc.drew = W1 at *
      refine takeH_yes (i := 0) (d := some 11) (v := ?v9) rfl rfl (by kernel_rfl) (by kernel_rfl) (by kernel_rfl) (fun _ _ _ h => h) (by rfl) ?y9 (by assumption) ?_
      case y9 => (intro w hSw; (try dsimp only at hSw); go_simp <;> with_reducible rfl)
      simp only [Act.put, List.setIfInBounds_toArray, List.set_cons_zero, List.set_cons_succ]
      refine takeH_yes (i := 2) (d := some 13) (v := ?v10) rfl rfl (by kernel_rfl) (by kernel_rfl) (by kernel_rfl) (fun _ _ _ h => h) (by rfl) ?y10 (by assumption) ?_
      case y10 => (intro w hSw; (try dsimp only at hSw); go_simp <;> with_reducible rfl)
      simp only [Act.put, List.setIfInBounds_toArray, List.set_cons_zero, List.set_cons_succ]
      refine takeH_yes (i := 3) (d := some 14) (v := ?v11) rfl rfl (by kernel_rfl) (by kernel_rfl) (by kernel_rfl) (fun _ _ _ h => h) (by rfl) ?y11 (by assumption) ?_
      case y11 => (intro w hSw; (try dsimp only at hSw); go_simp <;> with_reducible rfl)
      simp only [Act.put, List.setIfInBounds_toArray, List.set_cons_zero, List.set_cons_succ]
      refine takeH_yes (i := 5) (d := some 16) (v := ?v12) rfl rfl (by kernel_rfl) (by kernel_rfl) (by kernel_rfl) (fun _ _ _ h => h) (by rfl) ?y12 (by assumption) ?_
      case y12 => (intro w hSw; (try dsimp only at hSw); go_simp <;> with_reducible rfl)
      simp only [Act.put, List.setIfInBounds_toArray, List.set_cons_zero, List.set_cons_succ]
      refine takeH_yes (i := 6) (d := some 17) (v := ?v13) rfl rfl (by kernel_rfl) (by kernel_rfl) (by kernel_rfl) (fun _ _ _ h => h) (by rfl) ?y13 (by assumption) ?_
      case y13 => (intro w hSw; (try dsimp only at hSw); go_simp <;> with_reducible rfl)
      simp only [Act.put, List.setIfInBounds_toArray, List.set_cons_zero, List.set_cons_succ]
      refine wpAnyH_ready (rs := [1, 4]) (by kernel_rfl) (by simp) ?_
      refine AllReadyH.cons rfl (fun K hK => ?_) (AllReadyH.cons rfl (fun K hK => ?_) AllReadyH.nil)
      · have c1 := A.out.a.cell 1
        simp only [NK.cells, List.getElem?_toArray, List.getElem?_cons_zero, List.getElem?_cons_succ] at c1
        go_simp
        refine hK.out _ _ ?_ (fun held1 => ?_)
        · exact keepUk A.out
        clear hK K c1
        try simp only [Act.put, List.setIfInBounds_toArray, List.set_cons_zero, List.set_cons_succ]
        refine wpAnyH_ready (rs := [4]) (by kernel_rfl) (by simp) ?_
        refine AllReadyH.cons rfl (fun K hK => ?_) AllReadyH.nil
        go_simp
        refine (HO1.out _).mono ?_
        rintro e vA4 ⟨rfl, hb⟩
        have A4 := Lib.hid (A.out.below hb)
        clear hb A
        dsimp only
        refine hK.out _ _ ?_ (fun held4 => ?_)
        · exact keepUk A4.out
        clear hK K
        try simp only [Act.put, List.setIfInBounds_toArray, List.set_cons_zero, List.set_cons_succ]
        refine wpAnyH_ready (rs := [7]) (by kernel_rfl) (by simp) ?_
        refine AllReadyH.cons rfl (fun K hK => ?_) AllReadyH.nil
        go_simp
        refine (HF1.out _).mono ?_
        rintro e vA47 ⟨rfl, hb⟩
        have A47 := Lib.hid (A4.out.below hb)
        clear hb A4
        dsimp only
        refine hK.out _ _ ?_ (fun held7 => ?_)
        · exact keepUk A47.out
        clear hK K
        try simp only [Act.put, List.setIfInBounds_toArray, List.set_cons_zero, List.set_cons_succ]
        refine wpAnyH_ready (rs := [8]) (by kernel_rfl) (by simp) ?_
        refine AllReadyH.cons rfl (fun K hK => ?_) AllReadyH.nil
        go_simp
        refine (HU1.out _).mono ?_
        rintro e vA478 ⟨rfl, hb⟩
        have A478 := Lib.hid (A47.out.below hb)
        clear hb A47
        dsimp only
        refine hK.out _ _ ?_ (fun held8 => ?_)
        · exact keepUk A478.out
        clear hK K
        try simp only [Act.put, List.setIfInBounds_toArray, List.set_cons_zero, List.set_cons_succ]
        refine takeH_yes (i := 9) (d := some 20) (v := ?v14) rfl rfl (by kernel_rfl) (by kernel_rfl) (by kernel_rfl) (fun _ _ _ h => h) (by rfl) ?y14 (by assumption) ?_
        case y14 => (intro w hSw; (try dsimp only at hSw); go_simp <;> with_reducible rfl)
        simp only [Act.put, List.setIfInBounds_toArray, List.set_cons_zero, List.set_cons_succ]
        have f1 := A478.out.a.frozen 1
        have c1 := A478.out.a.cell 1
        simp only [NK.cells, List.getElem?_toArray, List.getElem?_cons_zero, List.getElem?_cons_succ] at c1
        have Z := Lib.hid (A478.out.set m2)
        refine wpAnyH_ready (rs := [10]) (by kernel_rfl) (by simp) ?_
        refine AllReadyH.cons rfl (fun K hK => ?_) AllReadyH.nil
        go_simp
        refine hK.out _ _ ?_ (fun held10 => ?_)
        · exact keepUk Z.out
        clear hK K c1 f1
        try simp only [Act.put, List.setIfInBounds_toArray, List.set_cons_zero, List.set_cons_succ]
        refine wpAnyH_done (by kernel_rfl) ?_ _
        go_wp2_with fail
        go_meet
        exact ⟨rfl, rfl, Z⟩
      · go_simp
        refine (HO1.out _).mono ?_
        rintro e vA4 ⟨rfl, hb⟩
        have A4 := Lib.hid (A.out.below hb)
        clear hb A
        dsimp only
        refine hK.out _ _ ?_ (fun held4 => ?_)
        · exact keepUk A4.out
        clear hK K
        try simp only [Act.put, List.setIfInBounds_toArray, List.set_cons_zero, List.set_cons_succ]
        refine wpAnyH_ready (rs := [1, 7]) (by kernel_rfl) (by simp) ?_
        refine AllReadyH.cons rfl (fun K hK => ?_) (AllReadyH.cons rfl (fun K hK => ?_) AllReadyH.nil)
        · have c1 := A4.out.a.cell 1
          simp only [NK.cells, List.getElem?_toArray, List.getElem?_cons_zero, List.getElem?_cons_succ] at c1
          go_simp
          refine hK.out _ _ ?_ (fun held1 => ?_)
          · exact keepUk A4.out
          clear hK K c1
          try simp only [Act.put, List.setIfInBounds_toArray, List.set_cons_zero, List.set_cons_succ]
          refine wpAnyH_ready (rs := [7]) (by kernel_rfl) (by simp) ?_
          refine AllReadyH.cons rfl (fun K hK => ?_) AllReadyH.nil
          go_simp
          refine (HF1.out _).mono ?_
          rintro e vA47 ⟨rfl, hb⟩
          have A47 := Lib.hid (A4.out.below hb)
          clear hb A4
          dsimp only
          refine hK.out _ _ ?_ (fun held7 => ?_)
          · exact keepUk A47.out
          clear hK K
          try simp only [Act.put, List.setIfInBounds_toArray, List.set_cons_zero, List.set_cons_succ]
          refine wpAnyH_ready (rs := [8]) (by kernel_rfl) (by simp) ?_
          refine AllReadyH.cons rfl (fun K hK => ?_) AllReadyH.nil
          go_simp
          refine (HU1.out _).mono ?_
          rintro e vA478 ⟨rfl, hb⟩
          have A478 := Lib.hid (A47.out.below hb)
          clear hb A47
          dsimp only
          refine hK.out _ _ ?_ (fun held8 => ?_)
          · exact keepUk A478.out
          clear hK K
          try simp only [Act.put, List.setIfInBounds_toArray, List.set_cons_zero, List.set_cons_succ]
          refine takeH_yes (i := 9) (d := some 20) (v := ?v15) rfl rfl (by kernel_rfl) (by kernel_rfl) (by kernel_rfl) (fun _ _ _ h => h) (by rfl) ?y15 (by assumption) ?_
          case y15 => (intro w hSw; (try dsimp only at hSw); go_simp <;> with_reducible rfl)
          simp only [Act.put, List.setIfInBounds_toArray, List.set_cons_zero, List.set_cons_succ]
          have f1 := A478.out.a.frozen 1
          have c1 := A478.out.a.cell 1
          simp only [NK.cells, List.getElem?_toArray, List.getElem?_cons_zero, List.getElem?_cons_succ] at c1
          have Z := Lib.hid (A478.out.set m2)
          refine wpAnyH_ready (rs := [10]) (by kernel_rfl) (by simp) ?_
          refine AllReadyH.cons rfl (fun K hK => ?_) AllReadyH.nil
          go_simp
          refine hK.out _ _ ?_ (fun held10 => ?_)
          · exact keepUk Z.out
          clear hK K c1 f1
          try simp only [Act.put, List.setIfInBounds_toArray, List.set_cons_zero, List.set_cons_succ]
          refine wpAnyH_done (by kernel_rfl) ?_ _
          go_wp2_with fail
          go_meet
          exact ⟨rfl, rfl, Z⟩
        · go_simp
          refine (HF1.out _).mono ?_
          rintro e vA47 ⟨rfl, hb⟩
          have A47 := Lib.hid (A4.out.below hb)
          clear hb A4
          dsimp only
          refine hK.out _ _ ?_ (fun held7 => ?_)
          · exact keepUk A47.out
          clear hK K
          try simp only [Act.put, List.setIfInBounds_toArray, List.set_cons_zero, List.set_cons_succ]
          refine wpAnyH_ready (rs := [1]) (by kernel_rfl) (by simp) ?_
          refine AllReadyH.cons rfl (fun K hK => ?_) AllReadyH.nil
          have c1 := A47.out.a.cell 1
          simp only [NK.cells, List.getElem?_toArray, List.getElem?_cons_zero, List.getElem?_cons_succ] at c1
          go_simp
          refine hK.out _ _ ?_ (fun held1 => ?_)
          · exact keepUk A47.out
          clear hK K c1
          try simp only [Act.put, List.setIfInBounds_toArray, List.set_cons_zero, List.set_cons_succ]
          refine wpAnyH_ready (rs := [8]) (by kernel_rfl) (by simp) ?_
          refine AllReadyH.cons rfl (fun K hK => ?_) AllReadyH.nil
          go_simp
          refine (HU1.out _).mono ?_
          rintro e vA478 ⟨rfl, hb⟩
          have A478 := Lib.hid (A47.out.below hb)
          clear hb A47
          dsimp only
          refine hK.out _ _ ?_ (fun held8 => ?_)
          · exact keepUk A478.out
          clear hK K
          try simp only [Act.put, List.setIfInBounds_toArray, List.set_cons_zero, List.set_cons_succ]
          refine takeH_yes (i := 9) (d := some 20) (v := ?v16) rfl rfl (by kernel_rfl) (by kernel_rfl) (by kernel_rfl) (fun _ _ _ h => h) (by rfl) ?y16 (by assumption) ?_
          case y16 => (intro w hSw; (try dsimp only at hSw); go_simp <;> with_reducible rfl)
          simp only [Act.put, List.setIfInBounds_toArray, List.set_cons_zero, List.set_cons_succ]
          have f1 := A478.out.a.frozen 1
          have c1 := A478.out.a.cell 1
          simp only [NK.cells, List.getElem?_toArray, List.getElem?_cons_zero, List.getElem?_cons_succ] at c1
          have Z := Lib.hid (A478.out.set m2)
          refine wpAnyH_ready (rs := [10]) (by kernel_rfl) (by simp) ?_
          refine AllReadyH.cons rfl (fun K hK => ?_) AllReadyH.nil
          go_simp
          refine hK.out _ _ ?_ (fun held10 => ?_)
          · exact keepUk Z.out
          clear hK K c1 f1
          try simp only [Act.put, List.setIfInBounds_toArray, List.set_cons_zero, List.set_cons_succ]
          refine wpAnyH_done (by kernel_rfl) ?_ _
          go_wp2_with fail
          go_meet
          exact ⟨rfl, rfl, Z⟩
    case rest =>
      obtain ⟨rfl, rfl, U2⟩ := hcut
      clear U1
      have ⟨a0, a1, _, _⟩ := HcK.of U2.out.a
      have ⟨d0, d1, f0, f1⟩ := HcK.of U2.out.d
      simp only at a0 a1
      simp only [NK.zero, Int.cast_ofNat_Int] at d0 d1
      have B3 := Lib.hid ((U2.out.d.set 0 (.int .i64 (own.at_ : Nat))).set 1 (.int .i64 (m2 : Nat)))
      have K3 := Lib.hid ((U2.out.bel.setCell (p := ⟨w.heap.size + 1 + 1 + 1, 0, none⟩) (by simp; omega) (.int .i64 (own.at_ : Nat))).setCell (p := ⟨w.heap.size + 1 + 1 + 1, 1, none⟩) (by simp; omega) (.int .i64 (m2 : Nat)))
      have r0 := B3.out.cell 0
      have r1 := B3.out.cell 1
      simp [NK.cells] at r0 r1
      go_wp2_with fail
      rw [rounds_succ]
      go_wp2_with fail
      refine ⟨rfl, .agg #[.int .i64 (own.at_ : Nat), .int .i64 (m2 : Nat)], ?_, rfl, K3.out⟩
      simp [results, Try.results24, go_sem, r0, r1]

end Go.Proofs.Ytppobficnjpdiaa
