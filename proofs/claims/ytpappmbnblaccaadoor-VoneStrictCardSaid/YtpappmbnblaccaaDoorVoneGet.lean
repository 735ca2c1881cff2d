/-
  Get: the line that a text begins with.
-/
import Derived.Test.YtpappmbnblaccaaDoorVoneRead
import Derived.BigQuiet
namespace Go.Proofs.YtpappmbnblaccaaDoor
open Go.RowKit
set_option linter.unusedVariables false

theorem nlAt_ge (b : List UInt8) : -1 ≤ nlAt b := Lib.indexByte_ge _ _
/-- Where the end is, when the sign is right: behind the sign. -/
theorem nlAt_far {b : List UInt8} (hp : b.take 6 = pre17.take b.length) {k : Nat} (hk : nlAt b = (k : Int)) : 6 ≤ k ∧ k < b.length ∧ k < 107 ∧ b.take (k + 1) = pre17 ++ (b.take (k + 1)).drop 6 := by
  have h := Lib.indexByte_some hk
  have hkl : k < (b.take 107).length := (List.getElem?_eq_some_iff.1 h.1).1
  rw [List.length_take] at hkl
  have h10 : b[k]? = some 10 := by rw [← h.1, List.getElem?_take_of_lt (by omega)]
  have h6 : 6 ≤ k := by
    rcases Nat.lt_or_ge k 6 with h6 | h6
    · exfalso
      have e : (b.take 6)[k]? = some 10 := by rw [List.getElem?_take_of_lt h6]; exact h10
      rw [hp] at e
      have hm : (10 : UInt8) ∈ pre17.take b.length := List.mem_of_getElem? e
      have hm' : (10 : UInt8) ∈ pre17 := List.mem_of_mem_take hm
      exact absurd hm' (by decide)
    · exact h6
  refine ⟨h6, by omega, by omega, ?_⟩
  have e : (b.take (k + 1)).take 6 = pre17 := by
    rw [List.take_take, show min 6 (k + 1) = 6 from by omega, hp, List.take_of_length_le (by show 6 ≤ _; omega)]
  calc b.take (k + 1) = (b.take (k + 1)).take 6 ++ (b.take (k + 1)).drop 6 := (List.take_append_drop _ _).symm
    _ = _ := by rw [e]

theorem take_text (b : ByteArray) (n : Nat) (h : n ≤ b.size) : (b.extract 0 n).data.toList = b.data.toList.take n := Lib.extract_from_zero b n

/-- The sign's test, as far as the text goes. -/
theorem sign_beq (b : ByteArray) (m : Nat) (hm : m = min b.size 6) : ((b.extract 0 m).toList == ((⟨#[80, 82, 79, 88, 89, 32]⟩ : ByteArray).extract 0 m).toList) = decide (b.data.toList.take 6 = pre17.take b.data.toList.length) := by
  have e0 : b.data.toList.length = b.size := Array.length_toList
  have e1 : (b.extract 0 m).toList = b.data.toList.take 6 := by
    rw [ByteArray.toList_eq, take_text b m (by omega), hm, ← e0]
    rcases Nat.le_total b.data.toList.length 6 with h | h
    · rw [Nat.min_eq_left h, List.take_of_length_le (Nat.le_refl _), List.take_of_length_le h]
    · rw [Nat.min_eq_right h]
  have e2 : ((⟨#[80, 82, 79, 88, 89, 32]⟩ : ByteArray).extract 0 m).toList = pre17.take b.data.toList.length := by
    rw [ByteArray.toList_eq, take_text _ m (by show m ≤ 6; omega), hm, ← e0]
    show pre17.take _ = _
    rcases Nat.le_total b.data.toList.length 6 with h | h
    · rw [Nat.min_eq_left h]
    · rw [Nat.min_eq_right h, List.take_of_length_le (by decide), List.take_of_length_le (by exact h)]
  rw [e1, e2]
  by_cases h : b.data.toList.take 6 = pre17.take b.data.toList.length
  · rw [decide_eq_true h, h]; simp
  · rw [decide_eq_false h]; simpa using h

set_option maxRecDepth 100000 in
set_option maxHeartbeats 2000000 in
theorem get17_any (b : ByteArray) (hs : b.size ≤ 1000000) (w : World) (hg : G17 w) :
    Calls Tryd.prog 9 #[.string b] w (Tells (.tuple #[.agg (getH17 b.data.toList).cells, .int .i64 (getN17 b.data.toList : Nat), .int .i64 (getE17 b.data.toList)]) w) := by
  have B0 := Blk.new w #[.bool false, .int .i64 0, .string ⟨#[]⟩, .string ⟨#[]⟩, .int .i64 0, .int .i64 0, .slice none 0 0] 24
  have L0 : Below w.heap.size w (w.alloc (.cells #[.bool false, .int .i64 0, .string ⟨#[]⟩, .string ⟨#[]⟩, .int .i64 0, .int .i64 0, .slice none 0 0] 24)) := (Below.refl _ _).alloc (Nat.le_refl _) _
  go_enter Tryd.func9, Tryd.ntmps9
  go_wp2_with fail
  have hmin : min (b.size : Int) 6 = ((min b.size 6 : Nat) : Int) := by omega
  have hm1 : min b.size 6 ≤ b.size := Nat.min_le_left _ _
  have hm2 : min b.size 6 ≤ 6 := Nat.min_le_right _ _
  obtain ⟨m, hm0⟩ : ∃ m, m = min b.size 6 := ⟨_, rfl⟩
  have HM := Lib.hid hm0
  rw [← hm0] at hmin hm1 hm2
  clear hm0
  rw [hmin]
  clear hmin
  go_quiet (fail)
  have B1 := B0.on (below_drewN (Below.refl _ _) nq)
  have L1 := L0.trans ((below_drewN (Below.refl _ _) nq).mono L0.size)
  generalize (w.alloc _).drewN nq = w1 at *
  have hg1 := hg.on L1
  by_cases hsg : b.data.toList.take 6 = pre17.take b.data.toList.length
  · have t1 : ((b.extract 0 m).toList == ((⟨#[80, 82, 79, 88, 89, 32]⟩ : ByteArray).extract 0 m).toList) = true := by rw [sign_beq b m HM.out]; exact decide_eq_true hsg
    rw [t1]
    have hmin2 : min (b.size : Int) 107 = ((min b.size 107 : Nat) : Int) := by omega
    have hn1 : min b.size 107 ≤ b.size := Nat.min_le_left _ _
    have htd : (b.extract 0 (min b.size 107)).data.toList = b.data.toList.take 107 := by
      rw [take_text b _ hn1, ← show b.data.toList.length = b.size from Array.length_toList]
      rcases Nat.le_total b.data.toList.length 107 with h | h
      · rw [Nat.min_eq_left h, List.take_of_length_le (Nat.le_refl _), List.take_of_length_le h]
      · rw [Nat.min_eq_right h]
    have hts : (b.extract 0 (min b.size 107)).size = min b.size 107 := by rw [ByteArray.size_extract]; omega
    have IB := fun W => Tryd.strings_IndexByte (b.extract 0 (min b.size 107)) 10 W
    rw [htd, show (10 : Int).toNat.toUInt8 = 10 from rfl] at IB
    change ∀ W, Calls _ _ _ W (fun e w' => e = .returned (.int .i64 (nlAt b.data.toList)) ∧ w' = W) at IB
    have HT := Lib.hid htd
    clear htd
    obtain ⟨t, ht0⟩ : ∃ t, t = b.extract 0 (min b.size 107) := ⟨_, rfl⟩
    rw [← ht0] at HT IB hts
    have HTE := Lib.hid ht0
    clear ht0
    have HLE : Hid (∀ k : Nat, nlAt b.data.toList = (k : Int) → k + 1 ≤ t.size) := Lib.hid fun k hk => by
      have h := nlAt_far hsg hk
      rw [Array.length_toList] at h
      have e : b.data.size = b.size := rfl
      omega
    obtain ⟨m2, hm20⟩ : ∃ m2, m2 = min b.size 107 := ⟨_, rfl⟩
    have HMS := Lib.hid hm20
    rw [← hm20] at hmin2 hn1 hts HTE
    clear hm20
    have HIB := Lib.hid IB
    have HSG := Lib.hid hsg
    have BB := Lib.hid B1
    have LL := Lib.hid L1
    clear IB B0 L0 B1 L1 hsg
    by_cases hneg : nlAt b.data.toList < 0
    · have hm1' : nlAt b.data.toList = -1 := by have := nlAt_ge b.data.toList; omega
      by_cases hbig : 107 ≤ b.size
      · have HE : Hid (getH17 b.data.toList = S17.zero ∧ getN17 b.data.toList = 0 ∧ getE17 b.data.toList = 4) := Lib.hid (by
          have e : getE17 b.data.toList = 4 := by
            unfold getE17
            rw [if_neg (fun x => x HSG.out), if_pos hneg, if_pos (by rw [Array.length_toList]; exact hbig)]
          unfold getH17 getN17
          rw [e]
          exact ⟨rfl, rfl, rfl⟩)
        have hts2 : t.size = 107 := by have := HMS.out; omega
        rw [hm1'] at HIB
        clear hneg hbig HMS
        go_wp2_with fail
        rw [← HTE.out]
        refine (HIB.out w1).mono ?_
        rintro e w2 ⟨rfl, rfl⟩
        obtain ⟨z0, z1, z2, z3, z4, z5, z6⟩ := box17 (h := S17.zero) BB.out (Below.refl _ _)
        simp only [S17.zero] at z0 z1 z2 z3 z4 z5 z6
        have f0 := Blk.frozen BB.out 0
        have f1 := Blk.frozen BB.out 1
        have f2 := Blk.frozen BB.out 2
        have f3 := Blk.frozen BB.out 3
        have f4 := Blk.frozen BB.out 4
        have f5 := Blk.frozen BB.out 5
        have f6 := Blk.frozen BB.out 6
        have ST2 := Lib.hid (⟨put17c_blk (g := S17.zero) BB.out S17.zero, put17c_below LL.out S17.zero⟩ : _ ∧ _)
        go_wp2_with fail
        obtain ⟨B9, L9⟩ := ST2.out
        unfold put17c at B9 L9
        simp only [S17.zero] at B9 L9
        generalize World.setCell _ ⟨w.heap.size, 6, none⟩ _ = W at *
        clear z0 z1 z2 z3 z4 z5 z6 f0 f1 f2 f3 f4 f5 f6
        obtain ⟨c0, c1, c2, c3, c4, c5, c6⟩ := box17 (h := S17.zero) B9 (Below.refl _ _)
        simp only [S17.zero] at c0 c1 c2 c3 c4 c5 c6
        refine ⟨rfl, .tuple #[.agg (hdr none).cells, .int .i64 0, .int .i64 4], ?_, by rw [HE.out.1, HE.out.2.1, HE.out.2.2]; rfl, L9⟩
        rw [hdr_cells0]
        simp [results, Tryd.results9, go_sem, c0, c1, c2, c3, c4, c5, c6]
      · have HE : Hid (getH17 b.data.toList = S17.zero ∧ getN17 b.data.toList = 0 ∧ getE17 b.data.toList = 10) := Lib.hid (by
          have e : getE17 b.data.toList = 10 := by
            unfold getE17
            rw [if_neg (fun x => x HSG.out), if_pos hneg, if_neg (by rw [Array.length_toList]; exact hbig)]
          unfold getH17 getN17
          rw [e]
          exact ⟨rfl, rfl, rfl⟩)
        have hts2 : ((t.size : Int) == 107) = false := by have := HMS.out; rw [beq_eq_false_iff_ne]; omega
        rw [hm1'] at HIB
        clear hneg hbig HMS
        go_wp2_with fail
        rw [← HTE.out]
        refine (HIB.out w1).mono ?_
        rintro e w2 ⟨rfl, rfl⟩
        obtain ⟨z0, z1, z2, z3, z4, z5, z6⟩ := box17 (h := S17.zero) BB.out (Below.refl _ _)
        simp only [S17.zero] at z0 z1 z2 z3 z4 z5 z6
        have f0 := Blk.frozen BB.out 0
        have f1 := Blk.frozen BB.out 1
        have f2 := Blk.frozen BB.out 2
        have f3 := Blk.frozen BB.out 3
        have f4 := Blk.frozen BB.out 4
        have f5 := Blk.frozen BB.out 5
        have f6 := Blk.frozen BB.out 6
        have ST2 := Lib.hid (⟨put17c_blk (g := S17.zero) BB.out S17.zero, put17c_below LL.out S17.zero⟩ : _ ∧ _)
        go_wp2_with fail
        obtain ⟨B9, L9⟩ := ST2.out
        unfold put17c at B9 L9
        simp only [S17.zero] at B9 L9
        generalize World.setCell _ ⟨w.heap.size, 6, none⟩ _ = W at *
        clear z0 z1 z2 z3 z4 z5 z6 f0 f1 f2 f3 f4 f5 f6
        obtain ⟨c0, c1, c2, c3, c4, c5, c6⟩ := box17 (h := S17.zero) B9 (Below.refl _ _)
        simp only [S17.zero] at c0 c1 c2 c3 c4 c5 c6
        refine ⟨rfl, .tuple #[.agg (hdr none).cells, .int .i64 0, .int .i64 10], ?_, by rw [HE.out.1, HE.out.2.1, HE.out.2.2]; rfl, L9⟩
        rw [hdr_cells0]
        simp [results, Tryd.results9, go_sem, c0, c1, c2, c3, c4, c5, c6]
    · obtain ⟨k, hk⟩ : ∃ k : Nat, nlAt b.data.toList = (k : Int) := ⟨(nlAt b.data.toList).toNat, by omega⟩
      have hfar := nlAt_far HSG.out hk
      have hkt := HLE.out k hk
      have hrd : (t.extract 0 (k + 1)).data.toList = pre17 ++ (b.data.toList.take (k + 1)).drop 6 := by
        rw [take_text t _ hkt, HT.out, List.take_take, Nat.min_eq_left (by omega), ← hfar.2.2.2]
      have hrs : (t.extract 0 (k + 1)).size ≤ 900 := by rw [ByteArray.size_extract]; omega
      have RD := fun W hW => read17_any (t.extract 0 (k + 1)) _ hrd hrs W hW
      rw [hk] at HIB
      have hE : getE17 b.data.toList = match lineS ((b.data.toList.take (k + 1)).drop 6) with
          | some _ => 0
          | none => 9 := by
        unfold getE17
        rw [if_neg (fun x => x HSG.out), if_neg hneg, hk]
        rfl
      have hH : getE17 b.data.toList = 0 → getH17 b.data.toList = hdr (lineS ((b.data.toList.take (k + 1)).drop 6)) ∧ getN17 b.data.toList = k + 1 := fun e => by
        unfold getH17 getN17
        rw [if_pos e, if_pos e, hk]
        exact ⟨rfl, rfl⟩
      have hZ : getE17 b.data.toList ≠ 0 → getH17 b.data.toList = S17.zero ∧ getN17 b.data.toList = 0 := fun e => by
        unfold getH17 getN17
        rw [if_neg e, if_neg e]
        exact ⟨rfl, rfl⟩
      clear hk hfar hneg HLE hrd hrs HMS
      have e6 : t.extract 0 (k + 1) = t.extract 0 (k + 1) := rfl
      cases hL : lineS ((b.data.toList.take (k + 1)).drop 6) with
      | none =>
        rw [hL] at RD hE hH
        have HE : Hid (getH17 b.data.toList = S17.zero ∧ getN17 b.data.toList = 0 ∧ getE17 b.data.toList = 9) := Lib.hid (by
          have e : getE17 b.data.toList = 9 := hE
          exact ⟨(hZ (by rw [e]; decide)).1, (hZ (by rw [e]; decide)).2, e⟩)
        have HRD := Lib.hid RD
        clear RD hE hH hZ hL e6
        simp only [Option.isSome_none] at HRD
        go_wp2_with fail
        rw [← HTE.out]
        refine (HIB.out w1).mono ?_
        rintro e w2 ⟨rfl, rfl⟩
        go_wp2_with fail
        refine (HRD.out w2 hg1).mono ?_
        rintro e w3 ⟨rfl, hb3⟩
        have B3 := Lib.hid ((BB.out.on hb3).alloc (.cells (hdr none).cells 24))
        have L3 := Lib.hid ((LL.out.trans (hb3.mono LL.out.size)).alloc (LL.out.trans (hb3.mono LL.out.size)).size (.cells (hdr none).cells 24))
        clear BB LL hb3
        rw [hdr_cells0] at B3 L3 ⊢
        obtain ⟨z0, z1, z2, z3, z4, z5, z6⟩ := box17 (h := S17.zero) B3.out (Below.refl _ _)
        simp only [S17.zero] at z0 z1 z2 z3 z4 z5 z6
        have f0 := Blk.frozen B3.out 0
        have f1 := Blk.frozen B3.out 1
        have f2 := Blk.frozen B3.out 2
        have f3 := Blk.frozen B3.out 3
        have f4 := Blk.frozen B3.out 4
        have f5 := Blk.frozen B3.out 5
        have f6 := Blk.frozen B3.out 6
        have ST2 := Lib.hid (⟨put17c_blk (g := S17.zero) B3.out S17.zero, put17c_below L3.out S17.zero⟩ : _ ∧ _)
        go_wp2_with fail
        obtain ⟨B9, L9⟩ := ST2.out
        unfold put17c at B9 L9
        simp only [S17.zero] at B9 L9
        generalize World.setCell _ ⟨w.heap.size, 6, none⟩ _ = W at *
        clear z0 z1 z2 z3 z4 z5 z6 f0 f1 f2 f3 f4 f5 f6
        obtain ⟨c0, c1, c2, c3, c4, c5, c6⟩ := box17 (h := S17.zero) B9 (Below.refl _ _)
        simp only [S17.zero] at c0 c1 c2 c3 c4 c5 c6
        refine ⟨rfl, .tuple #[.agg (hdr none).cells, .int .i64 0, .int .i64 9], ?_, by rw [HE.out.1, HE.out.2.1, HE.out.2.2]; rfl, L9⟩
        rw [hdr_cells0]
        simp [results, Tryd.results9, go_sem, c0, c1, c2, c3, c4, c5, c6]
      | some H =>
        rw [hL] at RD hE hH
        have HE : Hid (getH17 b.data.toList = H ∧ getN17 b.data.toList = k + 1 ∧ getE17 b.data.toList = 0) := Lib.hid (by
          have e : getE17 b.data.toList = 0 := hE
          exact ⟨(hH e).1, (hH e).2, e⟩)
        have HRD := Lib.hid RD
        clear RD hE hH hZ hL e6
        simp only [Option.isSome_some, show hdr (some H) = H from rfl] at HRD
        go_wp2_with fail
        rw [← HTE.out]
        refine (HIB.out w1).mono ?_
        rintro e w2 ⟨rfl, rfl⟩
        go_wp2_with fail
        refine (HRD.out w2 hg1).mono ?_
        rintro e w3 ⟨rfl, hb3⟩
        have A3 := Blk.new w3 H.cells 24
        have B3 := Lib.hid ((BB.out.on hb3).alloc (.cells H.cells 24))
        have L3 := Lib.hid ((LL.out.trans (hb3.mono LL.out.size)).alloc (LL.out.trans (hb3.mono LL.out.size)).size (.cells H.cells 24))
        clear BB LL hb3
        unfold S17.cells at A3 B3 L3 ⊢
        obtain ⟨b0, b1, b2, b3, b4, b5, b6⟩ := box17 (h := H) A3 (Below.refl _ _)
        obtain ⟨z0, z1, z2, z3, z4, z5, z6⟩ := box17 (h := S17.zero) B3.out (Below.refl _ _)
        simp only [S17.zero] at z0 z1 z2 z3 z4 z5 z6
        have f0 := Blk.frozen B3.out 0
        have f1 := Blk.frozen B3.out 1
        have f2 := Blk.frozen B3.out 2
        have f3 := Blk.frozen B3.out 3
        have f4 := Blk.frozen B3.out 4
        have f5 := Blk.frozen B3.out 5
        have f6 := Blk.frozen B3.out 6
        have ST2 := Lib.hid (⟨put17c_blk (g := S17.zero) B3.out H, put17c_below L3.out H⟩ : _ ∧ _)
        go_wp2_with fail
        obtain ⟨B9, L9⟩ := ST2.out
        unfold put17c at B9 L9
        generalize World.setCell _ ⟨w.heap.size, 6, none⟩ _ = W at *
        clear z0 z1 z2 z3 z4 z5 z6 f0 f1 f2 f3 f4 f5 f6
        obtain ⟨c0, c1, c2, c3, c4, c5, c6⟩ := box17 (h := H) B9 (Below.refl _ _)
        refine ⟨rfl, .tuple #[.agg H.cells, .int .i64 ((k : Int) + 1), .int .i64 0], ?_, by rw [HE.out.1, HE.out.2.1, HE.out.2.2]; rfl, L9⟩
        unfold S17.cells
        simp [results, Tryd.results9, go_sem, c0, c1, c2, c3, c4, c5, c6]
  · have t1 : ((b.extract 0 m).toList == ((⟨#[80, 82, 79, 88, 89, 32]⟩ : ByteArray).extract 0 m).toList) = false := by rw [sign_beq b m HM.out]; exact decide_eq_false hsg
    rw [t1]
    have HE : Hid (getH17 b.data.toList = S17.zero ∧ getN17 b.data.toList = 0 ∧ getE17 b.data.toList = 13) := Lib.hid (by
      have e : getE17 b.data.toList = 13 := by
        unfold getE17
        rw [if_pos hsg]
      unfold getH17 getN17
      rw [e]
      exact ⟨rfl, rfl, rfl⟩)
    have BB := Lib.hid B1
    have LL := Lib.hid L1
    clear B0 L0 B1 L1 hsg
    obtain ⟨z0, z1, z2, z3, z4, z5, z6⟩ := box17 (h := S17.zero) BB.out (Below.refl _ _)
    simp only [S17.zero] at z0 z1 z2 z3 z4 z5 z6
    have f0 := Blk.frozen BB.out 0
    have f1 := Blk.frozen BB.out 1
    have f2 := Blk.frozen BB.out 2
    have f3 := Blk.frozen BB.out 3
    have f4 := Blk.frozen BB.out 4
    have f5 := Blk.frozen BB.out 5
    have f6 := Blk.frozen BB.out 6
    have ST2 := Lib.hid (⟨put17c_blk (g := S17.zero) BB.out S17.zero, put17c_below LL.out S17.zero⟩ : _ ∧ _)
    go_wp2_with fail
    obtain ⟨B9, L9⟩ := ST2.out
    unfold put17c at B9 L9
    simp only [S17.zero] at B9 L9
    generalize World.setCell _ ⟨w.heap.size, 6, none⟩ _ = W at *
    clear z0 z1 z2 z3 z4 z5 z6 f0 f1 f2 f3 f4 f5 f6
    obtain ⟨c0, c1, c2, c3, c4, c5, c6⟩ := box17 (h := S17.zero) B9 (Below.refl _ _)
    simp only [S17.zero] at c0 c1 c2 c3 c4 c5 c6
    refine ⟨rfl, .tuple #[.agg (hdr none).cells, .int .i64 0, .int .i64 13], ?_, by rw [HE.out.1, HE.out.2.1, HE.out.2.2]; rfl, L9⟩
    rw [hdr_cells0]
    simp [results, Tryd.results9, go_sem, c0, c1, c2, c3, c4, c5, c6]

end Go.Proofs.YtpappmbnblaccaaDoor
