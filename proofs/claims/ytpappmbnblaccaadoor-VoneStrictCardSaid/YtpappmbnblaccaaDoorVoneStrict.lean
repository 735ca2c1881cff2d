/-
  VoneStrict: what is got, put again, is what stood there; what is behind plays no part.
-/
import Derived.Test.YtpappmbnblaccaaDoorVoneBare
import Derived.Test.YtpappmbnblaccaaDoorVoneAgain
namespace Go.Proofs.YtpappmbnblaccaaDoor
open Go.RowKit
set_option linter.unusedVariables false

set_option maxRecDepth 100000 in
set_option maxHeartbeats 4000000 in
theorem strict17_any (b more : ByteArray) (w : World) (hg : G17 w) : Calls Tryd.prog 4 #[.string b, .string more] w (AwakeEnd w) := by
  have GE := Lib.hid (fun hs => get17_any b hs)
  by_cases h1 : b.size ≤ 3000
  · by_cases h2 : more.size ≤ 3000
    · replace GE := Lib.hid (GE.out (by omega))
      have hcap : ¬ (9223372036854775807 < b.size + more.size) := by omega
      by_cases hE : getE17 b.data.toList = 0
      · obtain ⟨k, hk, hs, hN, hkl, hk107, hm, hput⟩ := got_put hE
        have hkl' : k < b.size := by
          have : b.data.toList.length = b.size := by rw [Array.length_toList]; rfl
          omega
        have hex : (b.extract 0 (k + 1)).data.toList = b.data.toList.take (k + 1) := by simp
        have hsame := got_same (c := (b.extract 0 (k + 1) ++ more).data.toList) hk hs (by rw [cat_list, hex]; rw [List.take_append_of_le_length (by simp; omega), List.take_take, Nat.min_self])
        have GE2 : Hid (∀ W, G17 W → Calls Tryd.prog 9 #[.string (b.extract 0 (k + 1) ++ more)] W (Tells (.tuple #[.agg (getH17 b.data.toList).cells, .int .i64 ((k + 1 : Nat) : Int), .int .i64 0]) W)) := Lib.hid (fun W hW => by
          have J := get17_any (b.extract 0 (k + 1) ++ more) (by rw [cat_size]; simp; omega) W hW
          rw [hsame.1, hsame.2.1, hsame.2.2, hN, hE] at J
          exact J)
        rw [hE, hN] at GE
        have hfn : (getH17 b.data.toList).fn = 0 := hm.2.1
        have SM : Hid (∀ W, Calls Tryd.prog 10 #[.agg (getH17 b.data.toList).cells, .agg (getH17 b.data.toList).cells] W (Tells (.bool true) W)) := Lib.hid (fun W => same_bare (g := getH17 b.data.toList) (k := getH17 b.data.toList) rfl hfn hfn W)
        have CK : Hid (∀ W, Calls Tryd.prog 11 #[.agg (getH17 b.data.toList).cells] W (Tells (.int .i64 0) W)) := Lib.hid (fun W => by
          have J := check_any (getH17 b.data.toList) W
          have e : putE17 (getH17 b.data.toList) = 0 := if_pos hm
          rw [e] at J
          exact J)
        obtain ⟨L, hL⟩ : ∃ L : ByteArray, L = ⟨(putS17 (getH17 b.data.toList)).toArray⟩ := ⟨_, rfl⟩
        have PU : Hid (∀ W, G17 W → Calls Tryd.prog 8 #[.agg (getH17 b.data.toList).cells] W (Tells (.tuple #[.string L, .int .i64 0]) W)) := Lib.hid (fun W hW => by
          have J := put17_any (getH17 b.data.toList) W hW
          have e : putE17 (getH17 b.data.toList) = 0 := if_pos hm
          rw [e, ← hL] at J
          exact J)
        have hLe : Hid ((getH17 b.data.toList).fam ≠ 0 → L = b.extract 0 (k + 1)) := Lib.hid (fun hf => by
          rw [hL, show putS17 (getH17 b.data.toList) = lineL (getH17 b.data.toList) from if_pos hm, hput hf, ← hex])
        clear hE hk hs hN hkl hm hput hex hsame hfn hL
        generalize getH17 b.data.toList = H at *
        obtain ⟨n, hn⟩ : ∃ n, n = k + 1 := ⟨_, rfl⟩
        rw [← hn] at GE GE2 hLe
        have n1 : 1 ≤ n := by omega
        have n2 : n ≤ 107 := by omega
        have n3 : n ≤ b.size := by omega
        clear hk107 hkl' hn
        have t1 : decide ((n : Int) < 1) = false := decide_eq_false (by omega)
        have t2 : decide ((107 : Int) < (n : Int)) = false := decide_eq_false (by omega)
        have t3 : decide ((b.size : Int) < (n : Int)) = false := decide_eq_false (by omega)
        have HC := Lib.hid hg
        go_enter Tryd.func4, Tryd.ntmps4
        go_wp2_with fail
        refine (awake17_any w hg).mono ?_
        rintro e w1 ⟨rfl, hb1⟩
        have hg1 := hg.on hb1
        have HB1 := Lib.hid hb1
        clear hb1
        go_wp2_with fail
        refine (GE.out w1 hg1).mono ?_
        rintro e w2 ⟨rfl, hb2⟩
        have hbox := Blk.new w2 H.cells 24
        have L3 := hb2.alloc hb2.size (.cells H.cells 24)
        have HX := Lib.hid (fun W (hb : Below _ _ W) => box17 (h := H) hbox hb)
        have hg3 := hg1.on L3
        obtain ⟨x0, x1, x2, x3, x4, x5, x6⟩ := HX.out _ (Below.refl _ _)
        unfold S17.cells at *
        have HL3 := Lib.hid (HB1.out.trans (L3.mono HB1.out.size))
        clear hb2 L3
        go_wp2_with fail
        clear x0 x1 x2 x3 x4 x5 x6
        generalize w2.alloc _ = w3 at *
        refine (CK.out w3).mono ?_
        rintro e w4 ⟨rfl, hb4⟩
        have hg4 := hg3.on hb4
        obtain ⟨x0, x1, x2, x3, x4, x5, x6⟩ := HX.out _ hb4
        go_wp2_with fail
        clear x0 x1 x2 x3 x4 x5 x6
        refine (PU.out w4 hg4).mono ?_
        rintro e w5 ⟨rfl, hb5⟩
        have hg5 := hg4.on hb5
        have hb35 := hb4.trans (hb5.mono hb4.size)
        clear hb4 hb5
        have s1 : (0 : Int) ≤ (n : Int) := by omega
        have s2 : (n : Int) ≤ (b.size : Int) := by omega
        have hcap2 : ¬ (9223372036854775807 < (b.extract 0 n).size + more.size) := by simp; omega
        obtain ⟨x0, x1, x2, x3, x4, x5, x6⟩ := HX.out _ hb35
        by_cases hf : H.fam = 0
        · have tf : (H.fam != 0) = false := by rw [hf]; rfl
          clear hf
          go_wp2_with fail
          clear x0 x1 x2 x3 x4 x5 x6
          refine (GE2.out w5 hg5).mono ?_
          rintro e w6 ⟨rfl, hb6⟩
          have hb36 := hb35.trans (hb6.mono hb35.size)
          have B7 := Blk.new w6 H.cells 24
          have L7 := hb36.alloc hb36.size (.cells H.cells 24)
          unfold S17.cells at B7 L7
          obtain ⟨x0, x1, x2, x3, x4, x5, x6⟩ := HX.out _ L7
          clear hb35 hb6 hb36
          go_wp2_with fail
          clear x0 x1 x2 x3 x4 x5 x6
          generalize w6.alloc _ = w7 at *
          refine (SM.out w7).mono ?_
          rintro e w8 ⟨rfl, hb8⟩
          go_wp2_with fail
          go_ret
          exact ⟨rfl, HL3.out.trans ((L7.trans (hb8.mono L7.size)).mono HL3.out.size)⟩
        · have tf : (H.fam != 0) = true := bne_iff_ne.2 hf
          obtain rfl := hLe.out hf
          have tt : ((b.extract 0 n).toList == (b.extract 0 n).toList) = true := by simp
          clear hf
          go_wp2_with fail
          clear x0 x1 x2 x3 x4 x5 x6
          refine (GE2.out w5 hg5).mono ?_
          rintro e w6 ⟨rfl, hb6⟩
          have hb36 := hb35.trans (hb6.mono hb35.size)
          have B7 := Blk.new w6 H.cells 24
          have L7 := hb36.alloc hb36.size (.cells H.cells 24)
          unfold S17.cells at B7 L7
          obtain ⟨x0, x1, x2, x3, x4, x5, x6⟩ := HX.out _ L7
          clear hb35 hb6 hb36
          go_wp2_with fail
          clear x0 x1 x2 x3 x4 x5 x6
          generalize w6.alloc _ = w7 at *
          refine (SM.out w7).mono ?_
          rintro e w8 ⟨rfl, hb8⟩
          go_wp2_with fail
          go_ret
          exact ⟨rfl, HL3.out.trans ((L7.trans (hb8.mono L7.size)).mono HL3.out.size)⟩
      · have hz := err_none hE
        rw [hz.1, hz.2] at GE
        have GE2 := Lib.hid (get17_any (b ++ more) (by rw [cat_size]; omega))
        have hst := fun h10 => err_stays more.data.toList (b := b.data.toList) h10
        rw [← cat_list] at hst
        have SM := Lib.hid (fun W => same17_any false 0 ⟨#[]⟩ ⟨#[]⟩ 0 0 none none 0 0 W)
        generalize getE17 b.data.toList = E at *
        generalize getE17 (b ++ more).data.toList = E2 at *
        generalize getH17 (b ++ more).data.toList = H2 at *
        generalize getN17 (b ++ more).data.toList = n2 at *
        have HR : Hid ((if E = 10 then true else E2 == E) = true) := Lib.hid (by
          by_cases h : E = 10
          · rw [if_pos h]
          · rw [if_neg h, hst h]; simp)
        have tE : (E != 0) = true := bne_iff_ne.2 hE
        clear hz hst hE
        change Hid (∀ W, G17 W → Calls _ _ _ W (Tells (.tuple #[.agg #[.bool false, .int .i64 0, .string ⟨#[]⟩, .string ⟨#[]⟩, .int .i64 0, .int .i64 0, .slice none 0 0], .int .i64 0, .int .i64 E]) W)) at GE
        go_enter Tryd.func4, Tryd.ntmps4
        go_wp2_with fail
        refine (awake17_any w hg).mono ?_
        rintro e w1 ⟨rfl, hb1⟩
        have hg1 := hg.on hb1
        have HB1 := Lib.hid hb1
        clear hb1
        go_wp2_with fail
        refine (GE.out w1 hg1).mono ?_
        rintro e w2 ⟨rfl, hb2⟩
        have L3 := hb2.alloc hb2.size (.cells #[.bool false, .int .i64 0, .string ⟨#[]⟩, .string ⟨#[]⟩, .int .i64 0, .int .i64 0, .slice none 0 0] 24)
        have hg3 := hg1.on L3
        have HL3 := Lib.hid (HB1.out.trans (L3.mono HB1.out.size))
        clear hb2 L3
        go_wp2_with fail
        generalize w2.alloc _ = w3 at *
        refine (SM.out w3).mono ?_
        rintro e w4 ⟨rfl, hb4⟩
        have hg4 := hg3.on hb4
        have HL4 := Lib.hid (HL3.out.trans (hb4.mono HL3.out.size))
        clear hb4
        unfold S17.cells at GE2
        go_wp2_with fail
        refine (GE2.out w4 hg4).mono ?_
        rintro e w5 ⟨rfl, hb5⟩
        have L6 := hb5.alloc hb5.size (.cells #[.bool H2.loc, .int .i64 H2.fam, .string H2.src, .string H2.dst, .int .i64 H2.sp, .int .i64 H2.dp, .slice H2.fa H2.fn H2.fc] 24)
        have HL6 := Lib.hid (HL4.out.trans (L6.mono HL4.out.size))
        clear hb5 L6
        by_cases h10 : E = 10
        · have t10 : (E == 10) = true := by rw [h10]; rfl
          clear h10
          go_wp2_with fail
          go_ret
          exact ⟨rfl, HL6.out⟩
        · have t10 : (E == 10) = false := beq_false_of_ne h10
          have t2 : (E2 == E) = true := by have h := HR.out; rwa [if_neg h10] at h
          clear h10
          go_wp2_with fail
          go_ret
          exact ⟨rfl, HL6.out⟩
    · go_enter Tryd.func4, Tryd.ntmps4
      go_wp2_with fail
      refine (awake17_any w hg).mono ?_
      rintro e w1 ⟨rfl, hb1⟩
      have HB1 := Lib.hid hb1
      clear hb1
      go_wp2_with fail
      go_ret
      exact ⟨rfl, HB1.out⟩
  · go_enter Tryd.func4, Tryd.ntmps4
    go_wp2_with fail
    refine (awake17_any w hg).mono ?_
    rintro e w1 ⟨rfl, hb1⟩
    have HB1 := Lib.hid hb1
    clear hb1
    go_wp2_with fail
    go_ret
    exact ⟨rfl, HB1.out⟩

end Go.Proofs.YtpappmbnblaccaaDoor
