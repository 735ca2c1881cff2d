/-
  The document's Print of sixteen bytes.
-/
import Derived.Test.YtpappmbnblaccaaGreatDoorRef04Print
import Derived.Test.YtpappmbnblaccaaGreatDoorAddrW16
import Derived.Lib.ItoaWalk
namespace Go.Proofs.YtpappmbnblaccaaGreatDoor
open Go.RowKit
set_option linter.unusedVariables false

theorem Tryz.infoI17 : (Tryz.prog.info? 3).map (fun i => (i.zero, i.size, i.bytes)) = some (some (.int .i64 0), 1, 8) := by kernel_rfl
/-- Numbers as cells of an int slice. -/
def icells (l : List Nat) : List Value := l.map fun (n : Nat) => Value.int .i64 (n : Int)
theorem icells_len (l : List Nat) : (icells l).length = l.length := by simp [icells]
/-- A slice of numbers that was made since w. -/
structure Is17 (w W : World) (v : Value) (l : List Nat) : Prop where
  row : W.ownsRow w.heap.size 3 1 v l.length (icells l)
  bel : Below w.heap.size w W
theorem Is17.ints {w W : World} {v : Value} {l : List Nat} (h : Is17 w W v l) (hl : l ≠ []) : ∃ g c, v = .slice (some ⟨g, 0, none⟩) l.length c ∧ IntsAt W g l := by
  have hlt := h.row.lt
  rcases h.row.2 with ⟨rfl, h0⟩ | ⟨g, cap, cur, rfl, hb, hg, hle, _⟩
  · exact absurd (List.length_eq_zero_iff.1 h0) hl
  · refine ⟨g, cap, rfl, (hlt g rfl).2, fun i hi => ?_⟩
    rw [World.ownsRow.cellAt h.row i (by omega)]
    simp [icells, hi]
theorem IntsAt.below {w w' : World} {g : Nat} {l : List Nat} (h : IntsAt w g l) (hb : Below w.heap.size w w') : IntsAt w' g l := ⟨Nat.lt_of_lt_of_le h.1 hb.size, fun i hi => (hb.cell (p := ⟨g, i, none⟩) h.1).trans (h.2 i hi)⟩

theorem Is17.next {w W W0 W' : World} {v v' : Value} {l : List Nat} (h : Is17 w W v l) (h0 : Below W.heap.size W W0) {n : Nat} (hr : W'.ownsRow w.heap.size 3 1 v' (l.length + 1) (icells l ++ [.int .i64 (n : Int)])) (hg : W0.grownBy W' v.ownBlock) : Is17 w W' v' (l ++ [n]) := by
  refine ⟨?_, (h.bel.trans (h0.mono h.bel.size)).trans ⟨hg.os, hg.tape, hg.output, hg.size, fun k hk => hg.block k (Nat.lt_of_lt_of_le (Nat.lt_of_lt_of_le hk h.bel.size) h0.size) fun e => ?_⟩⟩
  · rw [List.length_append]
    have e : icells (l ++ [n]) = icells l ++ [.int .i64 (n : Int)] := by simp [icells]
    rw [e]
    exact hr
  · have := (h.row.lt k e.symm).1
    omega
theorem row_alloc {W : World} {base : Nat} {T : TypeId} {v : Value} {n : Nat} {xs : List Value} (h : W.ownsRow base T 1 v n xs) (o : Obj) : ((W.alloc o).drew).ownsRow base T 1 v n xs :=
  row_kept h fun g e => Below.heap_alloc W o g (h.lt g e).2

set_option maxRecDepth 100000 in
set_option maxHeartbeats 1000000 in
theorem rprint16_any (a : ByteArray) (ha : a.size = 16) (w : World) : Calls Tryz.prog 15 #[.string a] w (Tells (.tuple #[.string ⟨(text16 a.data.toList).toArray⟩, .int .i64 0]) w) := by
  obtain ⟨hn8, hun, h16⟩ := nums_len a.data.toList (by rw [Array.length_toList]; exact ha)
  have hat : ∀ k, (h : k < 8) → (nums a.data.toList)[k]? = some ((a[2 * k]'(by omega)).toNat * 256 + (a[2 * k + 1]'(by omega)).toNat) := fun k h =>
    nums_at a.data.toList k (by rw [Array.length_toList]; show _ < a.size; omega)
  have HAT := Lib.hid hat
  clear hat
  have ht : text16 a.data.toList = outAt (nums a.data.toList) (long (nums a.data.toList) 8).1 (long (nums a.data.toList) 8).2 8 := (outAt_end _ hn8).symm
  rw [ht]
  clear ht hun
  generalize nums a.data.toList = ns at *
  obtain ⟨i0, hi0, hz0⟩ := Option.map_eq_some_iff.1 Tryz.infoI17
  simp only [Prod.mk.injEq] at hz0
  obtain ⟨hz0, hz1, hz2⟩ := hz0
  go_enter Tryz.func15, Tryz.ntmps15
  go_wp2_with fail
  go_loopw [6, 7] (fun sl si wr => ∃ k : Nat, k ≤ 8 ∧ si = .int .i64 (2 * (k : Int)) ∧ Hid (Is17 w wr sl (ns.take k))) (fun _ si _ => 100 - (intOf si).toNat)
  case atStart => exact ⟨0, by omega, rfl, Lib.hid ⟨⟨rfl, Or.inl ⟨rfl, rfl⟩⟩, Below.refl _ _⟩⟩
  case round =>
    obtain ⟨k, hk, rfl, HI⟩ := hrel
    by_cases hlt : k < 8
    · have hka : 2 * k + 1 < a.size := by omega
      have hk1 := HAT.out k hlt
      have hi1 : ∀ W, (Instr.index 9 (.string a) (.int .i64 (2 * (k : Int)))).run Tryz.prog W = .ok (.int .u8 ((a[2 * k]'(by omega)).toNat : Int)) W := fun W => by
        rw [run_index_string W 9 a .i64 _ Tryz.underlying9, dif_pos ⟨by omega, by omega⟩]
        simp only [show (2 * (k : Int)).toNat = 2 * k by omega]
      have hi2 : ∀ W, (Instr.index 9 (.string a) (.int .i64 (2 * (k : Int) + 1))).run Tryz.prog W = .ok (.int .u8 ((a[2 * k + 1]'hka).toNat : Int)) W := fun W => by
        rw [run_index_string W 9 a .i64 _ Tryz.underlying9, dif_pos ⟨by omega, by omega⟩]
        simp only [show (2 * (k : Int) + 1).toNat = 2 * k + 1 by omega]
      have hx := (a[2 * k]'(by omega)).toNat_lt
      have hy := (a[2 * k + 1]'hka).toNat_lt
      generalize (a[2 * k]'(by omega)).toNat = x at *
      generalize (a[2 * k + 1]'hka).toNat = y at *
      have hsz := HI.out.bel.size
      have hlk : (ns.take k).length = k := by simp; omega
      have hlt2 : 2 * (k : Int) < 16 := by omega
      have w1' : IntKind.i64.wrap (2 * (k : Int) + 1) = 2 * (k : Int) + 1 := by rw [IntKind.wrap_i64]; omega
      have w2' : IntKind.i64.wrap (x : Int) = (x : Int) := by rw [IntKind.wrap_i64]; omega
      have w3' : IntKind.i64.wrap ((x : Int) * 256) = (x : Int) * 256 := by rw [IntKind.wrap_i64]; omega
      have w4' : IntKind.i64.wrap (y : Int) = (y : Int) := by rw [IntKind.wrap_i64]; omega
      have w5' : IntKind.i64.wrap ((x : Int) * 256 + (y : Int)) = (x : Int) * 256 + (y : Int) := by rw [IntKind.wrap_i64]; omega
      go_wp2_with fail
      go_region_law ((refine step_append_lies _ (by rfl) _ _ _ (by rfl) w.heap.size 3 i0 _ 1 8 (by kernel_rfl) hi0 hz0 hz1 hz2 rfl (by omega) _ _ _ (by rfl) (row_alloc HI.out.row _) ⟨wr.heap.size, 0, none⟩ 1 1 [.int .i64 ((x : Int) * 256 + (y : Int))] (by rfl) (by rfl) (World.news_of_block (cs := #[.int .i64 ((x : Int) * 256 + (y : Int))]) (t := 3) (fr := (0, 0)) (heap_alloc_new wr _)) (by simp [Value.oneCell']) (by omega) (by unfold maxLen; omega) (by omega) (by simp; omega) (wr.heap.size + 1) (by simp) ?_; intro g cap w1 hown1 hgrow hat hlt1))
      all_goals
        have HN := Lib.hid (HI.out.next (n := x * 256 + y) (below_drewN ((Below.refl wr.heap.size wr).alloc (Nat.le_refl _) _) 1) (by push_cast; exact hown1) hgrow)
        have HE : Hid (ns.take (k + 1) = ns.take k ++ [x * 256 + y]) := Lib.hid (by
          rw [List.getElem?_eq_getElem (by omega)] at hk1
          rw [List.take_succ_eq_append_getElem (by omega), Option.some.inj hk1])
        clear hi1 hi2 w1' w2' w3' w4' w5' hown1 hgrow hat hlt1
        go_wp2_with fail
        refine ⟨⟨k + 1, by omega, by first | rfl | (congr 1; done) | (congr 1; omega) | (congr 1; push_cast; omega), Lib.hid ?_⟩, by simp [intOf]; omega⟩
        have h1 := HN.out
        rw [hlk, ← HE.out] at h1
        exact h1
    · obtain rfl : k = 8 := by omega
      have hns : ns.take 8 = ns := List.take_of_length_le (by omega)
      rw [hns] at HI
      obtain ⟨g, c, rfl, hI⟩ := HI.out.ints (by intro e; rw [e] at hn8; simp at hn8)
      have HB0 := Lib.hid HI.out.bel
      have HI2 := Lib.hid hI
      have HL := longest_any g c ns hn8 h16 wr hI
      have hr := long_row ns 8
      have hle := run0_le ns (long ns 8).1
      have hlen := outAt_len ns hn8 h16 (long ns 8).1 (long ns 8).2
      have hstep := outAt_step ns hn8 (long ns 8).1 (long ns 8).2
      have hgap := outAt_gap ns (long ns 8).1 (long ns 8).2
      generalize (long ns 8).1 = f at *
      generalize (long ns 8).2 = n at *
      have hf : n ≤ 8 ∧ (n < 2 ∨ f + n ≤ 8) := by omega
      have HLEN := Lib.hid hlen
      have HST := Lib.hid hstep
      have HGP := Lib.hid hgap
      rw [hn8]
      clear hI HI hns hr hle hlen hstep hgap hi0 hz0 hz1 hz2
      go_wp2_with fail
      refine HL.mono ?_
      rintro e w1 ⟨rfl, hb1⟩
      have HB1 := Lib.hid (HB0.out.trans (hb1.mono HB0.out.size))
      have HI3 := Lib.hid (HI2.out.below hb1)
      clear hb1 HL HB0 HI2
      go_wp2_with fail
      go_loopw [4, 10] (fun so si wr => ∃ (k : Nat) (o : ByteArray), k ≤ 8 ∧ (n < 2 ∨ k ≤ f ∨ f + n ≤ k) ∧ si = .int .i64 (k : Int) ∧ so = .string o ∧ o.size ≤ 100 ∧ Hid (o.data.toList = outAt ns f n k) ∧ Hid (Below w.heap.size w wr) ∧ Hid (IntsAt wr g ns)) (fun _ si _ => 8 - (intOf si).toNat)
      case atStart =>
        refine ⟨0, ⟨#[]⟩, by omega, Or.inr (Or.inl (by omega)), rfl, rfl, by show 0 ≤ 100; omega, Lib.hid ?_, HB1, HI3⟩
        show [] = outAt ns f n 0
        unfold outAt
        rw [if_pos (by omega)]
        rfl
      case round =>
        obtain ⟨k, o, hk, hpos, rfl, rfl, hoz, HO, HB, HI⟩ := hrel
        by_cases hlt : k < 8
        · by_cases hgp : 2 ≤ n ∧ k = f
          · obtain ⟨hn2, rfl⟩ := hgp
            have HN := Lib.hid (HGP.out hn2)
            have hd : (2 : Int) ≤ (n : Int) := by omega
            go_wp2_with fail
            refine ⟨⟨k + n, _, by omega, Or.inr (Or.inr (Nat.le_refl _)), by push_cast; rfl, rfl, ?_, Lib.hid ?_, HB, HI⟩, by simp [intOf]; omega⟩
            · have h1 := HLEN.out (k + n)
              rw [HN.out, List.length_append, ← HO.out, Array.length_toList] at h1
              rw [cat_size]
              exact h1
            · rw [HN.out, cat_list, HO.out]
          · have HLN := Lib.hid (HLEN.out (k + 1))
            have hc := HI.out.2 k (by omega)
            have hv16 := h16 _ (List.getElem_mem (show k < ns.length by omega))
            have J := fun W => rdigits_any 16 (ns[k]'(by omega)) (Or.inr rfl) hv16 W
            have hd4 := digs_length (b := 16) (by omega) 3 (ns[k]'(by omega)) (by omega)
            have HS := Lib.hid (HST.out k hlt (by omega))
            obtain ⟨D, hD⟩ : ∃ D : ByteArray, D = ⟨(digs 16 (ns[k]'(by omega))).toArray⟩ := ⟨_, rfl⟩
            have hDs : D.size ≤ 4 := by rw [hD, list_size]; exact hd4
            have HD : Hid (D.data.toList = digs 16 (ns[k]'(by omega))) := Lib.hid (by rw [hD])
            rw [← hD] at J
            have hgo : (n < 2 ∨ k + 1 ≤ f ∨ f + n ≤ k + 1) := by omega
            generalize ns[k]'(by omega) = v at *
            clear hD hd4 hv16
            have hcase : (¬ (2 : Int) ≤ (n : Int)) ∨ ((2 : Int) ≤ (n : Int) ∧ ((k : Int) == (f : Int)) = false) := by
              by_cases hn2 : 2 ≤ n
              · exact Or.inr ⟨by omega, by simp; omega⟩
              · exact Or.inl (by omega)
            rcases HS.out with ⟨rfl, h1, h2⟩ | ⟨h0, p, d, h1, h2⟩
            · have ho : o = ⟨#[]⟩ := text_ext (by rw [HO.out, h1])
              subst ho
              have HN := Lib.hid (h2.trans HD.out.symm)
              clear h1 h2
              rcases hcase with hd2 | ⟨hd2, hne⟩
              · go_wp2_with fail
                refine (J _).mono ?_
                rintro e w2 ⟨rfl, hb2⟩
                have HB2 := Lib.hid (HB.out.trans (hb2.mono HB.out.size))
                have HI2 := Lib.hid (HI.out.below hb2)
                clear hb2
                go_wp2_with fail
                refine ⟨⟨1, _, by omega, hgo, rfl, rfl, by rw [cat_size]; show 0 + D.size ≤ 100; omega, Lib.hid ?_, HB2, HI2⟩, by simp [intOf]⟩
                rw [cat_list, HN.out]
                rfl
              · have hne' : ((0 : Int) == (f : Int)) = false := hne
                go_wp2_with fail
                refine (J _).mono ?_
                rintro e w2 ⟨rfl, hb2⟩
                have HB2 := Lib.hid (HB.out.trans (hb2.mono HB.out.size))
                have HI2 := Lib.hid (HI.out.below hb2)
                clear hb2
                go_wp2_with fail
                refine ⟨⟨1, _, by omega, hgo, rfl, rfl, by rw [cat_size]; show 0 + D.size ≤ 100; omega, Lib.hid ?_, HB2, HI2⟩, by simp [intOf]⟩
                rw [cat_list, HN.out]
                rfl
            · have hos : o.data.toList = p ++ [d] := by rw [HO.out, h1]
              have hosz : o.size = p.length + 1 := by
                have h3 : o.data.toList.length = o.size := by rw [Array.length_toList]; rfl
                rw [hos] at h3
                simpa using h3.symm
              have hidx : ∀ W, (Instr.index 9 (.string o) (.int .i64 ((o.size : Int) - 1))).run Tryz.prog W = .ok (.int .u8 (d.toNat : Int)) W := fun W => by
                rw [run_index_string W 9 o .i64 _ Tryz.underlying9, dif_pos ⟨by omega, by omega⟩]
                simp only [show ((o.size : Int) - 1).toNat = p.length by omega]
                have e : o[p.length]'(by omega) = d := by
                  rw [Lib.getD_at o p.length (by omega), hos]
                  simp
                rw [e]
              have hk0 : (0 : Int) < (k : Int) := by omega
              have HOS := Lib.hid hosz
              have ho1 : (1 : Int) ≤ (o.size : Int) := by omega
              clear hos h1 h0 hosz
              rcases h2 with ⟨hd, h2⟩ | ⟨hd, h2⟩
              · have hdb : ((d.toNat : Int) != 58) = true := by
                  have : d.toNat ≠ 58 := fun e => hd (UInt8.toNat_inj.1 e)
                  simp; omega
                have HN : Hid ((o ++ ⟨#[58]⟩ ++ D).data.toList = outAt ns f n (k + 1)) := Lib.hid (by
                  rw [h2, cat_list, cat_list, HO.out, ← HD.out]
                  simp)
                have hsz : o.size + 1 + D.size ≤ 100 := by
                  have h1 := congrArg List.length HN.out
                  rw [Array.length_toList] at h1
                  have h3 : (o ++ ⟨#[58]⟩ ++ D).data.size = o.size + 1 + D.size := by
                    have := cat_size (o ++ ⟨#[58]⟩) D
                    rw [cat_size o ⟨#[58]⟩] at this
                    exact this
                  have := HLN.out
                  omega
                clear h2 hd
                rcases hcase with hd2 | ⟨hd2, hne⟩
                all_goals
                  go_wp2_with fail
                  refine (J _).mono ?_
                  rintro e w2 ⟨rfl, hb2⟩
                  have HB2 := Lib.hid (HB.out.trans (hb2.mono HB.out.size))
                  have HI2 := Lib.hid (HI.out.below hb2)
                  have a1 : ¬ (9223372036854775807 < o.size + 1 + D.size) := by omega
                  clear hb2
                  go_wp2_with fail
                  exact ⟨⟨k + 1, _, by omega, hgo, rfl, rfl, by rw [cat_size, cat_size]; exact hsz, HN, HB2, HI2⟩, by simp [intOf]; omega⟩
              · have hdb : ((d.toNat : Int) != 58) = false := by rw [hd]; rfl
                have HN : Hid ((o ++ D).data.toList = outAt ns f n (k + 1)) := Lib.hid (by rw [h2, cat_list, HO.out, ← HD.out])
                have hsz : o.size + D.size ≤ 100 := by
                  have h1 := congrArg List.length HN.out
                  rw [Array.length_toList] at h1
                  have h3 : (o ++ D).data.size = o.size + D.size := cat_size o D
                  have := HLN.out
                  omega
                clear h2 hd
                rcases hcase with hd2 | ⟨hd2, hne⟩
                all_goals
                  go_wp2_with fail
                  refine (J _).mono ?_
                  rintro e w2 ⟨rfl, hb2⟩
                  have HB2 := Lib.hid (HB.out.trans (hb2.mono HB.out.size))
                  have HI2 := Lib.hid (HI.out.below hb2)
                  clear hb2
                  go_wp2_with fail
                  exact ⟨⟨k + 1, _, by omega, hgo, rfl, rfl, by rw [cat_size]; exact hsz, HN, HB2, HI2⟩, by simp [intOf]; omega⟩
        · obtain rfl : k = 8 := by omega
          have HF : Hid (Value.string o = Value.string ⟨(outAt ns f n 8).toArray⟩) := Lib.hid (by
            congr 1
            exact text_ext HO.out)
          go_wp2_with fail
          go_ret2
          exact ⟨by rw [← HF.out]; rfl, HB.out⟩

end Go.Proofs.YtpappmbnblaccaaGreatDoor
