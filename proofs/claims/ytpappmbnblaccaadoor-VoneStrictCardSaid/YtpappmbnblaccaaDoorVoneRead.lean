/-
  read: what a text says that begins with the sign.
-/
import Derived.Test.YtpappmbnblaccaaDoorVoneWords
namespace Go.Proofs.YtpappmbnblaccaaDoor
open Go.RowKit
set_option linter.unusedVariables false

theorem sp_length (c : UInt8) : ∀ s : List UInt8, (sp c s).length = s.count c + 1
  | [] => rfl
  | y :: s => by
    have ih := sp_length c s
    rw [sp]
    split
    · rename_i h
      subst h
      simp [ih]
    · rename_i h
      rw [List.count_cons_of_ne (by simpa using h)]
      cases hs : sp c s with
      | nil => exact absurd hs (sp_ne c s)
      | cons a t => rw [hs] at ih; simpa using ih
theorem split17_any (s : ByteArray) (hs : s.size ≤ 1000) (w : World) (hg : G17 w) : Calls Tryd.prog 22 #[.string s, .string ⟨#[32]⟩] w fun e w' => ∃ l : List ByteArray, e = .returned (.slice (some ⟨w.heap.size, 0, none⟩) l.length l.length) ∧ w' = w.alloc (.cells (scells l).toArray 9) ∧ lists l = sp 32 s.data.toList := by
  obtain ⟨m, hm⟩ := hg.mx
  have h1 : 1 ≤ (⟨#[32]⟩ : ByteArray).size := by decide
  refine (Tryd.strings_Split s ⟨#[32]⟩ m w (by omega) hm h1).mono ?_
  rintro e w' ⟨rfl, rfl⟩
  have hc : Lib.countB s ⟨#[32]⟩ = s.data.toList.count 32 := Lib.count_one 32 _
  refine ⟨Lib.splitB ⟨#[32]⟩ 0 (Lib.countB s ⟨#[32]⟩) s, ?_, rfl, ?_⟩
  · rw [Lib.splitB_all ⟨#[32]⟩ h1 0 _ s rfl]
  · unfold lists
    rw [Lib.splitB_data]
    have h := splitK_jn 32 (Lib.countB s ⟨#[32]⟩) (sp 32 s.data.toList) (sp_ne _ _) (sp_no _ _) (by rw [sp_length, hc]; omega)
    rw [jn_sp] at h
    exact h

theorem sp_short (c : UInt8) : ∀ (s : List UInt8), ∀ x ∈ sp c s, x.length ≤ s.length
  | [], x, h => by simp [sp] at h; subst h; simp
  | y :: s, x, h => by
    have ih := sp_short c s
    rw [sp] at h
    split at h
    · rcases List.mem_cons.1 h with rfl | h
      · simp
      · have := ih x h; simp; omega
    · cases hs : sp c s with
      | nil => exact absurd hs (sp_ne c s)
      | cons a t =>
        rw [hs] at h ih
        rcases List.mem_cons.1 h with rfl | h
        · have := ih a (by simp); simp; omega
        · have := ih x (List.mem_cons_of_mem _ h); simp; omega
/-- The sign's word. -/
theorem sp_pre (v : List UInt8) : sp 32 (pre17 ++ v) = [80, 82, 79, 88, 89] :: sp 32 v := by
  have h := sp_at 32 [80, 82, 79, 88, 89] v
  rw [sp_word 32 [80, 82, 79, 88, 89] (by decide)] at h
  exact h
theorem suffix_pre (u : List UInt8) : Lib.hasSuffix (pre17 ++ u) [13, 10] = decide (u.drop (u.length - 2) = [13, 10] ∧ 2 ≤ u.length) := by
  rw [← Lib.hasSuffix_of_drop]
  have hl : (pre17 ++ u).length = u.length + 6 := by simp [pre17]
  rw [Bool.eq_iff_iff]
  simp only [Bool.and_eq_true, decide_eq_true_eq, beq_iff_eq, hl]
  by_cases h2 : 2 ≤ u.length
  · have e : (pre17 ++ u).drop (u.length + 6 - [(13 : UInt8), 10].length) = u.drop (u.length - 2) := by
      rw [List.drop_append, List.drop_eq_nil_of_le (by show 6 ≤ _; simp; omega), List.nil_append]
      congr 1
    rw [e]
    simp [h2]
  · constructor
    · rintro ⟨_, h⟩
      exfalso
      match u, h2 with
      | [], _ => revert h; decide
      | [x], _ =>
        have : (pre17 ++ [x]).drop (1 + 6 - 2) = [32, x] := rfl
        have h' : ([32, x] : List UInt8) = [13, 10] := h
        exact absurd (List.cons.inj h').1 (by decide)
      | a :: b :: r, h => exact h (by simp)
    · rintro ⟨_, h⟩; exact absurd h h2
theorem trim_pre {u : List UInt8} (h : u.drop (u.length - 2) = [13, 10] ∧ 2 ≤ u.length) : Lib.trimSuffix (pre17 ++ u) [13, 10] = pre17 ++ u.take (u.length - 2) := by
  have hh : Lib.hasSuffix (pre17 ++ u) [13, 10] = true := by rw [suffix_pre]; exact decide_eq_true h
  unfold Lib.trimSuffix
  rw [if_pos hh, List.take_append]
  have h2 := h.2
  congr 1
  · exact List.take_of_length_le (by show 6 ≤ _; simp [pre17]; omega)
/-- The words of a text that begins with the sign. -/
theorem words_pre {l : List ByteArray} {v : List UInt8} (h : lists l = sp 32 (pre17 ++ v)) : ∃ p x r, l = p :: x :: r ∧ sp 32 v = x.data.toList :: lists r := by
  rw [sp_pre] at h
  match l, h with
  | [], h => simp [lists] at h
  | [p], h => simp [lists] at h; exact absurd h.2 (sp_ne _ _)
  | p :: x :: r, h =>
    refine ⟨p, x, r, rfl, ?_⟩
    have := (List.cons.inj h).2
    exact this.symm
theorem saidS_words {v x : List UInt8} {r : List (List UInt8)} (h : sp 32 v = x :: r) : saidS v = if x = uword then some S17.zero else if x = tword 1 then wordsS 1 r else if x = tword 2 then wordsS 2 r else none := by
  unfold saidS
  rw [h]
theorem text_beq (x : ByteArray) (l : List UInt8) : (x.toList == l) = decide (x.data.toList = l) := by
  rw [ByteArray.toList_eq]
  by_cases h : x.data.toList = l
  · rw [decide_eq_true h, h]; simp
  · rw [decide_eq_false h]; simpa using h

set_option maxRecDepth 100000 in
set_option maxHeartbeats 2000000 in
theorem read17_any (s : ByteArray) (u : List UInt8) (hu : s.data.toList = pre17 ++ u) (hs : s.size ≤ 900) (w : World) (hg : G17 w) :
    Calls Tryd.prog 15 #[.string s] w (Tells (.tuple #[.agg (hdr (lineS u)).cells, .bool (lineS u).isSome]) w) := by
  have B0 := Blk.new w #[.bool false, .int .i64 0, .string ⟨#[]⟩, .string ⟨#[]⟩, .int .i64 0, .int .i64 0, .slice none 0 0] 24
  have L0 : Below w.heap.size w (w.alloc (.cells #[.bool false, .int .i64 0, .string ⟨#[]⟩, .string ⟨#[]⟩, .int .i64 0, .int .i64 0, .slice none 0 0] 24)) := (Below.refl _ _).alloc (Nat.le_refl _) _
  have CS := fun W => Tryd.strings_CutSuffix s ⟨#[13, 10]⟩ W (by omega)
  have ep : (⟨#[13, 10]⟩ : ByteArray).data.toList = [13, 10] := rfl
  rw [ep, hu, suffix_pre] at CS
  by_cases hend : u.drop (u.length - 2) = [13, 10] ∧ 2 ≤ u.length
  · have hls : lineS u = saidS (u.take (u.length - 2)) := if_pos hend
    rw [hls]
    rw [decide_eq_true hend, trim_pre hend] at CS
    have hss : (⟨(pre17 ++ u.take (u.length - 2)).toArray⟩ : ByteArray).size ≤ 1000 := by
      rw [list_size, List.length_append, List.length_take]
      have : s.size = 6 + u.length := by
        have := congrArg List.length hu
        rw [Array.length_toList, List.length_append] at this
        exact this
      show 6 + _ ≤ _
      omega
    have HV : Hid ((u.take (u.length - 2)).length ≤ 900) := Lib.hid (by
      have : s.size = 6 + u.length := by
        have := congrArg List.length hu
        rw [Array.length_toList, List.length_append] at this
        exact this
      rw [List.length_take]; omega)
    generalize u.take (u.length - 2) = v at *
    have SP := fun W hW => split17_any ⟨(pre17 ++ v).toArray⟩ hss W hW
    simp only at SP
    generalize (⟨(pre17 ++ v).toArray⟩ : ByteArray) = t at *
    have hg0 := hg.on L0
    have HCS := Lib.hid CS
    have HSP := Lib.hid SP
    clear CS SP hend hls hu
    go_enter Tryd.func15, Tryd.ntmps15
    go_wp2_with fail
    generalize w.alloc _ = w0 at *
    refine (HCS.out w0).mono ?_
    rintro e w1 ⟨rfl, rfl⟩
    go_wp2_with fail
    refine (HSP.out w1 hg0).mono ?_
    rintro e w2 ⟨l, rfl, rfl, hl⟩
    obtain ⟨p, x, r, rfl, hx⟩ := words_pre hl
    have hsaid := saidS_words hx
    have A2 := Blk.new w1 (scells (p :: x :: r)).toArray 9
    have B2 := B0.alloc (.cells (scells (p :: x :: r)).toArray 9)
    have L2 := L0.alloc L0.size (.cells (scells (p :: x :: r)).toArray 9)
    have x1 : (w1.alloc (.cells (scells (p :: x :: r)).toArray 9)).cell? ⟨w1.heap.size, 1, none⟩ = some (.string x) := A2.cell 1
    have hg2 := hg0.on ((Below.refl _ _).alloc (Nat.le_refl _) (.cells (scells (p :: x :: r)).toArray 9))
    have XR : Hid (∀ i, (hi : i < r.length) → (w1.alloc (.cells (scells (p :: x :: r)).toArray 9)).cell? ⟨w1.heap.size, 2 + i, none⟩ = some (.string (r[i]'hi))) := Lib.hid fun i hi => by
      rw [A2.cell (2 + i)]
      unfold scells
      rw [List.getElem?_toArray, List.getElem?_map, show 2 + i = i + 1 + 1 from by omega, List.getElem?_cons_succ, List.getElem?_cons_succ, List.getElem?_eq_getElem hi]
      rfl
    generalize w1.alloc _ = w2 at *
    obtain ⟨n, hn⟩ : ∃ n, n = (p :: x :: r).length := ⟨_, rfl⟩
    have hn2 : 2 ≤ n := by rw [hn]; simp
    have HNR : Hid (n - 2 = r.length) := Lib.hid (by rw [hn]; simp)
    have HL : Hid (r.length ≤ 1000 ∧ ∀ y ∈ r, y.size ≤ 1000) := Lib.hid (by
      have hv : v.length ≤ 900 := HV.out
      have hlen := congrArg List.length hx
      have hcn : v.count 32 ≤ v.length := List.count_le_length
      rw [sp_length, List.length_cons] at hlen
      have hrl : (lists r).length = r.length := by simp [lists]
      refine ⟨by omega, fun y hy => ?_⟩
      have hm : y.data.toList ∈ sp 32 v := by rw [hx]; exact List.mem_cons_of_mem _ (List.mem_map.2 ⟨y, hy, rfl⟩)
      have := sp_short 32 v _ hm
      rw [Array.length_toList] at this
      have e : y.data.size = y.size := rfl
      omega)
    rw [← hn]
    clear hl hx hn HV
    have BB := Lib.hid B2
    have LL := Lib.hid L2
    clear A2 B0 L0 hg0
    have ST : Hid (∀ (W : World) (h : S17), Below w2.heap.size w2 W → Blk (put17c W w.heap.size h) w.heap.size h.cells 24 ∧ Below w.heap.size w (put17c W w.heap.size h)) := Lib.hid fun W h hb => ⟨put17c_blk (g := S17.zero) (BB.out.on hb) h, put17c_below (LL.out.trans (hb.mono LL.out.size)) h⟩
    have fz : ∀ (W : World), Below w2.heap.size w2 W → ∀ j, W.frozen? ⟨w.heap.size, j, none⟩ = false := fun W hb j => (BB.out.on hb).frozen j
    have bx : ∀ (W : World), Below w2.heap.size w2 W → _ := fun W hb => box17 (h := S17.zero) (BB.out.on hb) (Below.refl _ _)
    simp only [S17.zero] at bx
    have HF := Lib.hid fz
    have HX := Lib.hid bx
    clear fz bx L2 B2
    by_cases e1 : x.data.toList = uword
    · have t1 : (x.toList == [85, 78, 75, 78, 79, 87, 78]) = true := by rw [text_beq]; exact decide_eq_true e1
      rw [if_pos e1] at hsaid
      have HS := Lib.hid hsaid
      clear e1 hsaid XR
      obtain ⟨z0, z1, z2, z3, z4, z5, z6⟩ := HX.out w2 (Below.refl _ _)
      have f0 := HF.out w2 (Below.refl _ _) 0
      have f1 := HF.out w2 (Below.refl _ _) 1
      have f2 := HF.out w2 (Below.refl _ _) 2
      have f3 := HF.out w2 (Below.refl _ _) 3
      have f4 := HF.out w2 (Below.refl _ _) 4
      have f5 := HF.out w2 (Below.refl _ _) 5
      have f6 := HF.out w2 (Below.refl _ _) 6
      have ST2 := Lib.hid (ST.out w2 S17.zero (Below.refl _ _))
      go_wp2_with fail
      obtain ⟨B9, L9⟩ := ST2.out
      unfold put17c at B9 L9
      simp only [S17.zero] at B9 L9
      generalize World.setCell _ ⟨w.heap.size, 6, none⟩ _ = W at *
      clear z0 z1 z2 z3 z4 z5 z6 f0 f1 f2 f3 f4 f5 f6 x1
      obtain ⟨c0, c1, c2, c3, c4, c5, c6⟩ := box17 (h := S17.zero) B9 (Below.refl _ _)
      simp only [S17.zero] at c0 c1 c2 c3 c4 c5 c6
      refine ⟨rfl, .tuple #[.agg (hdr none).cells, .bool true], ?_, by rw [HS.out]; rfl, L9⟩
      rw [hdr_cells0]
      simp [results, Tryd.results15, go_sem, c0, c1, c2, c3, c4, c5, c6]
    · have t1 : (x.toList == [85, 78, 75, 78, 79, 87, 78]) = false := by rw [text_beq]; exact decide_eq_false e1
      rw [if_neg e1] at hsaid
      by_cases e2 : x.data.toList = tword 1
      · have t2 : (x.toList == [84, 67, 80, 52]) = true := by rw [text_beq]; exact decide_eq_true e2
        rw [if_pos e2] at hsaid
        have HS := Lib.hid hsaid
        clear e1 e2
        by_cases hr : n = 2
        · obtain rfl : r = [] := List.length_eq_zero_iff.1 (by have := HNR.out; omega)
          have HQ := Lib.hid (readwords_any 1 (by decide) [] w1.heap.size 0 0 (by simp) (by simp) w2 hg2 (fun i hi => absurd hi (by simp)))
          subst hr
          clear XR
          go_wp2_with fail
          refine HQ.out.mono ?_
          rintro e w3 ⟨rfl, hb3⟩
          generalize hHH : hdr (wordsS 1 (lists [])) = H at *
          generalize hOK : (wordsS 1 (lists [])).isSome = ok at *
          have HH := Lib.hid hHH
          have HO := Lib.hid hOK
          clear hHH hOK
          have HB3 := Lib.hid hb3
          clear hb3 hg2 x1
          unfold S17.cells
          obtain ⟨z0, z1, z2, z3, z4, z5, z6⟩ := HX.out w3 (HB3.out)
          have f0 := HF.out w3 (HB3.out) 0
          have f1 := HF.out w3 (HB3.out) 1
          have f2 := HF.out w3 (HB3.out) 2
          have f3 := HF.out w3 (HB3.out) 3
          have f4 := HF.out w3 (HB3.out) 4
          have f5 := HF.out w3 (HB3.out) 5
          have f6 := HF.out w3 (HB3.out) 6
          have ST2 := Lib.hid (ST.out w3 H (HB3.out))
          go_wp2_with fail
          obtain ⟨B9, L9⟩ := ST2.out
          unfold put17c at B9 L9
          generalize World.setCell _ ⟨w.heap.size, 6, none⟩ _ = W at *
          clear z0 z1 z2 z3 z4 z5 z6 f0 f1 f2 f3 f4 f5 f6
          obtain ⟨c0, c1, c2, c3, c4, c5, c6⟩ := box17 (h := H) B9 (Below.refl _ _)
          refine ⟨rfl, .tuple #[.agg H.cells, .bool ok], ?_, by rw [HS.out, HH.out, HO.out], L9⟩
          unfold S17.cells
          simp [results, Tryd.results15, go_sem, c0, c1, c2, c3, c4, c5, c6]
        · have HQ := Lib.hid (readwords_any 1 (by decide) r w1.heap.size 2 r.length HL.out.1 HL.out.2 w2 hg2 XR.out)
          clear XR
          go_wp2_with fail
          rw [HNR.out]
          refine HQ.out.mono ?_
          rintro e w3 ⟨rfl, hb3⟩
          generalize hHH : hdr (wordsS 1 (lists r)) = H at *
          generalize hOK : (wordsS 1 (lists r)).isSome = ok at *
          have HH := Lib.hid hHH
          have HO := Lib.hid hOK
          clear hHH hOK
          have HB3 := Lib.hid hb3
          clear hb3 hg2 x1
          unfold S17.cells
          obtain ⟨z0, z1, z2, z3, z4, z5, z6⟩ := HX.out w3 (HB3.out)
          have f0 := HF.out w3 (HB3.out) 0
          have f1 := HF.out w3 (HB3.out) 1
          have f2 := HF.out w3 (HB3.out) 2
          have f3 := HF.out w3 (HB3.out) 3
          have f4 := HF.out w3 (HB3.out) 4
          have f5 := HF.out w3 (HB3.out) 5
          have f6 := HF.out w3 (HB3.out) 6
          have ST2 := Lib.hid (ST.out w3 H (HB3.out))
          go_wp2_with fail
          obtain ⟨B9, L9⟩ := ST2.out
          unfold put17c at B9 L9
          generalize World.setCell _ ⟨w.heap.size, 6, none⟩ _ = W at *
          clear z0 z1 z2 z3 z4 z5 z6 f0 f1 f2 f3 f4 f5 f6
          obtain ⟨c0, c1, c2, c3, c4, c5, c6⟩ := box17 (h := H) B9 (Below.refl _ _)
          refine ⟨rfl, .tuple #[.agg H.cells, .bool ok], ?_, by rw [HS.out, HH.out, HO.out], L9⟩
          unfold S17.cells
          simp [results, Tryd.results15, go_sem, c0, c1, c2, c3, c4, c5, c6]
      · have t2 : (x.toList == [84, 67, 80, 52]) = false := by rw [text_beq]; exact decide_eq_false e2
        rw [if_neg e2] at hsaid
        by_cases e3 : x.data.toList = tword 2
        · have t3 : (x.toList == [84, 67, 80, 54]) = true := by rw [text_beq]; exact decide_eq_true e3
          rw [if_pos e3] at hsaid
          have HS := Lib.hid hsaid
          clear e1 e2
          by_cases hr : n = 2
          · obtain rfl : r = [] := List.length_eq_zero_iff.1 (by have := HNR.out; omega)
            have HQ := Lib.hid (readwords_any 2 (by decide) [] w1.heap.size 0 0 (by simp) (by simp) w2 hg2 (fun i hi => absurd hi (by simp)))
            subst hr
            clear XR
            go_wp2_with fail
            refine HQ.out.mono ?_
            rintro e w3 ⟨rfl, hb3⟩
            generalize hHH : hdr (wordsS 2 (lists [])) = H at *
            generalize hOK : (wordsS 2 (lists [])).isSome = ok at *
            have HH := Lib.hid hHH
            have HO := Lib.hid hOK
            clear hHH hOK
            have HB3 := Lib.hid hb3
            clear hb3 hg2 x1
            unfold S17.cells
            obtain ⟨z0, z1, z2, z3, z4, z5, z6⟩ := HX.out w3 (HB3.out)
            have f0 := HF.out w3 (HB3.out) 0
            have f1 := HF.out w3 (HB3.out) 1
            have f2 := HF.out w3 (HB3.out) 2
            have f3 := HF.out w3 (HB3.out) 3
            have f4 := HF.out w3 (HB3.out) 4
            have f5 := HF.out w3 (HB3.out) 5
            have f6 := HF.out w3 (HB3.out) 6
            have ST2 := Lib.hid (ST.out w3 H (HB3.out))
            go_wp2_with fail
            obtain ⟨B9, L9⟩ := ST2.out
            unfold put17c at B9 L9
            generalize World.setCell _ ⟨w.heap.size, 6, none⟩ _ = W at *
            clear z0 z1 z2 z3 z4 z5 z6 f0 f1 f2 f3 f4 f5 f6
            obtain ⟨c0, c1, c2, c3, c4, c5, c6⟩ := box17 (h := H) B9 (Below.refl _ _)
            refine ⟨rfl, .tuple #[.agg H.cells, .bool ok], ?_, by rw [HS.out, HH.out, HO.out], L9⟩
            unfold S17.cells
            simp [results, Tryd.results15, go_sem, c0, c1, c2, c3, c4, c5, c6]
          · have HQ := Lib.hid (readwords_any 2 (by decide) r w1.heap.size 2 r.length HL.out.1 HL.out.2 w2 hg2 XR.out)
            clear XR
            go_wp2_with fail
            rw [HNR.out]
            refine HQ.out.mono ?_
            rintro e w3 ⟨rfl, hb3⟩
            generalize hHH : hdr (wordsS 2 (lists r)) = H at *
            generalize hOK : (wordsS 2 (lists r)).isSome = ok at *
            have HH := Lib.hid hHH
            have HO := Lib.hid hOK
            clear hHH hOK
            have HB3 := Lib.hid hb3
            clear hb3 hg2 x1
            unfold S17.cells
            obtain ⟨z0, z1, z2, z3, z4, z5, z6⟩ := HX.out w3 (HB3.out)
            have f0 := HF.out w3 (HB3.out) 0
            have f1 := HF.out w3 (HB3.out) 1
            have f2 := HF.out w3 (HB3.out) 2
            have f3 := HF.out w3 (HB3.out) 3
            have f4 := HF.out w3 (HB3.out) 4
            have f5 := HF.out w3 (HB3.out) 5
            have f6 := HF.out w3 (HB3.out) 6
            have ST2 := Lib.hid (ST.out w3 H (HB3.out))
            go_wp2_with fail
            obtain ⟨B9, L9⟩ := ST2.out
            unfold put17c at B9 L9
            generalize World.setCell _ ⟨w.heap.size, 6, none⟩ _ = W at *
            clear z0 z1 z2 z3 z4 z5 z6 f0 f1 f2 f3 f4 f5 f6
            obtain ⟨c0, c1, c2, c3, c4, c5, c6⟩ := box17 (h := H) B9 (Below.refl _ _)
            refine ⟨rfl, .tuple #[.agg H.cells, .bool ok], ?_, by rw [HS.out, HH.out, HO.out], L9⟩
            unfold S17.cells
            simp [results, Tryd.results15, go_sem, c0, c1, c2, c3, c4, c5, c6]
        · have t3 : (x.toList == [84, 67, 80, 54]) = false := by rw [text_beq]; exact decide_eq_false e3
          rw [if_neg e3] at hsaid
          have HS := Lib.hid hsaid
          clear e1 e2 e3 hsaid XR
          obtain ⟨z0, z1, z2, z3, z4, z5, z6⟩ := HX.out w2 (Below.refl _ _)
          have f0 := HF.out w2 (Below.refl _ _) 0
          have f1 := HF.out w2 (Below.refl _ _) 1
          have f2 := HF.out w2 (Below.refl _ _) 2
          have f3 := HF.out w2 (Below.refl _ _) 3
          have f4 := HF.out w2 (Below.refl _ _) 4
          have f5 := HF.out w2 (Below.refl _ _) 5
          have f6 := HF.out w2 (Below.refl _ _) 6
          have ST2 := Lib.hid (ST.out w2 S17.zero (Below.refl _ _))
          go_wp2_with fail
          obtain ⟨B9, L9⟩ := ST2.out
          unfold put17c at B9 L9
          simp only [S17.zero] at B9 L9
          generalize World.setCell _ ⟨w.heap.size, 6, none⟩ _ = W at *
          clear z0 z1 z2 z3 z4 z5 z6 f0 f1 f2 f3 f4 f5 f6 x1
          obtain ⟨c0, c1, c2, c3, c4, c5, c6⟩ := box17 (h := S17.zero) B9 (Below.refl _ _)
          simp only [S17.zero] at c0 c1 c2 c3 c4 c5 c6
          refine ⟨rfl, .tuple #[.agg (hdr none).cells, .bool false], ?_, by rw [HS.out]; rfl, L9⟩
          rw [hdr_cells0]
          simp [results, Tryd.results15, go_sem, c0, c1, c2, c3, c4, c5, c6]
  · have hls : lineS u = none := if_neg hend
    rw [hls]
    rw [decide_eq_false hend] at CS
    generalize (⟨(Lib.trimSuffix (pre17 ++ u) [13, 10]).toArray⟩ : ByteArray) = t at *
    have HCS := Lib.hid CS
    have Z := Lib.hid (box17 (h := S17.zero) B0 (Below.refl _ _))
    have LL := Lib.hid L0
    clear CS hend hls hu B0 L0
    go_enter Tryd.func15, Tryd.ntmps15
    go_wp2_with fail
    refine (HCS.out _).mono ?_
    rintro e w1 ⟨rfl, rfl⟩
    go_wp2_with fail
    generalize w.alloc _ = W at *
    obtain ⟨c0, c1, c2, c3, c4, c5, c6⟩ := Z.out
    refine ⟨rfl, .tuple #[.agg (hdr none).cells, .bool false], ?_, rfl, LL.out⟩
    rw [hdr_cells0]
    simp only [S17.zero] at c0 c1 c2 c3 c4 c5 c6
    simp [results, Tryd.results15, go_sem, c0, c1, c2, c3, c4, c5, c6]

end Go.Proofs.YtpappmbnblaccaaDoor
