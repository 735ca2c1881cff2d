/-
  Put: a header's line.
-/
import Derived.Test.YtpappmbnblaccaaDoorVoneCheck
import Derived.Test.YtpappmbnblaccaaDoorAddrNumber
import Derived.Test.YtpappmbnblaccaaDoorAddrW16
namespace Go.Proofs.YtpappmbnblaccaaDoor
open Go.RowKit
set_option linter.unusedVariables false

theorem row_base {W : World} {b b' : Nat} {T : TypeId} {v : Value} {n : Nat} {xs : List Value} (h : W.ownsRow b T 1 v n xs) (hb : b' ≤ b) : W.ownsRow b' T 1 v n xs := by
  refine ⟨h.1, ?_⟩
  rcases h.2 with h2 | ⟨g, cap, cur, rfl, h3, r⟩
  · exact Or.inl h2
  · exact Or.inr ⟨g, cap, cur, rfl, Nat.le_trans hb h3, r⟩
theorem row_lit (W : World) (l : List ByteArray) : (W.alloc (.cells (scells l).toArray 9)).ownsRow 0 9 1 (.slice (some ⟨W.heap.size, 0, none⟩) l.length l.length) l.length (scells l) ∨ 100000 < l.length := by
  by_cases h : l.length ≤ 100000
  · refine Or.inl ⟨by rw [scells_len, Nat.mul_one], Or.inr ⟨W.heap.size, l.length, (scells l).toArray, rfl, Nat.zero_le _, Blk.new W _ _, Nat.le_refl _, by unfold maxLen; omega, by simp [scells], ?_⟩⟩
    rw [Nat.mul_one, List.take_of_length_le (by simp [scells])]
  · exact Or.inr (by omega)

/-- A line: the sign, its words between blanks, its end. -/
def lineOf17 (ws : List (List UInt8)) : List UInt8 := pre17 ++ jn 32 ws ++ [13, 10]
set_option maxRecDepth 100000 in
theorem line_any (sec : ByteArray) (u : Value) (m : List ByteArray) (hs : sec.size ≤ 100) (hm : m.length ≤ 10) (hz : ∀ x ∈ m, x.size ≤ 100) (w : World) (hu : w.ownsRow 0 9 1 u m.length (scells m)) :
    Calls Tryd.prog 12 #[.string sec, u] w (Tells (.string ⟨(lineOf17 (lists (sec :: m))).toArray⟩) w) := by
  have h1 : (w.alloc (.cells #[.string sec] 9)).ownsRow 0 9 1 (.slice (some ⟨w.heap.size, 0, none⟩) 1 1) [sec].length (scells [sec]) := (row_lit w [sec]).resolve_right (by simp)
  have h2 : (w.alloc (.cells #[.string sec] 9)).ownsRow 0 9 1 u m.length (scells m) := row_kept hu fun g e => Below.heap_alloc w _ g (hu.lt g e).2
  obtain ⟨v', w1, hr, hown, hgr, hat⟩ := append_row18 h1 h2 (by simp; omega) (Nat.zero_le _) 37
  have hbel : Below w.heap.size w w1 := ((Below.refl w.heap.size w).alloc (Nat.le_refl _) (.cells #[.string sec] 9)).trans ⟨hgr.os, hgr.tape, hgr.output, hgr.size, fun k hk => hgr.block k (by simp; omega) fun e => by
    have : k = w.heap.size := by simpa [Value.ownBlock] using e
    omega⟩
  have HB := Lib.hid hbel
  have hlst : ([sec] ++ m) = sec :: m := rfl
  rw [hlst] at hown
  obtain ⟨g, c, rfl, hg, hcell, hlc⟩ : ∃ g c, v' = .slice (some ⟨g, 0, none⟩) (sec :: m).length c ∧ g < w1.heap.size ∧ (∀ j x, (sec :: m)[j]? = some x → w1.cell? ⟨g, 0 + j, none⟩ = some (.string x)) ∧ (sec :: m).length ≤ c := by
    have hlt := hown.lt
    rcases hown.2 with ⟨rfl, h0⟩ | ⟨g, cap, cur, rfl, _, _, hle, _⟩
    · simp at h0
    · refine ⟨g, cap, rfl, (hlt g rfl).2, fun j x hj => ?_, hle⟩
      have hjl := (List.getElem?_eq_some_iff.1 hj).1
      rw [Nat.zero_add, World.ownsRow.cellAt hown j (by omega)]
      rw [List.getElem?_eq_getElem hjl] at hj
      have hx := Option.some.inj hj
      rw [← hx]
      unfold scells
      rw [List.getElem?_map, List.getElem?_eq_getElem hjl]
      rfl
  have hjl := jn_len 32 100 (lists (sec :: m)) (by
    intro x hx
    obtain ⟨y, hy, rfl⟩ := List.mem_map.1 hx
    rw [Array.length_toList]
    rcases List.mem_cons.1 hy with rfl | hy
    · exact hs
    · exact hz y hy)
  have hjj : Lib.join ((sec :: m).map (·.data.toList)) (⟨#[32]⟩ : ByteArray).data.toList = jn 32 (lists (sec :: m)) := jn_eq 32 _
  have hll : (lists (sec :: m)).length = m.length + 1 := by simp [lists]
  rw [hll] at hjl
  have J := join_any g 0 c (sec :: m) ⟨#[32]⟩ w1 hcell hg (by simp; omega) hlc (by rw [hjj]; omega)
  rw [hjj] at J
  obtain ⟨X, hX⟩ : ∃ X : ByteArray, X = ⟨(jn 32 (lists (sec :: m))).toArray⟩ := ⟨_, rfl⟩
  have HX : Hid (Value.string ⟨(lineOf17 (lists (sec :: m))).toArray⟩ = Value.string ((⟨#[80, 82, 79, 88, 89, 32]⟩ : ByteArray) ++ X ++ ⟨#[13, 10]⟩)) := Lib.hid (by
    congr 1
    apply text_ext
    rw [cat_list, cat_list, hX]
    rfl)
  have hXs : X.size ≤ 2000 := by rw [hX, list_size]; omega
  rw [← hX] at J
  have a1 : ¬ (9223372036854775807 < 6 + X.size) := by omega
  have a2 : ¬ (9223372036854775807 < 6 + X.size + 2) := by omega
  clear hX hjl hjj hll hcell hlst hown hgr hat hbel h1 h2 hu
  go_enter Tryd.func12, Tryd.ntmps12
  go_wp2_with (at_builtin; refine Lib.wpList_append_run _ rfl _ _ _ _ rfl _ _ rfl rfl _ _ hr ?_)
  refine J.mono ?_
  rintro e w2 ⟨rfl, hb2⟩
  go_wp2_with fail
  go_ret
  exact ⟨HX.out.symm ▸ rfl, HB.out.trans (hb2.mono HB.out.size)⟩

theorem wd_lit {w W : World} (h : Below w.heap.size w W) (l : List ByteArray) (hl : l.length ≤ 1000) : Wd w (W.alloc (.cells (scells l).toArray 9)) (.slice (some ⟨W.heap.size, 0, none⟩) l.length l.length) l := by
  refine ⟨⟨by rw [scells_len, Nat.mul_one], Or.inr ⟨W.heap.size, l.length, (scells l).toArray, rfl, h.size, Blk.new W _ _, Nat.le_refl _, by unfold maxLen; omega, by simp [scells], ?_⟩⟩, h.alloc h.size _⟩
  rw [Nat.mul_one, List.take_of_length_le (by simp [scells])]
theorem Wd.drew {w W : World} {v : Value} {l : List ByteArray} (h : Wd w W v l) : Wd w W.drew v l := ⟨h.row, h.bel.drew⟩
theorem below_undrew {w w' : World} (h : Below w.drew.heap.size w.drew w') : Below w.heap.size w w' := ⟨h.os, h.tape, h.output, h.size, h.block⟩
set_option maxRecDepth 100000 in
set_option maxHeartbeats 4000000 in
theorem words17_any (h : S17) (hm : h.may) (hf : h.fam ≠ 0) (w : World) (hg : G17 w) : Calls Tryd.prog 13 #[.agg h.cells] w fun e w' => ∃ v l, e = .returned v ∧ Wd w w' v l ∧ l = [⟨(text h.src.data.toList).toArray⟩, ⟨(text h.dst.data.toList).toArray⟩, ⟨(digs 10 h.sp.toNat).toArray⟩, ⟨(digs 10 h.dp.toNat).toArray⟩] := by
  obtain ⟨loc, fam, src, dst, sp, dp, fa, fn, fc⟩ := h
  have hmm : (fam = 1 ∨ fam = 2) ∧ src.size = sizeF fam ∧ dst.size = sizeF fam ∧ 0 ≤ sp ∧ sp ≤ 65535 ∧ 0 ≤ dp ∧ dp ≤ 65535 := by
    rcases hm.2.2 with x | x
    · exact absurd x.1 hf
    · exact x
  have hia : ∀ x : ByteArray, x.size = sizeF fam → IsA x.data.toList := fun x hx => by
    unfold IsA
    rw [Array.length_toList]
    have e : x.data.size = x.size := rfl
    unfold sizeF at hx
    split at hx <;> omega
  have hs := hia src hmm.2.1
  have hd := hia dst hmm.2.2.1
  obtain ⟨p, rfl⟩ : ∃ p : Nat, sp = (p : Int) := ⟨sp.toNat, by omega⟩
  obtain ⟨q, rfl⟩ : ∃ q : Nat, dp = (q : Int) := ⟨dp.toNat, by omega⟩
  have hp : p ≤ 65535 := by omega
  have hq : q ≤ 65535 := by omega
  clear hmm hm hia
  unfold S17.cells
  simp only [Int.toNat_natCast]
  have hbox := Blk.new w #[.bool loc, .int .i64 fam, .string src, .string dst, .int .i64 (p : Int), .int .i64 (q : Int), .slice fa fn fc] 24
  have hbel0 : Below w.heap.size w (w.alloc (.cells #[.bool loc, .int .i64 fam, .string src, .string dst, .int .i64 (p : Int), .int .i64 (q : Int), .slice fa fn fc] 24)) := (Below.refl _ _).alloc (Nat.le_refl _) _
  go_enter Tryd.func13, Tryd.ntmps13
  go_wp2_with fail
  generalize hW : w.alloc (.cells #[.bool loc, .int .i64 fam, .string src, .string dst, .int .i64 (p : Int), .int .i64 (q : Int), .slice fa fn fc] 24) = W0 at *
  have hlt := hbox.lt
  have c3 := hbox.cell 3
  have c4 := hbox.cell 4
  have c5 := hbox.cell 5
  have hg0 := hg.on hbel0
  refine (print_any src hs _ hg0).mono ?_
  rintro e w1 ⟨rfl, hb1⟩
  have hg1 := hg0.on hb1
  have d3 := (hb1.cell (p := ⟨w.heap.size, 3, none⟩) hlt).trans c3
  simp at d3
  go_wp2_with fail
  refine (print_any dst hd _ hg1).mono ?_
  rintro e w2 ⟨rfl, hb2⟩
  have hg2 := hg1.on hb2
  have hb02 := hb1.trans (hb2.mono hb1.size)
  have HB2 := Lib.hid (hbel0.trans (hb02.mono (Nat.le_of_lt hlt)))
  have e4 := (hb02.cell (p := ⟨w.heap.size, 4, none⟩) hlt).trans c4
  have e5 := (hb02.cell (p := ⟨w.heap.size, 5, none⟩) hlt).trans c5
  simp at e4 e5
  have hlt2 : w.heap.size < w2.heap.size := Nat.lt_of_lt_of_le hlt hb02.size
  clear hb1 hb2 hb02 c3 c4 c5 d3 hbox hbel0 hW hg0 hg1
  go_wp2_with fail
  have JP : Hid (∀ W, Below w2.heap.size w2 W → Calls Tryd.prog 19 #[.int .i64 (p : Int)] W (Tells (.string ⟨(digs 10 p).toArray⟩) W)) := Lib.hid fun W hW => itoa_any p hp W (hg2.on hW)
  have JQ : Hid (∀ W, Below w2.heap.size w2 W → Calls Tryd.prog 19 #[.int .i64 (q : Int)] W (Tells (.string ⟨(digs 10 q).toArray⟩) W)) := Lib.hid fun W hW => itoa_any q hq W (hg2.on hW)
  go_region_with (first
    | (go_at_call 19; (with_reducible refine (JP.out _ ?_).mono ?_); (first | exact below_drewN (Below.refl w2.heap.size w2) 1 | assumption); rintro e w3 ⟨rfl, hb3⟩; (first | (have hbw := below_undrew hb3; have f4 := (hbw.cell (p := ⟨w.heap.size, 4, none⟩) hlt2).trans e4; have f5 := (hbw.cell (p := ⟨w.heap.size, 5, none⟩) hlt2).trans e5) | skip))
    | (go_at_call 19; (with_reducible refine (JQ.out _ ?_).mono ?_); (first | exact below_drewN (Below.refl w2.heap.size w2) 1 | assumption); rintro e w3 ⟨rfl, hb3⟩; (first | (have hbw := below_undrew hb3; have f4 := (hbw.cell (p := ⟨w.heap.size, 4, none⟩) hlt2).trans e4; have f5 := (hbw.cell (p := ⟨w.heap.size, 5, none⟩) hlt2).trans e5) | skip)))
  all_goals
    have HBF := Lib.hid (wd_lit (HB2.out.trans ((hbw.trans (hb3.mono hbw.size)).mono HB2.out.size)) [⟨(text src.data.toList).toArray⟩, ⟨(text dst.data.toList).toArray⟩, ⟨(digs 10 p).toArray⟩, ⟨(digs 10 q).toArray⟩] (by simp))
    clear hbw hb3 f4 f5
    go_wp2_with fail
    go_ret
    exact ⟨_, _, rfl, by first | exact HBF.out | exact HBF.out.drew, rfl⟩

/-- A header's block: its cells. -/
theorem box17 {w W : World} {N : Nat} {h : S17} (hb : Blk w N h.cells 24) (b : Below w.heap.size w W) : W.cell? ⟨N, 0, none⟩ = some (.bool h.loc) ∧ W.cell? ⟨N, 1, none⟩ = some (.int .i64 h.fam) ∧ W.cell? ⟨N, 2, none⟩ = some (.string h.src) ∧ W.cell? ⟨N, 3, none⟩ = some (.string h.dst) ∧ W.cell? ⟨N, 4, none⟩ = some (.int .i64 h.sp) ∧ W.cell? ⟨N, 5, none⟩ = some (.int .i64 h.dp) ∧ W.cell? ⟨N, 6, none⟩ = some (.slice h.fa h.fn h.fc) := by
  have h2 : Blk W N h.cells 24 := (b.block N hb.lt).trans hb
  exact ⟨h2.cell 0, h2.cell 1, h2.cell 2, h2.cell 3, h2.cell 4, h2.cell 5, h2.cell 6⟩
theorem lineL_unknown {h : S17} (hf : h.fam = 0) : lineL h = lineOf17 (lists [⟨#[85, 78, 75, 78, 79, 87, 78]⟩]) := by unfold lineL; rw [if_pos hf]; rfl
theorem lineL_known {h : S17} (hf : h.fam ≠ 0) {T : ByteArray} (hT : T.data.toList = tword h.fam) : lineL h = lineOf17 (lists (T :: [⟨(text h.src.data.toList).toArray⟩, ⟨(text h.dst.data.toList).toArray⟩, ⟨(digs 10 h.sp.toNat).toArray⟩, ⟨(digs 10 h.dp.toNat).toArray⟩])) := by
  unfold lineL lineOf17 lists
  rw [if_neg hf, List.map_cons, hT]
  rfl

theorem row_nil (W : World) : W.ownsRow 0 9 1 (.slice none 0 0) ([] : List ByteArray).length (scells []) := ⟨rfl, Or.inl ⟨rfl, rfl⟩⟩
theorem words_short (h : S17) (hm : h.may) (hf : h.fam ≠ 0) : ∀ x ∈ [(⟨(text h.src.data.toList).toArray⟩ : ByteArray), ⟨(text h.dst.data.toList).toArray⟩, ⟨(digs 10 h.sp.toNat).toArray⟩, ⟨(digs 10 h.dp.toNat).toArray⟩], x.size ≤ 100 := by
  have hmm : h.src.size = sizeF h.fam ∧ h.dst.size = sizeF h.fam ∧ 0 ≤ h.sp ∧ h.sp ≤ 65535 ∧ 0 ≤ h.dp ∧ h.dp ≤ 65535 := by
    rcases hm.2.2 with x | x
    · exact absurd x.1 hf
    · exact x.2
  have hia : ∀ x : ByteArray, x.size = sizeF h.fam → IsA x.data.toList := fun x hx => by
    unfold IsA
    rw [Array.length_toList]
    have e : x.data.size = x.size := rfl
    unfold sizeF at hx
    split at hx <;> omega
  have hs := text_len (hia _ hmm.1)
  have hd := text_len (hia _ hmm.2.1)
  have hp : (digs 10 h.sp.toNat).length ≤ 5 := digs_length (by decide) 4 _ (by simp; omega)
  have hq : (digs 10 h.dp.toNat).length ≤ 5 := digs_length (by decide) 4 _ (by simp; omega)
  intro x hx
  simp only [List.mem_cons, List.not_mem_nil, or_false] at hx
  rcases hx with rfl | rfl | rfl | rfl <;> rw [list_size] <;> omega
/-- What Put answers, in a world where its header's block is new. -/
theorem put17_end {w W0 W : World} {h : S17} (hm : h.may) {l : List UInt8} (hl : lineL h = l) (h0 : Below w.heap.size w W0) (h1 : Below W0.heap.size W0 W) : Tells (.tuple #[.string ⟨(putS17 h).toArray⟩, .int .i64 (putE17 h)]) w (.returned (.tuple #[.string ⟨l.toArray⟩, .int .i64 0])) W := by
  refine ⟨?_, h0.trans (h1.mono h0.size)⟩
  unfold putS17 putE17
  rw [if_pos hm, if_pos hm, hl]

set_option maxRecDepth 100000 in
set_option maxHeartbeats 1000000 in
theorem put17_any (h : S17) (w : World) (hg : G17 w) : Calls Tryd.prog 8 #[.agg h.cells] w (Tells (.tuple #[.string ⟨(putS17 h).toArray⟩, .int .i64 (putE17 h)]) w) := by
  have hbox := Blk.new w h.cells 24
  have hbel0 : Below w.heap.size w (w.alloc (.cells h.cells 24)) := (Below.refl _ _).alloc (Nat.le_refl _) _
  have HC : Hid (∀ W, Calls Tryd.prog 11 #[.agg h.cells] W (Tells (.int .i64 (putE17 h)) W)) := Lib.hid (fun W => check_any h W)
  have HPW := Lib.hid (fun hm hf W hgW => words17_any h hm hf W hgW)
  by_cases hm : h.may
  · have hE : putE17 h = 0 := if_pos hm
    have HE := Lib.hid hE
    have HM := Lib.hid hm
    have HK := Lib.hid (fun l hl W hb => @put17_end w (w.alloc (.cells h.cells 24)) W h hm l hl hbel0 hb)
    by_cases hf : h.fam = 0
    · have HL := Lib.hid (lineL_unknown hf)
      have HJ := Lib.hid (line_any ⟨#[85, 78, 75, 78, 79, 87, 78]⟩ (.slice none 0 0) [] (by decide) (by simp) (by simp))
      obtain ⟨loc, fam, src, dst, sp, dp, fa, fn, fc⟩ := h
      obtain rfl : fam = 0 := hf
      rw [hE] at HC
      clear hm hE
      unfold S17.cells at HC hbox hbel0 ⊢
      simp only at HC hbox hbel0 ⊢
      have bx := fun W (hb : Below _ _ W) => box17 (h := ⟨loc, 0, src, dst, sp, dp, fa, fn, fc⟩) hbox hb
      simp only at bx
      have HX := Lib.hid bx
      have x := bx _ (Below.refl _ _)
      obtain ⟨x0, x1, x2, x3, x4, x5, x6⟩ := x
      clear bx
      go_enter Tryd.func8, Tryd.ntmps8
      go_wp2_with fail
      clear x0 x1 x2 x3 x4 x5 x6
      refine (HC.out _).mono ?_
      rintro e w1 ⟨rfl, hb1⟩
      obtain ⟨x0, x1, x2, x3, x4, x5, x6⟩ := HX.out _ hb1
      clear hbox
      have HB1 := Lib.hid hb1
      clear hb1
      go_wp2_with fail
      refine (HJ.out w1 (row_nil w1)).mono ?_
      rintro e w2 ⟨rfl, hb2⟩
      go_wp2_with fail
      go_ret2
      exact HK.out _ HL.out _ (HB1.out.trans (hb2.mono HB1.out.size))
    · have HPQ := Lib.hid (HPW.out hm hf)
      have HF0 := Lib.hid hf
      have HT := Lib.hid (fun T => @lineL_known h hf T)
      have HS : Hid (∀ x ∈ [(⟨(text h.src.data.toList).toArray⟩ : ByteArray), ⟨(text h.dst.data.toList).toArray⟩, ⟨(digs 10 h.sp.toNat).toArray⟩, ⟨(digs 10 h.dp.toNat).toArray⟩], x.size ≤ 100) := Lib.hid (words_short h hm hf)
      have hff : h.fam = 1 ∨ h.fam = 2 := by
        rcases hm.2.2 with z | z
        · exact absurd z.1 hf
        · exact z.1
      obtain ⟨loc, fam, src, dst, sp, dp, fa, fn, fc⟩ := h
      rw [hE] at HC
      clear hm hE hf
      unfold S17.cells at HC hbox hbel0 HPQ ⊢
      simp only at HC hbox hbel0 HPQ hff ⊢
      rcases hff with rfl | rfl
      all_goals
        have bx := fun W (hb : Below _ _ W) => box17 (h := ⟨loc, _, src, dst, sp, dp, fa, fn, fc⟩) hbox hb
        simp only at bx
        have HX := Lib.hid bx
        have x := bx _ (Below.refl _ _)
        obtain ⟨x0, x1, x2, x3, x4, x5, x6⟩ := x
        clear bx
        go_enter Tryd.func8, Tryd.ntmps8
        go_wp2_with fail
        clear x0 x1 x2 x3 x4 x5 x6
        refine (HC.out _).mono ?_
        rintro e w1 ⟨rfl, hb1⟩
        obtain ⟨x0, x1, x2, x3, x4, x5, x6⟩ := HX.out _ hb1
        have hg1 := (hg.on hbel0).on hb1
        clear hbox
        have HB1 := Lib.hid hb1
        clear hb1
        go_wp2_with fail
        clear x0 x1 x2 x3 x4 x5 x6
        refine (HPQ.out _ hg1).mono ?_
        rintro e w2 ⟨v, l, rfl, hwd, rfl⟩
        go_wp2_with fail
        refine (line_any _ _ _ ?_ ?_ HS.out _ (row_base hwd.row (Nat.zero_le _))).mono ?_
        · decide
        · simp
        rintro e w3 ⟨rfl, hb3⟩
        go_wp2_with fail
        go_ret2
        refine HK.out _ (HT.out _ rfl) _ (HB1.out.trans ((hwd.bel.trans (hb3.mono hwd.bel.size)).mono HB1.out.size))
  · have hE : putE17 h = 1 ∧ putS17 h = [] := ⟨if_neg hm, if_neg hm⟩
    have HE := Lib.hid hE
    rw [hE.1] at HC ⊢
    rw [hE.2]
    clear hE hm
    have HB0 := Lib.hid hbel0
    obtain ⟨loc, fam, src, dst, sp, dp, fa, fn, fc⟩ := h
    unfold S17.cells at HC hbox HB0 ⊢
    simp only at HC hbox HB0 ⊢
    have x := box17 (h := ⟨loc, fam, src, dst, sp, dp, fa, fn, fc⟩) hbox (Below.refl _ _)
    obtain ⟨x0, x1, x2, x3, x4, x5, x6⟩ := x
    go_enter Tryd.func8, Tryd.ntmps8
    go_wp2_with fail
    clear x0 x1 x2 x3 x4 x5 x6
    refine (HC.out _).mono ?_
    rintro e w1 ⟨rfl, hb1⟩
    go_wp2_with fail
    go_ret2
    exact ⟨rfl, HB0.out.trans (hb1.mono HB0.out.size)⟩

end Go.Proofs.YtpappmbnblaccaaDoor
