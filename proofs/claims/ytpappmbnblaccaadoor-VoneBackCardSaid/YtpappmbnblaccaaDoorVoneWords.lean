/-
  readWords: what the words behind the second one say.
-/
import Derived.Test.YtpappmbnblaccaaDoorVonePut
import Derived.Test.YtpappmbnblaccaaDoorAddrParse
namespace Go.Proofs.YtpappmbnblaccaaDoor
open Go.RowKit
set_option linter.unusedVariables false

/-- A header stored into a block, cell by cell. -/
def put17c (v : World) (N : Nat) (h : S17) : World := ((((((v.setCell ⟨N, 0, none⟩ (.bool h.loc)).setCell ⟨N, 1, none⟩ (.int .i64 h.fam)).setCell ⟨N, 2, none⟩ (.string h.src)).setCell ⟨N, 3, none⟩ (.string h.dst)).setCell ⟨N, 4, none⟩ (.int .i64 h.sp)).setCell ⟨N, 5, none⟩ (.int .i64 h.dp)).setCell ⟨N, 6, none⟩ (.slice h.fa h.fn h.fc)
theorem Blk.seth17 {v : World} {N : Nat} {T : TypeId} {h : S17} (hb : Blk v N h.cells T) (h' : S17) (k : Nat) (x : Value) (hx : h.cells.setIfInBounds k x = h'.cells) : Blk (v.setCell ⟨N, k, none⟩ x) N h'.cells T := by
  rw [← hx]; exact hb.set k x
theorem put17c_blk {v : World} {N : Nat} {g : S17} {T : TypeId} (hb : Blk v N g.cells T) (h : S17) : Blk (put17c v N h) N h.cells T := by
  unfold put17c
  refine Blk.seth17 (h := ⟨h.loc, h.fam, h.src, h.dst, h.sp, h.dp, g.fa, g.fn, g.fc⟩) ?_ h 6 _ rfl
  refine Blk.seth17 (h := ⟨h.loc, h.fam, h.src, h.dst, h.sp, g.dp, g.fa, g.fn, g.fc⟩) ?_ _ 5 _ rfl
  refine Blk.seth17 (h := ⟨h.loc, h.fam, h.src, h.dst, g.sp, g.dp, g.fa, g.fn, g.fc⟩) ?_ _ 4 _ rfl
  refine Blk.seth17 (h := ⟨h.loc, h.fam, h.src, g.dst, g.sp, g.dp, g.fa, g.fn, g.fc⟩) ?_ _ 3 _ rfl
  refine Blk.seth17 (h := ⟨h.loc, h.fam, g.src, g.dst, g.sp, g.dp, g.fa, g.fn, g.fc⟩) ?_ _ 2 _ rfl
  refine Blk.seth17 (h := ⟨h.loc, g.fam, g.src, g.dst, g.sp, g.dp, g.fa, g.fn, g.fc⟩) ?_ _ 1 _ rfl
  exact Blk.seth17 (h := g) hb _ 0 _ rfl
theorem put17c_kb {S : Nat → Prop} {u v : World} {N : Nat} (hk : Kb S u v) (hN : N < u.heap.size → S N) (h : S17) : Kb S u (put17c v N h) :=
  ((((((hk.setCell (p := ⟨N, 0, none⟩) hN _).setCell (p := ⟨N, 1, none⟩) hN _).setCell (p := ⟨N, 2, none⟩) hN _).setCell (p := ⟨N, 3, none⟩) hN _).setCell (p := ⟨N, 4, none⟩) hN _).setCell (p := ⟨N, 5, none⟩) hN _).setCell (p := ⟨N, 6, none⟩) hN _
theorem put17c_below {w v : World} (hb : Below w.heap.size w v) (h : S17) : Below w.heap.size w (put17c v w.heap.size h) :=
  (put17c_kb (S := fun k => w.heap.size ≤ k) (u := w) (N := w.heap.size) ⟨hb.os, hb.tape, hb.output, hb.size, fun k hk _ => hb.block k hk⟩ (fun _ => Nat.le_refl _) h).below (Nat.le_refl _)

theorem Blk.on {w w' : World} {b : Nat} {xs : Array Value} {T : TypeId} (h : Blk w b xs T) (hb : Below w.heap.size w w') : Blk w' b xs T := (hb.block b h.lt).trans h
/-- What is told of an option: the header, or none at all. -/
def hdr (o : Option S17) : S17 := o.getD S17.zero

noncomputable def aT (o : Option (List UInt8)) : ByteArray := ⟨(o.getD []).toArray⟩
def eT {α : Type} (o : Option α) : Int := if o.isSome then 0 else 9
theorem addrV_eq (o : Option (List UInt8)) : addrV o = .tuple #[.string (aT o), .int .i64 (eT o)] := by cases o <;> rfl
theorem numV_eq (o : Option Nat) : numV o = .tuple #[.int .i64 ((o.getD 0 : Nat) : Int), .int .i64 (eT o)] := by cases o <;> rfl
noncomputable def head17 (f : Int) (oa ob : Option (List UInt8)) (oc od : Option Nat) : S17 := ⟨false, f, aT oa, aT ob, ((oc.getD 0 : Nat) : Int), ((od.getD 0 : Nat) : Int), none, 0, 0⟩
theorem numOf_le {m n : Nat} {s : List UInt8} (h : numOf m s = some n) : n ≤ m := (numOf_some h).1
noncomputable def pick17 (f : Int) (oa ob : Option (List UInt8)) (oc od : Option Nat) : Option S17 := match oa, ob, oc, od with
  | some x, some y, some p, some q => if x.length = sizeF f ∧ y.length = sizeF f then some ⟨false, f, ⟨x.toArray⟩, ⟨y.toArray⟩, (p : Int), (q : Int), none, 0, 0⟩ else none
  | _, _, _, _ => none
theorem pick17_is (f : Int) (a b c d : List UInt8) : wordsS f [a, b, c, d] = pick17 f (addrOf a) (addrOf b) (numOf 65535 c) (numOf 65535 d) := rfl
theorem words17_is (f : Int) (hf : f = 1 ∨ f = 2) (a b c d : List UInt8) : wordsS f [a, b, c, d] = if (∀ x ∈ [eT (addrOf a), eT (addrOf b), eT (numOf 65535 c), eT (numOf 65535 d), putE17 (head17 f (addrOf a) (addrOf b) (numOf 65535 c) (numOf 65535 d))], x = 0) then some (head17 f (addrOf a) (addrOf b) (numOf 65535 c) (numOf 65535 d)) else none := by
  have hc := fun n => @numOf_le 65535 n c
  have hd := fun n => @numOf_le 65535 n d
  rw [pick17_is]
  unfold pick17
  generalize addrOf a = oa at *
  generalize addrOf b = ob at *
  generalize numOf 65535 c = oc at *
  generalize numOf 65535 d = od at *
  cases oa with
  | none => simp [eT]
  | some x =>
    cases ob with
    | none => simp [eT]
    | some y =>
      cases oc with
      | none => simp [eT]
      | some p =>
        cases od with
        | none => simp [eT]
        | some q =>
          have hp := hc p rfl
          have hq := hd q rfl
          have hm : (head17 f (some x) (some y) (some p) (some q)).may ↔ x.length = sizeF f ∧ y.length = sizeF f := by
            unfold S17.may S17.fits head17 aT
            simp only [Option.getD_some]
            constructor
            · rintro ⟨_, _, h | h⟩
              · omega
              · exact ⟨h.2.1, h.2.2.1⟩
            · rintro ⟨h1, h2⟩
              exact ⟨trivial, trivial, Or.inr ⟨hf, h1, h2, by omega, by omega, by omega, by omega⟩⟩
          by_cases h : x.length = sizeF f ∧ y.length = sizeF f
          · have e : putE17 (head17 f (some x) (some y) (some p) (some q)) = 0 := if_pos (hm.2 h)
            rw [e]
            simp [eT, h]
            rfl
          · have e : putE17 (head17 f (some x) (some y) (some p) (some q)) = 1 := if_neg (fun z => h (hm.1 z))
            rw [e]
            simp [eT, h]

/-- readWords' first exit: not four words. -/
theorem words17_few (f : Int) (l : List (List UInt8)) (h : l.length ≠ 4) : wordsS f l = none := by
  unfold wordsS
  split
  · simp at h
  · rfl

theorem hdr_cells0 : (hdr none).cells = #[.bool false, .int .i64 0, .string ⟨#[]⟩, .string ⟨#[]⟩, .int .i64 0, .int .i64 0, .slice none 0 0] := rfl

set_option maxRecDepth 100000 in
set_option maxHeartbeats 2000000 in
theorem readwords_any (f : Int) (hf : f = 1 ∨ f = 2) (l : List ByteArray) (g o c : Nat) (hl : l.length ≤ 1000) (hz : ∀ x ∈ l, x.size ≤ 1000) (w : World) (hg : G17 w) (hc : ∀ i, (hi : i < l.length) → w.cell? ⟨g, o + i, none⟩ = some (.string (l[i]'hi))) :
    Calls Tryd.prog 23 #[.int .i64 f, .slice (some ⟨g, o, none⟩) l.length c] w (Tells (.tuple #[.agg (hdr (wordsS f (lists l))).cells, .bool (wordsS f (lists l)).isSome]) w) := by
  have B0 := Blk.new w #[.bool false, .int .i64 0, .string ⟨#[]⟩, .string ⟨#[]⟩, .int .i64 0, .int .i64 0, .slice none 0 0] 24
  have L0 : Below w.heap.size w (w.alloc (.cells #[.bool false, .int .i64 0, .string ⟨#[]⟩, .string ⟨#[]⟩, .int .i64 0, .int .i64 0, .slice none 0 0] 24)) := (Below.refl _ _).alloc (Nat.le_refl _) _
  by_cases h4 : l.length = 4
  · obtain ⟨a, b, e, d, rfl⟩ : ∃ a b e d, l = [a, b, e, d] := by
      match l, h4 with
      | [a, b, e, d], _ => exact ⟨a, b, e, d, rfl⟩
    have x0 := hc 0 (by simp)
    have x1 := hc 1 (by simp)
    have x2 := hc 2 (by simp)
    have x3 := hc 3 (by simp)
    simp only [Nat.add_zero, List.getElem_cons_zero, List.getElem_cons_succ] at x0 x1 x2 x3
    have hgl := cell_lt x0
    have PA := fun W hW => parse_any a (hz a (by simp)) W hW
    have PB := fun W hW => parse_any b (hz b (by simp)) W hW
    have PC := fun W hW => port_any e (by have := hz e (by simp); omega) W hW
    have PD := fun W hW => port_any d (by have := hz d (by simp); omega) W hW
    have HW := words17_is f hf a.data.toList b.data.toList e.data.toList d.data.toList
    have CK := fun W => check_any (head17 f (addrOf a.data.toList) (addrOf b.data.toList) (numOf 65535 e.data.toList) (numOf 65535 d.data.toList)) W
    rw [show lists [a, b, e, d] = [a.data.toList, b.data.toList, e.data.toList, d.data.toList] from rfl]
    generalize wordsS f [a.data.toList, b.data.toList, e.data.toList, d.data.toList] = R at HW ⊢
    simp only [addrV_eq, numV_eq] at PA PB PC PD
    generalize addrOf a.data.toList = oa at *
    generalize addrOf b.data.toList = ob at *
    generalize numOf 65535 e.data.toList = oc at *
    generalize numOf 65535 d.data.toList = od at *
    unfold head17 at *
    obtain ⟨H, hH⟩ : ∃ H : S17, H = ⟨false, f, aT oa, aT ob, ((oc.getD 0 : Nat) : Int), ((od.getD 0 : Nat) : Int), none, 0, 0⟩ := ⟨_, rfl⟩
    rw [← hH] at CK HW
    have hHc : H.cells = #[.bool false, .int .i64 f, .string (aT oa), .string (aT ob), .int .i64 ((oc.getD 0 : Nat) : Int), .int .i64 ((od.getD 0 : Nat) : Int), .slice none 0 0] := by rw [hH]; rfl
    have AO := fun W g c h => areok_any [eT oa, eT ob, eT oc, eT od, putE17 H] g c (by simp) W h
    generalize putE17 H = E at *
    generalize eT oa = ea at *
    generalize eT ob = eb at *
    generalize eT oc = ec at *
    generalize eT od = ed at *
    generalize ((oc.getD 0 : Nat) : Int) = nc at *
    generalize ((od.getD 0 : Nat) : Int) = nd at *
    generalize aT oa = ta at *
    generalize aT ob = tb at *
    have HPA := Lib.hid PA
    have HPB := Lib.hid PB
    have HPC := Lib.hid PC
    have HPD := Lib.hid PD
    have HCK := Lib.hid CK
    have HAO := Lib.hid AO
    have HHC := Lib.hid hHc
    have HRR := Lib.hid HW
    clear PA PB PC PD CK AO hHc HW hc hz hl h4 hH hf
    rw [HHC.out] at HCK
    have X := Lib.hid (⟨x0, x1, x2, x3⟩ : _ ∧ _ ∧ _ ∧ _)
    have y0 := (L0.cell (p := ⟨g, o, none⟩) hgl).trans x0
    have hg0 := hg.on L0
    go_enter Tryd.func23, Tryd.ntmps23
    go_wp2_with fail
    generalize w.alloc _ = w0 at *
    refine (HPA.out _ hg0).mono ?_
    rintro v w1 ⟨rfl, hb1⟩
    have L1 := L0.trans (hb1.mono L0.size)
    have hg1 := hg0.on hb1
    have y1 := (L1.cell (p := ⟨g, o + 1, none⟩) hgl).trans X.out.2.1
    go_wp2_with fail
    refine (HPB.out _ hg1).mono ?_
    rintro v w2 ⟨rfl, hb2⟩
    have L2 := L1.trans (hb2.mono L1.size)
    have hg2 := hg1.on hb2
    have y2 := (L2.cell (p := ⟨g, o + 2, none⟩) hgl).trans X.out.2.2.1
    go_wp2_with fail
    refine (HPC.out _ hg2).mono ?_
    rintro v w3 ⟨rfl, hb3⟩
    have L3 := L2.trans (hb3.mono L2.size)
    have hg3 := hg2.on hb3
    have y3 := (L3.cell (p := ⟨g, o + 3, none⟩) hgl).trans X.out.2.2.2
    go_wp2_with fail
    refine (HPD.out _ hg3).mono ?_
    rintro v w4 ⟨rfl, hb4⟩
    have L4 := L3.trans (hb4.mono L3.size)
    have M4 := (hb1.trans (hb2.mono hb1.size)).trans ((hb3.trans (hb4.mono hb3.size)).mono (hb1.trans (hb2.mono hb1.size)).size)
    have R4 := Lib.hid (Blk.on B0 M4)
    have N4 := Lib.hid L4
    clear y0 y1 y2 y3 hb1 hb2 hb3 hb4 L1 L2 L3 L4 M4 hg0 hg1 hg2 hg3 L0 B0 X x0 x1 x2 x3
    go_wp2_with fail
    have B5 := Blk.new w4 #[.bool false, .int .i64 f, .string ta, .string tb, .int .i64 nc, .int .i64 nd, .slice none 0 0] 24
    have L5 := N4.out.alloc N4.out.size (.cells #[.bool false, .int .i64 f, .string ta, .string tb, .int .i64 nc, .int .i64 nd, .slice none 0 0] 24)
    have R5 := R4.out.alloc (.cells #[.bool false, .int .i64 f, .string ta, .string tb, .int .i64 nc, .int .i64 nd, .slice none 0 0] 24)
    generalize w4.alloc _ = w5 at *
    refine (HCK.out w5).mono ?_
    rintro v w6 ⟨rfl, hb6⟩
    have B6 := Blk.on B5 hb6
    have R6 := Blk.on R5 hb6
    have L6 := L5.trans (hb6.mono L5.size)
    have B7 := B6.alloc (.cells #[.int .i64 ea, .int .i64 eb, .int .i64 ec, .int .i64 ed, .int .i64 E] 27)
    have R7 := R6.alloc (.cells #[.int .i64 ea, .int .i64 eb, .int .i64 ec, .int .i64 ed, .int .i64 E] 27)
    have L7 := L6.alloc L6.size (.cells #[.int .i64 ea, .int .i64 eb, .int .i64 ec, .int .i64 ed, .int .i64 E] 27)
    have A7 := Blk.new w6 #[.int .i64 ea, .int .i64 eb, .int .i64 ec, .int .i64 ed, .int .i64 E] 27
    clear B5 R5 L5 B6 R6 L6 hb6
    go_wp2_with fail
    generalize w6.alloc _ = w7 at *
    refine (HAO.out w7 w6.heap.size 5 ?_).mono ?_
    · intro i hi
      match i, hi with
      | 0, _ => exact A7.cell 0
      | 1, _ => exact A7.cell 1
      | 2, _ => exact A7.cell 2
      | 3, _ => exact A7.cell 3
      | 4, _ => exact A7.cell 4
    rintro v w8 ⟨rfl, hb8⟩
    have B8 := Lib.hid (Blk.on B7 hb8)
    have R8 := Lib.hid (Blk.on R7 hb8)
    have L8 := Lib.hid (L7.trans (hb8.mono L7.size))
    clear B7 R7 L7 A7 hb8
    obtain ⟨z0, z1, z2, z3, z4, z5, z6⟩ := box17 (h := S17.zero) R8.out (Below.refl _ _)
    simp only [S17.zero] at z0 z1 z2 z3 z4 z5 z6
    have f0 := R8.out.frozen 0
    have f1 := R8.out.frozen 1
    have f2 := R8.out.frozen 2
    have f3 := R8.out.frozen 3
    have f4 := R8.out.frozen 4
    have f5 := R8.out.frozen 5
    have f6 := R8.out.frozen 6
    obtain ⟨b0, b1, b2, b3, b4, b5, b6⟩ := box17 (h := ⟨false, f, ta, tb, nc, nd, none, 0, 0⟩) B8.out (Below.refl _ _)
    simp only at b0 b1 b2 b3 b4 b5 b6
    by_cases hall : ∀ x ∈ [ea, eb, ec, ed, E], x = 0
    · rw [decide_eq_true hall]
      have HALL := Lib.hid hall
      clear hall
      go_wp2_with fail
      have B9 := put17c_blk (g := S17.zero) R8.out ⟨false, f, ta, tb, nc, nd, none, 0, 0⟩
      have L9 := put17c_below L8.out ⟨false, f, ta, tb, nc, nd, none, 0, 0⟩
      unfold put17c at B9 L9
      simp only at B9 L9
      generalize World.setCell _ ⟨w.heap.size, 6, none⟩ _ = W at *
      clear z0 z1 z2 z3 z4 z5 z6 f0 f1 f2 f3 f4 f5 f6 b0 b1 b2 b3 b4 b5 b6
      obtain ⟨c0, c1, c2, c3, c4, c5, c6⟩ := box17 (h := ⟨false, f, ta, tb, nc, nd, none, 0, 0⟩) B9 (Below.refl _ _)
      simp only at c0 c1 c2 c3 c4 c5 c6
      refine ⟨rfl, .tuple #[.agg H.cells, .bool true], ?_, by rw [HRR.out, if_pos HALL.out]; rfl, L9⟩
      rw [HHC.out]
      simp [results, Tryd.results23, go_sem, c0, c1, c2, c3, c4, c5, c6]
    · rw [decide_eq_false hall]
      have HALL := Lib.hid hall
      clear hall
      go_wp2_with fail
      have B9 := put17c_blk (g := S17.zero) R8.out S17.zero
      have L9 := put17c_below L8.out S17.zero
      unfold put17c at B9 L9
      simp only [S17.zero] at B9 L9
      generalize World.setCell _ ⟨w.heap.size, 6, none⟩ _ = W at *
      clear z0 z1 z2 z3 z4 z5 z6 f0 f1 f2 f3 f4 f5 f6 b0 b1 b2 b3 b4 b5 b6
      obtain ⟨c0, c1, c2, c3, c4, c5, c6⟩ := box17 (h := S17.zero) B9 (Below.refl _ _)
      simp only [S17.zero] at c0 c1 c2 c3 c4 c5 c6
      refine ⟨rfl, .tuple #[.agg (hdr none).cells, .bool false], ?_, by rw [HRR.out, if_neg HALL.out]; rfl, L9⟩
      rw [hdr_cells0]
      simp [results, Tryd.results23, go_sem, c0, c1, c2, c3, c4, c5, c6]
  · have HN := Lib.hid (words17_few f (lists l) (by unfold lists; simpa using h4))
    rw [HN.out]
    have t1 : ((l.length : Int) != 4) = true := by simp; omega
    have z := box17 (h := S17.zero) B0 (Below.refl _ _)
    have Z := Lib.hid z
    have LL := Lib.hid L0
    clear HN h4 hc hz hl hf L0 B0 z
    go_enter Tryd.func23, Tryd.ntmps23
    go_wp2_with fail
    generalize w.alloc _ = W at *
    obtain ⟨c0, c1, c2, c3, c4, c5, c6⟩ := Z.out
    refine ⟨rfl, .tuple #[.agg (hdr none).cells, .bool false], ?_, rfl, LL.out⟩
    rw [hdr_cells0]
    simp only [S17.zero] at c0 c1 c2 c3 c4 c5 c6
    simp [results, Tryd.results23, go_sem, c0, c1, c2, c3, c4, c5, c6]

end Go.Proofs.YtpappmbnblaccaaDoor
