/-
  finish: an entry's packet is told, its pieces are let go.
-/
import Derived.Test.YtoijomdgcgbpbaaReasmWhole
import Derived.Test.YtoijomdgcgbpbaaReasmTold
import Derived.Test.YtoijomdgcgbpbaaReasmPut
import Derived.Test.YtoijomdgcgbpbaaIp4W
namespace Go.Proofs.Ytoijomdgcgbpbaa
open Go.RowKit
set_option linter.unusedVariables false

theorem Bd16.new (w : World) : Bd16 (w.alloc (.cells #[.pointer none, .slice none 0 0] 111)) w.heap.size w.heap.size [] :=
  Or.inl ⟨Nat.le_refl _, .slice none 0 0, heap_alloc_new w _, World.ownsRow_nil _ _ _ _, by simp [Value.ownBlock]⟩
/-- Blocks that are made leave a builder as it is. -/
theorem bd16_below {w w' : World} {B b : Nat} {l : List UInt8} (h : Bd16 w B b l) (hb : Below w.heap.size w w') : Bd16 w' B b l := by
  have one : ∀ p, Lib.BuilderAt 111 5 B b p (byteCells l) w → Lib.BuilderAt 111 5 B b p (byteCells l) w' := by
    rintro p ⟨h1, v, h2, h3, h4⟩
    refine ⟨h1, v, (hb.block _ (Array.getElem?_eq_some_iff.1 h2).1).trans h2, ⟨h3.1, ?_⟩, h4⟩
    rcases h3.2 with r | ⟨g, cap, cur, r1, r2, r3, r4⟩
    · exact Or.inl r
    · exact Or.inr ⟨g, cap, cur, r1, r2, (hb.block _ (Array.getElem?_eq_some_iff.1 r3).1).trans r3, r4⟩
  rcases h with h | h
  · exact Or.inl (one _ h)
  · exact Or.inr (one _ h)
theorem bd16_kb {S : Nat → Prop} {w w' : World} {B b : Nat} {l : List UInt8} (h : Bd16 w B b l) (k : Kb S w w') (hs : ∀ i, B ≤ i → ¬ S i) : Bd16 w' B b l := by
  have one : ∀ p, Lib.BuilderAt 111 5 B b p (byteCells l) w → Lib.BuilderAt 111 5 B b p (byteCells l) w' := by
    rintro p ⟨h1, v, h2, h3, h4⟩
    refine ⟨h1, v, (k.block _ (Array.getElem?_eq_some_iff.1 h2).1 (hs _ h1)).trans h2, ⟨h3.1, ?_⟩, h4⟩
    rcases h3.2 with r | ⟨g, cap, cur, r1, r2, r3, r4⟩
    · exact Or.inl r
    · exact Or.inr ⟨g, cap, cur, r1, r2, (k.block _ (Array.getElem?_eq_some_iff.1 r3).1 (hs _ r2)).trans r3, r4⟩
  rcases h with h | h
  · exact Or.inl (one _ h)
  · exact Or.inr (one _ h)
theorem kb_of_below' {S : Nat → Prop} {w W : World} (h : Below w.heap.size w W) : Kb S w W := ⟨h.os, h.tape, h.output, h.size, fun i hi _ => h.block i hi⟩
theorem take16_snoc {qs : List P16} {k : Nat} (h : k < qs.length) : cat16 (qs.take (k + 1)) = cat16 (qs.take k) ++ (qs[k]'h).s := by
  rw [List.take_succ_eq_append_getElem h, cat16_snoc]
theorem sum16_take_le (qs : List P16) (k : Nat) : sum16 (qs.take k) ≤ sum16 qs := by
  have h : sum16 qs = sum16 (qs.take k) + sum16 (qs.drop k) := by rw [← sum16_append, List.take_append_drop]
  omega
theorem E16.over_cells (e : E16) : e.over.cells (.slice none 0 0) = #[.int .i64 0, .int .i64 0, .int .i64 0, .int .i64 0, .int .i64 0, .bool false, .bool false, .string ⟨#[]⟩, .string ⟨#[]⟩, .string ⟨#[]⟩, .slice none 0 0, .int .i64 0, .int .i64 (e.age : Nat), .bool true] := rfl

/-- An entry, wiped. -/
def wipe16 (v : World) (N : Nat) (n : Int) : World :=
  (((((((((((((v.setCell ⟨N, 0, none⟩ (.int .i64 0)).setCell ⟨N, 1, none⟩ (.int .i64 0)).setCell ⟨N, 2, none⟩ (.int .i64 0)).setCell ⟨N, 3, none⟩ (.int .i64 0)).setCell ⟨N, 4, none⟩ (.int .i64 0)).setCell ⟨N, 5, none⟩ (.bool false)).setCell ⟨N, 6, none⟩ (.bool false)).setCell ⟨N, 7, none⟩ (.string ⟨#[]⟩)).setCell ⟨N, 8, none⟩ (.string ⟨#[]⟩)).setCell ⟨N, 9, none⟩ (.string ⟨#[]⟩)).setCell ⟨N, 10, none⟩ (.slice none 0 0)).setCell ⟨N, 11, none⟩ (.int .i64 0)).setCell ⟨N, 12, none⟩ (.int .i64 n)).setCell ⟨N, 13, none⟩ (.bool true)
theorem wipe16_blk {v : World} {N : Nat} {e : E16} {u : Value} (hb : Blk v N (e.cells u) 72) : Blk (wipe16 v N (e.age : Nat)) N (e.over.cells (.slice none 0 0)) 72 := by
  have h := ((((((((((((((hb.set 0 (.int .i64 0)).set 1 (.int .i64 0)).set 2 (.int .i64 0)).set 3 (.int .i64 0)).set 4 (.int .i64 0)).set 5 (.bool false)).set 6 (.bool false)).set 7 (.string ⟨#[]⟩)).set 8 (.string ⟨#[]⟩)).set 9 (.string ⟨#[]⟩)).set 10 (.slice none 0 0)).set 11 (.int .i64 0)).set 12 (.int .i64 ((e.age : Nat) : Int))).set 13 (.bool true))
  simp only [E16.cells, List.setIfInBounds_toArray, List.set_cons_zero, List.set_cons_succ] at h
  rw [E16.over_cells]
  exact h
theorem wipe16_kb {S : Nat → Prop} {u v : World} {N : Nat} (hk : Kb S u v) (hN : N < u.heap.size → S N) (n : Int) : Kb S u (wipe16 v N n) := by
  unfold wipe16
  exact (((((((((((((hk.setCell (p := ⟨N, 0, none⟩) hN _).setCell (p := ⟨N, 1, none⟩) hN _).setCell (p := ⟨N, 2, none⟩) hN _).setCell (p := ⟨N, 3, none⟩) hN _).setCell (p := ⟨N, 4, none⟩) hN _).setCell (p := ⟨N, 5, none⟩) hN _).setCell (p := ⟨N, 6, none⟩) hN _).setCell (p := ⟨N, 7, none⟩) hN _).setCell (p := ⟨N, 8, none⟩) hN _).setCell (p := ⟨N, 9, none⟩) hN _).setCell (p := ⟨N, 10, none⟩) hN _).setCell (p := ⟨N, 11, none⟩) hN _).setCell (p := ⟨N, 12, none⟩) hN _).setCell (p := ⟨N, 13, none⟩) hN _
/-- The header that is told, the entry that is over. -/
structure Fi16 (w W : World) (M : Nat) (e : E16) (eb : Nat) : Prop where
  hb : Blk W M #[.int .i64 e.hd.tos, .int .i64 e.hd.id, .int .i64 e.hd.off, .int .i64 e.hd.ttl, .int .i64 e.hd.proto, .bool e.hd.df, .bool false, .string e.hd.src, .string e.hd.dst, .string e.hd.opt] 43
  en : En16 W e.over eb (.slice none 0 0)
  kb : Kb (fun k => k = eb) w W
  lt : eb < w.heap.size
theorem Fi16.all {w W : World} {M : Nat} {e : E16} {eb : Nat} (h : Fi16 w W M e eb) : W.cell? ⟨M, 0, none⟩ = some (.int .i64 e.hd.tos) ∧ W.cell? ⟨M, 1, none⟩ = some (.int .i64 e.hd.id) ∧ W.cell? ⟨M, 2, none⟩ = some (.int .i64 e.hd.off) ∧ W.cell? ⟨M, 3, none⟩ = some (.int .i64 e.hd.ttl) ∧ W.cell? ⟨M, 4, none⟩ = some (.int .i64 e.hd.proto) ∧ W.cell? ⟨M, 5, none⟩ = some (.bool e.hd.df) ∧ W.cell? ⟨M, 6, none⟩ = some (.bool false) ∧ W.cell? ⟨M, 7, none⟩ = some (.string e.hd.src) ∧ W.cell? ⟨M, 8, none⟩ = some (.string e.hd.dst) ∧ W.cell? ⟨M, 9, none⟩ = some (.string e.hd.opt) ∧ Hid (Fi16 w W M e eb) :=
  ⟨h.hb.cell 0, h.hb.cell 1, h.hb.cell 2, h.hb.cell 3, h.hb.cell 4, h.hb.cell 5, h.hb.cell 6, h.hb.cell 7, h.hb.cell 8, h.hb.cell 9, Lib.hid h⟩
theorem Fi16.below {w W W' : World} {M : Nat} {e : E16} {eb : Nat} (h : Fi16 w W M e eb) (hb : Below W.heap.size W W') : Fi16 w W' M e eb :=
  ⟨(hb.block _ h.hb.lt).trans h.hb, h.en.below hb, h.kb.trans ⟨hb.os, hb.tape, hb.output, hb.size, fun k hk _ => hb.block k hk⟩, h.lt⟩
theorem Fi16.stay {w W W' : World} {M : Nat} {e : E16} {eb : Nat} (h : Fi16 w W M e eb) (hs : Stay16 W W') (hb : Below w.heap.size W W') : Fi16 w W' M e eb :=
  ⟨hs.block _ _ _ (by decide) h.hb, ⟨hs.block _ _ _ (by decide) h.en.b, Row16.nil _⟩, ⟨hs.os.trans h.kb.os, hs.tape.trans h.kb.tape, hs.output.trans h.kb.output, Nat.le_trans h.kb.size hs.size, fun k hk hne => (hb.block k hk).trans (h.kb.block k hk hne)⟩, h.lt⟩

/-- What finish leaves. -/
def FinEnd16 (w : World) (e : E16) (eb : Nat) (r : Ending) (w' : World) : Prop :=
  r = .returned (.tuple #[.string (putS e.hd.whole (cat16 e.qs)), .int .i64 (putE e.hd.whole (cat16 e.qs) : Nat)]) ∧ En16 w' e.over eb (.slice none 0 0) ∧ Kb (fun k => k = eb) w w'

set_option maxRecDepth 100000 in
set_option maxHeartbeats 4000000 in
theorem finish16_any (e : E16) (eb : Nat) (v : Value) (w : World) (h : En16 w e eb v) (hg : Few16 e.qs) :
    Calls Try.prog 34 #[.pointer (some ⟨eb, 0, none⟩)] w (FinEnd16 w e eb) := by
  have hfew := hg.few
  obtain ⟨va, vc, rfl, hnc, hcm⟩ := h.r.none
  have hb0 := (Below.refl w.heap.size w).alloc (Nat.le_refl _) (.cells #[.pointer none, .slice none 0 0] 111)
  have D0 := Lib.hid (Bd16.new w)
  have B0 := Lib.hid hb0
  have H := Lib.hid h
  have c10 := (h.below hb0).row
  have HLT := Lib.hid (And.intro h.b.lt h.r.lt)
  have HNE := Lib.hid h.ne
  have hps := cat16_size e.qs
  have HP := Lib.hid (fun W => put_any e.hd.whole (cat16 e.qs) W (by omega))
  unfold PutEnd at HP
  clear h hb0 hps
  go_enter Try.func34, Try.ntmps34
  go_wp2_with fail
  generalize hw1 : w.alloc (.cells #[.pointer none, .slice none 0 0] 111) = w1 at *
  go_loopw [13] (fun x wr => ∃ k : Nat, x = .int .i64 (k : Nat) ∧ k ≤ e.qs.length ∧ Bd16 wr w.heap.size w.heap.size (cat16 (e.qs.take k)).data.toList ∧ Below w.heap.size w wr) (fun x _ => e.qs.length - (intOf x).toNat)
  case atStart => exact ⟨0, rfl, Nat.zero_le _, D0.out, B0.out⟩
  case round =>
    obtain ⟨k, rfl, hk, hd, hb⟩ := hrel
    have BK := Lib.hid hb
    have DK := Lib.hid hd
    have HE := Lib.hid (H.out.below hb)
    clear hb hd D0 c10
    by_cases hlt : k < e.qs.length
    · have t1 : decide ((k : Int) < (e.qs.length : Int)) = true := decide_eq_true (by omega)
      have hq : e.qs ≠ [] := fun x => by rw [x] at hlt; cases hlt
      obtain ⟨g, cap, hv, hgl, _, _, hc⟩ := HE.out.r.some hq
      obtain ⟨rfl, rfl⟩ : va = some ⟨g, 0, none⟩ ∧ vc = cap := by simpa using hv
      have ⟨d0, d1, d2⟩ := hc k hlt
      have hk0 : (0 : Int) ≤ (k : Int) := by omega
      have hk1 : (k : Int) < (e.qs.length : Int) := by omega
      have hsn := take16_snoc hlt
      have hss := hg.small _ (List.getElem_mem hlt)
      have hsum := sum16_take_le e.qs k
      have hcs := cat16_size (e.qs.take k)
      have ew : IntKind.i64.wrap ((k : Int) + 1) = ((k + 1 : Nat) : Int) := by rw [IntWalk.i64_in _ (by omega)]; omega
      clear hc hv
      generalize e.qs[k]'hlt = y at *
      obtain ⟨yl, ys, yf⟩ := y
      have hys : ys.size ≤ 65535 := hss.s
      dsimp only at d0 d1 d2 hsn
      have hcl : (cat16 (e.qs.take k)).data.toList.length = sum16 (e.qs.take k) := by rw [← hcs]; simp
      have HSN := Lib.hid hsn
      have hba := (Below.refl wr.heap.size wr).alloc (Nat.le_refl _) (.cells #[.int .i64 (yl : Nat), .string ys, .bool yf] 79)
      have HW := Lib.hid (write16_any w.heap.size w.heap.size (cat16 (e.qs.take k)).data.toList ys (wr.alloc (.cells #[.int .i64 (yl : Nat), .string ys, .bool yf] 79)) (bd16_below DK.out hba) (by omega) (by have := BK.out.size; simp; omega))
      have HBA := Lib.hid (BK.out.alloc BK.out.size (.cells #[.int .i64 (yl : Nat), .string ys, .bool yf] 79))
      have HK1 := Lib.hid hlt
      clear hba hsn hss hsum hcs hcl hq hlt
      go_wp2_with fail
      refine HW.out.mono ?_
      rintro r w3 ⟨⟨u, rfl⟩, hbd, hbb⟩
      have BK1 := Lib.hid (HBA.out.trans hbb)
      have DK1 := Lib.hid hbd
      clear hbd hbb HW d0 d1 d2
      go_wp2_with fail
      have hk1' := HK1.out
      refine ⟨⟨k + 1, by first | rfl | rw [← ew]; rfl, hk1', ?_, BK1.out⟩, by simp [intOf]; omega⟩
      rw [HSN.out, cat_list]
      exact DK1.out
    · have t1 : decide ((k : Int) < (e.qs.length : Int)) = false := decide_eq_false (by omega)
      have hke : k = e.qs.length := by omega
      subst hke
      rw [List.take_length] at DK
      have d0 := HE.out.b.cell 0
      have d1 := HE.out.b.cell 1
      have d2 := HE.out.b.cell 2
      have d3 := HE.out.b.cell 3
      have d4 := HE.out.b.cell 4
      have d5 := HE.out.b.cell 5
      have d6 := HE.out.b.cell 6
      have d7 := HE.out.b.cell 7
      have d8 := HE.out.b.cell 8
      have d9 := HE.out.b.cell 9
      simp only [E16.cells, List.getElem?_toArray, List.getElem?_cons_zero, List.getElem?_cons_succ] at d0 d1 d2 d3 d4 d5 d6 d7 d8 d9
      go_upto_region 9 with (fail)
      have hba := (Below.refl wr.heap.size wr).alloc (Nat.le_refl _) (.cells #[.int .i64 e.hd.tos, .int .i64 e.hd.id, .int .i64 e.hd.off, .int .i64 e.hd.ttl, .int .i64 e.hd.proto, .bool e.hd.df, .bool false, .string e.hd.src, .string e.hd.dst, .string e.hd.opt] 43)
      have HE5 := Lib.hid (HE.out.below hba)
      have D5 := Lib.hid (bd16_below DK.out hba)
      have B5 := Lib.hid (BK.out.trans (hba.mono BK.out.size))
      have H5 := Lib.hid (Blk.new wr #[.int .i64 e.hd.tos, .int .i64 e.hd.id, .int .i64 e.hd.off, .int .i64 e.hd.ttl, .int .i64 e.hd.proto, .bool e.hd.df, .bool false, .string e.hd.src, .string e.hd.dst, .string e.hd.opt] 43)
      have HLW : Hid (w.heap.size ≤ wr.heap.size) := BK.out.size
      clear d0 d1 d2 d3 d4 d5 d6 d7 d8 d9 hba HE DK BK
      generalize wr.alloc (.cells #[.int .i64 e.hd.tos, .int .i64 e.hd.id, .int .i64 e.hd.off, .int .i64 e.hd.ttl, .int .i64 e.hd.proto, .bool e.hd.df, .bool false, .string e.hd.src, .string e.hd.dst, .string e.hd.opt] 43) = w5 at *
      generalize wr.heap.size = M at *
      have d0 := HE5.out.b.cell 0
      have d1 := HE5.out.b.cell 1
      have d2 := HE5.out.b.cell 2
      have d3 := HE5.out.b.cell 3
      have d4 := HE5.out.b.cell 4
      have d5 := HE5.out.b.cell 5
      have d6 := HE5.out.b.cell 6
      have d7 := HE5.out.b.cell 7
      have d8 := HE5.out.b.cell 8
      have d9 := HE5.out.b.cell 9
      have d10 := HE5.out.b.cell 10
      have d11 := HE5.out.b.cell 11
      have d12 := HE5.out.b.cell 12
      have d13 := HE5.out.b.cell 13
      simp only [E16.cells, List.getElem?_toArray, List.getElem?_cons_zero, List.getElem?_cons_succ] at d0 d1 d2 d3 d4 d5 d6 d7 d8 d9 d10 d11 d12 d13
      have f0 := HE5.out.b.frozen 0
      have f1 := HE5.out.b.frozen 1
      have f2 := HE5.out.b.frozen 2
      have f3 := HE5.out.b.frozen 3
      have f4 := HE5.out.b.frozen 4
      have f5 := HE5.out.b.frozen 5
      have f6 := HE5.out.b.frozen 6
      have f7 := HE5.out.b.frozen 7
      have f8 := HE5.out.b.frozen 8
      have f9 := HE5.out.b.frozen 9
      have f10 := HE5.out.b.frozen 10
      have f11 := HE5.out.b.frozen 11
      have f12 := HE5.out.b.frozen 12
      have f13 := HE5.out.b.frozen 13
      have hkz : Kb (fun k => k = eb) w5 (wipe16 w5 eb (e.age : Nat)) := wipe16_kb (S := fun k => k = eb) (Kb.refl _ w5) (fun _ => rfl) _
      have hbo := wipe16_blk HE5.out.b
      have hlt := HLT.out.1
      have F0 : Hid (Fi16 w (wipe16 w5 eb (e.age : Nat)) M e eb) := ⟨H5.out.kb hkz (by have := HLW.out; omega), ⟨hbo, Row16.nil _⟩, (kb_of_below' B5.out).trans hkz, hlt⟩
      have D6 : Hid (Bd16 (wipe16 w5 eb (e.age : Nat)) w.heap.size w.heap.size (cat16 e.qs).data.toList) := bd16_kb D5.out hkz (fun i hi e => by omega)
      unfold wipe16 at F0 D6
      clear hkz hbo
      go_upto_region 10 with (fail)
      generalize ((((((((((((((w5.setCell ⟨eb, 0, none⟩ (.int .i64 0)).setCell ⟨eb, 1, none⟩ (.int .i64 0)).setCell ⟨eb, 2, none⟩ (.int .i64 0)).setCell ⟨eb, 3, none⟩ (.int .i64 0)).setCell ⟨eb, 4, none⟩ (.int .i64 0)).setCell ⟨eb, 5, none⟩ (.bool false)).setCell ⟨eb, 6, none⟩ (.bool false)).setCell ⟨eb, 7, none⟩ (.string ⟨#[]⟩)).setCell ⟨eb, 8, none⟩ (.string ⟨#[]⟩)).setCell ⟨eb, 9, none⟩ (.string ⟨#[]⟩)).setCell ⟨eb, 10, none⟩ (.slice none 0 0)).setCell ⟨eb, 11, none⟩ (.int .i64 0)).setCell ⟨eb, 12, none⟩ (.int .i64 (e.age : Nat))).setCell ⟨eb, 13, none⟩ (.bool true)) = w6 at *
      have HS := Lib.hid (fun W (h : Bd16 W w.heap.size w.heap.size (cat16 e.qs).data.toList) => toldStay16_any w.heap.size w.heap.size _ W h)
      have e3 : (⟨(cat16 e.qs).data.toList.toArray⟩ : ByteArray) = cat16 e.qs := by apply text_ext; rfl
      rw [e3] at HS
      have F1 := Lib.hid (F0.out.below (Below.refl _ _).drew)
      have D7 := Lib.hid (bd16_below D6.out (Below.refl _ _).drew)
      unfold H4.whole H4.cells at HP
      refine wp_region_held_drew (S := fun W => W.cell? ⟨M, 0, none⟩ = some (.int .i64 e.hd.tos) ∧ W.cell? ⟨M, 1, none⟩ = some (.int .i64 e.hd.id) ∧ W.cell? ⟨M, 2, none⟩ = some (.int .i64 e.hd.off) ∧ W.cell? ⟨M, 3, none⟩ = some (.int .i64 e.hd.ttl) ∧ W.cell? ⟨M, 4, none⟩ = some (.int .i64 e.hd.proto) ∧ W.cell? ⟨M, 5, none⟩ = some (.bool e.hd.df) ∧ W.cell? ⟨M, 6, none⟩ = some (.bool false) ∧ W.cell? ⟨M, 7, none⟩ = some (.string e.hd.src) ∧ W.cell? ⟨M, 8, none⟩ = some (.string e.hd.dst) ∧ W.cell? ⟨M, 9, none⟩ = some (.string e.hd.opt) ∧ Hid (Fi16 w W M e eb)) (by kernel_rfl) ?_ (fun hHeld => ?_)
      · exact F1.out.all
      clear F0 F1 D5 D6 H5 HE5 d0 d1 d2 d3 d4 d5 d6 d7 d8 d9 d10 d11 d12 d13 f0 f1 f2 f3 f4 f5 f6 f7 f8 f9 f10 f11 f12 f13
      generalize w6.drew = w7 at *
      refine takeH_yes (i := 0) (d := some 33) (v := ?v1) rfl rfl (by kernel_rfl) (by kernel_rfl) (by kernel_rfl) (fun _ _ _ h => h) (by rfl) ?y1 (by assumption) ?_
      case y1 => (intro w hSw; (try dsimp only at hSw); go_simp <;> with_reducible rfl)
      simp only [Act.put, List.setIfInBounds_toArray, List.set_cons_zero, List.set_cons_succ]
      refine wpAnyH_ready (rs := [1]) (by kernel_rfl) (by simp) ?_
      refine AllReadyH.cons rfl (fun K hK => ?_) AllReadyH.nil
      go_simp
      refine (HS.out _ D7.out).mono ?_
      rintro r w8 ⟨rfl, hb8, hs8⟩
      have FT1 := Lib.hid (hHeld.2.2.2.2.2.2.2.2.2.2.out.stay hs8 hb8)
      refine hK.out _ _ FT1.out.all (fun held1 => ?_)
      clear hK K
      try simp only [Act.put, List.setIfInBounds_toArray, List.set_cons_zero, List.set_cons_succ]
      refine wpAnyH_ready (rs := [2]) (by kernel_rfl) (by simp) ?_
      refine AllReadyH.cons rfl (fun K hK => ?_) AllReadyH.nil
      go_simp
      refine (HP.out _).mono ?_
      rintro r w9 ⟨rfl, hb9⟩
      have FT2 := Lib.hid (held1.2.2.2.2.2.2.2.2.2.2.out.below hb9)
      refine hK.out _ _ FT2.out.all (fun held2 => ?_)
      clear hK K
      try simp only [Act.put, List.setIfInBounds_toArray, List.set_cons_zero, List.set_cons_succ]
      refine takeH_yes (i := 3) (d := some 36) (v := ?v2) rfl rfl (by kernel_rfl) (by kernel_rfl) (by kernel_rfl) (fun _ _ _ h => h) (by rfl) ?y2 (by assumption) ?_
      case y2 => (intro w hSw; (try dsimp only at hSw); go_simp <;> with_reducible rfl)
      simp only [Act.put, List.setIfInBounds_toArray, List.set_cons_zero, List.set_cons_succ]
      refine takeH_yes (i := 4) (d := some 37) (v := ?v3) rfl rfl (by kernel_rfl) (by kernel_rfl) (by kernel_rfl) (fun _ _ _ h => h) (by rfl) ?y3 (by assumption) ?_
      case y3 => (intro w hSw; (try dsimp only at hSw); go_simp <;> with_reducible rfl)
      simp only [Act.put, List.setIfInBounds_toArray, List.set_cons_zero, List.set_cons_succ]
      refine takeH_yes (i := 5) (d := some 2) (v := ?v4) rfl rfl (by kernel_rfl) (by kernel_rfl) (by kernel_rfl) (fun _ _ _ h => h) (by rfl) ?y4 (by assumption) ?_
      case y4 => (intro w hSw; (try dsimp only at hSw); go_simp <;> with_reducible rfl)
      simp only [Act.put, List.setIfInBounds_toArray, List.set_cons_zero, List.set_cons_succ]
      refine takeH_yes (i := 6) (d := some 3) (v := ?v5) rfl rfl (by kernel_rfl) (by kernel_rfl) (by kernel_rfl) (fun _ _ _ h => h) (by rfl) ?y5 (by assumption) ?_
      case y5 => (intro w hSw; (try dsimp only at hSw); go_simp <;> with_reducible rfl)
      simp only [Act.put, List.setIfInBounds_toArray, List.set_cons_zero, List.set_cons_succ]
      refine wpAnyH_done (by kernel_rfl) ?_ _
      go_wp2_with fail
      go_ret2
      exact ⟨rfl, FT2.out.en, FT2.out.kb⟩

end Go.Proofs.Ytoijomdgcgbpbaa
