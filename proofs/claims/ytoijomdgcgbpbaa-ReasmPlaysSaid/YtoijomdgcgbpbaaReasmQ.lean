/-
  finish: an entry's packet is told, its pieces are let go.
-/
import Derived.Test.YtoijomdgcgbpbaaReasmWhole
import Derived.Test.YtoijomdgcgbpbaaReasmP
import Derived.Test.YtoijomdgcgbpbaaReasmPut
import Derived.Test.YtoijomdgcgbpbaaIp4W
import Derived.Test.YtoijomdgcgbpbaaReasmRefuse
import Derived.Deep.RegionLaw
import Derived.Test.YtoijomdgcgbpbaaReasmMade
import Derived.Test.YtoijomdgcgbpbaaIp4A
namespace Go.Proofs.Ytoijomdgcgbpbaa
open Go.RowKit
set_option linter.unusedVariables false

theorem Bd16.new (w : World) : Bd16 (w.alloc (.cells #[.pointer none, .slice none 0 0] 111)) w.heap.size w.heap.size [] :=
  Or.inl ⟨Nat.le_refl _, .slice none 0 0, heap_alloc_new w _, World.ownsRow_nil _ _ _ _, by simp [Value.ownBlock]⟩
/-- Blocks that are made leave a builder as it is. -/
theorem bd16_below {w w' : World} {B b : Nat} {l : List UInt8} (h : Bd16 w B b l) (hb : Below w.heap.size w w') : Bd16 w' B b l := by
  have one : ∀ p, Lib.BuilderAt 111 5 B b p (byteCells l) w → Lib.BuilderAt 111 5 B b p (byteCells l) w' := by
    rintro p ⟨h1, v, h2, h3, h4⟩
    refine ⟨h1, v, (hb.block _ (Array.getElem?_eq_some_iff.1 h2).1).trans h2, ⟨h3.1, ?_⟩, h4⟩
    rcases h3.2 with r | ⟨g, cap, cur, r1, r2, r3, r4⟩
    · exact Or.inl r
    · exact Or.inr ⟨g, cap, cur, r1, r2, (hb.block _ (Array.getElem?_eq_some_iff.1 r3).1).trans r3, r4⟩
  rcases h with h | h
  · exact Or.inl (one _ h)
  · exact Or.inr (one _ h)
theorem bd16_kb {S : Nat → Prop} {w w' : World} {B b : Nat} {l : List UInt8} (h : Bd16 w B b l) (k : Kb S w w') (hs : ∀ i, B ≤ i → ¬ S i) : Bd16 w' B b l := by
  have one : ∀ p, Lib.BuilderAt 111 5 B b p (byteCells l) w → Lib.BuilderAt 111 5 B b p (byteCells l) w' := by
    rintro p ⟨h1, v, h2, h3, h4⟩
    refine ⟨h1, v, (k.block _ (Array.getElem?_eq_some_iff.1 h2).1 (hs _ h1)).trans h2, ⟨h3.1, ?_⟩, h4⟩
    rcases h3.2 with r | ⟨g, cap, cur, r1, r2, r3, r4⟩
    · exact Or.inl r
    · exact Or.inr ⟨g, cap, cur, r1, r2, (k.block _ (Array.getElem?_eq_some_iff.1 r3).1 (hs _ r2)).trans r3, r4⟩
  rcases h with h | h
  · exact Or.inl (one _ h)
  · exact Or.inr (one _ h)
theorem kb_of_below' {S : Nat → Prop} {w W : World} (h : Below w.heap.size w W) : Kb S w W := ⟨h.os, h.tape, h.output, h.size, fun i hi _ => h.block i hi⟩
theorem take16_snoc {qs : List P16} {k : Nat} (h : k < qs.length) : cat16 (qs.take (k + 1)) = cat16 (qs.take k) ++ (qs[k]'h).s := by
  rw [List.take_succ_eq_append_getElem h, cat16_snoc]
theorem sum16_take_le (qs : List P16) (k : Nat) : sum16 (qs.take k) ≤ sum16 qs := by
  have h : sum16 qs = sum16 (qs.take k) + sum16 (qs.drop k) := by rw [← sum16_append, List.take_append_drop]
  omega
theorem E16.over_cells (e : E16) : e.over.cells (.slice none 0 0) = #[.int .i64 0, .int .i64 0, .int .i64 0, .int .i64 0, .int .i64 0, .bool false, .bool false, .string ⟨#[]⟩, .string ⟨#[]⟩, .string ⟨#[]⟩, .slice none 0 0, .int .i64 0, .int .i64 (e.age : Nat), .bool true] := rfl

/-- An entry, wiped. -/
def wipe16 (v : World) (N : Nat) (n : Int) : World :=
  (((((((((((((v.setCell ⟨N, 0, none⟩ (.int .i64 0)).setCell ⟨N, 1, none⟩ (.int .i64 0)).setCell ⟨N, 2, none⟩ (.int .i64 0)).setCell ⟨N, 3, none⟩ (.int .i64 0)).setCell ⟨N, 4, none⟩ (.int .i64 0)).setCell ⟨N, 5, none⟩ (.bool false)).setCell ⟨N, 6, none⟩ (.bool false)).setCell ⟨N, 7, none⟩ (.string ⟨#[]⟩)).setCell ⟨N, 8, none⟩ (.string ⟨#[]⟩)).setCell ⟨N, 9, none⟩ (.string ⟨#[]⟩)).setCell ⟨N, 10, none⟩ (.slice none 0 0)).setCell ⟨N, 11, none⟩ (.int .i64 0)).setCell ⟨N, 12, none⟩ (.int .i64 n)).setCell ⟨N, 13, none⟩ (.bool true)
theorem wipe16_blk {v : World} {N : Nat} {e : E16} {u : Value} (hb : Blk v N (e.cells u) 72) : Blk (wipe16 v N (e.age : Nat)) N (e.over.cells (.slice none 0 0)) 72 := by
  have h := ((((((((((((((hb.set 0 (.int .i64 0)).set 1 (.int .i64 0)).set 2 (.int .i64 0)).set 3 (.int .i64 0)).set 4 (.int .i64 0)).set 5 (.bool false)).set 6 (.bool false)).set 7 (.string ⟨#[]⟩)).set 8 (.string ⟨#[]⟩)).set 9 (.string ⟨#[]⟩)).set 10 (.slice none 0 0)).set 11 (.int .i64 0)).set 12 (.int .i64 ((e.age : Nat) : Int))).set 13 (.bool true))
  simp only [E16.cells, List.setIfInBounds_toArray, List.set_cons_zero, List.set_cons_succ] at h
  rw [E16.over_cells]
  exact h
theorem wipe16_kb {S : Nat → Prop} {u v : World} {N : Nat} (hk : Kb S u v) (hN : N < u.heap.size → S N) (n : Int) : Kb S u (wipe16 v N n) := by
  unfold wipe16
  exact (((((((((((((hk.setCell (p := ⟨N, 0, none⟩) hN _).setCell (p := ⟨N, 1, none⟩) hN _).setCell (p := ⟨N, 2, none⟩) hN _).setCell (p := ⟨N, 3, none⟩) hN _).setCell (p := ⟨N, 4, none⟩) hN _).setCell (p := ⟨N, 5, none⟩) hN _).setCell (p := ⟨N, 6, none⟩) hN _).setCell (p := ⟨N, 7, none⟩) hN _).setCell (p := ⟨N, 8, none⟩) hN _).setCell (p := ⟨N, 9, none⟩) hN _).setCell (p := ⟨N, 10, none⟩) hN _).setCell (p := ⟨N, 11, none⟩) hN _).setCell (p := ⟨N, 12, none⟩) hN _).setCell (p := ⟨N, 13, none⟩) hN _
/-- The header that is told, the entry that is over. -/
structure Fi16 (w W : World) (M : Nat) (e : E16) (eb : Nat) : Prop where
  hb : Blk W M #[.int .i64 e.hd.tos, .int .i64 e.hd.id, .int .i64 e.hd.off, .int .i64 e.hd.ttl, .int .i64 e.hd.proto, .bool e.hd.df, .bool false, .string e.hd.src, .string e.hd.dst, .string e.hd.opt] 43
  en : En16 W e.over eb (.slice none 0 0)
  kb : Kb (fun k => k = eb) w W
  lt : eb < w.heap.size
theorem Fi16.all {w W : World} {M : Nat} {e : E16} {eb : Nat} (h : Fi16 w W M e eb) : W.cell? ⟨M, 0, none⟩ = some (.int .i64 e.hd.tos) ∧ W.cell? ⟨M, 1, none⟩ = some (.int .i64 e.hd.id) ∧ W.cell? ⟨M, 2, none⟩ = some (.int .i64 e.hd.off) ∧ W.cell? ⟨M, 3, none⟩ = some (.int .i64 e.hd.ttl) ∧ W.cell? ⟨M, 4, none⟩ = some (.int .i64 e.hd.proto) ∧ W.cell? ⟨M, 5, none⟩ = some (.bool e.hd.df) ∧ W.cell? ⟨M, 6, none⟩ = some (.bool false) ∧ W.cell? ⟨M, 7, none⟩ = some (.string e.hd.src) ∧ W.cell? ⟨M, 8, none⟩ = some (.string e.hd.dst) ∧ W.cell? ⟨M, 9, none⟩ = some (.string e.hd.opt) ∧ Hid (Fi16 w W M e eb) :=
  ⟨h.hb.cell 0, h.hb.cell 1, h.hb.cell 2, h.hb.cell 3, h.hb.cell 4, h.hb.cell 5, h.hb.cell 6, h.hb.cell 7, h.hb.cell 8, h.hb.cell 9, Lib.hid h⟩
theorem Fi16.below {w W W' : World} {M : Nat} {e : E16} {eb : Nat} (h : Fi16 w W M e eb) (hb : Below W.heap.size W W') : Fi16 w W' M e eb :=
  ⟨(hb.block _ h.hb.lt).trans h.hb, h.en.below hb, h.kb.trans ⟨hb.os, hb.tape, hb.output, hb.size, fun k hk _ => hb.block k hk⟩, h.lt⟩
theorem Fi16.stay {w W W' : World} {M : Nat} {e : E16} {eb : Nat} (h : Fi16 w W M e eb) (hs : Stay16 W W') (hb : Below w.heap.size W W') : Fi16 w W' M e eb :=
  ⟨hs.block _ _ _ (by decide) h.hb, ⟨hs.block _ _ _ (by decide) h.en.b, Row16.nil _⟩, ⟨hs.os.trans h.kb.os, hs.tape.trans h.kb.tape, hs.output.trans h.kb.output, Nat.le_trans h.kb.size hs.size, fun k hk hne => (hb.block k hk).trans (h.kb.block k hk hne)⟩, h.lt⟩

/-- What finish leaves. -/
def FinEnd16 (w : World) (e : E16) (eb : Nat) (r : Ending) (w' : World) : Prop :=
  r = .returned (.tuple #[.string (putS e.hd.whole (cat16 e.qs)), .int .i64 (putE e.hd.whole (cat16 e.qs) : Nat)]) ∧ En16 w' e.over eb (.slice none 0 0) ∧ Kb (fun k => k = eb) w w'

set_option maxRecDepth 100000 in
set_option maxHeartbeats 4000000 in
theorem finish16_any (e : E16) (eb : Nat) (v : Value) (w : World) (h : En16 w e eb v) (hg : Few16 e.qs) :
    Calls Try.prog 34 #[.pointer (some ⟨eb, 0, none⟩)] w (FinEnd16 w e eb) := by
  have hfew := hg.few
  obtain ⟨va, vc, rfl, hnc, hcm⟩ := h.r.none
  have hb0 := (Below.refl w.heap.size w).alloc (Nat.le_refl _) (.cells #[.pointer none, .slice none 0 0] 111)
  have D0 := Lib.hid (Bd16.new w)
  have B0 := Lib.hid hb0
  have H := Lib.hid h
  have c10 := (h.below hb0).row
  have HLT := Lib.hid (And.intro h.b.lt h.r.lt)
  have HNE := Lib.hid h.ne
  have hps := cat16_size e.qs
  have HP := Lib.hid (fun W => put_any e.hd.whole (cat16 e.qs) W (by omega))
  unfold PutEnd at HP
  clear h hb0 hps
  go_enter Try.func34, Try.ntmps34
  go_wp2_with fail
  generalize hw1 : w.alloc (.cells #[.pointer none, .slice none 0 0] 111) = w1 at *
  go_loopw [13] (fun x wr => ∃ k : Nat, x = .int .i64 (k : Nat) ∧ k ≤ e.qs.length ∧ Bd16 wr w.heap.size w.heap.size (cat16 (e.qs.take k)).data.toList ∧ Below w.heap.size w wr) (fun x _ => e.qs.length - (intOf x).toNat)
  case atStart => exact ⟨0, rfl, Nat.zero_le _, D0.out, B0.out⟩
  case round =>
    obtain ⟨k, rfl, hk, hd, hb⟩ := hrel
    have BK := Lib.hid hb
    have DK := Lib.hid hd
    have HE := Lib.hid (H.out.below hb)
    clear hb hd D0 c10
    by_cases hlt : k < e.qs.length
    · have t1 : decide ((k : Int) < (e.qs.length : Int)) = true := decide_eq_true (by omega)
      have hq : e.qs ≠ [] := fun x => by rw [x] at hlt; cases hlt
      obtain ⟨g, cap, hv, hgl, _, _, hc⟩ := HE.out.r.some hq
      obtain ⟨rfl, rfl⟩ : va = some ⟨g, 0, none⟩ ∧ vc = cap := by simpa using hv
      have ⟨d0, d1, d2⟩ := hc k hlt
      have hk0 : (0 : Int) ≤ (k : Int) := by omega
      have hk1 : (k : Int) < (e.qs.length : Int) := by omega
      have hsn := take16_snoc hlt
      have hss := hg.small _ (List.getElem_mem hlt)
      have hsum := sum16_take_le e.qs k
      have hcs := cat16_size (e.qs.take k)
      have ew : IntKind.i64.wrap ((k : Int) + 1) = ((k + 1 : Nat) : Int) := by rw [IntWalk.i64_in _ (by omega)]; omega
      clear hc hv
      generalize e.qs[k]'hlt = y at *
      obtain ⟨yl, ys, yf⟩ := y
      have hys : ys.size ≤ 65535 := hss.s
      dsimp only at d0 d1 d2 hsn
      have hcl : (cat16 (e.qs.take k)).data.toList.length = sum16 (e.qs.take k) := by rw [← hcs]; simp
      have HSN := Lib.hid hsn
      have hba := (Below.refl wr.heap.size wr).alloc (Nat.le_refl _) (.cells #[.int .i64 (yl : Nat), .string ys, .bool yf] 79)
      have HW := Lib.hid (write16_any w.heap.size w.heap.size (cat16 (e.qs.take k)).data.toList ys (wr.alloc (.cells #[.int .i64 (yl : Nat), .string ys, .bool yf] 79)) (bd16_below DK.out hba) (by omega) (by have := BK.out.size; simp; omega))
      have HBA := Lib.hid (BK.out.alloc BK.out.size (.cells #[.int .i64 (yl : Nat), .string ys, .bool yf] 79))
      have HK1 := Lib.hid hlt
      clear hba hsn hss hsum hcs hcl hq hlt
      go_wp2_with fail
      refine HW.out.mono ?_
      rintro r w3 ⟨⟨u, rfl⟩, hbd, hbb⟩
      have BK1 := Lib.hid (HBA.out.trans hbb)
      have DK1 := Lib.hid hbd
      clear hbd hbb HW d0 d1 d2
      go_wp2_with fail
      have hk1' := HK1.out
      refine ⟨⟨k + 1, by first | rfl | rw [← ew]; rfl, hk1', ?_, BK1.out⟩, by simp [intOf]; omega⟩
      rw [HSN.out, cat_list]
      exact DK1.out
    · have t1 : decide ((k : Int) < (e.qs.length : Int)) = false := decide_eq_false (by omega)
      have hke : k = e.qs.length := by omega
      subst hke
      rw [List.take_length] at DK
      have d0 := HE.out.b.cell 0
      have d1 := HE.out.b.cell 1
      have d2 := HE.out.b.cell 2
      have d3 := HE.out.b.cell 3
      have d4 := HE.out.b.cell 4
      have d5 := HE.out.b.cell 5
      have d6 := HE.out.b.cell 6
      have d7 := HE.out.b.cell 7
      have d8 := HE.out.b.cell 8
      have d9 := HE.out.b.cell 9
      simp only [E16.cells, List.getElem?_toArray, List.getElem?_cons_zero, List.getElem?_cons_succ] at d0 d1 d2 d3 d4 d5 d6 d7 d8 d9
      go_upto_region 9 with (fail)
      have hba := (Below.refl wr.heap.size wr).alloc (Nat.le_refl _) (.cells #[.int .i64 e.hd.tos, .int .i64 e.hd.id, .int .i64 e.hd.off, .int .i64 e.hd.ttl, .int .i64 e.hd.proto, .bool e.hd.df, .bool false, .string e.hd.src, .string e.hd.dst, .string e.hd.opt] 43)
      have HE5 := Lib.hid (HE.out.below hba)
      have D5 := Lib.hid (bd16_below DK.out hba)
      have B5 := Lib.hid (BK.out.trans (hba.mono BK.out.size))
      have H5 := Lib.hid (Blk.new wr #[.int .i64 e.hd.tos, .int .i64 e.hd.id, .int .i64 e.hd.off, .int .i64 e.hd.ttl, .int .i64 e.hd.proto, .bool e.hd.df, .bool false, .string e.hd.src, .string e.hd.dst, .string e.hd.opt] 43)
      have HLW : Hid (w.heap.size ≤ wr.heap.size) := BK.out.size
      clear d0 d1 d2 d3 d4 d5 d6 d7 d8 d9 hba HE DK BK
      generalize wr.alloc (.cells #[.int .i64 e.hd.tos, .int .i64 e.hd.id, .int .i64 e.hd.off, .int .i64 e.hd.ttl, .int .i64 e.hd.proto, .bool e.hd.df, .bool false, .string e.hd.src, .string e.hd.dst, .string e.hd.opt] 43) = w5 at *
      generalize wr.heap.size = M at *
      have d0 := HE5.out.b.cell 0
      have d1 := HE5.out.b.cell 1
      have d2 := HE5.out.b.cell 2
      have d3 := HE5.out.b.cell 3
      have d4 := HE5.out.b.cell 4
      have d5 := HE5.out.b.cell 5
      have d6 := HE5.out.b.cell 6
      have d7 := HE5.out.b.cell 7
      have d8 := HE5.out.b.cell 8
      have d9 := HE5.out.b.cell 9
      have d10 := HE5.out.b.cell 10
      have d11 := HE5.out.b.cell 11
      have d12 := HE5.out.b.cell 12
      have d13 := HE5.out.b.cell 13
      simp only [E16.cells, List.getElem?_toArray, List.getElem?_cons_zero, List.getElem?_cons_succ] at d0 d1 d2 d3 d4 d5 d6 d7 d8 d9 d10 d11 d12 d13
      have f0 := HE5.out.b.frozen 0
      have f1 := HE5.out.b.frozen 1
      have f2 := HE5.out.b.frozen 2
      have f3 := HE5.out.b.frozen 3
      have f4 := HE5.out.b.frozen 4
      have f5 := HE5.out.b.frozen 5
      have f6 := HE5.out.b.frozen 6
      have f7 := HE5.out.b.frozen 7
      have f8 := HE5.out.b.frozen 8
      have f9 := HE5.out.b.frozen 9
      have f10 := HE5.out.b.frozen 10
      have f11 := HE5.out.b.frozen 11
      have f12 := HE5.out.b.frozen 12
      have f13 := HE5.out.b.frozen 13
      have hkz : Kb (fun k => k = eb) w5 (wipe16 w5 eb (e.age : Nat)) := wipe16_kb (S := fun k => k = eb) (Kb.refl _ w5) (fun _ => rfl) _
      have hbo := wipe16_blk HE5.out.b
      have hlt := HLT.out.1
      have F0 : Hid (Fi16 w (wipe16 w5 eb (e.age : Nat)) M e eb) := ⟨H5.out.kb hkz (by have := HLW.out; omega), ⟨hbo, Row16.nil _⟩, (kb_of_below' B5.out).trans hkz, hlt⟩
      have D6 : Hid (Bd16 (wipe16 w5 eb (e.age : Nat)) w.heap.size w.heap.size (cat16 e.qs).data.toList) := bd16_kb D5.out hkz (fun i hi e => by omega)
      unfold wipe16 at F0 D6
      clear hkz hbo
      go_upto_region 10 with (fail)
      generalize ((((((((((((((w5.setCell ⟨eb, 0, none⟩ (.int .i64 0)).setCell ⟨eb, 1, none⟩ (.int .i64 0)).setCell ⟨eb, 2, none⟩ (.int .i64 0)).setCell ⟨eb, 3, none⟩ (.int .i64 0)).setCell ⟨eb, 4, none⟩ (.int .i64 0)).setCell ⟨eb, 5, none⟩ (.bool false)).setCell ⟨eb, 6, none⟩ (.bool false)).setCell ⟨eb, 7, none⟩ (.string ⟨#[]⟩)).setCell ⟨eb, 8, none⟩ (.string ⟨#[]⟩)).setCell ⟨eb, 9, none⟩ (.string ⟨#[]⟩)).setCell ⟨eb, 10, none⟩ (.slice none 0 0)).setCell ⟨eb, 11, none⟩ (.int .i64 0)).setCell ⟨eb, 12, none⟩ (.int .i64 (e.age : Nat))).setCell ⟨eb, 13, none⟩ (.bool true)) = w6 at *
      have HS := Lib.hid (fun W (h : Bd16 W w.heap.size w.heap.size (cat16 e.qs).data.toList) => toldStay16_any w.heap.size w.heap.size _ W h)
      have e3 : (⟨(cat16 e.qs).data.toList.toArray⟩ : ByteArray) = cat16 e.qs := by apply text_ext; rfl
      rw [e3] at HS
      have F1 := Lib.hid (F0.out.below (Below.refl _ _).drew)
      have D7 := Lib.hid (bd16_below D6.out (Below.refl _ _).drew)
      unfold H4.whole H4.cells at HP
      refine wp_region_held_drew (S := fun W => W.cell? ⟨M, 0, none⟩ = some (.int .i64 e.hd.tos) ∧ W.cell? ⟨M, 1, none⟩ = some (.int .i64 e.hd.id) ∧ W.cell? ⟨M, 2, none⟩ = some (.int .i64 e.hd.off) ∧ W.cell? ⟨M, 3, none⟩ = some (.int .i64 e.hd.ttl) ∧ W.cell? ⟨M, 4, none⟩ = some (.int .i64 e.hd.proto) ∧ W.cell? ⟨M, 5, none⟩ = some (.bool e.hd.df) ∧ W.cell? ⟨M, 6, none⟩ = some (.bool false) ∧ W.cell? ⟨M, 7, none⟩ = some (.string e.hd.src) ∧ W.cell? ⟨M, 8, none⟩ = some (.string e.hd.dst) ∧ W.cell? ⟨M, 9, none⟩ = some (.string e.hd.opt) ∧ Hid (Fi16 w W M e eb)) (by kernel_rfl) ?_ (fun hHeld => ?_)
      · exact F1.out.all
      clear F0 F1 D5 D6 H5 HE5 d0 d1 d2 d3 d4 d5 d6 d7 d8 d9 d10 d11 d12 d13 f0 f1 f2 f3 f4 f5 f6 f7 f8 f9 f10 f11 f12 f13
      generalize w6.drew = w7 at *
      refine takeH_yes (i := 0) (d := some 33) (v := ?v1) rfl rfl (by kernel_rfl) (by kernel_rfl) (by kernel_rfl) (fun _ _ _ h => h) (by rfl) ?y1 (by assumption) ?_
      case y1 => (intro w hSw; (try dsimp only at hSw); go_simp <;> with_reducible rfl)
      simp only [Act.put, List.setIfInBounds_toArray, List.set_cons_zero, List.set_cons_succ]
      refine wpAnyH_ready (rs := [1]) (by kernel_rfl) (by simp) ?_
      refine AllReadyH.cons rfl (fun K hK => ?_) AllReadyH.nil
      go_simp
      refine (HS.out _ D7.out).mono ?_
      rintro r w8 ⟨rfl, hb8, hs8⟩
      have FT1 := Lib.hid (hHeld.2.2.2.2.2.2.2.2.2.2.out.stay hs8 hb8)
      refine hK.out _ _ FT1.out.all (fun held1 => ?_)
      clear hK K
      try simp only [Act.put, List.setIfInBounds_toArray, List.set_cons_zero, List.set_cons_succ]
      refine wpAnyH_ready (rs := [2]) (by kernel_rfl) (by simp) ?_
      refine AllReadyH.cons rfl (fun K hK => ?_) AllReadyH.nil
      go_simp
      refine (HP.out _).mono ?_
      rintro r w9 ⟨rfl, hb9⟩
      have FT2 := Lib.hid (held1.2.2.2.2.2.2.2.2.2.2.out.below hb9)
      refine hK.out _ _ FT2.out.all (fun held2 => ?_)
      clear hK K
      try simp only [Act.put, List.setIfInBounds_toArray, List.set_cons_zero, List.set_cons_succ]
      refine takeH_yes (i := 3) (d := some 36) (v := ?v2) rfl rfl (by kernel_rfl) (by kernel_rfl) (by kernel_rfl) (fun _ _ _ h => h) (by rfl) ?y2 (by assumption) ?_
      case y2 => (intro w hSw; (try dsimp only at hSw); go_simp <;> with_reducible rfl)
      simp only [Act.put, List.setIfInBounds_toArray, List.set_cons_zero, List.set_cons_succ]
      refine takeH_yes (i := 4) (d := some 37) (v := ?v3) rfl rfl (by kernel_rfl) (by kernel_rfl) (by kernel_rfl) (fun _ _ _ h => h) (by rfl) ?y3 (by assumption) ?_
      case y3 => (intro w hSw; (try dsimp only at hSw); go_simp <;> with_reducible rfl)
      simp only [Act.put, List.setIfInBounds_toArray, List.set_cons_zero, List.set_cons_succ]
      refine takeH_yes (i := 5) (d := some 2) (v := ?v4) rfl rfl (by kernel_rfl) (by kernel_rfl) (by kernel_rfl) (fun _ _ _ h => h) (by rfl) ?y4 (by assumption) ?_
      case y4 => (intro w hSw; (try dsimp only at hSw); go_simp <;> with_reducible rfl)
      simp only [Act.put, List.setIfInBounds_toArray, List.set_cons_zero, List.set_cons_succ]
      refine takeH_yes (i := 6) (d := some 3) (v := ?v5) rfl rfl (by kernel_rfl) (by kernel_rfl) (by kernel_rfl) (fun _ _ _ h => h) (by rfl) ?y5 (by assumption) ?_
      case y5 => (intro w hSw; (try dsimp only at hSw); go_simp <;> with_reducible rfl)
      simp only [Act.put, List.setIfInBounds_toArray, List.set_cons_zero, List.set_cons_succ]
      refine wpAnyH_done (by kernel_rfl) ?_ _
      go_wp2_with fail
      go_ret2
      exact ⟨rfl, FT2.out.en, FT2.out.kb⟩

end Go.Proofs.Ytoijomdgcgbpbaa

/-
  entry: that of a key, a new one where there is none.
-/
namespace Go.Proofs.Ytoijomdgcgbpbaa
open Go.RowKit
set_option linter.unusedVariables false

/-- One more entry, with nothing in it. -/
theorem Tb16.pushAt {O O' S : Nat → Prop} {w w' : World} {tb mb E B L clock : Nat} {ms : List M16} {k : K16} {eb : Nat} (h : Tb16 O w tb mb E B L ms clock) (kb : Kb S w w') (hS : ∀ i, S i → i = mb) (hm : Map16 w' mb (ms.map M16.me ++ [⟨k, eb, clock⟩]) (clock + 1)) (he : En16 w' (E16.new k) eb (.slice none 0 0))
    (hn : ∀ m ∈ ms, ∀ i, m.own i → i ≠ eb) (hk : find16 (ms.map (·.e)) k = ms.length) (hl : ms.length + 1 ≤ E) (hO : ∀ i, O i → O' i) (hO' : O' eb) : Tb16 O' w' tb mb E B L (ms ++ [⟨E16.new k, eb, .slice none 0 0, clock⟩]) (clock + 1) := by
  have ne := h.ne
  have lt := h.lt
  have own : ∀ i, M16.own ⟨E16.new k, eb, .slice none 0 0, clock⟩ i → i = eb := by
    rintro i (e | e)
    · exact e
    · simp [Value.ownBlock] at e
  refine ⟨h.tbl.kb kb (fun e => ne.1 (hS _ e)), by rw [List.map_append]; exact hm, ?_, ?_, ?_, ?_, hO _ h.ot, hO _ h.om, ?_, ?_⟩
  · intro m hmm
    rw [List.mem_append, List.mem_singleton] at hmm
    rcases hmm with hmm | rfl
    · exact (h.ents m hmm).kb kb (fun e => (ne.2 m hmm).2 (hS _ e ▸ Or.inl rfl)) (fun g eg e => (ne.2 m hmm).2 (hS _ e ▸ Or.inr eg))
    · exact he
  · rw [List.pairwise_append]
    refine ⟨h.apart, List.pairwise_singleton _ _, fun a ha b hb i hi hib => ?_⟩
    rw [List.mem_singleton] at hb
    subst hb
    exact hn a ha i hi (own i hib)
  · intro m hmm
    rw [List.mem_append, List.mem_singleton] at hmm
    rcases hmm with hmm | rfl
    · have := h.born m hmm; omega
    · exact Nat.lt_succ_self _
  · rw [List.map_append, List.nodup_append]
    refine ⟨h.nodup, by simp, fun a ha b hb => ?_⟩
    obtain ⟨m, hmm, rfl⟩ := List.mem_map.1 ha
    simp at hb
    subst hb
    exact Nat.ne_of_lt (h.born m hmm)
  · intro m hmm i hi
    rw [List.mem_append, List.mem_singleton] at hmm
    rcases hmm with hmm | rfl
    · exact hO _ (h.oe m hmm i hi)
    · rw [own i hi]; exact hO'
  · have t := h.tab
    rw [List.map_append]
    refine ⟨t.store, ?_, ?_, ?_, ?_⟩
    · simp; omega
    · have e : bytes16 (ms.map (·.e) ++ [E16.new k]) = bytes16 (ms.map (·.e)) := by simp [bytes16, E16.new, sum16]
      exact e ▸ t.bytes
    · rw [List.pairwise_append]
      refine ⟨t.keys, List.pairwise_singleton _ _, fun a ha b hb => ?_⟩
      have hb' : b = E16.new k := by simpa using hb
      subst hb'
      have e2 : (ms.map (·.e)).length = ms.length := List.length_map ..
      unfold find16 at hk
      rw [← e2, List.findIdx_eq_length] at hk
      have := hk a ha
      exact of_decide_eq_false this
    · intro e he
      rw [List.mem_append] at he
      rcases he with he | he
      · exact t.each e he
      · have : e = E16.new k := by simpa using he
        subst this
        exact Ent16.new t k

/-- What entry answers. -/
def EntryEnd16 (O : Nat → Prop) (w : World) (tb mb E B L : Nat) (ms : List M16) (k : K16) (r : Ending) (w' : World) : Prop :=
  ∃ (a b : List M16) (m : M16) (clock' : Nat), r = .returned (.pointer (some ⟨m.eb, 0, none⟩)) ∧ Tb16 (fun i => O i ∨ w.heap.size ≤ i) w' tb mb E B L (a ++ m :: b) clock' ∧ m.e = old16 (ms.map (·.e)) k ∧ a.length = find16 (ms.map (·.e)) k ∧
    a.map (·.e) = (ms.map (·.e)).take a.length ∧ b.map (·.e) = (ms.map (·.e)).drop (a.length + 1) ∧ Kb O w w'

/-- The key in its block. -/
structure Ky16 (O : Nat → Prop) (w W : World) (tb mb E B L clock : Nat) (ms : List M16) (k : K16) : Prop where
  kb : Blk W w.heap.size #[.string k.src, .string k.dst, .int .i64 k.proto, .int .i64 k.id] 68
  tb : Tb16 O W tb mb E B L ms clock
  bel : Below w.heap.size w W
theorem Ky16.below {O : Nat → Prop} {w W W' : World} {tb mb E B L clock : Nat} {ms : List M16} {k : K16} (h : Ky16 O w W tb mb E B L clock ms k) (hb : Below W.heap.size W W') : Ky16 O w W' tb mb E B L clock ms k :=
  ⟨(hb.block _ h.kb.lt).trans h.kb, h.tb.below hb, h.bel.trans (hb.mono h.bel.size)⟩
theorem Ky16.drew {O : Nat → Prop} {w W : World} {tb mb E B L clock : Nat} {ms : List M16} {k : K16} (h : Ky16 O w W tb mb E B L clock ms k) : Ky16 O w W.drew tb mb E B L clock ms k := h.below (Below.refl _ _).drew
theorem kb_of_below {O : Nat → Prop} {w W : World} (h : Below w.heap.size w W) : Kb O w W := ⟨h.os, h.tape, h.output, h.size, fun i hi _ => h.block i hi⟩

/-- .. and the new entry's block beside it. -/
def Kn16 (O : Nat → Prop) (w W : World) (tb mb E B L clock : Nat) (ms : List M16) (k : K16) (eb : Nat) : Prop := Ky16 O w W tb mb E B L clock ms k ∧ w.heap.size < eb ∧ Blk W eb ((E16.new k).cells (.slice none 0 0)) 72
theorem keyKeep {O : Nat → Prop} {w W W' : World} {tb mb E B L clock eb : Nat} {ms : List M16} {k : K16} (h : Kn16 O w W tb mb E B L clock ms k eb) (hb : Below W.heap.size W W') : Kn16 O w W' tb mb E B L clock ms k eb := ⟨h.1.below hb, h.2.1, (hb.block _ h.2.2.lt).trans h.2.2⟩
theorem keyStored {O : Nat → Prop} {w W : World} {tb mb E B L clock eb : Nat} {ms : List M16} {k : K16} (h : Kn16 O w W tb mb E B L clock ms k eb) (hlt : ∀ i, O i → i < w.heap.size) (i : Nat) (u : Value)
    (hu : (#[.string k.src, .string k.dst, .int .i64 k.proto, .int .i64 k.id] : Array Value).setIfInBounds i u = #[.string k.src, .string k.dst, .int .i64 k.proto, .int .i64 k.id]) : Kn16 O w (W.setCell ⟨w.heap.size, i, none⟩ u) tb mb E B L clock ms k eb := by
  have kb : Kb (fun k => k = w.heap.size) W (W.setCell ⟨w.heap.size, i, none⟩ u) := Kb.setCell (S := fun k => k = w.heap.size) (Kb.refl _ W) (p := ⟨w.heap.size, i, none⟩) (fun _ => rfl) _
  refine ⟨⟨?_, h.1.tb.kb kb (fun j hj e => by have := hlt j hj; omega), h.1.bel.setCell (Nat.le_refl _) _⟩, h.2.1, h.2.2.kb kb (by have := h.2.1; omega)⟩
  have := h.1.kb.set i u
  rw [hu] at this
  exact this

set_option maxRecDepth 100000 in
set_option maxHeartbeats 4000000 in
theorem entry16_any {O : Nat → Prop} {tb mb E B L clock : Nat} {ms : List M16} (k : K16) (hks : k.src.size ≤ 65535 ∧ k.dst.size ≤ 65535) (w : World) (h : Tb16 O w tb mb E B L ms clock) (hroom : find16 (ms.map (·.e)) k = ms.length → ms.length + 1 ≤ E) :
    Calls Try.prog 31 #[.pointer (some ⟨tb, 0, none⟩), k.val] w (EntryEnd16 O w tb mb E B L ms k) := by
  have hlook := look16 ms k
  have e1 := Blk.new w #[.string k.src, .string k.dst, .int .i64 k.proto, .int .i64 k.id] 68
  have hb : Below w.heap.size w (w.alloc (.cells #[.string k.src, .string k.dst, .int .i64 k.proto, .int .i64 k.id] 68)) := (Below.refl _ w).alloc (Nat.le_refl _) _
  obtain ⟨O1, hO1⟩ : ∃ O1 : Nat → Prop, O1 = fun i => O i ∧ i < w.heap.size := ⟨_, rfl⟩
  have hcut := h.cut
  rw [← hO1] at hcut
  have HO : Hid (∀ i, O1 i → O i ∧ i < w.heap.size) := by rw [hO1]; exact fun i hi => hi
  have Y0 : Hid (Ky16 O1 w (w.alloc (.cells #[.string k.src, .string k.dst, .int .i64 k.proto, .int .i64 k.id] 68)) tb mb E B L clock ms k) := ⟨e1, hcut.below hb, hb⟩
  have HLOOK := Lib.hid hlook
  have HRM := Lib.hid hroom
  have HC1 := Lib.hid (fun W => clone16_any k.src W (by omega))
  have HC2 := Lib.hid (fun W => clone16_any k.dst W (by omega))
  unfold Tells at HC1 HC2
  unfold K16.val
  clear h e1 hb hlook hroom hcut hO1
  obtain ⟨ks, kd, kp, ki⟩ := k
  dsimp only at *
  have k0 := Y0.out.kb.cell 0
  have k1 := Y0.out.kb.cell 1
  have k2 := Y0.out.kb.cell 2
  have k3 := Y0.out.kb.cell 3
  have c3 := Y0.out.tb.tbl.cell 3
  simp only [List.getElem?_toArray, List.getElem?_cons_zero, List.getElem?_cons_succ] at k0 k1 k2 k3 c3
  go_enter Try.func31, Try.ntmps31
  go_upto_region 1 with (fail)
  generalize hw2 : w.alloc (.cells #[.string ks, .string kd, .int .i64 kp, .int .i64 ki] 68) = w2 at *
  rcases HLOOK.out with ⟨m, i, hi, hm, hf, hs, ho, hk⟩ | ⟨hf, hs, ho⟩
  -- THE REST
  · have hi2 := hi
    refine wp_region_held_drew (S := fun W => W.cell? ⟨w.heap.size, 0, none⟩ = some (.string ks) ∧ W.cell? ⟨w.heap.size, 1, none⟩ = some (.string kd) ∧ W.cell? ⟨w.heap.size, 2, none⟩ = some (.int .i64 kp) ∧ W.cell? ⟨w.heap.size, 3, none⟩ = some (.int .i64 ki) ∧ W.cell? ⟨tb, 3, none⟩ = some (.map (some mb)) ∧ Hid (Map16 W mb (ms.map M16.me) clock)) (by kernel_rfl) ?_ (fun hHeld => ?_)
    · exact ⟨k0, k1, k2, k3, c3, Lib.hid Y0.out.tb.map⟩
    refine takeH_yes (i := 0) (d := some 8) (v := ?v1) rfl rfl (by kernel_rfl) (by kernel_rfl) (by kernel_rfl) (fun _ _ _ h => h) (by rfl) ?y1 (by assumption) ?_
    case y1 => (intro w hSw; (try dsimp only at hSw); go_simp <;> with_reducible rfl)
    simp only [Act.put, List.setIfInBounds_toArray, List.set_cons_zero, List.set_cons_succ]
    refine takeH_yes (i := 1) (d := some 9) (v := ?v2) rfl rfl (by kernel_rfl) (by kernel_rfl) (by kernel_rfl) (fun _ _ _ h => h) (by rfl) ?y2 (by assumption) ?_
    case y2 => (intro w hSw; (try dsimp only at hSw); go_simp <;> with_reducible rfl)
    simp only [Act.put, List.setIfInBounds_toArray, List.set_cons_zero, List.set_cons_succ]
    refine takeH_yes (i := 2) (d := some 10) (v := ?v3) rfl rfl (by kernel_rfl) (by kernel_rfl) (by kernel_rfl) (fun _ _ _ h => h) (by rfl) ?y3 (by assumption) ?_
    case y3 => (intro w hSw; (try dsimp only at hSw); go_simp <;> with_reducible rfl)
    simp only [Act.put, List.setIfInBounds_toArray, List.set_cons_zero, List.set_cons_succ]
    refine takeH_yes (i := 3) (d := some 11) (v := ?v4) rfl rfl (by kernel_rfl) (by kernel_rfl) (by kernel_rfl) (fun _ _ _ h => h) (by rfl) ?y4 (by assumption) ?_
    case y4 => (intro w hSw; (try dsimp only at hSw); go_simp <;> with_reducible rfl)
    simp only [Act.put, List.setIfInBounds_toArray, List.set_cons_zero, List.set_cons_succ]
    refine takeH_yes (i := 4) (d := some 12) (v := ?v5) rfl rfl (by kernel_rfl) (by kernel_rfl) (by kernel_rfl) (fun _ _ _ h => h) (by rfl) ?y5 (by assumption) ?_
    case y5 => (intro w hSw; (try dsimp only at hSw); go_simp <;> with_reducible rfl)
    simp only [Act.put, List.setIfInBounds_toArray, List.set_cons_zero, List.set_cons_succ]
    refine takeH_yes (i := 5) (d := some 13) (v := .tuple #[.pointer (some ⟨m.eb, 0, none⟩), .bool true]) rfl rfl (by kernel_rfl) (by kernel_rfl) (by kernel_rfl) (fun _ _ _ h => h) (by rfl) ?y6 (by assumption) ?_
    case y6 => (intro w hSw; (try dsimp only at hSw); have hq := run_look_key (k := ⟨ks, kd, kp, ki⟩) hSw.2.2.2.2.2.out; rw [hs] at hq; unfold K16.val at hq; try dsimp only [M16.me] at hq; go_simp <;> with_reducible rfl)
    simp only [Act.put, List.setIfInBounds_toArray, List.set_cons_zero, List.set_cons_succ]
    refine takeH_yes (i := 6) (d := some 7) (v := ?v7) rfl rfl (by kernel_rfl) (by kernel_rfl) (by kernel_rfl) (fun _ _ _ h => h) (by rfl) ?y7 (by assumption) ?_
    case y7 => (intro w hSw; (try dsimp only at hSw); go_simp <;> with_reducible rfl)
    simp only [Act.put, List.setIfInBounds_toArray, List.set_cons_zero, List.set_cons_succ]
    refine takeH_yes (i := 7) (d := some 14) (v := ?v8) rfl rfl (by kernel_rfl) (by kernel_rfl) (by kernel_rfl) (fun _ _ _ h => h) (by rfl) ?y8 (by assumption) ?_
    case y8 => (intro w hSw; (try dsimp only at hSw); go_simp <;> with_reducible rfl)
    simp only [Act.put, List.setIfInBounds_toArray, List.set_cons_zero, List.set_cons_succ]
    refine takeH_yes (i := 8) (d := some 15) (v := ?v9) rfl rfl (by kernel_rfl) (by kernel_rfl) (by kernel_rfl) (fun _ _ _ h => h) (by rfl) ?y9 (by assumption) ?_
    case y9 => (intro w hSw; (try dsimp only at hSw); go_simp <;> with_reducible rfl)
    simp only [Act.put, List.setIfInBounds_toArray, List.set_cons_zero, List.set_cons_succ]
    refine takeH_yes (i := 9) (d := some 5) (v := ?v10) rfl rfl (by kernel_rfl) (by kernel_rfl) (by kernel_rfl) (fun _ _ _ h => h) (by rfl) ?y10 (by assumption) ?_
    case y10 => (intro w hSw; (try dsimp only at hSw); go_simp <;> with_reducible rfl)
    simp only [Act.put, List.setIfInBounds_toArray, List.set_cons_zero, List.set_cons_succ]
    refine takeH_yes (i := 10) (d := some 6) (v := ?v11) rfl rfl (by kernel_rfl) (by kernel_rfl) (by kernel_rfl) (fun _ _ _ h => h) (by rfl) ?y11 (by assumption) ?_
    case y11 => (intro w hSw; (try dsimp only at hSw); go_simp <;> with_reducible rfl)
    simp only [Act.put, List.setIfInBounds_toArray, List.set_cons_zero, List.set_cons_succ]
    refine wpAnyH_done (by kernel_rfl) ?_ _
    go_wp2_with fail
    go_ret
    unfold EntryEnd16
    refine ⟨ms.take i, ms.drop (i + 1), m, clock, rfl, ?_, ho.symm, by rw [hf, List.length_take]; omega, by rw [List.map_take, List.length_take, Nat.min_eq_left (by omega)], by rw [List.map_drop, List.length_take, Nat.min_eq_left (by omega)], kb_of_below Y0.out.drew.bel⟩
    have e : ms.take i ++ m :: ms.drop (i + 1) = ms := by
      rw [← hm, ← List.drop_eq_getElem_cons hi, List.take_append_drop]
    rw [e]
    exact Y0.out.drew.tb.mono (fun k hk => Or.inl (HO.out k hk).1)
  · have hi2 := hf
    refine wp_region_held_drew (S := fun W => W.cell? ⟨w.heap.size, 0, none⟩ = some (.string ks) ∧ W.cell? ⟨w.heap.size, 1, none⟩ = some (.string kd) ∧ W.cell? ⟨w.heap.size, 2, none⟩ = some (.int .i64 kp) ∧ W.cell? ⟨w.heap.size, 3, none⟩ = some (.int .i64 ki) ∧ W.cell? ⟨tb, 3, none⟩ = some (.map (some mb)) ∧ Hid (Map16 W mb (ms.map M16.me) clock)) (by kernel_rfl) ?_ (fun hHeld => ?_)
    · exact ⟨k0, k1, k2, k3, c3, Lib.hid Y0.out.tb.map⟩
    refine takeH_yes (i := 0) (d := some 8) (v := ?v12) rfl rfl (by kernel_rfl) (by kernel_rfl) (by kernel_rfl) (fun _ _ _ h => h) (by rfl) ?y12 (by assumption) ?_
    case y12 => (intro w hSw; (try dsimp only at hSw); go_simp <;> with_reducible rfl)
    simp only [Act.put, List.setIfInBounds_toArray, List.set_cons_zero, List.set_cons_succ]
    refine takeH_yes (i := 1) (d := some 9) (v := ?v13) rfl rfl (by kernel_rfl) (by kernel_rfl) (by kernel_rfl) (fun _ _ _ h => h) (by rfl) ?y13 (by assumption) ?_
    case y13 => (intro w hSw; (try dsimp only at hSw); go_simp <;> with_reducible rfl)
    simp only [Act.put, List.setIfInBounds_toArray, List.set_cons_zero, List.set_cons_succ]
    refine takeH_yes (i := 2) (d := some 10) (v := ?v14) rfl rfl (by kernel_rfl) (by kernel_rfl) (by kernel_rfl) (fun _ _ _ h => h) (by rfl) ?y14 (by assumption) ?_
    case y14 => (intro w hSw; (try dsimp only at hSw); go_simp <;> with_reducible rfl)
    simp only [Act.put, List.setIfInBounds_toArray, List.set_cons_zero, List.set_cons_succ]
    refine takeH_yes (i := 3) (d := some 11) (v := ?v15) rfl rfl (by kernel_rfl) (by kernel_rfl) (by kernel_rfl) (fun _ _ _ h => h) (by rfl) ?y15 (by assumption) ?_
    case y15 => (intro w hSw; (try dsimp only at hSw); go_simp <;> with_reducible rfl)
    simp only [Act.put, List.setIfInBounds_toArray, List.set_cons_zero, List.set_cons_succ]
    refine takeH_yes (i := 4) (d := some 12) (v := ?v16) rfl rfl (by kernel_rfl) (by kernel_rfl) (by kernel_rfl) (fun _ _ _ h => h) (by rfl) ?y16 (by assumption) ?_
    case y16 => (intro w hSw; (try dsimp only at hSw); go_simp <;> with_reducible rfl)
    simp only [Act.put, List.setIfInBounds_toArray, List.set_cons_zero, List.set_cons_succ]
    refine takeH_yes (i := 5) (d := some 13) (v := .tuple #[.pointer none, .bool false]) rfl rfl (by kernel_rfl) (by kernel_rfl) (by kernel_rfl) (fun _ _ _ h => h) (by rfl) ?y17 (by assumption) ?_
    case y17 => (intro w hSw; (try dsimp only at hSw); have hq := run_look_key (k := ⟨ks, kd, kp, ki⟩) hSw.2.2.2.2.2.out; rw [hs] at hq; unfold K16.val at hq; try dsimp only [M16.me] at hq; go_simp <;> with_reducible rfl)
    simp only [Act.put, List.setIfInBounds_toArray, List.set_cons_zero, List.set_cons_succ]
    refine takeH_yes (i := 6) (d := some 7) (v := ?v18) rfl rfl (by kernel_rfl) (by kernel_rfl) (by kernel_rfl) (fun _ _ _ h => h) (by rfl) ?y18 (by assumption) ?_
    case y18 => (intro w hSw; (try dsimp only at hSw); go_simp <;> with_reducible rfl)
    simp only [Act.put, List.setIfInBounds_toArray, List.set_cons_zero, List.set_cons_succ]
    refine takeH_yes (i := 7) (d := some 14) (v := ?v19) rfl rfl (by kernel_rfl) (by kernel_rfl) (by kernel_rfl) (fun _ _ _ h => h) (by rfl) ?y19 (by assumption) ?_
    case y19 => (intro w hSw; (try dsimp only at hSw); go_simp <;> with_reducible rfl)
    simp only [Act.put, List.setIfInBounds_toArray, List.set_cons_zero, List.set_cons_succ]
    refine takeH_yes (i := 8) (d := some 15) (v := ?v20) rfl rfl (by kernel_rfl) (by kernel_rfl) (by kernel_rfl) (fun _ _ _ h => h) (by rfl) ?y20 (by assumption) ?_
    case y20 => (intro w hSw; (try dsimp only at hSw); go_simp <;> with_reducible rfl)
    simp only [Act.put, List.setIfInBounds_toArray, List.set_cons_zero, List.set_cons_succ]
    refine takeH_yes (i := 9) (d := some 5) (v := ?v21) rfl rfl (by kernel_rfl) (by kernel_rfl) (by kernel_rfl) (fun _ _ _ h => h) (by rfl) ?y21 (by assumption) ?_
    case y21 => (intro w hSw; (try dsimp only at hSw); go_simp <;> with_reducible rfl)
    simp only [Act.put, List.setIfInBounds_toArray, List.set_cons_zero, List.set_cons_succ]
    refine takeH_yes (i := 10) (d := some 6) (v := ?v22) rfl rfl (by kernel_rfl) (by kernel_rfl) (by kernel_rfl) (fun _ _ _ h => h) (by rfl) ?y22 (by assumption) ?_
    case y22 => (intro w hSw; (try dsimp only at hSw); go_simp <;> with_reducible rfl)
    simp only [Act.put, List.setIfInBounds_toArray, List.set_cons_zero, List.set_cons_succ]
    refine wpAnyH_done (by kernel_rfl) ?_ _
    have Y1 := Lib.hid Y0.out.drew
    clear Y0 k0 k1 k2 k3 c3
    go_upto_region 4 with (fail)
    have hnew : Blk (w2.drew.alloc (.cells #[.int .i64 0, .int .i64 0, .int .i64 0, .int .i64 0, .int .i64 0, .bool false, .bool false, .string ⟨#[]⟩, .string ⟨#[]⟩, .string ⟨#[]⟩, .slice none 0 0, .int .i64 0, .int .i64 0, .bool false] 72)) w2.heap.size ((E16.new ⟨ks, kd, kp, ki⟩).cells (.slice none 0 0)) 72 := Blk.new w2.drew _ _
    have hba := (Below.refl w2.drew.heap.size w2.drew).alloc (Nat.le_refl _) (.cells #[.int .i64 0, .int .i64 0, .int .i64 0, .int .i64 0, .int .i64 0, .bool false, .bool false, .string ⟨#[]⟩, .string ⟨#[]⟩, .string ⟨#[]⟩, .slice none 0 0, .int .i64 0, .int .i64 0, .bool false] 72)
    have hgt : w.heap.size < w2.heap.size := by rw [← hw2]; simp
    have Y2 : Hid (Kn16 O1 w (w2.alloc (.cells #[.int .i64 0, .int .i64 0, .int .i64 0, .int .i64 0, .int .i64 0, .bool false, .bool false, .string ⟨#[]⟩, .string ⟨#[]⟩, .string ⟨#[]⟩, .slice none 0 0, .int .i64 0, .int .i64 0, .bool false] 72)).drew.drew tb mb E B L clock ms ⟨ks, kd, kp, ki⟩ w2.heap.size) := keyKeep (show Kn16 O1 w (w2.alloc (.cells #[.int .i64 0, .int .i64 0, .int .i64 0, .int .i64 0, .int .i64 0, .bool false, .bool false, .string ⟨#[]⟩, .string ⟨#[]⟩, .string ⟨#[]⟩, .slice none 0 0, .int .i64 0, .int .i64 0, .bool false] 72)).drew tb mb E B L clock ms ⟨ks, kd, kp, ki⟩ w2.heap.size from ⟨Y1.out.below hba, hgt, hnew⟩) (Below.refl _ _).drew
    clear hnew hba Y1 hw2
    generalize hw3 : w2.heap.size = M at *
    refine wp_region_held_drew (S := fun W => W.cell? ⟨w.heap.size, 0, none⟩ = some (.string ks) ∧ W.cell? ⟨w.heap.size, 1, none⟩ = some (.string kd) ∧ Hid (Kn16 O1 w W tb mb E B L clock ms ⟨ks, kd, kp, ki⟩ M)) (by kernel_rfl) ?_ (fun hHeld => ?_)
    · exact ⟨Y2.out.1.kb.cell 0, Y2.out.1.kb.cell 1, Y2⟩
    clear Y2
    refine takeH_yes (i := 0) (d := some 20) (v := ?v23) rfl rfl (by kernel_rfl) (by kernel_rfl) (by kernel_rfl) (fun _ _ _ h => h) (by rfl) ?y23 (by assumption) ?_
    case y23 => (intro w hSw; (try dsimp only at hSw); go_simp <;> with_reducible rfl)
    simp only [Act.put, List.setIfInBounds_toArray, List.set_cons_zero, List.set_cons_succ]
    refine takeH_yes (i := 1) (d := some 21) (v := ?v24) rfl rfl (by kernel_rfl) (by kernel_rfl) (by kernel_rfl) (fun _ _ _ h => h) (by rfl) ?y24 (by assumption) ?_
    case y24 => (intro w hSw; (try dsimp only at hSw); go_simp <;> with_reducible rfl)
    simp only [Act.put, List.setIfInBounds_toArray, List.set_cons_zero, List.set_cons_succ]
    refine takeH_yes (i := 3) (d := some 23) (v := ?v25) rfl rfl (by kernel_rfl) (by kernel_rfl) (by kernel_rfl) (fun _ _ _ h => h) (by rfl) ?y25 (by assumption) ?_
    case y25 => (intro w hSw; (try dsimp only at hSw); go_simp <;> with_reducible rfl)
    simp only [Act.put, List.setIfInBounds_toArray, List.set_cons_zero, List.set_cons_succ]
    refine takeH_yes (i := 4) (d := some 24) (v := ?v26) rfl rfl (by kernel_rfl) (by kernel_rfl) (by kernel_rfl) (fun _ _ _ h => h) (by rfl) ?y26 (by assumption) ?_
    case y26 => (intro w hSw; (try dsimp only at hSw); go_simp <;> with_reducible rfl)
    simp only [Act.put, List.setIfInBounds_toArray, List.set_cons_zero, List.set_cons_succ]
    refine wpAnyH_ready (rs := [2]) (by kernel_rfl) (by simp) ?_
    refine AllReadyH.cons rfl (fun K hK => ?_) AllReadyH.nil
    go_simp
    refine (HC1.out _).mono ?_
    rintro r wi ⟨rfl, hb⟩
    have YT := Lib.hid (keyKeep hHeld.2.2.out hb)
    refine hK.out _ _ ⟨YT.out.1.kb.cell 0, YT.out.1.kb.cell 1, YT⟩ (fun held2 => ?_)
    clear hK K YT hHeld hb
    try simp only [Act.put, List.setIfInBounds_toArray, List.set_cons_zero, List.set_cons_succ]
    refine takeH_yes (i := 6) (d := some 26) (v := ?v27) rfl rfl (by kernel_rfl) (by kernel_rfl) (by kernel_rfl) (fun _ _ _ h => h) (by rfl) ?y27 (by assumption) ?_
    case y27 => (intro w hSw; (try dsimp only at hSw); go_simp <;> with_reducible rfl)
    simp only [Act.put, List.setIfInBounds_toArray, List.set_cons_zero, List.set_cons_succ]
    refine wpAnyH_ready (rs := [5]) (by kernel_rfl) (by simp) ?_
    refine AllReadyH.cons rfl (fun K hK => ?_) AllReadyH.nil
    go_simp
    refine (HC2.out _).mono ?_
    rintro r wi ⟨rfl, hb⟩
    have YT := Lib.hid (keyKeep held2.2.2.out hb)
    refine hK.out _ _ ⟨YT.out.1.kb.cell 0, YT.out.1.kb.cell 1, YT⟩ (fun held5 => ?_)
    clear hK K YT held2 hb
    try simp only [Act.put, List.setIfInBounds_toArray, List.set_cons_zero, List.set_cons_succ]
    refine wpAnyH_ready (rs := [7]) (by kernel_rfl) (by simp) ?_
    refine AllReadyH.cons rfl (fun K hK => ?_) AllReadyH.nil
    have YS := held5.2.2.out
    have cS := YS.1.kb.cell 0
    have fS := YS.1.kb.frozen 0
    go_simp
    have YT := Lib.hid (keyStored YS (fun j hj => (HO.out j hj).2) 0 (.string ks) rfl)
    refine hK.out _ _ ⟨YT.out.1.kb.cell 0, YT.out.1.kb.cell 1, YT⟩ (fun held7 => ?_)
    clear hK K YS cS fS YT held5
    try simp only [Act.put, List.setIfInBounds_toArray, List.set_cons_zero, List.set_cons_succ]
    refine takeH_yes (i := 8) (d := some 27) (v := ?v28) rfl rfl (by kernel_rfl) (by kernel_rfl) (by kernel_rfl) (fun _ _ _ h => h) (by rfl) ?y28 (by assumption) ?_
    case y28 => (intro w hSw; (try dsimp only at hSw); go_simp <;> with_reducible rfl)
    simp only [Act.put, List.setIfInBounds_toArray, List.set_cons_zero, List.set_cons_succ]
    refine wpAnyH_ready (rs := [9]) (by kernel_rfl) (by simp) ?_
    refine AllReadyH.cons rfl (fun K hK => ?_) AllReadyH.nil
    have YS := held7.2.2.out
    have cS := YS.1.kb.cell 1
    have fS := YS.1.kb.frozen 1
    go_simp
    have YT := Lib.hid (keyStored YS (fun j hj => (HO.out j hj).2) 1 (.string kd) rfl)
    refine hK.out _ _ ⟨YT.out.1.kb.cell 0, YT.out.1.kb.cell 1, YT⟩ (fun held9 => ?_)
    clear hK K YS cS fS YT held7
    try simp only [Act.put, List.setIfInBounds_toArray, List.set_cons_zero, List.set_cons_succ]
    refine wpAnyH_done (by kernel_rfl) ?_ _
    have Y3 := Lib.hid held9.2.2.out
    clear held9
    generalize ((wi.setCell ⟨w.heap.size, 0, none⟩ (.string ks)).setCell ⟨w.heap.size, 1, none⟩ (.string kd)) = w6 at *
    go_upto_region 5 with (fail)
    have Y4 := Lib.hid (keyKeep Y3.out (Below.refl _ _).drew)
    clear Y3
    refine wp_region_held_drew (S := fun W => W.cell? ⟨w.heap.size, 0, none⟩ = some (.string ks) ∧ W.cell? ⟨w.heap.size, 1, none⟩ = some (.string kd) ∧ W.cell? ⟨w.heap.size, 2, none⟩ = some (.int .i64 kp) ∧ W.cell? ⟨w.heap.size, 3, none⟩ = some (.int .i64 ki) ∧ W.cell? ⟨tb, 3, none⟩ = some (.map (some mb))) (by kernel_rfl) ?_ (fun hHeld => ?_)
    · exact ⟨Y4.out.1.kb.cell 0, Y4.out.1.kb.cell 1, Y4.out.1.kb.cell 2, Y4.out.1.kb.cell 3, Y4.out.1.tb.tbl.cell 3⟩
    generalize w6.drew = w7 at *
    refine takeH_yes (i := 0) (d := some 28) (v := ?v29) rfl rfl (by kernel_rfl) (by kernel_rfl) (by kernel_rfl) (fun _ _ _ h => h) (by rfl) ?y29 (by assumption) ?_
    case y29 => (intro w hSw; (try dsimp only at hSw); go_simp <;> with_reducible rfl)
    simp only [Act.put, List.setIfInBounds_toArray, List.set_cons_zero, List.set_cons_succ]
    refine takeH_yes (i := 1) (d := some 29) (v := ?v30) rfl rfl (by kernel_rfl) (by kernel_rfl) (by kernel_rfl) (fun _ _ _ h => h) (by rfl) ?y30 (by assumption) ?_
    case y30 => (intro w hSw; (try dsimp only at hSw); go_simp <;> with_reducible rfl)
    simp only [Act.put, List.setIfInBounds_toArray, List.set_cons_zero, List.set_cons_succ]
    refine takeH_yes (i := 2) (d := some 30) (v := ?v31) rfl rfl (by kernel_rfl) (by kernel_rfl) (by kernel_rfl) (fun _ _ _ h => h) (by rfl) ?y31 (by assumption) ?_
    case y31 => (intro w hSw; (try dsimp only at hSw); go_simp <;> with_reducible rfl)
    simp only [Act.put, List.setIfInBounds_toArray, List.set_cons_zero, List.set_cons_succ]
    refine takeH_yes (i := 3) (d := some 31) (v := ?v32) rfl rfl (by kernel_rfl) (by kernel_rfl) (by kernel_rfl) (fun _ _ _ h => h) (by rfl) ?y32 (by assumption) ?_
    case y32 => (intro w hSw; (try dsimp only at hSw); go_simp <;> with_reducible rfl)
    simp only [Act.put, List.setIfInBounds_toArray, List.set_cons_zero, List.set_cons_succ]
    refine takeH_yes (i := 4) (d := some 32) (v := ?v33) rfl rfl (by kernel_rfl) (by kernel_rfl) (by kernel_rfl) (fun _ _ _ h => h) (by rfl) ?y33 (by assumption) ?_
    case y33 => (intro w hSw; (try dsimp only at hSw); go_simp <;> with_reducible rfl)
    simp only [Act.put, List.setIfInBounds_toArray, List.set_cons_zero, List.set_cons_succ]
    refine takeH_yes (i := 5) (d := some 33) (v := ?v34) rfl rfl (by kernel_rfl) (by kernel_rfl) (by kernel_rfl) (fun _ _ _ h => h) (by rfl) ?y34 (by assumption) ?_
    case y34 => (intro w hSw; (try dsimp only at hSw); go_simp <;> with_reducible rfl)
    simp only [Act.put, List.setIfInBounds_toArray, List.set_cons_zero, List.set_cons_succ]
    refine wpAnyH_ready (rs := [6]) (by kernel_rfl) (by simp) ?_
    refine AllReadyH.cons rfl (fun K hK => ?_) AllReadyH.nil
    have hsk : seek16 (ms.map M16.me) ⟨ks, kd, kp, ki⟩ = (ms.map M16.me).length := by rw [seek_find, hf, List.length_map]
    have hq := run_lay_key Y4.out.1.tb.map ⟨ks, kd, kp, ki⟩ M hsk
    have kb9 := setMap_kb w7 mb (.map ((ms.map M16.me ++ [(⟨⟨ks, kd, kp, ki⟩, M, clock⟩ : Me16)]).map Me16.entry).toArray (clock + 1))
    have hm9 : Map16 (setMap w7 mb (.map ((ms.map M16.me ++ [(⟨⟨ks, kd, kp, ki⟩, M, clock⟩ : Me16)]).map Me16.entry).toArray (clock + 1))) mb (ms.map M16.me ++ [⟨⟨ks, kd, kp, ki⟩, M, clock⟩]) (clock + 1) := setMap_at Y4.out.1.tb.map _
    generalize setMap w7 mb (.map ((ms.map M16.me ++ [(⟨⟨ks, kd, kp, ki⟩, M, clock⟩ : Me16)]).map Me16.entry).toArray (clock + 1)) = w9 at *
    unfold K16.val at hq
    dsimp only at hq
    go_simp
    have nes := Y4.out.1.tb.ne
    have hol := (HO.out _ Y4.out.1.tb.om).2
    have kK := Y4.out.1.kb.kb kb9 (by omega)
    have kT := Y4.out.1.tb.tbl.kb kb9 nes.1
    have hgtM : w.heap.size < M := Y4.out.2.1
    have hme : Blk w9 M ((E16.new ⟨ks, kd, kp, ki⟩).cells (.slice none 0 0)) 72 := Y4.out.2.2.kb kb9 (by omega)
    have hMl := Y4.out.2.2.lt
    have hT : Tb16 (fun i => O i ∨ w.heap.size ≤ i) w9 tb mb E B L (ms ++ [⟨E16.new ⟨ks, kd, kp, ki⟩, M, .slice none 0 0, clock⟩]) (clock + 1) := by
      have HT := Y4.out.1.tb
      have lt := HT.lt
      have hap : ∀ m ∈ ms, ∀ i, m.own i → i ≠ M := fun m hm i hi e => by have := (HO.out _ (HT.oe m hm i hi)).2; omega
      exact HT.pushAt kb9 (fun i e => e) hm9 ⟨hme, Row16.nil _⟩ hap hf (HRM.out hf) (fun i hi => Or.inl (HO.out i hi).1) (Or.inr (by omega))
    have HT9 := Lib.hid hT
    have HK9 := Lib.hid (show Kb O w w9 from (kb_of_below Y4.out.1.bel).trans (kb9.mono (fun i _ e => by subst e; exact (HO.out _ Y4.out.1.tb.om).1)))
    refine hK.out _ _ ⟨kK.cell 0, kK.cell 1, kK.cell 2, kK.cell 3, kT.cell 3⟩ (fun held6 => ?_)
    clear hK K hq kb9 hm9 kK kT hme hT held6 hHeld
    try simp only [Act.put, List.setIfInBounds_toArray, List.set_cons_zero, List.set_cons_succ]
    refine wpAnyH_done (by kernel_rfl) ?_ _
    go_wp2_with fail
    go_ret
    unfold EntryEnd16
    refine ⟨ms, [], ⟨E16.new ⟨ks, kd, kp, ki⟩, M, .slice none 0 0, clock⟩, clock + 1, rfl, HT9.out, ho.symm, hf.symm, ?_, ?_, HK9.out⟩
    · rw [List.take_of_length_le (by simp)]
    · rw [List.drop_of_length_le (by simp)]
      rfl

end Go.Proofs.Ytoijomdgcgbpbaa

/-
  Add: a piece.
-/
namespace Go.Proofs.Ytoijomdgcgbpbaa
open Go.RowKit
set_option linter.unusedVariables false

/-- What Add leaves. -/
def AddEnd16 (O : Nat → Prop) (w : World) (tb mb E B L : Nat) (ms : List M16) (p : ByteArray) (r : Ending) (w' : World) : Prop :=
  ∃ (ms' : List M16) (clock' : Nat), r = .returned (.tuple #[.string (add16 E B (ms.map (·.e)) p).1.1, .int .i64 ((add16 E B (ms.map (·.e)) p).1.2 : Nat)]) ∧
    Tb16 (fun i => O i ∨ w.heap.size ≤ i) w' tb mb E B L ms' clock' ∧ ms'.map (·.e) = (add16 E B (ms.map (·.e)) p).2 ∧ Kb O w w'

/-- The header, the piece and the key in their blocks; the table. -/
structure Ad16 (O : Nat → Prop) (w W : World) (M : Nat) (h : H4) (x : P16) (tb mb E B L : Nat) (ms : List M16) (clock : Nat) : Prop where
  hb : Blk W M h.cells 43
  xb : Blk W (M + 1) #[.int .i64 (x.lo : Nat), .string x.s, .bool x.last] 79
  kb : Blk W (M + 2) #[.string h.src, .string h.dst, .int .i64 h.proto, .int .i64 h.id] 68
  tb : Tb16 O W tb mb E B L ms clock
  bel : Below w.heap.size w W
  lt : w.heap.size ≤ M
theorem Ad16.below {O : Nat → Prop} {w W W' : World} {M : Nat} {h : H4} {x : P16} {tb mb E B L clock : Nat} {ms : List M16} (a : Ad16 O w W M h x tb mb E B L ms clock) (hb : Below W.heap.size W W') : Ad16 O w W' M h x tb mb E B L ms clock :=
  ⟨(hb.block _ a.hb.lt).trans a.hb, (hb.block _ a.xb.lt).trans a.xb, (hb.block _ a.kb.lt).trans a.kb, a.tb.below hb, a.bel.trans (hb.mono a.bel.size), a.lt⟩

/-- The table behind all that Add does. -/
theorem addDone16 {O O1 : Nat → Prop} {w w6 w7 W' : World} {tb mb E B L clock' : Nat} {a b : List M16} {m : M16} {e' : E16} {v' : Value} (HO : ∀ i, O1 i → O i ∧ i < w.heap.size) (h6 : Below w.heap.size w w6)
    (hT : Tb16 (fun i => O1 i ∨ w6.heap.size ≤ i) w7 tb mb E B L (a ++ m :: b) clock') (h7 : Kb O1 w6 w7) (hk : Kb (fun k => k = m.eb ∨ m.v.ownBlock = some k) w7 W') (he : En16 W' e' m.eb v') (ho : ∀ g, v'.ownBlock = some g → m.v.ownBlock = some g ∨ w7.heap.size ≤ g)
    (hke : e'.k = m.e.k) (ht : Tab16 E B L (a.map (·.e) ++ e' :: b.map (·.e))) :
    Tb16 (fun i => O i ∨ w.heap.size ≤ i) W' tb mb E B L (a ++ ⟨e', m.eb, v', m.born⟩ :: b) clock' ∧ Kb O w W' := by
  have hmm : m ∈ a ++ m :: b := by simp
  have z6 := h6.size
  have z7 := h7.size
  refine ⟨hT.set (m' := ⟨e', m.eb, v', m.born⟩) hk (fun i hi => hi) hke rfl rfl he (fun i hi => ?_) (by simpa using ht) (fun i hi => ?_) (fun i hi _ => Or.inr (by omega)), ?_⟩
  · rcases hi with hi | hi
    · exact Or.inl (Or.inl hi)
    · rcases ho i hi with h | h
      · exact Or.inl (Or.inr h)
      · exact Or.inr h
  · rcases hi with hi | hi
    · exact Or.inl (HO i hi).1
    · exact Or.inr (by omega)
  · have k1 : Kb (fun i => O i ∨ w.heap.size ≤ i) w w6 := kb_of_below h6
    have k2 : Kb (fun i => O i ∨ w.heap.size ≤ i) w6 w7 := h7.mono (fun i _ hi => Or.inl (HO i hi).1)
    have k3 : Kb (fun i => O i ∨ w.heap.size ≤ i) w7 W' := hk.mono (fun i _ hi => by
      rcases hT.oe m hmm i hi with h | h
      · exact Or.inl (HO i h).1
      · exact Or.inr (by omega))
    refine ((k1.trans k2).trans k3).mono (fun i hi h => ?_)
    rcases h with h | h
    · exact h
    · omega

set_option maxRecDepth 100000 in
set_option maxHeartbeats 1000000 in
theorem add16_any {O : Nat → Prop} {tb mb E B L clock : Nat} {ms : List M16} (p : ByteArray) (hp : p.size ≤ 1000000) (w : World) (h : Tb16 O w tb mb E B L ms clock) :
    Calls Try.prog 15 #[.pointer (some ⟨tb, 0, none⟩), .string p] w (AddEnd16 O w tb mb E B L ms p) := by
  obtain ⟨O1, hO1⟩ : ∃ O1 : Nat → Prop, O1 = fun i => O i ∧ i < w.heap.size := ⟨_, rfl⟩
  have hcut := h.cut
  rw [← hO1] at hcut
  have HO : Hid (∀ i, O1 i → O i ∧ i < w.heap.size) := by rw [hO1]; exact fun i hi => hi
  have HG := Lib.hid (fun W => get_any p W hp)
  unfold GetEnd at HG
  have HC := Lib.hid hcut
  have HT := Lib.hid h
  have HGOT := Lib.hid (fun e => got15 (p := p) e)
  clear h hcut hO1
  go_enter Try.func15, Try.ntmps15
  go_wp2_with fail
  refine (HG.out _).mono ?_
  rintro r w1 ⟨rfl, hb1⟩
  have B1 := Lib.hid hb1
  clear hb1
  by_cases hge : getE p = 0
  · have t1 : decide ((getE p : Int) ≠ 0) = false := by rw [hge]; rfl
    have ⟨hok, hsz1, hsz2, hsz3, hsz4, hsz5⟩ := HGOT.out hge
    have hoff := hok.off
    have ew : IntKind.i64.wrap (8 * (getH p).off) = ((piece16 (getH p) (getS p)).lo : Nat) := by
      rw [IntWalk.i64_in _ (by omega)]
      unfold piece16
      dsimp only
      omega
    have hx : (piece16 (getH p) (getS p)).Small := ⟨by unfold piece16; dsimp only; omega, by unfold piece16; dsimp only; omega⟩
    have HA := Lib.hid (show add16 E B (ms.map (·.e)) p = if no16 E B (ms.map (·.e)) (getH p).key (piece16 (getH p) (getS p)) ≠ 0 then ((⟨#[]⟩, no16 E B (ms.map (·.e)) (getH p).key (piece16 (getH p) (getS p))), ms.map (·.e)) else made16 (ms.map (·.e)) (getH p) (piece16 (getH p) (getS p)) from by unfold add16; rw [if_neg (fun e => e hge)])
    have hsx : (piece16 (getH p) (getS p)).s = getS p := rfl
    have hsl : (piece16 (getH p) (getS p)).last = !(getH p).mf := rfl
    have HYT := Lib.hid (fun (y : Yes16 E B (ms.map (·.e)) (getH p).key (piece16 (getH p) (getS p))) (hw : whole16 (ins16 (piece16 (getH p) (getS p)) (old16 (ms.map (·.e)) (getH p).key).qs) = false) => y.tab HC.out.tab hok hw)
    have HYO := Lib.hid (fun (y : Yes16 E B (ms.map (·.e)) (getH p).key (piece16 (getH p) (getS p))) => y.tabOver HC.out.tab)
    have e0 := Blk.new w1 (getH p).cells 43
    have c0 := Hc.of e0
    obtain ⟨c0, c1, c2, c3, c4, c5, c6, c7, c8, c9⟩ := c0
    have e00 := (Below.refl w1.heap.size w1).alloc (Nat.le_refl _) (.cells (getH p).cells 43)
    have E0 := Lib.hid e0
    have E00 := Lib.hid (B1.out.alloc B1.out.size (.cells (getH p).cells 43))
    have E000 := Lib.hid (show (w1.alloc (.cells (getH p).cells 43)).heap.size = w1.heap.size + 1 by simp)
    have ELT : Hid (w.heap.size ≤ w1.heap.size) := B1.out.size
    clear e0 e00 hsz1 hsz2 hsz4 hsz5
    generalize getH p = h at *
    generalize piece16 h (getS p) = x at *
    obtain ⟨w2, hw2⟩ : ∃ w2, w2 = w1.alloc (.cells h.cells 43) := ⟨_, rfl⟩
    rw [← hw2] at c0 c1 c2 c3 c4 c5 c6 c7 c8 c9 E0 E00 E000
    unfold H4.cells at hw2 ⊢
    go_upto_region 4 with (fail)
    simp only [← hw2]
    go_upto_region 5 with (fail)
    go_upto_region 6 with (fail)
    have A0 : Hid (Ad16 O1 w (((w1.alloc (.cells #[.int .i64 h.tos, .int .i64 h.id, .int .i64 h.off, .int .i64 h.ttl, .int .i64 h.proto, .bool h.df, .bool h.mf, .string h.src, .string h.dst, .string h.opt] 43)).alloc (.cells #[.int .i64 (x.lo : Nat), .string (getS p), .bool (!h.mf)] 79)).alloc (.cells #[.string h.src, .string h.dst, .int .i64 h.proto, .int .i64 h.id] 68)) w1.heap.size h x tb mb E B L ms clock) := by
      have bel := ((B1.out.alloc B1.out.size (.cells #[.int .i64 h.tos, .int .i64 h.id, .int .i64 h.off, .int .i64 h.ttl, .int .i64 h.proto, .bool h.df, .bool h.mf, .string h.src, .string h.dst, .string h.opt] 43)).alloc (by have := B1.out.size; simp; omega) (.cells #[.int .i64 (x.lo : Nat), .string (getS p), .bool (!h.mf)] 79)).alloc (by have := B1.out.size; simp; omega) (.cells #[.string h.src, .string h.dst, .int .i64 h.proto, .int .i64 h.id] 68)
      refine ⟨((Blk.new w1 _ _).alloc _).alloc _, ?_, ?_, HC.out.below bel, bel, ELT.out⟩
      · have q := (Blk.new (w1.alloc (.cells #[.int .i64 h.tos, .int .i64 h.id, .int .i64 h.off, .int .i64 h.ttl, .int .i64 h.proto, .bool h.df, .bool h.mf, .string h.src, .string h.dst, .string h.opt] 43)) #[.int .i64 (x.lo : Nat), .string (getS p), .bool (!h.mf)] 79).alloc (.cells #[.string h.src, .string h.dst, .int .i64 h.proto, .int .i64 h.id] 68)
        simp only [World.size_alloc] at q
        rw [hsx, hsl]
        exact q
      · have q := Blk.new ((w1.alloc (.cells #[.int .i64 h.tos, .int .i64 h.id, .int .i64 h.off, .int .i64 h.ttl, .int .i64 h.proto, .bool h.df, .bool h.mf, .string h.src, .string h.dst, .string h.opt] 43)).alloc (.cells #[.int .i64 (x.lo : Nat), .string (getS p), .bool (!h.mf)] 79)) #[.string h.src, .string h.dst, .int .i64 h.proto, .int .i64 h.id] 68
        simp only [World.size_alloc] at q
        exact q
    have HSX := Lib.hid (show x.s.size ≤ 65535 from hx.s)
    clear c0 c1 c2 c3 c4 c5 c6 c7 c8 c9 hw2 E0 E00 E000 B1 hsx hsl
    generalize ((w1.alloc (.cells #[.int .i64 h.tos, .int .i64 h.id, .int .i64 h.off, .int .i64 h.ttl, .int .i64 h.proto, .bool h.df, .bool h.mf, .string h.src, .string h.dst, .string h.opt] 43)).alloc (.cells #[.int .i64 (x.lo : Nat), .string (getS p), .bool (!h.mf)] 79)).alloc (.cells #[.string h.src, .string h.dst, .int .i64 h.proto, .int .i64 h.id] 68) = w5 at *
    have x0 := A0.out.xb.cell 0
    have x1 := A0.out.xb.cell 1
    have x2 := A0.out.xb.cell 2
    have k0 := A0.out.kb.cell 0
    have k1 := A0.out.kb.cell 1
    have k2 := A0.out.kb.cell 2
    have k3 := A0.out.kb.cell 3
    simp only [List.getElem?_toArray, List.getElem?_cons_zero, List.getElem?_cons_succ] at x0 x1 x2 k0 k1 k2 k3
    have HR := Lib.hid (refuse16_any h.key x hx w5 A0.out.tb)
    have hkv : h.key.val = .agg #[.string h.src, .string h.dst, .int .i64 h.proto, .int .i64 h.id] := rfl
    rw [hkv] at HR
    unfold Tells P16.val at HR
    have HY := Lib.hid (fun h0 => yes16 (k := h.key) (x := x) A0.out.tb.tab h0)
    have HMADE := Lib.hid (show made16 (ms.map (·.e)) h x = made16 (ms.map (·.e)) h x from rfl)
    generalize M0 : w1.heap.size = M at *
    go_wp2_with fail
    refine HR.out.mono ?_
    rintro r w6 ⟨rfl, hb6⟩
    have A1 := Lib.hid (A0.out.below hb6)
    clear x0 x1 x2 k0 k1 k2 k3 hb6 HR A0
    by_cases hno : no16 E B (ms.map (·.e)) h.key x = 0
    · have t2 : decide ((no16 E B (ms.map (·.e)) h.key x : Int) ≠ 0) = false := by rw [hno]; rfl
      rw [if_neg (fun e => e hno)] at HA
      have HYES := Lib.hid (HY.out hno)
      have HG16 := Lib.hid (old16_ent A1.out.tb.tab h.key).good
      have hos : h.src.size ≤ 65535 ∧ h.dst.size ≤ 65535 ∧ h.opt.size ≤ 65535 := by
        have := hok.src; have := hok.dst; have := hok.opt
        omega
      have HOS := Lib.hid hos
      have HEN := Lib.hid (entry16_any h.key ⟨hos.1, hos.2.1⟩ w6 A1.out.tb (fun e => by have := HYES.out.room (by rw [e]; simp); simpa using this))
      rw [hkv] at HEN
      have k0 := A1.out.kb.cell 0
      have k1 := A1.out.kb.cell 1
      have k2 := A1.out.kb.cell 2
      have k3 := A1.out.kb.cell 3
      simp only [List.getElem?_toArray, List.getElem?_cons_zero, List.getElem?_cons_succ] at k0 k1 k2 k3
      clear HY hos hok hoff ew hx hkv
      generalize HR : no16 E B (ms.map (·.e)) h.key x = R at *
      go_wp2_with fail
      refine HEN.out.mono ?_
      rintro r w7 ⟨a, b, m, clock7, rfl, hT7, hme, hal, ha, hb, hk7⟩
      have hmm : m ∈ a ++ m :: b := by simp
      have hnO : ∀ i, w.heap.size ≤ i → ¬ O1 i := fun i hi ho => by have := (HO.out i ho).2; omega
      have hM := A1.out.lt
      have h7 := A1.out.hb.kb hk7 (hnO _ hM)
      have x7 := A1.out.xb.kb hk7 (hnO _ (by omega))
      have ⟨c0, c1, c2, c3, c4, c5, c6, c7, c8, c9⟩ := Hc.of h7
      have x0 := x7.cell 0
      have x1 := x7.cell 1
      have x2 := x7.cell 2
      simp only [List.getElem?_toArray, List.getElem?_cons_zero, List.getElem?_cons_succ] at x0 x1 x2
      have HEQ : Hid (m.e = old16 (ms.map (·.e)) h.key ∧ a.length = find16 (ms.map (·.e)) h.key ∧ a.map (·.e) = (ms.map (·.e)).take a.length ∧ b.map (·.e) = (ms.map (·.e)).drop (a.length + 1)) := ⟨hme, hal, ha, hb⟩
      have hten : Few16 (m.e.put h x).qs := by
        have := HYES.out.few A1.out.tb.tab
        rw [← hme] at this
        exact this
      have hne : (m.e.put h x).qs ≠ [] := fun e => by
        have l : (m.e.put h x).qs.length = m.e.qs.length + 1 := ins16_length _ _
        rw [e] at l
        cases l
      have HTEN := Lib.hid hten
      have HNE := Lib.hid hne
      have HP := Lib.hid (put16_any h x m.e m.eb m.v w7 (hT7.ents m hmm) (hme ▸ HG16.out) HSX.out HOS.out)
      unfold P16.val H4.cells at HP
      have HT7 := Lib.hid hT7
      have HK7 := Lib.hid hk7
      clear k0 k1 k2 k3 hT7 hk7 hme hal ha hb h7 x7 hnO hM hten hne HEN HG16 hmm
      go_wp2_with fail
      refine HP.out.mono ?_
      rintro r w8 ⟨v', rfl, hen8, hkb8, hov8⟩
      have HW := Lib.hid (whole16_any (m.e.put h x) m.eb v' w8 hen8 HNE.out HTEN.out)
      have HEN8 := Lib.hid hen8
      have HKB8 := Lib.hid hkb8
      have HOV8 := Lib.hid hov8
      unfold Tells at HW
      clear c0 c1 c2 c3 c4 c5 c6 c7 c8 c9 x0 x1 x2 hen8 hkb8 hov8 HP
      have HAW : Hid (add16 E B (ms.map (·.e)) p = if whole16 (m.e.put h x).qs = true then ((putS (m.e.put h x).hd.whole (cat16 (m.e.put h x).qs), putE (m.e.put h x).hd.whole (cat16 (m.e.put h x).qs)), upd16 (ms.map (·.e)) (find16 (ms.map (·.e)) h.key) (m.e.put h x).over) else ((⟨#[]⟩, 10), upd16 (ms.map (·.e)) (find16 (ms.map (·.e)) h.key) (m.e.put h x))) := by
        rw [HA.out, HEQ.out.1]
        rfl
      have HUP : ∀ e', Hid (a.map (·.e) ++ e' :: b.map (·.e) = upd16 (ms.map (·.e)) (find16 (ms.map (·.e)) h.key) e') := fun e' => by
        have := HEQ.out
        unfold upd16
        rw [this.2.2.1, this.2.2.2, this.2.1]
        rfl
      have HY1 : Hid (whole16 (m.e.put h x).qs = false → Tab16 E B L (upd16 (ms.map (·.e)) (find16 (ms.map (·.e)) h.key) (m.e.put h x))) := fun hw => by
        have e := HEQ.out.1
        rw [e] at hw ⊢
        exact HYT.out HYES.out hw
      have HY2 : Hid (Tab16 E B L (upd16 (ms.map (·.e)) (find16 (ms.map (·.e)) h.key) (m.e.put h x).over)) := by
        have e := HEQ.out.1
        rw [e]
        exact HYO.out HYES.out
      clear HA HMADE HYT HYO
      by_cases hw : whole16 (m.e.put h x).qs = true
      · have HF := Lib.hid (fun W (hh : En16 W (m.e.put h x) m.eb v') => finish16_any (m.e.put h x) m.eb v' W hh HTEN.out)
        rw [hw] at HW
        rw [if_pos hw] at HAW
        clear HY1 hw
        go_wp2_with fail
        refine HW.out.mono ?_
        rintro r w9 ⟨rfl, hb9⟩
        have HEN9 := Lib.hid (HEN8.out.below hb9)
        have HKB9 := Lib.hid (HKB8.out.trans (kb_of_below hb9))
        have HZ9 : Hid (w7.heap.size ≤ w9.heap.size) := Nat.le_trans HKB8.out.size hb9.size
        clear hb9 HW HEN8 HKB8
        go_wp2_with fail
        refine (HF.out w9 HEN9.out).mono ?_
        rintro r w10 ⟨rfl, hen10, hkb10⟩
        have HD := Lib.hid (addDone16 (v' := .slice none 0 0) HO.out A1.out.bel HT7.out HK7.out (HKB9.out.trans (hkb10.mono (fun k _ e => Or.inl e))) hen10 (fun g e => by simp [Value.ownBlock] at e) rfl (by rw [HUP]; exact HY2.out))
        clear hen10 hkb10 HF
        go_wp2_with fail
        go_ret2
        refine ⟨_, clock7, ?_, HD.out.1, ?_, HD.out.2⟩
        · rw [HAW.out]; rfl
        · rw [HAW.out, List.map_append, List.map_cons]
          exact (HUP _).out
      · have hwf : whole16 (m.e.put h x).qs = false := by simpa using hw
        rw [hwf] at HW
        rw [if_neg hw] at HAW
        have HY3 := Lib.hid (HY1.out hwf)
        clear HY1 HY2 hw hwf
        go_wp2_with fail
        refine HW.out.mono ?_
        rintro r w9 ⟨rfl, hb9⟩
        have HD := Lib.hid (addDone16 (v' := v') HO.out A1.out.bel HT7.out HK7.out (HKB8.out.trans (kb_of_below hb9)) (HEN8.out.below hb9) HOV8.out rfl (by rw [HUP]; exact HY3.out))
        clear hb9 HW HEN8 HKB8
        go_wp2_with fail
        go_ret2
        refine ⟨_, clock7, ?_, HD.out.1, ?_, HD.out.2⟩
        · rw [HAW.out]; rfl
        · rw [HAW.out, List.map_append, List.map_cons]
          exact (HUP _).out
    · have t2 : decide ((no16 E B (ms.map (·.e)) h.key x : Int) ≠ 0) = true := decide_eq_true (by omega)
      rw [if_pos hno] at HA
      generalize no16 E B (ms.map (·.e)) h.key x = R at *
      have HE := Lib.hid ((HT.out.below A1.out.bel).mono (O' := fun i => O i ∨ w.heap.size ≤ i) (fun _ => Or.inl))
      have HK := Lib.hid (kb_of_below (O := O) A1.out.bel)
      go_wp2_with fail
      go_ret2
      refine ⟨ms, clock, ?_, HE.out, ?_, HK.out⟩
      · rw [HA.out]; rfl
      · rw [HA.out]
  · have t1 : decide ((getE p : Int) ≠ 0) = true := decide_eq_true (by omega)
    have HA := Lib.hid (show add16 E B (ms.map (·.e)) p = ((⟨#[]⟩, getE p), ms.map (·.e)) from by unfold add16; rw [if_pos hge])
    have HE := Lib.hid ((HT.out.below (B1.out.alloc B1.out.size (.cells (getH p).cells 43))).mono (O' := fun i => O i ∨ w.heap.size ≤ i) (fun _ => Or.inl))
    have HK := Lib.hid (kb_of_below (O := O) (B1.out.alloc B1.out.size (.cells (getH p).cells 43)))
    clear B1
    obtain ⟨w2, hw2⟩ : ∃ w2, w2 = w1.alloc (.cells (getH p).cells 43) := ⟨_, rfl⟩
    rw [← hw2] at HE HK
    generalize getH p = h at *
    unfold H4.cells at hw2 ⊢
    go_wp2_with fail
    go_ret2
    simp only [← hw2]
    refine ⟨ms, clock, ?_, HE.out, ?_, HK.out⟩
    · rw [HA.out]; rfl
    · rw [HA.out]

end Go.Proofs.Ytoijomdgcgbpbaa
