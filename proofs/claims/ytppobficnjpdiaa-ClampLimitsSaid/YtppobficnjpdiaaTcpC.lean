/-
  readSegment: a segment, read by a reader that is stopped.
-/
import Derived.Test.YtppobficnjpdiaaTcpA
import Derived.Test.YtppobficnjpdiaaTcpB
import Derived.Test.YtppobficnjpdiaaReading
import Derived.Test.YtppobficnjpdiaaGround
import Derived.RegionTactic
import Derived.BigRegion
namespace Go.Proofs.Ytppobficnjpdiaa
open Go.RowKit
set_option linter.unusedVariables false

/-- A segment stored into a block, cell by cell. -/
def put7c (v : World) (N : Nat) (h : S7) : World :=
  ((((((((v.setCell ⟨N, 0, none⟩ (.int .i64 h.src)).setCell ⟨N, 1, none⟩ (.int .i64 h.dst)).setCell ⟨N, 2, none⟩ (.int .u32 h.seq)).setCell ⟨N, 3, none⟩ (.int .u32 h.ack)).setCell ⟨N, 4, none⟩ (.int .i64 h.flg)).setCell ⟨N, 5, none⟩ (.int .i64 h.win)).setCell ⟨N, 6, none⟩ (.int .i64 h.urg)).setCell ⟨N, 7, none⟩ (.string h.opt)).setCell ⟨N, 8, none⟩ (.string h.pay)
theorem Blk.seth7 {v : World} {N : Nat} {T : TypeId} {h : S7} (hb : Blk v N h.cells T) (h' : S7) (k : Nat) (x : Value) (hx : h.cells.setIfInBounds k x = h'.cells) : Blk (v.setCell ⟨N, k, none⟩ x) N h'.cells T := by
  rw [← hx]; exact hb.set k x
theorem put7c_blk {v : World} {N : Nat} {g : S7} {T : TypeId} (hb : Blk v N g.cells T) (h : S7) : Blk (put7c v N h) N h.cells T := by
  unfold put7c
  refine Blk.seth7 (h := ⟨h.src, h.dst, h.seq, h.ack, h.flg, h.win, h.urg, h.opt, g.pay⟩) ?_ h 8 _ rfl
  refine Blk.seth7 (h := ⟨h.src, h.dst, h.seq, h.ack, h.flg, h.win, h.urg, g.opt, g.pay⟩) ?_ _ 7 _ rfl
  refine Blk.seth7 (h := ⟨h.src, h.dst, h.seq, h.ack, h.flg, h.win, g.urg, g.opt, g.pay⟩) ?_ _ 6 _ rfl
  refine Blk.seth7 (h := ⟨h.src, h.dst, h.seq, h.ack, h.flg, g.win, g.urg, g.opt, g.pay⟩) ?_ _ 5 _ rfl
  refine Blk.seth7 (h := ⟨h.src, h.dst, h.seq, h.ack, g.flg, g.win, g.urg, g.opt, g.pay⟩) ?_ _ 4 _ rfl
  refine Blk.seth7 (h := ⟨h.src, h.dst, h.seq, g.ack, g.flg, g.win, g.urg, g.opt, g.pay⟩) ?_ _ 3 _ rfl
  refine Blk.seth7 (h := ⟨h.src, h.dst, g.seq, g.ack, g.flg, g.win, g.urg, g.opt, g.pay⟩) ?_ _ 2 _ rfl
  refine Blk.seth7 (h := ⟨h.src, g.dst, g.seq, g.ack, g.flg, g.win, g.urg, g.opt, g.pay⟩) ?_ _ 1 _ rfl
  exact Blk.seth7 (h := g) hb _ 0 _ rfl
theorem put7c_kb {S : Nat → Prop} {u v : World} {N : Nat} (hk : Kb S u v) (hN : N < u.heap.size → S N) (h : S7) : Kb S u (put7c v N h) := by
  unfold put7c
  exact ((((((((hk.setCell (p := ⟨N, 0, none⟩) hN _).setCell (p := ⟨N, 1, none⟩) hN _).setCell (p := ⟨N, 2, none⟩) hN _).setCell (p := ⟨N, 3, none⟩) hN _).setCell (p := ⟨N, 4, none⟩) hN _).setCell (p := ⟨N, 5, none⟩) hN _).setCell (p := ⟨N, 6, none⟩) hN _).setCell (p := ⟨N, 7, none⟩) hN _).setCell (p := ⟨N, 8, none⟩) hN _

/-- While it reads: the reader, the answer's block, the segment's, and what was there. -/
structure Rw7 (u v : World) (R : Nat) (p : ByteArray) (i : Nat) (s : S7) : Prop where
  rd : Rd v R p i
  kb : Kb (· = R) u v
  zb : Blk v u.heap.size S7.zero.cells 49
  sb : Blk v (u.heap.size + 1) s.cells 49
  lt : R < u.heap.size
theorem Rw7.step {u v v' : World} {R : Nat} {p : ByteArray} {i j : Nat} {s : S7} (r : Rw7 u v R p i s) (hr : Rd v' R p j) (hk : Kb (· = R) v v') : Rw7 u v' R p j s :=
  ⟨hr, r.kb.trans hk, r.zb.kb hk (by have := r.lt; omega), r.sb.kb hk (by have := r.lt; omega), r.lt⟩
theorem Rw7.new {u : World} {R : Nat} {p : ByteArray} {i : Nat} (hr : Rd u R p i) : Rw7 u ((u.alloc (.cells S7.zero.cells 49)).alloc (.cells S7.zero.cells 49)) R p i S7.zero := by
  have e2 := Blk.new (u.alloc (.cells S7.zero.cells 49)) S7.zero.cells 49
  rw [World.size_alloc] at e2
  exact ⟨(hr.alloc _).alloc _, ((Kb.refl _ _).alloc _).alloc _, (Blk.new u _ _).alloc _, e2, hr.lt⟩
theorem Rw7.below {u v v' : World} {R : Nat} {p : ByteArray} {i : Nat} {s : S7} (r : Rw7 u v R p i s) (hb : Below v.heap.size v v') : Rw7 u v' R p i s :=
  r.step ((hb.block _ r.rd.lt).trans r.rd) ⟨hb.os, hb.tape, hb.output, hb.size, fun k hk _ => hb.block k hk⟩
theorem Rw7.put {u v : World} {R : Nat} {p : ByteArray} {i : Nat} {s : S7} (r : Rw7 u v R p i s) (s' : S7) (k : Nat) (x : Value) (hx : s.cells.setIfInBounds k x = s'.cells) : Rw7 u (v.setCell ⟨u.heap.size + 1, k, none⟩ x) R p i s' :=
  ⟨r.rd.set_other (by have := r.lt; simp; omega) _, r.kb.setCell (fun h => absurd h (by simp)) _, r.zb.set_other (by simp) _, r.sb.seth7 s' k x hx, r.lt⟩
theorem rw7_u8 {u v : World} {R : Nat} {p : ByteArray} {i : Nat} {s : S7} (r : Rw7 u v R p i s) (hi : i + 1 ≤ p.size) (hs : p.size ≤ 1000000) :
    Calls Try.prog 60 #[.pointer (some ⟨R, 0, none⟩)] v fun e v' => e = .returned (.int .i64 (numOf p i 1)) ∧ Rw7 u v' R p (i + 1) s :=
  (u8_yes R p i v r.rd hi (by unfold maxLen; omega)).mono fun e v' h => ⟨h.1, r.step h.2.1 h.2.2⟩
theorem rw7_u16 {u v : World} {R : Nat} {p : ByteArray} {i : Nat} {s : S7} (r : Rw7 u v R p i s) (hi : i + 2 ≤ p.size) (hs : p.size ≤ 1000000) :
    Calls Try.prog 93 #[.pointer (some ⟨R, 0, none⟩)] v fun e v' => e = .returned (.int .i64 (numOf p i 2)) ∧ Rw7 u v' R p (i + 2) s :=
  (u16_yes R p i v r.rd hi (by unfold maxLen; omega)).mono fun e v' h => ⟨h.1, r.step h.2.1 h.2.2⟩
theorem rw7_u32 {u v : World} {R : Nat} {p : ByteArray} {i : Nat} {s : S7} (r : Rw7 u v R p i s) (hi : i + 4 ≤ p.size) (hs : p.size ≤ 1000000) :
    Calls Try.prog 94 #[.pointer (some ⟨R, 0, none⟩)] v fun e v' => e = .returned (.int .u32 (numOf p i 4)) ∧ Rw7 u v' R p (i + 4) s :=
  (u32_yes R p i v r.rd hi (by unfold maxLen; omega)).mono fun e v' h => ⟨h.1, r.step h.2.1 h.2.2⟩
theorem rw7_take {u v : World} {R : Nat} {p : ByteArray} {i : Nat} {s : S7} (r : Rw7 u v R p i s) (m : Int) (k : Nat) (hm : m = (k : Int)) (hi : i + k ≤ p.size) (hs : p.size ≤ 1000000) :
    Calls Try.prog 95 #[.pointer (some ⟨R, 0, none⟩), .int .i64 m] v fun e v' => e = .returned (.string (p.extract i (i + k))) ∧ Rw7 u v' R p (i + k) s := by
  subst hm
  refine (take_nat R p i k v r.rd hi (by unfold maxLen; omega)).mono ?_
  rintro e v' ⟨rfl, n, rfl⟩
  exact ⟨rfl, r.step ((r.rd.drewN n).set 1 _) (Kb.setCell (S := (· = R)) ((Kb.refl (· = R) v).drewN n) (p := ⟨R, 1, none⟩) (fun _ => rfl) (.int .i64 ((i + k : Nat) : Int)))⟩
theorem rw7_rest {u v : World} {R : Nat} {p : ByteArray} {i : Nat} {s : S7} (r : Rw7 u v R p i s) (hi : i ≤ p.size) (hs : p.size ≤ 1000000) :
    Calls Try.prog 85 #[.pointer (some ⟨R, 0, none⟩)] v fun e v' => e = .returned (.string (p.extract i p.size)) ∧ Rw7 u v' R p p.size s := by
  refine (rest_any R p i v r.rd hi (by unfold maxLen; omega)).mono ?_
  rintro e v' ⟨rfl, n, rfl⟩
  exact ⟨rfl, r.step ((r.rd.drewN n).set 1 _) (Kb.setCell (S := (· = R)) ((Kb.refl (· = R) v).drewN n) (p := ⟨R, 1, none⟩) (fun _ => rfl) (.int .i64 (p.size : Int)))⟩

/-- How it ends. -/
def Seg7End (u : World) (R : Nat) (p : ByteArray) (e : Ending) (u' : World) : Prop :=
  Kb (· = R) u u' ∧ ((get7E p = 0 ∧ e = .returned (.tuple #[.agg (seg7 p).cells, .int .i64 (numOf p 16 2 : Nat)])) ∨ (get7E p ≠ 0 ∧ e = .panicked (stopped (get7E p : Nat))))
theorem Seg7End.stop {u u' : World} {R : Nat} {p : ByteArray} {k : Nat} (hk : Kb (· = R) u u') (he : get7E p = k) (h0 : k ≠ 0) : Seg7End u R p (.panicked (stopped (k : Nat))) u' := by
  subst he; exact ⟨hk, Or.inr ⟨h0, rfl⟩⟩

set_option maxRecDepth 100000 in
set_option maxHeartbeats 4000000 in
theorem readSegment_any (R : Nat) (p : ByteArray) (u : World) (hr : Rd u R p 0) (hs : p.size ≤ 1000000) :
    Calls Try.prog 77 #[.pointer (some ⟨R, 0, none⟩), .int .i64 (p.size : Int)] u (Seg7End u R p) := by
  have R0 := Lib.hid (Rw7.new hr)
  have K0 := Lib.hid (show Kb (· = R) u (u.alloc (.cells S7.zero.cells 49)) from (Kb.refl _ _).alloc _)
  clear hr
  by_cases hp : 20 ≤ p.size
  case neg =>
    have E2 := Lib.hid (get7E_short hp)
    have t0 : decide ((20 : Int) ≤ (p.size : Int)) = false := by simp; omega
    clear hp
    go_enter Try.func77, Try.ntmps77
    go_wp2_with fail
    refine (need_no _ _ _ _ (by simp)).mono ?_
    rintro e w' ⟨rfl, rfl⟩
    exact ⟨rfl, Seg7End.stop (k := 2) K0.out E2.out (by decide)⟩
  have E4 := Lib.hid (get7E_len hp)
  have E9 := Lib.hid (get7E_form hp)
  have E5 := Lib.hid (get7E_opts hp)
  have E0 := Lib.hid (get7E_ok hp)
  have HD : Hid (seg7 p = ⟨numOf p 0 2, numOf p 2 2, numOf p 4 4, numOf p 8 4, numOf p 13 1, numOf p 14 2, numOf p 18 2, p.extract 20 (off7 p), p.extract (off7 p) p.size⟩) := rfl
  have t0 : decide ((20 : Int) ≤ (p.size : Int)) = true := by simp; omega
  clear K0
  go_enter Try.func77, Try.ntmps77
  go_wp2_with fail
  refine (need_yes _ _ _ _ (by simp)).mono ?_
  rintro e w' ⟨rfl, rfl⟩
  clear t0
  go_wp2_with fail
  simp only [show #[Value.int IntKind.i64 0, Value.int IntKind.i64 0, Value.int IntKind.u32 0, Value.int IntKind.u32 0, Value.int IntKind.i64 0, Value.int IntKind.i64 0, Value.int IntKind.i64 0, Value.string { data := #[] }, Value.string { data := #[] }] = S7.zero.cells from rfl]
  generalize (u.alloc (.cells S7.zero.cells 49)).alloc (.cells S7.zero.cells 49) = u0 at *
  have V0 : Hid (Rw7 u u0 R p 0 S7.zero) := R0
  clear R0
  refine (rw7_u16 V0.out (by omega) hs).mono ?_
  rintro e v1 ⟨rfl, r1⟩
  have V1 : Hid (Rw7 u v1 R p 2 ⟨0, 0, 0, 0, 0, 0, 0, ⟨#[]⟩, ⟨#[]⟩⟩) := r1
  clear r1 V0
  have l0 := numOf_lt p 0 2 (by omega)
  generalize numOf p 0 2 = n0 at *
  go_wp2_with fail
  refine (rw7_u16 V1.out (by omega) hs).mono ?_
  rintro e v2 ⟨rfl, r2⟩
  have V2 : Hid (Rw7 u v2 R p 4 ⟨0, 0, 0, 0, 0, 0, 0, ⟨#[]⟩, ⟨#[]⟩⟩) := r2
  clear r2 V1
  have l2 := numOf_lt p 2 2 (by omega)
  generalize numOf p 2 2 = n2 at *
  have ⟨c0, c1, c2, c3, c4, c5, c6, c7, c8⟩ := Hc7.of V2.out.sb
  dsimp only at c0 c1 c2 c3 c4 c5 c6 c7 c8
  have f0 := V2.out.sb.frozen 0
  have f1 := V2.out.sb.frozen 1
  have f2 := V2.out.sb.frozen 2
  have f3 := V2.out.sb.frozen 3
  have f4 := V2.out.sb.frozen 4
  have f5 := V2.out.sb.frozen 5
  have f6 := V2.out.sb.frozen 6
  have f7 := V2.out.sb.frozen 7
  have f8 := V2.out.sb.frozen 8
  go_wp2_with fail
  have V3 := Lib.hid (((V2.out).put ⟨n0, 0, 0, 0, 0, 0, 0, ⟨#[]⟩, ⟨#[]⟩⟩ 0 (.int .i64 (n0 : Int)) rfl).put ⟨n0, n2, 0, 0, 0, 0, 0, ⟨#[]⟩, ⟨#[]⟩⟩ 1 (.int .i64 (n2 : Int)) rfl)
  clear c0 c1 c2 c3 c4 c5 c6 c7 c8 f0 f1 f2 f3 f4 f5 f6 f7 f8 V2
  generalize (v2.setCell ⟨u.heap.size + 1, 0, none⟩ (.int .i64 (n0 : Int))).setCell ⟨u.heap.size + 1, 1, none⟩ (.int .i64 (n2 : Int)) = v3 at *
  refine (rw7_u32 V3.out (by omega) hs).mono ?_
  rintro e v4 ⟨rfl, r4⟩
  have V4 : Hid (Rw7 u v4 R p 8 ⟨n0, n2, 0, 0, 0, 0, 0, ⟨#[]⟩, ⟨#[]⟩⟩) := r4
  clear r4 V3
  have l4 := numOf_lt p 4 4 (by omega)
  generalize numOf p 4 4 = n4 at *
  go_wp2_with fail
  refine (rw7_u32 V4.out (by omega) hs).mono ?_
  rintro e v5 ⟨rfl, r5⟩
  have V5 : Hid (Rw7 u v5 R p 12 ⟨n0, n2, 0, 0, 0, 0, 0, ⟨#[]⟩, ⟨#[]⟩⟩) := r5
  clear r5 V4
  have l8 := numOf_lt p 8 4 (by omega)
  generalize numOf p 8 4 = n8 at *
  have ⟨c0, c1, c2, c3, c4, c5, c6, c7, c8⟩ := Hc7.of V5.out.sb
  dsimp only at c0 c1 c2 c3 c4 c5 c6 c7 c8
  have f0 := V5.out.sb.frozen 0
  have f1 := V5.out.sb.frozen 1
  have f2 := V5.out.sb.frozen 2
  have f3 := V5.out.sb.frozen 3
  have f4 := V5.out.sb.frozen 4
  have f5 := V5.out.sb.frozen 5
  have f6 := V5.out.sb.frozen 6
  have f7 := V5.out.sb.frozen 7
  have f8 := V5.out.sb.frozen 8
  go_wp2_with fail
  have V6 := Lib.hid (((V5.out).put ⟨n0, n2, n4, 0, 0, 0, 0, ⟨#[]⟩, ⟨#[]⟩⟩ 2 (.int .u32 (n4 : Int)) rfl).put ⟨n0, n2, n4, n8, 0, 0, 0, ⟨#[]⟩, ⟨#[]⟩⟩ 3 (.int .u32 (n8 : Int)) rfl)
  clear c0 c1 c2 c3 c4 c5 c6 c7 c8 f0 f1 f2 f3 f4 f5 f6 f7 f8 V5
  generalize (v5.setCell ⟨u.heap.size + 1, 2, none⟩ (.int .u32 (n4 : Int))).setCell ⟨u.heap.size + 1, 3, none⟩ (.int .u32 (n8 : Int)) = v6 at *
  have HOF : Hid (off7 p = numOf p 12 1 / 16 * 4) := rfl
  refine (rw7_u8 V6.out (by omega) hs).mono ?_
  rintro e v7 ⟨rfl, r7⟩
  have V7 : Hid (Rw7 u v7 R p 13 ⟨n0, n2, n4, n8, 0, 0, 0, ⟨#[]⟩, ⟨#[]⟩⟩) := r7
  clear r7 V6
  have l12 := numOf_lt p 12 1 (by omega)
  generalize numOf p 12 1 = m at *
  have l12' : m < 256 := l12
  clear l12
  generalize off7 p = z at *
  by_cases h1 : z < 20
  · have EE := Lib.hid (E4.out (Or.inl h1))
    have t1 : decide ((20 : Int) ≤ 4 * ((m : Int) / 16)) = false := by simp; have := HOF.out; omega
    clear h1
    go_wp2_with fail
    refine (need_no _ _ _ _ (by simp)).mono ?_
    rintro e w' ⟨rfl, rfl⟩
    exact ⟨rfl, Seg7End.stop (k := 4) V7.out.kb EE.out (by decide)⟩
  have t1 : decide ((20 : Int) ≤ 4 * ((m : Int) / 16)) = true := by simp; have := HOF.out; omega
  by_cases h2 : p.size < z
  · have EE := Lib.hid (E4.out (Or.inr h2))
    have t2 : decide (4 * ((m : Int) / 16) ≤ (p.size : Int)) = false := by simp; have := HOF.out; omega
    clear h1 h2
    go_wp2_with fail
    refine (need_no _ _ _ _ (by simp)).mono ?_
    rintro e w' ⟨rfl, rfl⟩
    exact ⟨rfl, Seg7End.stop (k := 4) V7.out.kb EE.out (by decide)⟩
  have t2 : decide (4 * ((m : Int) / 16) ≤ (p.size : Int)) = true := by simp; have := HOF.out; omega
  have h12 : ¬ (z < 20 ∨ p.size < z) := by omega
  have F9 := Lib.hid (E9.out h12)
  have F5 := Lib.hid (E5.out h12)
  have F0 := Lib.hid (E0.out h12)
  have HZ1 := Lib.hid h1
  have HZ2 := Lib.hid h2
  clear E4 E9 E5 E0 h12 h1 h2
  go_wp2_with fail
  refine (need_yes _ _ _ _ (by simp)).mono ?_
  rintro e w' ⟨rfl, rfl⟩
  clear t1 t2
  have ea : bits .and .i64 (m : Int) 15 = (m : Int) % 16 := i64_mask 4 (by decide) m
  go_wp2_with fail
  by_cases h3 : m % 16 = 0
  case neg =>
    refine (need_no _ _ _ _ (by simp; omega)).mono ?_
    rintro e w' ⟨rfl, rfl⟩
    exact ⟨rfl, Seg7End.stop (k := 9) V7.out.kb (F9.out h3) (by decide)⟩
  refine (need_yes _ _ _ _ (by simp; omega)).mono ?_
  rintro e w' ⟨rfl, rfl⟩
  have G5 := Lib.hid (F5.out h3)
  have G0 := Lib.hid (F0.out h3)
  clear F9 F5 F0 h3 ea
  go_wp2_with fail
  refine (rw7_u8 V7.out (by omega) hs).mono ?_
  rintro e v8 ⟨rfl, r8⟩
  have V8 : Hid (Rw7 u v8 R p 14 ⟨n0, n2, n4, n8, 0, 0, 0, ⟨#[]⟩, ⟨#[]⟩⟩) := r8
  clear r8 V7
  have l13 := numOf_lt p 13 1 (by omega)
  generalize numOf p 13 1 = n13 at *
  go_wp2_with fail
  refine (rw7_u16 V8.out (by omega) hs).mono ?_
  rintro e v9 ⟨rfl, r9⟩
  have V9 : Hid (Rw7 u v9 R p 16 ⟨n0, n2, n4, n8, 0, 0, 0, ⟨#[]⟩, ⟨#[]⟩⟩) := r9
  clear r9 V8
  have l14 := numOf_lt p 14 2 (by omega)
  generalize numOf p 14 2 = n14 at *
  have ⟨c0, c1, c2, c3, c4, c5, c6, c7, c8⟩ := Hc7.of V9.out.sb
  dsimp only at c0 c1 c2 c3 c4 c5 c6 c7 c8
  have f0 := V9.out.sb.frozen 0
  have f1 := V9.out.sb.frozen 1
  have f2 := V9.out.sb.frozen 2
  have f3 := V9.out.sb.frozen 3
  have f4 := V9.out.sb.frozen 4
  have f5 := V9.out.sb.frozen 5
  have f6 := V9.out.sb.frozen 6
  have f7 := V9.out.sb.frozen 7
  have f8 := V9.out.sb.frozen 8
  go_wp2_with fail
  have V10 := Lib.hid (((V9.out).put ⟨n0, n2, n4, n8, n13, 0, 0, ⟨#[]⟩, ⟨#[]⟩⟩ 4 (.int .i64 (n13 : Int)) rfl).put ⟨n0, n2, n4, n8, n13, n14, 0, ⟨#[]⟩, ⟨#[]⟩⟩ 5 (.int .i64 (n14 : Int)) rfl)
  clear c0 c1 c2 c3 c4 c5 c6 c7 c8 f0 f1 f2 f3 f4 f5 f6 f7 f8 V9
  generalize (v9.setCell ⟨u.heap.size + 1, 4, none⟩ (.int .i64 (n13 : Int))).setCell ⟨u.heap.size + 1, 5, none⟩ (.int .i64 (n14 : Int)) = v10 at *
  refine (rw7_u16 V10.out (by omega) hs).mono ?_
  rintro e v11 ⟨rfl, r11⟩
  have V11 : Hid (Rw7 u v11 R p 18 ⟨n0, n2, n4, n8, n13, n14, 0, ⟨#[]⟩, ⟨#[]⟩⟩) := r11
  clear r11 V10
  have l16 := numOf_lt p 16 2 (by omega)
  generalize h16 : numOf p 16 2 = n16 at *
  have HN16 := Lib.hid h16
  clear h16
  go_wp2_with fail
  refine (rw7_u16 V11.out (by omega) hs).mono ?_
  rintro e v12 ⟨rfl, r12⟩
  have V12 : Hid (Rw7 u v12 R p 20 ⟨n0, n2, n4, n8, n13, n14, 0, ⟨#[]⟩, ⟨#[]⟩⟩) := r12
  clear r12 V11
  have l18 := numOf_lt p 18 2 (by omega)
  generalize numOf p 18 2 = n18 at *
  have ⟨c0, c1, c2, c3, c4, c5, c6, c7, c8⟩ := Hc7.of V12.out.sb
  dsimp only at c0 c1 c2 c3 c4 c5 c6 c7 c8
  have f0 := V12.out.sb.frozen 0
  have f1 := V12.out.sb.frozen 1
  have f2 := V12.out.sb.frozen 2
  have f3 := V12.out.sb.frozen 3
  have f4 := V12.out.sb.frozen 4
  have f5 := V12.out.sb.frozen 5
  have f6 := V12.out.sb.frozen 6
  have f7 := V12.out.sb.frozen 7
  have f8 := V12.out.sb.frozen 8
  go_wp2_with fail
  have V13 := Lib.hid ((V12.out).put ⟨n0, n2, n4, n8, n13, n14, n18, ⟨#[]⟩, ⟨#[]⟩⟩ 6 (.int .i64 (n18 : Int)) rfl)
  clear c0 c1 c2 c3 c4 c5 c6 c7 c8 f0 f1 f2 f3 f4 f5 f6 f7 f8 V12
  generalize v12.setCell ⟨u.heap.size + 1, 6, none⟩ (.int .i64 (n18 : Int)) = v13 at *
  refine (rw7_take V13.out _ (z - 20) (by have := HOF.out; have := HZ1.out; omega) (by have := HZ1.out; have := HZ2.out; omega) hs).mono ?_
  rw [show 20 + (z - 20) = z by have := HZ1.out; omega]
  rintro e v14 ⟨rfl, r14⟩
  have V14 : Hid (Rw7 u v14 R p z ⟨n0, n2, n4, n8, n13, n14, n18, ⟨#[]⟩, ⟨#[]⟩⟩) := r14
  clear r14 V13
  have hosz : (p.extract 20 z).size ≤ p.size := by rw [ByteArray.size_extract]; omega
  generalize p.extract 20 z = O at *
  have ⟨c0, c1, c2, c3, c4, c5, c6, c7, c8⟩ := Hc7.of V14.out.sb
  dsimp only at c0 c1 c2 c3 c4 c5 c6 c7 c8
  have f0 := V14.out.sb.frozen 0
  have f1 := V14.out.sb.frozen 1
  have f2 := V14.out.sb.frozen 2
  have f3 := V14.out.sb.frozen 3
  have f4 := V14.out.sb.frozen 4
  have f5 := V14.out.sb.frozen 5
  have f6 := V14.out.sb.frozen 6
  have f7 := V14.out.sb.frozen 7
  have f8 := V14.out.sb.frozen 8
  go_wp2_with fail
  have V15 := Lib.hid ((V14.out).put ⟨n0, n2, n4, n8, n13, n14, n18, O, ⟨#[]⟩⟩ 7 (.string O) rfl)
  clear c0 c1 c2 c3 c4 c5 c6 c7 c8 f0 f1 f2 f3 f4 f5 f6 f7 f8 V14
  generalize v14.setCell ⟨u.heap.size + 1, 7, none⟩ (.string O) = v15 at *
  refine (right_call O _ (by unfold maxLen; omega)).mono ?_
  rintro e v16 ⟨rfl, hb⟩
  have V16 := Lib.hid (V15.out.below hb)
  clear hb V15
  cases hro : rightL O.data.toList with
  | false =>
    have EE := Lib.hid (G5.out hro)
    clear hro
    go_wp2_with fail
    refine (need_no _ _ _ _ (by simp)).mono ?_
    rintro e w' ⟨rfl, rfl⟩
    exact ⟨rfl, Seg7End.stop (k := 4) V16.out.kb EE.out (by decide)⟩
  | true =>
  have EE := Lib.hid (G0.out hro)
  clear hro G5 G0
  go_wp2_with fail
  refine (need_yes _ _ _ _ (by simp)).mono ?_
  rintro e w' ⟨rfl, rfl⟩
  go_wp2_with fail
  refine (rw7_rest V16.out (by have := HZ2.out; omega) hs).mono ?_
  rintro e v17 ⟨rfl, r17⟩
  have V17 := Lib.hid r17
  clear r17 V16
  generalize p.extract z p.size = Y at *
  have ⟨c0, c1, c2, c3, c4, c5, c6, c7, c8⟩ := Hc7.of V17.out.sb
  dsimp only at c0 c1 c2 c3 c4 c5 c6 c7 c8
  have f0 := V17.out.sb.frozen 0
  have f1 := V17.out.sb.frozen 1
  have f2 := V17.out.sb.frozen 2
  have f3 := V17.out.sb.frozen 3
  have f4 := V17.out.sb.frozen 4
  have f5 := V17.out.sb.frozen 5
  have f6 := V17.out.sb.frozen 6
  have f7 := V17.out.sb.frozen 7
  have f8 := V17.out.sb.frozen 8
  have ⟨z0, z1, z2, z3, z4, z5, z6, z7, z8⟩ := Hc7.of V17.out.zb
  simp only [S7.zero] at z0 z1 z2 z3 z4 z5 z6 z7 z8
  have g0 := V17.out.zb.frozen 0
  have g1 := V17.out.zb.frozen 1
  have g2 := V17.out.zb.frozen 2
  have g3 := V17.out.zb.frozen 3
  have g4 := V17.out.zb.frozen 4
  have g5 := V17.out.zb.frozen 5
  have g6 := V17.out.zb.frozen 6
  have g7 := V17.out.zb.frozen 7
  have g8 := V17.out.zb.frozen 8
  go_wp2_with fail
  have V18 := V17.out.put ⟨n0, n2, n4, n8, n13, n14, n18, O, Y⟩ 8 (.string Y) rfl
  have B9 := put7c_blk V18.zb ⟨n0, n2, n4, n8, n13, n14, n18, O, Y⟩
  have K9 := put7c_kb (N := u.heap.size) V18.kb (fun h => absurd h (by omega)) ⟨n0, n2, n4, n8, n13, n14, n18, O, Y⟩
  clear c0 c1 c2 c3 c4 c5 c6 c7 c8 f0 f1 f2 f3 f4 f5 f6 f7 f8 z0 z1 z2 z3 z4 z5 z6 z7 z8 g0 g1 g2 g3 g4 g5 g6 g7 g8 V17 V18
  unfold put7c at B9 K9
  dsimp only at B9 K9
  generalize (((((((((v17.setCell ⟨u.heap.size + 1, 8, none⟩ (.string Y)).setCell ⟨u.heap.size, 0, none⟩ (.int .i64 (n0 : Int))).setCell ⟨u.heap.size, 1, none⟩ (.int .i64 (n2 : Int))).setCell ⟨u.heap.size, 2, none⟩ (.int .u32 (n4 : Int))).setCell ⟨u.heap.size, 3, none⟩ (.int .u32 (n8 : Int))).setCell ⟨u.heap.size, 4, none⟩ (.int .i64 (n13 : Int))).setCell ⟨u.heap.size, 5, none⟩ (.int .i64 (n14 : Int))).setCell ⟨u.heap.size, 6, none⟩ (.int .i64 (n18 : Int))).setCell ⟨u.heap.size, 7, none⟩ (.string O)).setCell ⟨u.heap.size, 8, none⟩ (.string Y) = W at *
  have ⟨c0, c1, c2, c3, c4, c5, c6, c7, c8⟩ := Hc7.of B9
  refine ⟨rfl, .tuple #[.agg (seg7 p).cells, .int .i64 (n16 : Int)], ?_, K9, Or.inl ⟨EE.out, by rw [HN16.out]⟩⟩
  rw [HD.out]
  unfold S7.cells
  simp [results, Try.results77, go_sem, c0, c1, c2, c3, c4, c5, c6, c7, c8]

end Go.Proofs.Ytppobficnjpdiaa

/-
  Get: what bytes say as a segment.
-/
namespace Go.Proofs.Ytppobficnjpdiaa
open Go.RowKit
set_option linter.unusedVariables false

/-- What the closure leaves. -/
def Got7At (p : ByteArray) (H Y : Nat) (k : Int) (u : World) : Prop := k = (get7E p : Nat) ∧ Blk u H (get7H p).cells 49 ∧ Blk u Y #[.int .i64 (get7N p : Nat)] 3

set_option maxHeartbeats 1000000 in
theorem get71_any (R X H Y : Nat) (p : ByteArray) (u : World) (hs : p.size ≤ 1000000) (hr : Rd u R p 0) (hX : Blk u X #[.string p] 9) (hH : Blk u H S7.zero.cells 49) (hY : Blk u Y #[.int .i64 0] 3) (h1 : R ≠ H) (h2 : R ≠ Y) (h3 : H ≠ Y) :
    Calls Try.prog 76 #[.pointer (some ⟨R, 0, none⟩), .pointer (some ⟨X, 0, none⟩), .pointer (some ⟨H, 0, none⟩), .pointer (some ⟨Y, 0, none⟩)] u (DoKb (fun k => k = H ∨ k = Y) R u (Got7At p H Y)) := by
  have HR := Lib.hid (readSegment_any R p u hr hs)
  have cX := hX.cell 0
  simp at cX
  have N1 := Lib.hid h1
  have N2 := Lib.hid h2
  have N3 := Lib.hid h3
  have HH := Lib.hid hH
  have HY := Lib.hid hY
  clear hr h1 h2 h3 hH hY hX
  go_enter Try.func76, Try.ntmps76
  go_wp2_with fail
  refine HR.out.mono ?_
  rintro e u1 ⟨k1, ⟨g0, rfl⟩ | ⟨g0, rfl⟩⟩
  · have H1 := Lib.hid (HH.out.kb k1 (fun e => N1.out e.symm))
    have Y1 := Lib.hid (HY.out.kb k1 (fun e => N2.out e.symm))
    have K1 := Lib.hid k1
    have G0 := Lib.hid g0
    have GG := Lib.hid (get7_ok g0)
    clear HR HH HY k1 g0 cX
    have ⟨z0, z1, z2, z3, z4, z5, z6, z7, z8⟩ := Hc7.of H1.out
    simp only [S7.zero] at z0 z1 z2 z3 z4 z5 z6 z7 z8
    have f0 := H1.out.frozen 0
    have f1 := H1.out.frozen 1
    have f2 := H1.out.frozen 2
    have f3 := H1.out.frozen 3
    have f4 := H1.out.frozen 4
    have f5 := H1.out.frozen 5
    have f6 := H1.out.frozen 6
    have f7 := H1.out.frozen 7
    have f8 := H1.out.frozen 8
    have cY := Y1.out.cell 0
    have fY := Y1.out.frozen 0
    simp at cY
    have N3s : Y ≠ H := fun e => N3.out e.symm
    generalize seg7 p = h at *
    generalize numOf p 16 2 = n at *
    unfold S7.cells
    go_wp2_with fail
    go_end0
    have B2 := put7c_blk H1.out h
    have K2 := put7c_kb (S := (· = H)) (N := H) (Kb.refl _ u1) (fun _ => rfl) h
    have Y2 := Y1.out.kb K2 N3s
    have KA := (K1.out.mono (T := fun k => (k = H ∨ k = Y) ∨ k = R) (fun k _ e => Or.inr e)).trans (K2.mono (fun k _ e => Or.inl (Or.inl e)))
    unfold put7c at B2 Y2 KA
    refine ⟨Or.inl ⟨rfl, by rw [G0.out]; rfl, ?_, ?_⟩, ?_⟩
    · rw [GG.out.1]; exact B2.set_other (p := ⟨Y, 0, none⟩) N3.out _
    · rw [GG.out.2]; exact Y2.set 0 _
    · exact Kb.setCell (S := fun k => (k = H ∨ k = Y) ∨ k = R) KA (p := ⟨Y, 0, none⟩) (fun _ => Or.inl (Or.inr rfl)) _
  · have GG := get7_err g0
    refine ⟨rfl, Or.inr ⟨_, rfl, rfl, ?_, ?_⟩, k1.mono (fun k _ e => Or.inr e)⟩
    · rw [GG.1]; exact HH.out.kb k1 (fun e => N1.out e.symm)
    · rw [GG.2]; exact HY.out.kb k1 (fun e => N2.out e.symm)

theorem call7get (args : Array Value) (u : World) : (callFunc 76 args).run Try.prog u = .ok (.enter 76 args) u := by kernel_rfl

/-- Get's end. -/
def Get7End (p : ByteArray) (w : World) (e : Ending) (w' : World) : Prop := e = .returned (.tuple #[.agg (get7H p).cells, .int .i64 (get7N p : Nat), .int .i64 (get7E p : Nat)]) ∧ Below w.heap.size w w'

/-- Get's own blocks. -/
structure Get7Blks (p : ByteArray) (w u : World) : Prop where
  x : Blk u w.heap.size #[.string p] 9
  z : Blk u (w.heap.size + 1) S7.zero.cells 49
  h : Blk u (w.heap.size + 1 + 1) S7.zero.cells 49
  y : Blk u (w.heap.size + 1 + 1 + 1) #[.int .i64 0] 3
  bel : Below w.heap.size w u
  size : u.heap.size = w.heap.size + 4
theorem Get7Blks.new (p : ByteArray) (w : World) : Get7Blks p w ((((w.alloc (.cells #[.string p] 9)).alloc (.cells S7.zero.cells 49)).alloc (.cells S7.zero.cells 49)).alloc (.cells #[.int .i64 0] 3)) := by
  have e1 := Blk.new w #[.string p] 9
  have b1 : Below w.heap.size w (w.alloc (.cells #[.string p] 9)) := (Below.refl _ _).alloc (Nat.le_refl _) _
  have s1 : (w.alloc (.cells #[.string p] 9)).heap.size = w.heap.size + 1 := by simp
  generalize w.alloc (.cells #[.string p] 9) = w1 at *
  have e2 := Blk.new w1 S7.zero.cells 49
  have b2 : Below w.heap.size w (w1.alloc (.cells S7.zero.cells 49)) := b1.alloc (by omega) _
  have s2 : (w1.alloc (.cells S7.zero.cells 49)).heap.size = w.heap.size + 1 + 1 := by simp; omega
  have e1' := e1.alloc (.cells S7.zero.cells 49)
  generalize w1.alloc (.cells S7.zero.cells 49) = w2 at *
  have e3 := Blk.new w2 S7.zero.cells 49
  have b3 : Below w.heap.size w (w2.alloc (.cells S7.zero.cells 49)) := b2.alloc (by omega) _
  have s3 : (w2.alloc (.cells S7.zero.cells 49)).heap.size = w.heap.size + 1 + 1 + 1 := by simp; omega
  have e1'' := e1'.alloc (.cells S7.zero.cells 49)
  have e2' := e2.alloc (.cells S7.zero.cells 49)
  generalize w2.alloc (.cells S7.zero.cells 49) = w3 at *
  have e4 := Blk.new w3 #[.int .i64 0] 3
  rw [s1] at e2'
  rw [s2] at e3
  rw [s3] at e4
  exact ⟨e1''.alloc _, e2'.alloc _, e3.alloc _, e4, b3.alloc (by omega) _, by simp; omega⟩

set_option maxRecDepth 100000 in
set_option maxHeartbeats 2000000 in
theorem get7_any (p : ByteArray) (w : World) (hs : p.size ≤ 1000000) :
    Calls Try.prog 52 #[.string p] w (Get7End p w) := by
  have hmf : ∀ (fn : Fn) (first cap : Array Value) (w : World), (Instr.makeFunc fn first cap).run Try.prog w = .ok (.func fn first cap) w := fun _ _ _ _ => rfl
  have G := Lib.hid (Get7Blks.new p w)
  have HP : Hid (p.size ≤ 1000000) := hs
  clear hs
  go_enter Try.func52, Try.ntmps52
  go_wp2_with fail
  simp only [show #[Value.int IntKind.i64 0, Value.int IntKind.i64 0, Value.int IntKind.u32 0, Value.int IntKind.u32 0, Value.int IntKind.i64 0, Value.int IntKind.i64 0, Value.int IntKind.i64 0, Value.string { data := #[] }, Value.string { data := #[] }] = S7.zero.cells from rfl]
  generalize (((w.alloc (.cells #[.string p] 9)).alloc (.cells S7.zero.cells 49)).alloc (.cells S7.zero.cells 49)).alloc (.cells #[.int .i64 0] 3) = u0 at *
  have hH : w.heap.size + 1 + 1 ≠ w.heap.size + 1 + 1 + 1 := by omega
  have RD := read_kb p 76 #[.pointer (some ⟨w.heap.size, 0, none⟩), .pointer (some ⟨w.heap.size + 1 + 1, 0, none⟩), .pointer (some ⟨w.heap.size + 1 + 1 + 1, 0, none⟩)] u0 (fun k => k = w.heap.size + 1 + 1 ∨ k = w.heap.size + 1 + 1 + 1) (Got7At p (w.heap.size + 1 + 1) (w.heap.size + 1 + 1 + 1))
    (fun k hk => by have := G.out.size; omega) (fun args u => call7get args u) (fun R u hr hR hk => get71_any R w.heap.size (w.heap.size + 1 + 1) (w.heap.size + 1 + 1 + 1) p u HP.out hr (G.out.x.kb hk (fun f => f)) (G.out.h.kb hk (fun f => f)) (G.out.y.kb hk (fun f => f)) (by have := G.out.size; omega) (by have := G.out.size; omega) hH)
  refine RD.mono ?_
  rintro e w2 ⟨k, w1, rfl, ⟨rfl, hb1, hy1⟩, hk1, hk2⟩
  have HS := G.out.size
  have B2 := Lib.hid (hb1.kb hk2 (by omega))
  have Y2 := Lib.hid (hy1.kb hk2 (by omega))
  have Z2 := Lib.hid ((G.out.z.kb hk1 (by omega)).kb hk2 (by omega))
  have L2 : Hid (Below w.heap.size w w2) := by
    show Below w.heap.size w w2
    have hb := G.out.bel
    exact ⟨hk2.os.trans (hk1.os.trans hb.os), hk2.tape.trans (hk1.tape.trans hb.tape), hk2.output.trans (hk1.output.trans hb.output), Nat.le_trans hb.size (Nat.le_trans hk1.size hk2.size), fun k hk =>
      (hk2.block k (by have := hk1.size; omega) (by omega)).trans ((hk1.block k (by omega) (by omega)).trans (hb.block k hk))⟩
  clear hb1 hy1 hk1 hk2 RD G HS hH hmf
  have ⟨c0, c1, c2, c3, c4, c5, c6, c7, c8⟩ := Hc7.of B2.out
  have cY := Y2.out.cell 0
  simp at cY
  have ⟨z0, z1, z2, z3, z4, z5, z6, z7, z8⟩ := Hc7.of Z2.out
  simp only [S7.zero] at z0 z1 z2 z3 z4 z5 z6 z7 z8
  have f0 := Z2.out.frozen 0
  have f1 := Z2.out.frozen 1
  have f2 := Z2.out.frozen 2
  have f3 := Z2.out.frozen 3
  have f4 := Z2.out.frozen 4
  have f5 := Z2.out.frozen 5
  have f6 := Z2.out.frozen 6
  have f7 := Z2.out.frozen 7
  have f8 := Z2.out.frozen 8
  generalize hgh : get7H p = h at *
  have HGH := Lib.hid hgh
  clear hgh
  go_wp2_with fail
  go_region
  clear c0 c1 c2 c3 c4 c5 c6 c7 c8 cY z0 z1 z2 z3 z4 z5 z6 z7 z8 f0 f1 f2 f3 f4 f5 f6 f7 f8
  go_wp2_with fail
  have B3 := (put7c_blk Z2.out h).drew
  have K3 := put7c_kb (S := fun k => w.heap.size ≤ k) (u := w) (N := w.heap.size + 1) ⟨L2.out.os, L2.out.tape, L2.out.output, L2.out.size, fun k hk _ => L2.out.block k hk⟩ (fun _ => by omega) h
  have L3 := K3.drew.below (Nat.le_refl _)
  clear K3 Z2 Y2 B2 L2
  unfold put7c at B3 L3
  generalize (((((((((w2.setCell ⟨w.heap.size + 1, 0, none⟩ (.int .i64 h.src)).setCell ⟨w.heap.size + 1, 1, none⟩ (.int .i64 h.dst)).setCell ⟨w.heap.size + 1, 2, none⟩ (.int .u32 h.seq)).setCell ⟨w.heap.size + 1, 3, none⟩ (.int .u32 h.ack)).setCell ⟨w.heap.size + 1, 4, none⟩ (.int .i64 h.flg)).setCell ⟨w.heap.size + 1, 5, none⟩ (.int .i64 h.win)).setCell ⟨w.heap.size + 1, 6, none⟩ (.int .i64 h.urg)).setCell ⟨w.heap.size + 1, 7, none⟩ (.string h.opt)).setCell ⟨w.heap.size + 1, 8, none⟩ (.string h.pay)).drew = W at *
  have ⟨c0, c1, c2, c3, c4, c5, c6, c7, c8⟩ := Hc7.of B3
  refine ⟨rfl, .tuple #[.agg (get7H p).cells, .int .i64 (get7N p : Nat), .int .i64 (get7E p : Nat)], ?_, rfl, L3⟩
  rw [HGH.out]
  unfold S7.cells
  simp [results, Try.results52, go_sem, c0, c1, c2, c3, c4, c5, c6, c7, c8]

end Go.Proofs.Ytppobficnjpdiaa
