/-
  readHeader: a packet's header, read by a reader that is stopped.
-/
import Derived.Test.YtdljioacbpabbaaIp4Spec
import Derived.Test.YtdljioacbpabbaaSumUse
import Derived.Test.YtdljioacbpabbaaBits
import Derived.Test.YtdljioacbpabbaaRdDo
import Derived.Deep.CutBlock
import Derived.Deep.DeepCutAuto
namespace Go.Proofs.Ytdljioacbpabbaa
open Go.RowKit
set_option linter.unusedVariables false

/-- While it reads: the reader, the answer's block, and what was there. -/
structure Rw (u v : World) (R : Nat) (p : ByteArray) (i : Nat) : Prop where
  rd : Rd v R p i
  kb : Kb (· = R) u v
  zb : Blk v u.heap.size H4.zero.cells 23
  lt : R < u.heap.size
theorem Rw.step {u v v' : World} {R : Nat} {p : ByteArray} {i j : Nat} (r : Rw u v R p i) (hr : Rd v' R p j) (hk : Kb (· = R) v v') : Rw u v' R p j :=
  ⟨hr, r.kb.trans hk, r.zb.kb hk (by have := r.lt; omega), r.lt⟩
theorem Rw.new {u : World} {R : Nat} {p : ByteArray} {i : Nat} (hr : Rd u R p i) : Rw u (u.alloc (.cells H4.zero.cells 23)) R p i :=
  ⟨hr.alloc _, (Kb.refl _ _).alloc _, Blk.new u _ _, hr.lt⟩
theorem Rw.below {u v v' : World} {R : Nat} {p : ByteArray} {i : Nat} (r : Rw u v R p i) (hb : Below v.heap.size v v') : Rw u v' R p i :=
  r.step ((hb.block _ r.rd.lt).trans r.rd) ⟨hb.os, hb.tape, hb.output, hb.size, fun k hk _ => hb.block k hk⟩
theorem rw_u8 {u v : World} {R : Nat} {p : ByteArray} {i : Nat} (r : Rw u v R p i) (hi : i + 1 ≤ p.size) (hs : p.size ≤ 1000000) :
    Calls Try.prog 37 #[.pointer (some ⟨R, 0, none⟩)] v fun e v' => e = .returned (.int .i64 (numOf p i 1)) ∧ Rw u v' R p (i + 1) ∧ Kb (· = R) v v' :=
  (u8_yes R p i v r.rd hi (by unfold maxLen; omega)).mono fun e v' h => ⟨h.1, r.step h.2.1 h.2.2, h.2.2⟩
theorem rw_u16 {u v : World} {R : Nat} {p : ByteArray} {i : Nat} (r : Rw u v R p i) (hi : i + 2 ≤ p.size) (hs : p.size ≤ 1000000) :
    Calls Try.prog 38 #[.pointer (some ⟨R, 0, none⟩)] v fun e v' => e = .returned (.int .i64 (numOf p i 2)) ∧ Rw u v' R p (i + 2) ∧ Kb (· = R) v v' :=
  (u16_yes R p i v r.rd hi (by unfold maxLen; omega)).mono fun e v' h => ⟨h.1, r.step h.2.1 h.2.2, h.2.2⟩
theorem rw_take {u v : World} {R : Nat} {p : ByteArray} {i k : Nat} (r : Rw u v R p i) (hi : i + k ≤ p.size) (hs : p.size ≤ 1000000) :
    Calls Try.prog 40 #[.pointer (some ⟨R, 0, none⟩), .int .i64 k] v fun e v' => e = .returned (.string (p.extract i (i + k))) ∧ Rw u v' R p (i + k) ∧ Kb (· = R) v v' := by
  refine (take_nat R p i k v r.rd hi (by unfold maxLen; omega)).mono ?_
  rintro e v' ⟨rfl, n, rfl⟩
  have hk := Kb.setCell (S := (· = R)) ((Kb.refl (· = R) v).drewN n) (p := ⟨R, 1, none⟩) (fun _ => rfl) (.int .i64 ((i + k : Nat) : Int))
  exact ⟨rfl, r.step ((r.rd.drewN n).set 1 _) hk, hk⟩

theorem rw_take' {u v : World} {R : Nat} {p : ByteArray} {i k : Nat} {n : Int} (r : Rw u v R p i) (hn : n = (k : Nat)) (hi : i + k ≤ p.size) (hs : p.size ≤ 1000000) :
    Calls Try.prog 40 #[.pointer (some ⟨R, 0, none⟩), .int .i64 n] v fun e v' => e = .returned (.string (p.extract i (i + k))) ∧ Rw u v' R p (i + k) ∧ Kb (· = R) v v' := by
  subst hn; exact rw_take r hi hs
theorem bit_test (f j : Nat) (hf : f < 65536) (hj : j ≤ 15) : ∃ x : Int, bits .and .i64 (f : Int) ((2 ^ j : Nat) : Int) = x ∧ (x != 0) = decide (f / 2 ^ j % 2 = 1) := by
  refine ⟨_, i64_and_bit f j (by omega) (by omega), ?_⟩
  have hp : 0 < 2 ^ j := Nat.two_pow_pos j
  generalize 2 ^ j = q at *
  by_cases h : f / q % 2 = 1
  · rw [if_pos h, decide_eq_true h]
    simp only [bne_iff_ne, ne_eq]
    omega
  · rw [if_neg h, decide_eq_false h]
    rfl

/-- And the new header's block. -/
structure Rm (u v : World) (R : Nat) (p : ByteArray) (i M : Nat) (h : H4) : Prop where
  rw' : Rw u v R p i
  mb : Blk v M h.cells 23
  lt : u.heap.size < M
theorem Rm.step {u v v' : World} {R : Nat} {p : ByteArray} {i j M : Nat} {h : H4} (r : Rm u v R p i M h) (h1 : Rw u v' R p j) (hk : Kb (· = R) v v') : Rm u v' R p j M h :=
  ⟨h1, r.mb.kb hk (by have h2 := r.rw'.lt; have h3 := r.lt; omega), r.lt⟩
theorem Rm.set {u v : World} {R : Nat} {p : ByteArray} {i M : Nat} {h h' : H4} (r : Rm u v R p i M h) (k : Nat) (x : Value) (hx : h.cells.setIfInBounds k x = h'.cells) : Rm u (v.setCell ⟨M, k, none⟩ x) R p i M h' := by
  have h2 := r.rw'.lt
  have h3 := r.lt
  exact ⟨⟨r.rw'.rd.set_other (p := ⟨M, k, none⟩) (show R ≠ M by omega) x, Kb.setCell (S := (· = R)) r.rw'.kb (p := ⟨M, k, none⟩) (fun e => absurd (show M < u.heap.size from e) (by omega)) x, r.rw'.zb.set_other (p := ⟨M, k, none⟩) (show u.heap.size ≠ M by omega) x, h2⟩, by rw [← hx]; exact r.mb.set k x, h3⟩
theorem Rm.new {u v : World} {R : Nat} {p : ByteArray} {i : Nat} (r : Rw u v R p i) (h : H4) : Rm u (v.alloc (.cells h.cells 23)) R p i v.heap.size h :=
  ⟨⟨r.rd.alloc _, r.kb.alloc _, r.zb.alloc _, r.lt⟩, Blk.new v _ _, r.zb.lt⟩

/-- A header stored into a block, cell by cell. -/
def put10 (v : World) (N : Nat) (h : H4) : World :=
  (((((((((v.setCell ⟨N, 0, none⟩ (.int .i64 h.tos)).setCell ⟨N, 1, none⟩ (.int .i64 h.id)).setCell ⟨N, 2, none⟩ (.int .i64 h.off)).setCell ⟨N, 3, none⟩ (.int .i64 h.ttl)).setCell ⟨N, 4, none⟩ (.int .i64 h.proto)).setCell ⟨N, 5, none⟩ (.bool h.df)).setCell ⟨N, 6, none⟩ (.bool h.mf)).setCell ⟨N, 7, none⟩ (.string h.src)).setCell ⟨N, 8, none⟩ (.string h.dst)).setCell ⟨N, 9, none⟩ (.string h.opt)
theorem Blk.seth {v : World} {N : Nat} {T : TypeId} {h : H4} (hb : Blk v N h.cells T) (h' : H4) (k : Nat) (x : Value) (hx : h.cells.setIfInBounds k x = h'.cells) : Blk (v.setCell ⟨N, k, none⟩ x) N h'.cells T := by
  rw [← hx]; exact hb.set k x
theorem put10_blk {v : World} {N : Nat} {g : H4} {T : TypeId} (hb : Blk v N g.cells T) (h : H4) : Blk (put10 v N h) N h.cells T := by
  unfold put10
  refine Blk.seth (h := ⟨h.tos, h.id, h.off, h.ttl, h.proto, h.df, h.mf, h.src, h.dst, g.opt⟩) ?_ h 9 _ rfl
  refine Blk.seth (h := ⟨h.tos, h.id, h.off, h.ttl, h.proto, h.df, h.mf, h.src, g.dst, g.opt⟩) ?_ _ 8 _ rfl
  refine Blk.seth (h := ⟨h.tos, h.id, h.off, h.ttl, h.proto, h.df, h.mf, g.src, g.dst, g.opt⟩) ?_ _ 7 _ rfl
  refine Blk.seth (h := ⟨h.tos, h.id, h.off, h.ttl, h.proto, h.df, g.mf, g.src, g.dst, g.opt⟩) ?_ _ 6 _ rfl
  refine Blk.seth (h := ⟨h.tos, h.id, h.off, h.ttl, h.proto, g.df, g.mf, g.src, g.dst, g.opt⟩) ?_ _ 5 _ rfl
  refine Blk.seth (h := ⟨h.tos, h.id, h.off, h.ttl, g.proto, g.df, g.mf, g.src, g.dst, g.opt⟩) ?_ _ 4 _ rfl
  refine Blk.seth (h := ⟨h.tos, h.id, h.off, g.ttl, g.proto, g.df, g.mf, g.src, g.dst, g.opt⟩) ?_ _ 3 _ rfl
  refine Blk.seth (h := ⟨h.tos, h.id, g.off, g.ttl, g.proto, g.df, g.mf, g.src, g.dst, g.opt⟩) ?_ _ 2 _ rfl
  refine Blk.seth (h := ⟨h.tos, g.id, g.off, g.ttl, g.proto, g.df, g.mf, g.src, g.dst, g.opt⟩) ?_ _ 1 _ rfl
  exact Blk.seth (h := g) hb _ 0 _ rfl
theorem put10_kb {S : Nat → Prop} {u v : World} {N : Nat} (hk : Kb S u v) (hN : N < u.heap.size → S N) (h : H4) : Kb S u (put10 v N h) := by
  unfold put10
  exact (((((((((hk.setCell (p := ⟨N, 0, none⟩) hN _).setCell (p := ⟨N, 1, none⟩) hN _).setCell (p := ⟨N, 2, none⟩) hN _).setCell (p := ⟨N, 3, none⟩) hN _).setCell (p := ⟨N, 4, none⟩) hN _).setCell (p := ⟨N, 5, none⟩) hN _).setCell (p := ⟨N, 6, none⟩) hN _).setCell (p := ⟨N, 7, none⟩) hN _).setCell (p := ⟨N, 8, none⟩) hN _).setCell (p := ⟨N, 9, none⟩) hN _

/-- How it ends. -/
def HeadEnd (u : World) (R : Nat) (p : ByteArray) (e : Ending) (u' : World) : Prop :=
  Kb (· = R) u u' ∧ ((getE p = 0 ∧ e = .returned (.agg (hdr p).cells) ∧ Rd u' R p (hsz p)) ∨ (getE p ≠ 0 ∧ e = .panicked (stopped (getE p : Nat))))
theorem HeadEnd.stop {u u' : World} {R : Nat} {p : ByteArray} {k : Nat} (hk : Kb (· = R) u u') (he : getE p = k) (h0 : k ≠ 0) : HeadEnd u R p (.panicked (stopped (k : Nat))) u' := by
  subst he; exact ⟨hk, Or.inr ⟨h0, rfl⟩⟩

set_option maxRecDepth 100000 in
set_option maxHeartbeats 1000000 in
theorem readHeader_any (R : Nat) (p : ByteArray) (u : World) (hr : Rd u R p 0) (hs : p.size ≤ 1000000) :
    Calls Try.prog 27 #[.pointer (some ⟨R, 0, none⟩), .string p] u (HeadEnd u R p) := by
  have R0 := Lib.hid (Rw.new hr)
  clear hr
  go_enter Try.func27, Try.ntmps27
  go_wp2_with fail
  simp only [show #[Value.int IntKind.i64 0, Value.int IntKind.i64 0, Value.int IntKind.i64 0, Value.int IntKind.i64 0, Value.int IntKind.i64 0, Value.bool false, Value.bool false, Value.string { data := #[] }, Value.string { data := #[] }, Value.string { data := #[] }] = H4.zero.cells from rfl]
  generalize u.alloc (.cells H4.zero.cells 23) = u0 at *
  by_cases hp : 20 ≤ p.size
  case neg =>
    refine (need_no _ _ _ _ (by simp; omega)).mono ?_
    rintro e w' ⟨rfl, rfl⟩
    exact ⟨rfl, HeadEnd.stop (k := 2) R0.out.kb (getE_short hp) (by decide)⟩
  refine (need_yes _ _ _ _ (by simp; omega)).mono ?_
  rintro e w' ⟨rfl, rfl⟩
  go_wp2_with fail
  refine (rw_u8 R0.out (by omega) hs).mono ?_
  rintro e u1 ⟨rfl, r1, -⟩
  have R1 : Hid (Rw u u1 R p 1) := r1
  clear r1 R0
  have hal := numOf_lt p 0 1 (by omega)
  have hm : bits .and .i64 (numOf p 0 1 : Int) 15 = ((numOf p 0 1 % 16 : Nat) : Int) := (i64_mask 4 (by decide) (numOf p 0 1 : Int)).trans (by show (numOf p 0 1 : Int) % 16 = _; omega)
  have HZ : Hid (hsz p = 4 * (numOf p 0 1 % 16)) := rfl
  have E3 := Lib.hid (getE_ver hp)
  have E4 := Lib.hid (getE_len hp)
  have E4b := Lib.hid (getE_all hp)
  have E5 := Lib.hid (getE_sum hp)
  have E9 := Lib.hid (getE_form hp)
  have E0 := Lib.hid (getE_ok hp)
  generalize numOf p 0 1 = a at *
  have hn4 : a % 16 ≤ 15 := by omega
  generalize a % 16 = n4 at *
  generalize hzp : hsz p = z at *
  have HZP := Lib.hid hzp
  clear hzp
  go_wp2_with fail
  by_cases hv : a / 16 = 4
  case neg =>
    refine (need_no _ _ _ _ (by simp; omega)).mono ?_
    rintro e w' ⟨rfl, rfl⟩
    exact ⟨rfl, HeadEnd.stop (k := 3) R1.out.kb (E3.out hv) (by decide)⟩
  refine (need_yes _ _ _ _ (by simp; omega)).mono ?_
  rintro e w' ⟨rfl, rfl⟩
  have HV := Lib.hid hv
  have hz0 := HZ.out
  have hz1 : (4 : Int) * (n4 : Int) = (z : Int) := by omega
  have hz2 : z ≤ 60 := by omega
  clear hv hz0 E3
  by_cases hq : 20 ≤ z ∧ z ≤ p.size
  case neg =>
    by_cases hq1 : 20 ≤ z
    · go_wp2_with fail
      refine (need_no _ _ _ _ (by simp; omega)).mono ?_
      rintro e w' ⟨rfl, rfl⟩
      exact ⟨rfl, HeadEnd.stop (k := 4) R1.out.kb (E4.out HV.out hq) (by decide)⟩
    · go_wp2_with fail
      refine (need_no _ _ _ _ (by simp)).mono ?_
      rintro e w' ⟨rfl, rfl⟩
      exact ⟨rfl, HeadEnd.stop (k := 4) R1.out.kb (E4.out HV.out hq) (by decide)⟩
  have HQ := Lib.hid hq
  obtain ⟨hq1, hq2⟩ := hq
  go_wp2_with fail
  refine (need_yes _ _ _ _ rfl).mono ?_
  rintro e w' ⟨rfl, rfl⟩
  clear hm hz1
  go_wp2_with fail
  refine (rw_u8 R1.out (by omega) hs).mono ?_
  rintro e u2 ⟨rfl, r2, -⟩
  have R2 : Hid (Rw u u2 R p 2) := r2
  clear r2 R1
  go_wp2_with fail
  refine (rw_u16 R2.out (by omega) hs).mono ?_
  rintro e u3 ⟨rfl, r3, -⟩
  have R3 : Hid (Rw u u3 R p 4) := r3
  clear r3 R2
  go_wp2_with fail
  by_cases hl : numOf p 2 2 = p.size
  case neg =>
    refine (need_no _ _ _ _ (by simp; omega)).mono ?_
    rintro e w' ⟨rfl, rfl⟩
    exact ⟨rfl, HeadEnd.stop (k := 4) R3.out.kb (E4b.out HV.out HQ.out hl) (by decide)⟩
  refine (need_yes _ _ _ _ (by simp; omega)).mono ?_
  rintro e w' ⟨rfl, rfl⟩
  have HL := Lib.hid hl
  clear hl
  go_wp2_with fail
  refine (right_1n (p.extract 0 z) u3 _ rfl (decide (sumD (p.extract 0 z).data.toList = 0)) (by rw [ByteArray.size_extract]; omega) rfl).mono ?_
  rintro e u4 ⟨rfl, hb4⟩
  have R4 := Lib.hid (R3.out.below hb4)
  clear hb4 R3
  go_wp2_with fail
  by_cases hsum : sumD (p.extract 0 z).data.toList = 0
  case neg =>
    refine (need_no _ _ _ _ (by simpa using hsum)).mono ?_
    rintro e w' ⟨rfl, rfl⟩
    exact ⟨rfl, HeadEnd.stop (k := 5) R4.out.kb (E5.out HV.out HQ.out HL.out hsum) (by decide)⟩
  refine (need_yes _ _ _ _ (by simpa using hsum)).mono ?_
  rintro e w' ⟨rfl, rfl⟩
  have HS := Lib.hid hsum
  clear hsum
  go_wp2_with fail
  refine (rw_u16 R4.out (by omega) hs).mono ?_
  rintro e u5 ⟨rfl, r5, -⟩
  have R5 : Hid (Rw u u5 R p 6) := r5
  clear r5 R4
  go_wp2_with fail
  refine (rw_u16 R5.out (by omega) hs).mono ?_
  rintro e u6 ⟨rfl, r6, -⟩
  have R6 : Hid (Rw u u6 R p 8) := r6
  clear r6 R5
  have hfl := numOf_lt p 6 2 (by omega)
  go_wp2_with fail
  by_cases hf : numOf p 6 2 < 32768
  case neg =>
    refine (need_no _ _ _ _ (by simp; omega)).mono ?_
    rintro e w' ⟨rfl, rfl⟩
    exact ⟨rfl, HeadEnd.stop (k := 9) R6.out.kb (E9.out HV.out HQ.out HL.out HS.out (by omega)) (by decide)⟩
  refine (need_yes _ _ _ _ (by simp; omega)).mono ?_
  rintro e w' ⟨rfl, rfl⟩
  have G0 := Lib.hid (E0.out HV.out HQ.out HL.out HS.out hf)
  have HD : Hid (hdr p = ⟨numOf p 1 1, numOf p 4 2, (numOf p 6 2 % 8192 : Nat), numOf p 8 1, numOf p 9 1, decide (numOf p 6 2 / 16384 % 2 = 1), decide (numOf p 6 2 / 8192 % 2 = 1), p.extract 12 16, p.extract 16 20, p.extract 20 z⟩) := by
    show hdr p = _
    rw [← HZP.out]; rfl
  clear HV HQ HL HS E4 E4b E5 E9 E0
  have m13 : bits .and .i64 (numOf p 6 2 : Int) 8191 = ((numOf p 6 2 % 8192 : Nat) : Int) := (i64_mask 13 (by decide) (numOf p 6 2 : Int)).trans (by show (numOf p 6 2 : Int) % 8192 = _; omega)
  obtain ⟨x14, b14, t14⟩ := bit_test (numOf p 6 2) 14 (by omega) (by decide)
  obtain ⟨x13, b13, t13⟩ := bit_test (numOf p 6 2) 13 (by omega) (by decide)
  simp only [show (2 ^ 14 : Nat) = 16384 from rfl, show (2 ^ 13 : Nat) = 8192 from rfl, Int.cast_ofNat_Int] at b14 b13 t14 t13
  generalize numOf p 6 2 = fl at *
  generalize decide (fl / 16384 % 2 = 1) = df at *
  generalize decide (fl / 8192 % 2 = 1) = mf at *
  generalize fl % 8192 = off at *
  generalize numOf p 1 1 = tos at *
  generalize numOf p 4 2 = id4 at *
  go_wp2_with fail
  clear m13 b14 t14 b13 t13
  have R7 : Hid (Rm u (u6.alloc (.cells #[.int .i64 tos, .int .i64 id4, .int .i64 off, .int .i64 0, .int .i64 0, .bool df, .bool mf, .string ⟨#[]⟩, .string ⟨#[]⟩, .string ⟨#[]⟩] 23)) R p 8 u6.heap.size ⟨tos, id4, off, 0, 0, df, mf, ⟨#[]⟩, ⟨#[]⟩, ⟨#[]⟩⟩) := Rm.new R6.out ⟨tos, id4, off, 0, 0, df, mf, ⟨#[]⟩, ⟨#[]⟩, ⟨#[]⟩⟩
  clear R6
  generalize u6.alloc (.cells #[.int .i64 tos, .int .i64 id4, .int .i64 off, .int .i64 0, .int .i64 0, .bool df, .bool mf, .string ⟨#[]⟩, .string ⟨#[]⟩, .string ⟨#[]⟩] 23) = u7 at *
  generalize u6.heap.size = M at *
  refine (rw_u8 R7.out.rw' (by omega) hs).mono ?_
  rintro e u8 ⟨rfl, r8, k8⟩
  have R8 := Lib.hid (R7.out.step r8 k8)
  clear r8 k8 R7
  go_wp2_with fail
  refine (rw_u8 R8.out.rw' (by omega) hs).mono ?_
  rintro e u9 ⟨rfl, r9, k9⟩
  have R9 : Hid (Rm u u9 R p 10 M ⟨tos, id4, off, 0, 0, df, mf, ⟨#[]⟩, ⟨#[]⟩, ⟨#[]⟩⟩) := R8.out.step r9 k9
  clear r9 k9 R8
  have c3 := R9.out.mb.cell 3
  have c4 := R9.out.mb.cell 4
  have f3 := R9.out.mb.frozen 3
  have f4 := R9.out.mb.frozen 4
  simp [H4.cells] at c3 c4
  go_wp2_with fail
  generalize numOf p 8 1 = ttl at *
  generalize numOf p 9 1 = proto at *
  have R10 : Hid (Rm u ((u9.setCell ⟨M, 3, none⟩ (.int .i64 ttl)).setCell ⟨M, 4, none⟩ (.int .i64 proto)) R p 10 M ⟨tos, id4, off, ttl, proto, df, mf, ⟨#[]⟩, ⟨#[]⟩, ⟨#[]⟩⟩) := (R9.out.set (h' := ⟨tos, id4, off, ttl, 0, df, mf, ⟨#[]⟩, ⟨#[]⟩, ⟨#[]⟩⟩) 3 _ rfl).set 4 _ rfl
  clear c3 c4 f3 f4 R9
  generalize (u9.setCell ⟨M, 3, none⟩ (.int .i64 ttl)).setCell ⟨M, 4, none⟩ (.int .i64 proto) = u10 at *
  refine (rw_take (k := 2) R10.out.rw' (by omega) hs).mono ?_
  rintro e u11 ⟨rfl, r11, k11⟩
  have R11 : Hid (Rm u u11 R p 12 M ⟨tos, id4, off, ttl, proto, df, mf, ⟨#[]⟩, ⟨#[]⟩, ⟨#[]⟩⟩) := R10.out.step r11 k11
  clear r11 k11 R10
  go_wp2_with fail
  refine (rw_take (k := 4) R11.out.rw' (by omega) hs).mono ?_
  rintro e u12 ⟨rfl, r12, k12⟩
  have R12 : Hid (Rm u u12 R p 16 M ⟨tos, id4, off, ttl, proto, df, mf, ⟨#[]⟩, ⟨#[]⟩, ⟨#[]⟩⟩) := R11.out.step r12 k12
  clear r12 k12 R11
  go_wp2_with fail
  refine (rw_take (k := 4) R12.out.rw' (by omega) hs).mono ?_
  rintro e u13 ⟨rfl, r13, k13⟩
  have R13 : Hid (Rm u u13 R p 20 M ⟨tos, id4, off, ttl, proto, df, mf, ⟨#[]⟩, ⟨#[]⟩, ⟨#[]⟩⟩) := R12.out.step r13 k13
  clear r13 k13 R12
  have c7 := R13.out.mb.cell 7
  have c8 := R13.out.mb.cell 8
  have f7 := R13.out.mb.frozen 7
  have f8 := R13.out.mb.frozen 8
  simp [H4.cells] at c7 c8
  generalize hsrc : p.extract 12 (12 + 4) = src at *
  generalize hdst : p.extract 16 (16 + 4) = dst at *
  have HSR := Lib.hid hsrc
  have HDS := Lib.hid hdst
  clear hsrc hdst
  go_wp2_with fail
  have R14 : Hid (Rm u ((u13.setCell ⟨M, 7, none⟩ (.string src)).setCell ⟨M, 8, none⟩ (.string dst)) R p 20 M ⟨tos, id4, off, ttl, proto, df, mf, src, dst, ⟨#[]⟩⟩) := (R13.out.set (h' := ⟨tos, id4, off, ttl, proto, df, mf, src, ⟨#[]⟩, ⟨#[]⟩⟩) 7 _ rfl).set 8 _ rfl
  clear c7 c8 f7 f8 R13
  generalize (u13.setCell ⟨M, 7, none⟩ (.string src)).setCell ⟨M, 8, none⟩ (.string dst) = u14 at *
  refine (rw_take' (k := z - 20) R14.out.rw' (by omega) (by omega) hs).mono ?_
  rintro e u15 ⟨rfl, r15, k15⟩
  rw [show 20 + (z - 20) = z by omega] at r15 ⊢
  have R15 := Lib.hid (R14.out.step r15 k15)
  clear r15 k15 R14
  have c9 := R15.out.mb.cell 9
  have f9 := R15.out.mb.frozen 9
  simp [H4.cells] at c9
  generalize hopt : p.extract 20 z = opt at *
  have HOP := Lib.hid hopt
  clear hopt
  have HE : Hid (hdr p = ⟨tos, id4, off, ttl, proto, df, mf, src, dst, opt⟩) := by
    show hdr p = _
    rw [HD.out, ← HSR.out, ← HDS.out]
  go_upto_region 16 with (fail)
  have R16 : Hid (Rm u (u15.setCell ⟨M, 9, none⟩ (.string opt)) R p z M ⟨tos, id4, off, ttl, proto, df, mf, src, dst, opt⟩) := R15.out.set 9 _ rfl
  clear c9 f9 R15
  generalize u15.setCell ⟨M, 9, none⟩ (.string opt) = u16 at *
  have ⟨c0, c1, c2, c3, c4, c5, c6, c7, c8, c9⟩ := Hc.of R16.out.mb
  have ⟨z0, z1, z2, z3, z4, z5, z6, z7, z8, z9⟩ := Hc.of R16.out.rw'.zb
  simp only [H4.zero] at c0 c1 c2 c3 c4 c5 c6 c7 c8 c9 z0 z1 z2 z3 z4 z5 z6 z7 z8 z9
  have f0 := R16.out.rw'.zb.frozen 0
  have f1 := R16.out.rw'.zb.frozen 1
  have f2 := R16.out.rw'.zb.frozen 2
  have f3 := R16.out.rw'.zb.frozen 3
  have f4 := R16.out.rw'.zb.frozen 4
  have f5 := R16.out.rw'.zb.frozen 5
  have f6 := R16.out.rw'.zb.frozen 6
  have f7 := R16.out.rw'.zb.frozen 7
  have f8 := R16.out.rw'.zb.frozen 8
  have f9 := R16.out.rw'.zb.frozen 9
  go_wp2_with fail
  have B17 := put10_blk R16.out.rw'.zb ⟨tos, id4, off, ttl, proto, df, mf, src, dst, opt⟩
  have K17 := put10_kb (N := u.heap.size) R16.out.rw'.kb (fun h => absurd h (by omega)) ⟨tos, id4, off, ttl, proto, df, mf, src, dst, opt⟩
  have K18 := put10_kb (S := (· = u.heap.size)) (N := u.heap.size) (Kb.refl _ u16) (fun _ => rfl) ⟨tos, id4, off, ttl, proto, df, mf, src, dst, opt⟩
  have D17 : Rd _ R p z := R16.out.rw'.rd.kb K18 (by have := R16.out.rw'.lt; omega)
  clear K18 c0 c1 c2 c3 c4 c5 c6 c7 c8 c9 z0 z1 z2 z3 z4 z5 z6 z7 z8 z9 f0 f1 f2 f3 f4 f5 f6 f7 f8 f9 R16
  unfold put10 at B17 K17 D17
  simp only at B17 K17 D17
  generalize (((((((((u16.setCell ⟨u.heap.size, 0, none⟩ (.int .i64 tos)).setCell ⟨u.heap.size, 1, none⟩ (.int .i64 id4)).setCell ⟨u.heap.size, 2, none⟩ (.int .i64 off)).setCell ⟨u.heap.size, 3, none⟩ (.int .i64 ttl)).setCell ⟨u.heap.size, 4, none⟩ (.int .i64 proto)).setCell ⟨u.heap.size, 5, none⟩ (.bool df)).setCell ⟨u.heap.size, 6, none⟩ (.bool mf)).setCell ⟨u.heap.size, 7, none⟩ (.string src)).setCell ⟨u.heap.size, 8, none⟩ (.string dst)).setCell ⟨u.heap.size, 9, none⟩ (.string opt) = W at *
  have ⟨c0, c1, c2, c3, c4, c5, c6, c7, c8, c9⟩ := Hc.of B17
  simp only at c0 c1 c2 c3 c4 c5 c6 c7 c8 c9
  refine ⟨rfl, .agg (hdr p).cells, ?_, K17, Or.inl ⟨G0.out, rfl, by rw [HZP.out]; exact D17⟩⟩
  rw [HE.out]
  unfold H4.cells
  simp [results, Try.results27, go_sem, c0, c1, c2, c3, c4, c5, c6, c7, c8, c9]

end Go.Proofs.Ytdljioacbpabbaa
