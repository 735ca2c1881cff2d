/-
  readHeader: a packet's header, read by a reader that is stopped.
-/
import Derived.Test.YtbaddhjlpahpkaaIp6Check
import Derived.Test.YtbaddhjlpahpkaaRdDo
import Derived.Deep.CutBlock
import Derived.Deep.DeepCutAuto
namespace Go.Proofs.Ytbaddhjlpahpkaa
open Go.RowKit
set_option linter.unusedVariables false

/-- A header stored into a block, cell by cell. -/
def put6c (v : World) (N : Nat) (h : H6) : World :=
  (((((v.setCell ⟨N, 0, none⟩ (.int .i64 h.cls)).setCell ⟨N, 1, none⟩ (.int .i64 h.lab)).setCell ⟨N, 2, none⟩ (.int .i64 h.nxt)).setCell ⟨N, 3, none⟩ (.int .i64 h.hops)).setCell ⟨N, 4, none⟩ (.string h.src)).setCell ⟨N, 5, none⟩ (.string h.dst)
theorem Blk.seth6 {v : World} {N : Nat} {T : TypeId} {h : H6} (hb : Blk v N h.cells T) (h' : H6) (k : Nat) (x : Value) (hx : h.cells.setIfInBounds k x = h'.cells) : Blk (v.setCell ⟨N, k, none⟩ x) N h'.cells T := by
  rw [← hx]; exact hb.set k x
theorem put6c_blk {v : World} {N : Nat} {g : H6} {T : TypeId} (hb : Blk v N g.cells T) (h : H6) : Blk (put6c v N h) N h.cells T := by
  unfold put6c
  refine Blk.seth6 (h := ⟨h.cls, h.lab, h.nxt, h.hops, h.src, g.dst⟩) ?_ h 5 _ rfl
  refine Blk.seth6 (h := ⟨h.cls, h.lab, h.nxt, h.hops, g.src, g.dst⟩) ?_ _ 4 _ rfl
  refine Blk.seth6 (h := ⟨h.cls, h.lab, h.nxt, g.hops, g.src, g.dst⟩) ?_ _ 3 _ rfl
  refine Blk.seth6 (h := ⟨h.cls, h.lab, g.nxt, g.hops, g.src, g.dst⟩) ?_ _ 2 _ rfl
  refine Blk.seth6 (h := ⟨h.cls, g.lab, g.nxt, g.hops, g.src, g.dst⟩) ?_ _ 1 _ rfl
  exact Blk.seth6 (h := g) hb _ 0 _ rfl
theorem put6c_kb {S : Nat → Prop} {u v : World} {N : Nat} (hk : Kb S u v) (hN : N < u.heap.size → S N) (h : H6) : Kb S u (put6c v N h) := by
  unfold put6c
  exact (((((hk.setCell (p := ⟨N, 0, none⟩) hN _).setCell (p := ⟨N, 1, none⟩) hN _).setCell (p := ⟨N, 2, none⟩) hN _).setCell (p := ⟨N, 3, none⟩) hN _).setCell (p := ⟨N, 4, none⟩) hN _).setCell (p := ⟨N, 5, none⟩) hN _

/-- While it reads: the reader, the answer's block, and what was there. -/
structure Rw6 (u v : World) (R : Nat) (p : ByteArray) (i : Nat) : Prop where
  rd : Rd v R p i
  kb : Kb (· = R) u v
  zb : Blk v u.heap.size H6.zero.cells 23
  lt : R < u.heap.size
theorem Rw6.step {u v v' : World} {R : Nat} {p : ByteArray} {i j : Nat} (r : Rw6 u v R p i) (hr : Rd v' R p j) (hk : Kb (· = R) v v') : Rw6 u v' R p j :=
  ⟨hr, r.kb.trans hk, r.zb.kb hk (by have := r.lt; omega), r.lt⟩
theorem Rw6.new {u : World} {R : Nat} {p : ByteArray} {i : Nat} (hr : Rd u R p i) : Rw6 u (u.alloc (.cells H6.zero.cells 23)) R p i :=
  ⟨hr.alloc _, (Kb.refl _ _).alloc _, Blk.new u _ _, hr.lt⟩
theorem Rw6.below {u v v' : World} {R : Nat} {p : ByteArray} {i : Nat} (r : Rw6 u v R p i) (hb : Below v.heap.size v v') : Rw6 u v' R p i :=
  r.step ((hb.block _ r.rd.lt).trans r.rd) ⟨hb.os, hb.tape, hb.output, hb.size, fun k hk _ => hb.block k hk⟩
theorem Rw6.drewN {u v : World} {R : Nat} {p : ByteArray} {i : Nat} (r : Rw6 u v R p i) (n : Nat) : Rw6 u (v.drewN n) R p i :=
  ⟨r.rd.drewN n, r.kb.drewN n, r.zb.drewN n, r.lt⟩
theorem rw6_u8 {u v : World} {R : Nat} {p : ByteArray} {i : Nat} (r : Rw6 u v R p i) (hi : i + 1 ≤ p.size) (hs : p.size ≤ 1000000) :
    Calls Try.prog 33 #[.pointer (some ⟨R, 0, none⟩)] v fun e v' => e = .returned (.int .i64 (numOf p i 1)) ∧ Rw6 u v' R p (i + 1) :=
  (u8_yes R p i v r.rd hi (by unfold maxLen; omega)).mono fun e v' h => ⟨h.1, r.step h.2.1 h.2.2⟩
theorem rw6_u16 {u v : World} {R : Nat} {p : ByteArray} {i : Nat} (r : Rw6 u v R p i) (hi : i + 2 ≤ p.size) (hs : p.size ≤ 1000000) :
    Calls Try.prog 32 #[.pointer (some ⟨R, 0, none⟩)] v fun e v' => e = .returned (.int .i64 (numOf p i 2)) ∧ Rw6 u v' R p (i + 2) :=
  (u16_yes R p i v r.rd hi (by unfold maxLen; omega)).mono fun e v' h => ⟨h.1, r.step h.2.1 h.2.2⟩
theorem rw6_u32 {u v : World} {R : Nat} {p : ByteArray} {i : Nat} (r : Rw6 u v R p i) (hi : i + 4 ≤ p.size) (hs : p.size ≤ 1000000) :
    Calls Try.prog 31 #[.pointer (some ⟨R, 0, none⟩)] v fun e v' => e = .returned (.int .u32 (numOf p i 4)) ∧ Rw6 u v' R p (i + 4) :=
  (u32_yes R p i v r.rd hi (by unfold maxLen; omega)).mono fun e v' h => ⟨h.1, r.step h.2.1 h.2.2⟩
theorem rw6_take {u v : World} {R : Nat} {p : ByteArray} {i k : Nat} (r : Rw6 u v R p i) (hi : i + k ≤ p.size) (hs : p.size ≤ 1000000) :
    Calls Try.prog 34 #[.pointer (some ⟨R, 0, none⟩), .int .i64 k] v fun e v' => e = .returned (.string (p.extract i (i + k))) ∧ Rw6 u v' R p (i + k) := by
  refine (take_nat R p i k v r.rd hi (by unfold maxLen; omega)).mono ?_
  rintro e v' ⟨rfl, n, rfl⟩
  exact ⟨rfl, r.step ((r.rd.drewN n).set 1 _) (Kb.setCell (S := (· = R)) ((Kb.refl (· = R) v).drewN n) (p := ⟨R, 1, none⟩) (fun _ => rfl) (.int .i64 ((i + k : Nat) : Int)))⟩
theorem rw6_left {u v : World} {R : Nat} {p : ByteArray} {i : Nat} (r : Rw6 u v R p i) (hi : i ≤ p.size) (hs : p.size ≤ 1000000) :
    Calls Try.prog 30 #[.pointer (some ⟨R, 0, none⟩)] v fun e v' => e = .returned (.int .i64 ((p.size : Int) - i)) ∧ Rw6 u v' R p i := by
  refine (left_any R p i v r.rd hi (by unfold maxLen; omega)).mono ?_
  rintro e v' ⟨rfl, n, rfl⟩
  exact ⟨rfl, r.drewN n⟩

/-- How it ends. -/
def Head6End (u : World) (R : Nat) (p : ByteArray) (e : Ending) (u' : World) : Prop :=
  Kb (· = R) u u' ∧ ((get6E p = 0 ∧ e = .returned (.agg (hdr6 p).cells) ∧ Rd u' R p 40) ∨ (get6E p ≠ 0 ∧ e = .panicked (stopped (get6E p : Nat))))
theorem Head6End.stop {u u' : World} {R : Nat} {p : ByteArray} {k : Nat} (hk : Kb (· = R) u u') (he : get6E p = k) (h0 : k ≠ 0) : Head6End u R p (.panicked (stopped (k : Nat))) u' := by
  subst he; exact ⟨hk, Or.inr ⟨h0, rfl⟩⟩

set_option maxRecDepth 100000 in
set_option maxHeartbeats 1000000 in
theorem readHeader6_any (R : Nat) (p : ByteArray) (u : World) (hr : Rd u R p 0) (hs : p.size ≤ 1000000) :
    Calls Try.prog 22 #[.pointer (some ⟨R, 0, none⟩)] u (Head6End u R p) := by
  have R0 := Lib.hid (Rw6.new hr)
  clear hr
  go_enter Try.func22, Try.ntmps22
  go_wp2_with fail
  simp only [show #[Value.int IntKind.i64 0, Value.int IntKind.i64 0, Value.int IntKind.i64 0, Value.int IntKind.i64 0, Value.string { data := #[] }, Value.string { data := #[] }] = H6.zero.cells from rfl]
  generalize u.alloc (.cells H6.zero.cells 23) = u0 at *
  refine (rw6_left R0.out (by omega) hs).mono ?_
  rintro e v0 ⟨rfl, r0⟩
  have V0 := Lib.hid r0
  clear r0 R0
  by_cases hp : 40 ≤ p.size
  case neg =>
    have t0 : decide ((40 : Int) ≤ (p.size : Int) - (0 : Nat)) = false := by simp; omega
    go_wp2_with fail
    refine (need_no _ _ _ _ (by simp; omega)).mono ?_
    rintro e w' ⟨rfl, rfl⟩
    exact ⟨rfl, Head6End.stop (k := 2) V0.out.kb (get6E_short hp) (by decide)⟩
  have E3 := Lib.hid (get6E_ver hp)
  have E4 := Lib.hid (get6E_len hp)
  have E0 := Lib.hid (get6E_ok hp)
  go_wp2_with fail
  refine (need_yes _ _ _ _ (by simp; omega)).mono ?_
  rintro e w' ⟨rfl, rfl⟩
  go_wp2_with fail
  refine (rw6_u32 V0.out (by omega) hs).mono ?_
  rintro e v1 ⟨rfl, r1⟩
  have V1 : Hid (Rw6 u v1 R p 4) := r1
  clear r1 V0
  have hnl := numOf_lt p 0 4 (by omega)
  have HD : Hid (hdr6 p = ⟨(numOf p 0 4 / 1048576 % 256 : Nat), (numOf p 0 4 % 1048576 : Nat), numOf p 6 1, numOf p 7 1, p.extract 8 24, p.extract 24 40⟩) := rfl
  generalize numOf p 0 4 = n at *
  have hnl2 : n < 4294967296 := hnl
  clear hnl
  go_wp2_with fail
  by_cases hv : n / 268435456 = 6
  case neg =>
    refine (need_no _ _ _ _ (by simp; omega)).mono ?_
    rintro e w' ⟨rfl, rfl⟩
    exact ⟨rfl, Head6End.stop (k := 3) V1.out.kb (E3.out hv) (by decide)⟩
  refine (need_yes _ _ _ _ (by simp; omega)).mono ?_
  rintro e w' ⟨rfl, rfl⟩
  have HV := Lib.hid hv
  clear hv E3
  go_wp2_with fail
  refine (rw6_u16 V1.out (by omega) hs).mono ?_
  rintro e v2 ⟨rfl, r2⟩
  have V2 : Hid (Rw6 u v2 R p 6) := r2
  clear r2 V1
  generalize numOf p 4 2 = z at *
  go_wp2_with fail
  refine (rw6_u8 V2.out (by omega) hs).mono ?_
  rintro e v3 ⟨rfl, r3⟩
  have V3 : Hid (Rw6 u v3 R p 7) := r3
  clear r3 V2
  have hx6 := numOf_lt p 6 1 (by omega)
  generalize numOf p 6 1 = nx at *
  go_wp2_with fail
  refine (rw6_u8 V3.out (by omega) hs).mono ?_
  rintro e v4 ⟨rfl, r4⟩
  have V4 : Hid (Rw6 u v4 R p 8) := r4
  clear r4 V3
  have hx7 := numOf_lt p 7 1 (by omega)
  generalize numOf p 7 1 = hop at *
  go_wp2_with fail
  refine (rw6_take (k := 16) V4.out (by omega) hs).mono ?_
  rintro e v5 ⟨rfl, r5⟩
  have V5 : Hid (Rw6 u v5 R p 24) := r5
  clear r5 V4
  simp only [Nat.reduceAdd]
  generalize p.extract 8 24 = src at *
  go_wp2_with fail
  refine (rw6_take (k := 16) V5.out (by omega) hs).mono ?_
  rintro e v6 ⟨rfl, r6⟩
  have V6 : Hid (Rw6 u v6 R p 40) := r6
  clear r6 V5
  simp only [Nat.reduceAdd]
  generalize p.extract 24 40 = dst at *
  go_wp2_with fail
  refine (rw6_left V6.out hp hs).mono ?_
  rintro e v7 ⟨rfl, r7⟩
  have V7 := Lib.hid r7
  clear r7 V6
  go_wp2_with fail
  by_cases hl : z + 40 = p.size
  case neg =>
    refine (need_no _ _ _ _ (by simp; omega)).mono ?_
    rintro e w' ⟨rfl, rfl⟩
    exact ⟨rfl, Head6End.stop (k := 4) V7.out.kb (E4.out HV.out hl) (by decide)⟩
  refine (need_yes _ _ _ _ (by simp; omega)).mono ?_
  rintro e w' ⟨rfl, rfl⟩
  have G0 := Lib.hid (E0.out HV.out hl)
  have HCT : Hid (hdr6 p = (⟨(n : Int) / 1048576, (n : Int), nx, hop, src, dst⟩ : H6).cut) := by
    show hdr6 p = _
    rw [HD.out]
    unfold H6.cut
    simp only
    have hx6' : nx < 256 := hx6
    have hx7' : hop < 256 := hx7
    rw [show ((n / 1048576 % 256 : Nat) : Int) = (n : Int) / 1048576 % 256 by omega, show ((n % 1048576 : Nat) : Int) = (n : Int) % 1048576 by omega, show ((nx : Nat) : Int) % 256 = nx by omega, show ((hop : Nat) : Int) % 256 = hop by omega]
  have HC := Lib.hid (fun W => cut6_any ⟨(n : Int) / 1048576, (n : Int), nx, hop, src, dst⟩ W)
  rw [← HCT.out] at HC
  clear E4 E0 HV hl HD HCT hx6 hx7
  unfold H6.cells at HC
  simp only at HC
  go_wp2_with fail
  refine (HC.out _).mono ?_
  rintro e v8 ⟨rfl, hb8⟩
  have V8 := Lib.hid (V7.out.below hb8)
  clear V7 hb8 HC
  generalize hhd : hdr6 p = h at *
  have HH := Lib.hid hhd
  clear hhd
  have ⟨z0, z1, z2, z3, z4, z5⟩ := Hc6.of V8.out.zb
  simp only [H6.zero] at z0 z1 z2 z3 z4 z5
  have f0 := V8.out.zb.frozen 0
  have f1 := V8.out.zb.frozen 1
  have f2 := V8.out.zb.frozen 2
  have f3 := V8.out.zb.frozen 3
  have f4 := V8.out.zb.frozen 4
  have f5 := V8.out.zb.frozen 5
  go_wp2_with fail
  have B9 := put6c_blk V8.out.zb h
  have K9 := put6c_kb (N := u.heap.size) V8.out.kb (fun h => absurd h (by omega)) h
  have K10 := put6c_kb (S := (· = u.heap.size)) (N := u.heap.size) (Kb.refl _ v8) (fun _ => rfl) h
  have D9 : Rd _ R p 40 := V8.out.rd.kb K10 (by have := V8.out.lt; omega)
  clear K10 z0 z1 z2 z3 z4 z5 f0 f1 f2 f3 f4 f5 V8
  unfold put6c at B9 K9 D9
  generalize (((((v8.setCell ⟨u.heap.size, 0, none⟩ (.int .i64 h.cls)).setCell ⟨u.heap.size, 1, none⟩ (.int .i64 h.lab)).setCell ⟨u.heap.size, 2, none⟩ (.int .i64 h.nxt)).setCell ⟨u.heap.size, 3, none⟩ (.int .i64 h.hops)).setCell ⟨u.heap.size, 4, none⟩ (.string h.src)).setCell ⟨u.heap.size, 5, none⟩ (.string h.dst) = W at *
  have ⟨c0, c1, c2, c3, c4, c5⟩ := Hc6.of B9
  refine ⟨rfl, .agg (hdr6 p).cells, ?_, K9, Or.inl ⟨G0.out, rfl, D9⟩⟩
  rw [HH.out]
  unfold H6.cells
  simp [results, Try.results22, go_sem, c0, c1, c2, c3, c4, c5]

end Go.Proofs.Ytbaddhjlpahpkaa
