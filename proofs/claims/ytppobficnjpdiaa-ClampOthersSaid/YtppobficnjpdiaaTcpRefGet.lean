/-
  The document's own Get.
-/
import Derived.Test.YtppobficnjpdiaaTcpD
import Derived.Test.YtppobficnjpdiaaTcpC
import Derived.Test.YtppobficnjpdiaaGround
import Derived.Deep.CutBlock
import Derived.Deep.DeepCutAuto
namespace Go.Proofs.Ytppobficnjpdiaa
open Go.RowKit
set_option linter.unusedVariables false

/-- The document's Get's end. -/
def Ref7Got (p : ByteArray) (w : World) (e : Ending) (w' : World) : Prop := e = .returned (.tuple #[.agg (get7H p).cells, .int .i64 (get7N p : Nat), .int .i64 (get7E p : Nat)]) ∧ Below w.heap.size w w'

/-- Its blocks: the answer, and none. -/
structure G7 (w u : World) : Prop where
  z : Blk u w.heap.size S7.zero.cells 49
  n : Blk u (w.heap.size + 1) S7.zero.cells 49
  bel : Below w.heap.size w u
theorem G7.below {w u u' : World} (g : G7 w u) (hb : Below u.heap.size u u') : G7 w u' :=
  ⟨(hb.block _ g.z.lt).trans g.z, (hb.block _ g.n.lt).trans g.n, g.bel.trans (hb.mono g.bel.size)⟩
theorem refget7_ret {W : World} {tmps : Array Value} {k s : Int} {h : S7} {N : Nat} (hB : Blk W N h.cells 49) (t2 : tmps.getD 2 undef = .pointer (some ⟨N, 0, none⟩)) (t3 : tmps.getD 3 undef = .int .i64 s) (t4 : tmps.getD 4 undef = .int .i64 k) :
    (results Try.f39 tmps).run Try.prog W = .ok (.tuple #[.agg h.cells, .int .i64 s, .int .i64 k]) W := by
  have ⟨c0, c1, c2, c3, c4, c5, c6, c7, c8⟩ := Hc7.of hB
  unfold S7.cells
  simp at t2 t3 t4
  simp [results, Try.results39, go_sem, t2, t3, t4, c0, c1, c2, c3, c4, c5, c6, c7, c8]
theorem refget7_stop {w u : World} {p : ByteArray} {tmps : Array Value} {k : Nat} (g : G7 w u) (he : get7E p = k) (h0 : k ≠ 0) (t2 : tmps.getD 2 undef = .pointer (some ⟨w.heap.size, 0, none⟩)) (t3 : tmps.getD 3 undef = .int .i64 0) (t4 : tmps.getD 4 undef = .int .i64 (k : Nat)) :
    bodyPost Try.prog Try.f39 (Ref7Got p w) Exit.ret { tmps := tmps, defers := [] } (((((((((u.setCell ⟨w.heap.size, 0, none⟩ (.int .i64 0)).setCell ⟨w.heap.size, 1, none⟩ (.int .i64 0)).setCell ⟨w.heap.size, 2, none⟩ (.int .u32 0)).setCell ⟨w.heap.size, 3, none⟩ (.int .u32 0)).setCell ⟨w.heap.size, 4, none⟩ (.int .i64 0)).setCell ⟨w.heap.size, 5, none⟩ (.int .i64 0)).setCell ⟨w.heap.size, 6, none⟩ (.int .i64 0)).setCell ⟨w.heap.size, 7, none⟩ (.string ⟨#[]⟩)).setCell ⟨w.heap.size, 8, none⟩ (.string ⟨#[]⟩)) := by
  have hg := get7_err (b := p) (by omega)
  have hB := put7c_blk g.z S7.zero
  have hK := put7c_kb (S := fun k => w.heap.size ≤ k) (u := w) (N := w.heap.size) ⟨g.bel.os, g.bel.tape, g.bel.output, g.bel.size, fun k hk _ => g.bel.block k hk⟩ (fun _ => Nat.le_refl _) S7.zero
  refine ⟨rfl, _, refget7_ret (h := S7.zero) hB t2 t3 t4, ?_, hK.below (Nat.le_refl _)⟩
  rw [hg.1, hg.2, he]
  rfl

theorem refget7_done {w u : World} {V : Nat} {p : ByteArray} {tmps : Array Value} {a0 a1 a2 a3 a4 a5 a6 k : Int} {a7 a8 : ByteArray} (g : G7 w u) (he : get7E p = 0) (hh : (⟨a0, a1, a2, a3, a4, a5, a6, a7, a8⟩ : S7) = seg7 p) (hk : k = (numOf p 16 2 : Nat)) (t2 : tmps.getD 2 undef = .pointer (some ⟨w.heap.size, 0, none⟩)) (t3 : tmps.getD 3 undef = .int .i64 k) (t4 : tmps.getD 4 undef = .int .i64 0) :
    bodyPost Try.prog Try.f39 (Ref7Got p w) Exit.ret { tmps := tmps, defers := [] } (((((((((u.setCell ⟨w.heap.size, 0, none⟩ (.int .i64 a0)).setCell ⟨w.heap.size, 1, none⟩ (.int .i64 a1)).setCell ⟨w.heap.size, 2, none⟩ (.int .u32 a2)).setCell ⟨w.heap.size, 3, none⟩ (.int .u32 a3)).setCell ⟨w.heap.size, 4, none⟩ (.int .i64 a4)).setCell ⟨w.heap.size, 5, none⟩ (.int .i64 a5)).setCell ⟨w.heap.size, 6, none⟩ (.int .i64 a6)).setCell ⟨w.heap.size, 7, none⟩ (.string a7)).setCell ⟨w.heap.size, 8, none⟩ (.string a8)) := by
  have hg := get7_ok he
  have hB := put7c_blk g.z ⟨a0, a1, a2, a3, a4, a5, a6, a7, a8⟩
  have hK := put7c_kb (S := fun k => w.heap.size ≤ k) (u := w) (N := w.heap.size) ⟨g.bel.os, g.bel.tape, g.bel.output, g.bel.size, fun k hk _ => g.bel.block k hk⟩ (fun _ => Nat.le_refl _) ⟨a0, a1, a2, a3, a4, a5, a6, a7, a8⟩
  refine ⟨rfl, _, refget7_ret (h := ⟨a0, a1, a2, a3, a4, a5, a6, a7, a8⟩) hB t2 t3 t4, ?_, hK.below (Nat.le_refl _)⟩
  rw [hg.1, hg.2, he, ← hh, hk]
  rfl

/-- The ten numbers. -/
def vl (p : ByteArray) (k : Nat) : Array Value := ((List.range 10).map fun i => Value.int .i64 (if i < k then (numOf p (2 * i) 2 : Int) else 0)).toArray
theorem vl_get (p : ByteArray) (k j : Nat) (hj : j < 10) : (vl p k)[j]? = some (.int .i64 (if j < k then (numOf p (2 * j) 2 : Int) else 0)) := by
  simp [vl, hj]
theorem vl_set (p : ByteArray) (j : Nat) (hj : j < 10) : (vl p j).setIfInBounds j (.int .i64 (numOf p (2 * j) 2 : Int)) = vl p (j + 1) := by
  have : j = 0 ∨ j = 1 ∨ j = 2 ∨ j = 3 ∨ j = 4 ∨ j = 5 ∨ j = 6 ∨ j = 7 ∨ j = 8 ∨ j = 9 := by omega
  rcases this with rfl | rfl | rfl | rfl | rfl | rfl | rfl | rfl | rfl | rfl <;> rfl
theorem ints_made (p : ByteArray) (W : World) : (Instr.makeSlice 116 (.int .i64 10) (.int .i64 10)).run Try.prog W = .ok (.slice (some ⟨W.heap.size, 0, none⟩) 10 10) (W.alloc (.cells (vl p 0) 3)) := by
  obtain ⟨i0, hi, hz0, hz1, hz2⟩ := info_parts Try.infoI
  have h := run_make (P := Try.prog) (w := W) 116 3 i0 (.int .i64 0) Try.underlying116 hi hz0 .i64 .i64 10 10 (by decide) (by decide) (by rw [hz2]; decide) (by decide)
  rw [hz1] at h
  have e : madeCells (Value.int .i64 0).cells (Int.toNat 10 * 1) = vl p 0 := by
    have e1 : madeCells (Value.int .i64 0).cells (Int.toNat 10 * 1) = vl ⟨#[]⟩ 0 := by kernel_rfl
    rw [e1]
    rfl
  rw [e] at h
  exact h
/-- While they are read. -/
structure L7 (p : ByteArray) (w u : World) (V j : Nat) : Prop where
  g : G7 w u
  v : Blk u V (vl p j) 3
  ne : w.heap.size + 1 < V
theorem L7.step {p : ByteArray} {w u : World} {V j : Nat} (l : L7 p w u V j) (hj : j < 10) : L7 p w (u.setCell ⟨V, j, none⟩ (.int .i64 (numOf p (2 * j) 2 : Int))) V (j + 1) := by
  have hne := l.ne
  refine ⟨⟨l.g.z.set_other (by simp; omega) _, l.g.n.set_other (by simp; omega) _, l.g.bel.setCell (p := ⟨V, j, none⟩) (by simp; omega) _⟩, ?_, hne⟩
  rw [← vl_set p j hj]
  exact l.v.set j _
theorem G7.drew {w u : World} (g : G7 w u) : G7 w u.drew := ⟨g.z.drew, g.n.drew, ⟨g.bel.os, g.bel.tape, g.bel.output, g.bel.size, g.bel.block⟩⟩
/-- The ten numbers' cells stay, where the answer is stored. -/
theorem keepV {ud : World} {V N : Nat} {n0 n1 n2 n3 n4 n5 n6 n7 n8 n9 : Int} (s : S7) (hb : Blk ud V #[.int .i64 n0, .int .i64 n1, .int .i64 n2, .int .i64 n3, .int .i64 n4, .int .i64 n5, .int .i64 n6, .int .i64 n7, .int .i64 n8, .int .i64 n9] 3) (hne : V ≠ N) :
    (put7c ud N s).cell? ⟨V, 0, none⟩ = some (.int .i64 n0) ∧ (put7c ud N s).cell? ⟨V, 1, none⟩ = some (.int .i64 n1) ∧ (put7c ud N s).cell? ⟨V, 2, none⟩ = some (.int .i64 n2) ∧ (put7c ud N s).cell? ⟨V, 3, none⟩ = some (.int .i64 n3) ∧ (put7c ud N s).cell? ⟨V, 4, none⟩ = some (.int .i64 n4) ∧ (put7c ud N s).cell? ⟨V, 5, none⟩ = some (.int .i64 n5) ∧ (put7c ud N s).cell? ⟨V, 6, none⟩ = some (.int .i64 n6) ∧ (put7c ud N s).cell? ⟨V, 7, none⟩ = some (.int .i64 n7) ∧ (put7c ud N s).cell? ⟨V, 8, none⟩ = some (.int .i64 n8) ∧ (put7c ud N s).cell? ⟨V, 9, none⟩ = some (.int .i64 n9) := by
  have h := hb.kb (put7c_kb (S := (· = N)) (N := N) (Kb.refl _ ud) (fun _ => rfl) s) hne
  exact ⟨h.cell 0, h.cell 1, h.cell 2, h.cell 3, h.cell 4, h.cell 5, h.cell 6, h.cell 7, h.cell 8, h.cell 9⟩
/-- What a four-byte number is of two. -/
theorem num_4 (p : ByteArray) (i : Nat) (h : i + 4 ≤ p.size) : numOf p i 4 = numOf p i 2 * 65536 + numOf p (i + 2) 2 := by
  unfold numOf
  rw [sl_ext, sl_ext, sl_ext, ← sl_join p i (i + 2) (i + 4) (by omega) (by omega), val_append, sl_length p (i + 2) (i + 4) (by omega) h, show i + 2 + 2 = i + 4 by omega, show i + 4 - (i + 2) = 2 by omega]
theorem num_low (p : ByteArray) (i : Nat) (h : i + 2 ≤ p.size) : numOf p i 2 % 256 = numOf p (i + 1) 1 := by
  have h1 : (p[i + 1]'(by omega)).toNat < 256 := (p[i + 1]'(by omega)).toNat_lt
  rw [num_2 p i (by omega), num_1 p (i + 1) (by omega)]
  omega

set_option maxRecDepth 100000 in
set_option maxHeartbeats 4000000 in
theorem refget7_any (p : ByteArray) (w : World) (hs : p.size ≤ 1000000) :
    Calls Try.prog 39 #[.string p] w (Ref7Got p w) := by
  have G0 : Hid (G7 w ((w.alloc (.cells S7.zero.cells 49)).alloc (.cells S7.zero.cells 49))) := by
    have e2 := Blk.new (w.alloc (.cells S7.zero.cells 49)) S7.zero.cells 49
    rw [World.size_alloc] at e2
    exact ⟨(Blk.new w _ _).alloc _, e2, ((Below.refl _ w).alloc (Nat.le_refl _) _).alloc (by simp) _⟩
  have ints := ints_made p
  go_enter Try.func39, Try.ntmps39
  go_upto_if 14 with (fail)
  simp only [show #[Value.int IntKind.i64 0, Value.int IntKind.i64 0, Value.int IntKind.u32 0, Value.int IntKind.u32 0, Value.int IntKind.i64 0, Value.int IntKind.i64 0, Value.int IntKind.i64 0, Value.string { data := #[] }, Value.string { data := #[] }] = S7.zero.cells from rfl]
  generalize (w.alloc (.cells S7.zero.cells 49)).alloc (.cells S7.zero.cells 49) = u0 at *
  have ⟨c0, c1, c2, c3, c4, c5, c6, c7, c8⟩ := Hc7.of G0.out.z
  have ⟨d0, d1, d2, d3, d4, d5, d6, d7, d8⟩ := Hc7.of G0.out.n
  simp only [S7.zero] at c0 c1 c2 c3 c4 c5 c6 c7 c8 d0 d1 d2 d3 d4 d5 d6 d7 d8
  have f0 := G0.out.z.frozen 0
  have f1 := G0.out.z.frozen 1
  have f2 := G0.out.z.frozen 2
  have f3 := G0.out.z.frozen 3
  have f4 := G0.out.z.frozen 4
  have f5 := G0.out.z.frozen 5
  have f6 := G0.out.z.frozen 6
  have f7 := G0.out.z.frozen 7
  have f8 := G0.out.z.frozen 8
  by_cases hp : 20 ≤ p.size
  case neg =>
    have E2 := Lib.hid (get7E_short hp)
    have t0 : decide ((p.size : Int) < 20) = true := by simp; omega
    rw [t0]
    go_wp2_with fail
    exact refget7_stop (k := 2) G0.out E2.out (by decide) rfl rfl rfl
  have t0 : decide ((p.size : Int) < 20) = false := by simp; omega
  have E4 := Lib.hid (get7E_len hp)
  have E9 := Lib.hid (get7E_form hp)
  have E5 := Lib.hid (get7E_opts hp)
  have E0 := Lib.hid (get7E_ok hp)
  have h12 : 12 < p.size := by omega
  have l12 : (p[12]'h12).toNat < 256 := (p[12]'h12).toNat_lt
  have HOF : Hid (off7 p = (p[12]'h12).toNat / 16 * 4) := by
    show off7 p = (p[12]'h12).toNat / 16 * 4
    unfold off7
    rw [num_1 p 12 h12]
  have HN : Hid (numOf p 12 1 = (p[12]'h12).toNat) := num_1 p 12 h12
  rw [HN.out] at E9 E5 E0
  clear HN
  have HL : Hid (off7 p ≤ 60) := by show off7 p ≤ 60; rw [HOF.out]; omega
  have EZ : ((p[12]'h12).toNat : Int) / 16 * 4 = (off7 p : Int) := by rw [HOF.out]; omega
  have HSEG : Hid (seg7 p = ⟨numOf p 0 2, numOf p 2 2, numOf p 4 4, numOf p 8 4, numOf p 13 1, numOf p 14 2, numOf p 18 2, p.extract 20 (off7 p), p.extract (off7 p) p.size⟩) := rfl
  generalize off7 p = z at *
  by_cases h1 : z < 20
  · have EE := Lib.hid (E4.out (Or.inl h1))
    have t1 : decide ((z : Int) < 20) = true := by simp; omega
    clear h1
    go_wp2_with fail
    exact refget7_stop (k := 4) G0.out EE.out (by decide) rfl rfl rfl
  have t1 : decide ((z : Int) < 20) = false := by simp; omega
  by_cases h2 : p.size < z
  · have EE := Lib.hid (E4.out (Or.inr h2))
    have t2 : decide (p.size < z) = true := by simp; omega
    go_wp2_with fail
    exact refget7_stop (k := 4) G0.out EE.out (by decide) rfl rfl rfl
  have t2 : decide (p.size < z) = false := by simp; omega
  have hz12 : ¬ (z < 20 ∨ p.size < z) := by omega
  have F9 := Lib.hid (E9.out hz12)
  have F5 := Lib.hid (E5.out hz12)
  have F0 := Lib.hid (E0.out hz12)
  clear E4 E9 E5 E0 hz12
  by_cases h3 : (p[12]'h12).toNat % 16 = 0
  case neg =>
    have EE := Lib.hid (F9.out h3)
    have t3 : (((p[12]'h12).toNat : Int) % 16 != 0) = true := by simp; omega
    clear h3
    go_wp2_with fail
    exact refget7_stop (k := 9) G0.out EE.out (by decide) rfl rfl rfl
  have t3 : (((p[12]'h12).toNat : Int) % 16 != 0) = false := by simp; omega
  have E5 := Lib.hid (F5.out h3)
  have E0 := Lib.hid (F0.out h3)
  clear F9 F5 F0 h3
  have g20 : (20 : Int) ≤ (z : Int) := by omega
  have gz : z ≤ p.size := by omega
  have hosz : (p.extract 20 z).size ≤ 1000000 := by rw [ByteArray.size_extract]; omega
  have WK := Lib.hid (refwalk_any (p.extract 20 z) u0 hosz)
  go_wp2_with fail
  refine WK.out.mono ?_
  clear c0 c1 c2 c3 c4 c5 c6 c7 c8 d0 d1 d2 d3 d4 d5 d6 d7 d8 f0 f1 f2 f3 f4 f5 f6 f7 f8
  rintro e w1 ⟨hb1, ⟨hr, v, rfl, -⟩ | ⟨hr, rfl⟩⟩
  case inr =>
    have G1 := Lib.hid (G0.out.below hb1)
    have EE := Lib.hid (E5.out hr)
    clear hb1 hr G0 WK
    have ⟨c0, c1, c2, c3, c4, c5, c6, c7, c8⟩ := Hc7.of G1.out.z
    have ⟨d0, d1, d2, d3, d4, d5, d6, d7, d8⟩ := Hc7.of G1.out.n
    simp only [S7.zero] at c0 c1 c2 c3 c4 c5 c6 c7 c8 d0 d1 d2 d3 d4 d5 d6 d7 d8
    have f0 := G1.out.z.frozen 0
    have f1 := G1.out.z.frozen 1
    have f2 := G1.out.z.frozen 2
    have f3 := G1.out.z.frozen 3
    have f4 := G1.out.z.frozen 4
    have f5 := G1.out.z.frozen 5
    have f6 := G1.out.z.frozen 6
    have f7 := G1.out.z.frozen 7
    have f8 := G1.out.z.frozen 8
    go_wp2_with fail
    exact refget7_stop (k := 4) G1.out EE.out (by decide) rfl rfl rfl
  case inl =>
  have G1 := Lib.hid (G0.out.below hb1)
  have EE := Lib.hid (E0.out hr)
  clear hb1 hr G0 WK E0 E5
  have L0 : Hid (L7 p w (w1.alloc (.cells (vl p 0) 3)) w1.heap.size 0) := by
    refine ⟨⟨G1.out.z.alloc _, G1.out.n.alloc _, G1.out.bel.alloc G1.out.bel.size _⟩, Blk.new w1 _ _, ?_⟩
    exact G1.out.n.lt
  go_wp2_with fail
  generalize w1.alloc (.cells (vl p 0) 3) = u1 at *
  generalize w1.heap.size = V at *
  clear G1 ints
  go_loopw [10] (fun i wr => ∃ j : Nat, i = .int .i64 j ∧ j ≤ 10 ∧ Hid (L7 p w wr V j)) (fun i _ => 10 - (intOf i).toNat)
  case atStart => exact ⟨0, rfl, by decide, L0⟩
  case round =>
    obtain ⟨j, rfl, hj, hL⟩ := hrel
    by_cases hlt : j < 10
    · have VN := Lib.hid (fun W => value_num p (2 * j) 2 W (by omega) (by decide))
      have ln : numOf p (2 * j) 2 < 65536 := numOf_lt p (2 * j) 2 (by omega)
      have cv := (hL.out.v.cell j).trans (vl_get p j j hlt)
      have fv := hL.out.v.frozen j
      have L2 := Lib.hid (hL.out.step hlt)
      generalize numOf p (2 * j) 2 = nn at *
      clear hL
      have b1 : 2 * j + 2 ≤ p.size := by omega
      go_wp2_with fail
      refine (VN.out _).mono ?_
      rintro e w' ⟨rfl, rfl⟩
      clear VN
      go_wp2_with fail
      exact ⟨⟨j + 1, by go_num, by omega, L2⟩, by simp [intOf]; omega⟩
    · obtain rfl : j = 10 := by omega
      go_wp2_with fail
      have e0 : wr.cell? ⟨V, 0, none⟩ = some (.int .i64 (numOf p 0 2 : Int)) := (hL.out.v.cell 0).trans (vl_get p 10 0 (by decide))
      have e1 : wr.cell? ⟨V, 1, none⟩ = some (.int .i64 (numOf p 2 2 : Int)) := (hL.out.v.cell 1).trans (vl_get p 10 1 (by decide))
      have e2 : wr.cell? ⟨V, 2, none⟩ = some (.int .i64 (numOf p 4 2 : Int)) := (hL.out.v.cell 2).trans (vl_get p 10 2 (by decide))
      have e3 : wr.cell? ⟨V, 3, none⟩ = some (.int .i64 (numOf p 6 2 : Int)) := (hL.out.v.cell 3).trans (vl_get p 10 3 (by decide))
      have e4 : wr.cell? ⟨V, 4, none⟩ = some (.int .i64 (numOf p 8 2 : Int)) := (hL.out.v.cell 4).trans (vl_get p 10 4 (by decide))
      have e5 : wr.cell? ⟨V, 5, none⟩ = some (.int .i64 (numOf p 10 2 : Int)) := (hL.out.v.cell 5).trans (vl_get p 10 5 (by decide))
      have e6 : wr.cell? ⟨V, 6, none⟩ = some (.int .i64 (numOf p 12 2 : Int)) := (hL.out.v.cell 6).trans (vl_get p 10 6 (by decide))
      have e7 : wr.cell? ⟨V, 7, none⟩ = some (.int .i64 (numOf p 14 2 : Int)) := (hL.out.v.cell 7).trans (vl_get p 10 7 (by decide))
      have e8 : wr.cell? ⟨V, 8, none⟩ = some (.int .i64 (numOf p 16 2 : Int)) := (hL.out.v.cell 8).trans (vl_get p 10 8 (by decide))
      have e9 : wr.cell? ⟨V, 9, none⟩ = some (.int .i64 (numOf p 18 2 : Int)) := (hL.out.v.cell 9).trans (vl_get p 10 9 (by decide))
      have HV := Lib.hid (show L7 p w wr V 10 from hL.out)
      have m4 := num_4 p 4 (by omega)
      have m8 := num_4 p 8 (by omega)
      have m13 := num_low p 12 (by omega)
      simp only [Nat.reduceAdd] at m4 m8 m13
      rw [m4, m8, ← m13] at HSEG
      clear m4 m8 m13
      have l0 : numOf p 0 2 < 65536 := numOf_lt p 0 2 (by omega)
      have l1 : numOf p 2 2 < 65536 := numOf_lt p 2 2 (by omega)
      have l2 : numOf p 4 2 < 65536 := numOf_lt p 4 2 (by omega)
      have l3 : numOf p 6 2 < 65536 := numOf_lt p 6 2 (by omega)
      have l4 : numOf p 8 2 < 65536 := numOf_lt p 8 2 (by omega)
      have l5 : numOf p 10 2 < 65536 := numOf_lt p 10 2 (by omega)
      have l6 : numOf p 12 2 < 65536 := numOf_lt p 12 2 (by omega)
      have l7 : numOf p 14 2 < 65536 := numOf_lt p 14 2 (by omega)
      have l8 : numOf p 16 2 < 65536 := numOf_lt p 16 2 (by omega)
      have l9 : numOf p 18 2 < 65536 := numOf_lt p 18 2 (by omega)
      have VD : Hid (Blk wr.drew V #[.int .i64 (numOf p 0 2 : Int), .int .i64 (numOf p 2 2 : Int), .int .i64 (numOf p 4 2 : Int), .int .i64 (numOf p 6 2 : Int), .int .i64 (numOf p 8 2 : Int), .int .i64 (numOf p 10 2 : Int), .int .i64 (numOf p 12 2 : Int), .int .i64 (numOf p 14 2 : Int), .int .i64 (numOf p 16 2 : Int), .int .i64 (numOf p 18 2 : Int)] 3) := hL.out.v.drew
      generalize numOf p 0 2 = n0 at *
      generalize numOf p 2 2 = n1 at *
      generalize numOf p 4 2 = n2 at *
      generalize numOf p 6 2 = n3 at *
      generalize numOf p 8 2 = n4 at *
      generalize numOf p 10 2 = n5 at *
      generalize numOf p 12 2 = n6 at *
      generalize numOf p 14 2 = n7 at *
      generalize h8 : numOf p 16 2 = n8 at *
      generalize numOf p 18 2 = n9 at *
      have H8 := Lib.hid h8
      obtain ⟨b2, hb2⟩ : ∃ x : Int, x = (n2 : Int) * 65536 := ⟨_, rfl⟩
      obtain ⟨s2, hs2⟩ : ∃ x : Int, x = ((n2 * 65536 + n3 : Nat) : Int) := ⟨_, rfl⟩
      obtain ⟨b4, hb4⟩ : ∃ x : Int, x = (n4 : Int) * 65536 := ⟨_, rfl⟩
      obtain ⟨s4, hs4⟩ : ∃ x : Int, x = ((n4 * 65536 + n5 : Nat) : Int) := ⟨_, rfl⟩
      obtain ⟨g6, hf6⟩ : ∃ x : Int, x = ((n6 % 256 : Nat) : Int) := ⟨_, rfl⟩
      have q1 : IntKind.i64.wrap ((n2 : Int) * 65536) = b2 := by rw [IntWalk.i64_in _ (by omega), hb2]
      have q2 : IntKind.i64.wrap (b2 + (n3 : Int)) = s2 := by rw [IntWalk.i64_in _ (by omega)]; omega
      have q3 : IntKind.u32.wrap s2 = s2 := by rw [hs2, wrap_u32, Nat.mod_eq_of_lt (by omega)]
      have q4 : s2 % 4294967296 = s2 := by omega
      have q5 : IntKind.i64.wrap ((n4 : Int) * 65536) = b4 := by rw [IntWalk.i64_in _ (by omega), hb4]
      have q6 : IntKind.i64.wrap (b4 + (n5 : Int)) = s4 := by rw [IntWalk.i64_in _ (by omega)]; omega
      have q7 : IntKind.u32.wrap s4 = s4 := by rw [hs4, wrap_u32, Nat.mod_eq_of_lt (by omega)]
      have q8 : s4 % 4294967296 = s4 := by omega
      have q9 : (n6 : Int).tmod 256 = g6 := by rw [Int.tmod_eq_emod_of_nonneg (by omega)]; omega
      have q10 : (n6 : Int) % 256 = g6 := by omega
      obtain ⟨O, hO⟩ : ∃ O, p.extract 20 z = O := ⟨_, rfl⟩
      obtain ⟨Y, hY⟩ : ∃ Y, p.extract z p.size = Y := ⟨_, rfl⟩
      have HM : Hid ((⟨n0, n1, s2, s4, g6, n7, n9, O, Y⟩ : S7) = seg7 p) := by
        show (⟨n0, n1, s2, s4, g6, n7, n9, O, Y⟩ : S7) = seg7 p
        rw [HSEG.out, hs2, hs4, hf6, hO, hY]
      have g20n : 20 ≤ z := by omega
      have GD := Lib.hid hL.out.g.drew
      have NE := Lib.hid hL.out.ne
      clear hL hlt hj HSEG hb2 hs2 hb4 hs4 hf6 h8 HV L0 l12 t0 t1 t2 t3 EZ hosz
      refine wp_region_held_drew (S := (fun W => W.cell? ⟨V, 0, none⟩ = some (.int .i64 (n0 : Int)) ∧ W.cell? ⟨V, 1, none⟩ = some (.int .i64 (n1 : Int)) ∧ W.cell? ⟨V, 2, none⟩ = some (.int .i64 (n2 : Int)) ∧ W.cell? ⟨V, 3, none⟩ = some (.int .i64 (n3 : Int)) ∧ W.cell? ⟨V, 4, none⟩ = some (.int .i64 (n4 : Int)) ∧ W.cell? ⟨V, 5, none⟩ = some (.int .i64 (n5 : Int)) ∧ W.cell? ⟨V, 6, none⟩ = some (.int .i64 (n6 : Int)) ∧ W.cell? ⟨V, 7, none⟩ = some (.int .i64 (n7 : Int)) ∧ W.cell? ⟨V, 8, none⟩ = some (.int .i64 (n8 : Int)) ∧ W.cell? ⟨V, 9, none⟩ = some (.int .i64 (n9 : Int)))) (by kernel_rfl) ?_ (fun hHeld => ?_)
      · exact ⟨e0, e1, e2, e3, e4, e5, e6, e7, e8, e9⟩
      clear e0 e1 e2 e3 e4 e5 e6 e7 e8 e9
      have ⟨c0, c1, c2, c3, c4, c5, c6, c7, c8⟩ := Hc7.of GD.out.z
      simp only [S7.zero] at c0 c1 c2 c3 c4 c5 c6 c7 c8
      have f0 := GD.out.z.frozen 0
      have f1 := GD.out.z.frozen 1
      have f2 := GD.out.z.frozen 2
      have f3 := GD.out.z.frozen 3
      have f4 := GD.out.z.frozen 4
      have f5 := GD.out.z.frozen 5
      have f6 := GD.out.z.frozen 6
      have f7 := GD.out.z.frozen 7
      have f8 := GD.out.z.frozen 8
      generalize wr.drew = ud at *
      refine takeH_yes (i := 0) (d := some 62) (v := ?v1) rfl rfl (by kernel_rfl) (by kernel_rfl) (by kernel_rfl) (fun _ _ _ h => h) (by rfl) ?y1 (by assumption) ?_
      case y1 => (intro w hSw; (try dsimp only at hSw); go_simp <;> with_reducible rfl)
      simp only [Act.put, List.setIfInBounds_toArray, List.set_cons_zero, List.set_cons_succ]
      refine takeH_yes (i := 1) (d := some 63) (v := ?v2) rfl rfl (by kernel_rfl) (by kernel_rfl) (by kernel_rfl) (fun _ _ _ h => h) (by rfl) ?y2 (by assumption) ?_
      case y2 => (intro w hSw; (try dsimp only at hSw); go_simp <;> with_reducible rfl)
      simp only [Act.put, List.setIfInBounds_toArray, List.set_cons_zero, List.set_cons_succ]
      refine takeH_yes (i := 2) (d := some 64) (v := ?v3) rfl rfl (by kernel_rfl) (by kernel_rfl) (by kernel_rfl) (fun _ _ _ h => h) (by rfl) ?y3 (by assumption) ?_
      case y3 => (intro w hSw; (try dsimp only at hSw); go_simp <;> with_reducible rfl)
      simp only [Act.put, List.setIfInBounds_toArray, List.set_cons_zero, List.set_cons_succ]
      refine takeH_yes (i := 3) (d := some 65) (v := ?v4) rfl rfl (by kernel_rfl) (by kernel_rfl) (by kernel_rfl) (fun _ _ _ h => h) (by rfl) ?y4 (by assumption) ?_
      case y4 => (intro w hSw; (try dsimp only at hSw); go_simp <;> with_reducible rfl)
      simp only [Act.put, List.setIfInBounds_toArray, List.set_cons_zero, List.set_cons_succ]
      refine takeH_yes (i := 4) (d := some 66) (v := ?v5) rfl rfl (by kernel_rfl) (by kernel_rfl) (by kernel_rfl) (fun _ _ _ h => h) (by rfl) ?y5 (by assumption) ?_
      case y5 => (intro w hSw; (try dsimp only at hSw); go_simp <;> with_reducible rfl)
      simp only [Act.put, List.setIfInBounds_toArray, List.set_cons_zero, List.set_cons_succ]
      refine takeH_yes (i := 5) (d := some 67) (v := ?v6) rfl rfl (by kernel_rfl) (by kernel_rfl) (by kernel_rfl) (fun _ _ _ h => h) (by rfl) ?y6 (by assumption) ?_
      case y6 => (intro w hSw; (try dsimp only at hSw); go_simp <;> with_reducible rfl)
      simp only [Act.put, List.setIfInBounds_toArray, List.set_cons_zero, List.set_cons_succ]
      refine takeH_yes (i := 6) (d := some 68) (v := ?v7) rfl rfl (by kernel_rfl) (by kernel_rfl) (by kernel_rfl) (fun _ _ _ h => h) (by rfl) ?y7 (by assumption) ?_
      case y7 => (intro w hSw; (try dsimp only at hSw); go_simp <;> with_reducible rfl)
      simp only [Act.put, List.setIfInBounds_toArray, List.set_cons_zero, List.set_cons_succ]
      refine takeH_yes (i := 7) (d := some 69) (v := ?v8) rfl rfl (by kernel_rfl) (by kernel_rfl) (by kernel_rfl) (fun _ _ _ h => h) (by rfl) ?y8 (by assumption) ?_
      case y8 => (intro w hSw; (try dsimp only at hSw); go_simp <;> with_reducible rfl)
      simp only [Act.put, List.setIfInBounds_toArray, List.set_cons_zero, List.set_cons_succ]
      refine takeH_yes (i := 8) (d := some 70) (v := ?v9) rfl rfl (by kernel_rfl) (by kernel_rfl) (by kernel_rfl) (fun _ _ _ h => h) (by rfl) ?y9 (by assumption) ?_
      case y9 => (intro w hSw; (try dsimp only at hSw); go_simp <;> with_reducible rfl)
      simp only [Act.put, List.setIfInBounds_toArray, List.set_cons_zero, List.set_cons_succ]
      refine takeH_yes (i := 9) (d := some 71) (v := .int .i64 b2) rfl rfl (by kernel_rfl) (by kernel_rfl) (by kernel_rfl) (fun _ _ _ h => h) (by rfl) ?y10 (by assumption) ?_
      case y10 => (intro w hSw; (try dsimp only at hSw); go_simp <;> with_reducible rfl)
      simp only [Act.put, List.setIfInBounds_toArray, List.set_cons_zero, List.set_cons_succ]
      refine takeH_yes (i := 10) (d := some 72) (v := ?v11) rfl rfl (by kernel_rfl) (by kernel_rfl) (by kernel_rfl) (fun _ _ _ h => h) (by rfl) ?y11 (by assumption) ?_
      case y11 => (intro w hSw; (try dsimp only at hSw); go_simp <;> with_reducible rfl)
      simp only [Act.put, List.setIfInBounds_toArray, List.set_cons_zero, List.set_cons_succ]
      refine takeH_yes (i := 11) (d := some 73) (v := ?v12) rfl rfl (by kernel_rfl) (by kernel_rfl) (by kernel_rfl) (fun _ _ _ h => h) (by rfl) ?y12 (by assumption) ?_
      case y12 => (intro w hSw; (try dsimp only at hSw); go_simp <;> with_reducible rfl)
      simp only [Act.put, List.setIfInBounds_toArray, List.set_cons_zero, List.set_cons_succ]
      refine takeH_yes (i := 12) (d := some 74) (v := ?v13) rfl rfl (by kernel_rfl) (by kernel_rfl) (by kernel_rfl) (fun _ _ _ h => h) (by rfl) ?y13 (by assumption) ?_
      case y13 => (intro w hSw; (try dsimp only at hSw); go_simp <;> with_reducible rfl)
      simp only [Act.put, List.setIfInBounds_toArray, List.set_cons_zero, List.set_cons_succ]
      refine takeH_yes (i := 13) (d := some 75) (v := .int .i64 s2) rfl rfl (by kernel_rfl) (by kernel_rfl) (by kernel_rfl) (fun _ _ _ h => h) (by rfl) ?y14 (by assumption) ?_
      case y14 => (intro w hSw; (try dsimp only at hSw); go_simp <;> with_reducible rfl)
      simp only [Act.put, List.setIfInBounds_toArray, List.set_cons_zero, List.set_cons_succ]
      refine takeH_yes (i := 14) (d := some 76) (v := .int .u32 s2) rfl rfl (by kernel_rfl) (by kernel_rfl) (by kernel_rfl) (fun _ _ _ h => h) (by rfl) ?y15 (by assumption) ?_
      case y15 => (intro w hSw; (try dsimp only at hSw); go_simp <;> with_reducible rfl)
      simp only [Act.put, List.setIfInBounds_toArray, List.set_cons_zero, List.set_cons_succ]
      refine takeH_yes (i := 15) (d := some 77) (v := ?v16) rfl rfl (by kernel_rfl) (by kernel_rfl) (by kernel_rfl) (fun _ _ _ h => h) (by rfl) ?y16 (by assumption) ?_
      case y16 => (intro w hSw; (try dsimp only at hSw); go_simp <;> with_reducible rfl)
      simp only [Act.put, List.setIfInBounds_toArray, List.set_cons_zero, List.set_cons_succ]
      refine takeH_yes (i := 16) (d := some 78) (v := ?v17) rfl rfl (by kernel_rfl) (by kernel_rfl) (by kernel_rfl) (fun _ _ _ h => h) (by rfl) ?y17 (by assumption) ?_
      case y17 => (intro w hSw; (try dsimp only at hSw); go_simp <;> with_reducible rfl)
      simp only [Act.put, List.setIfInBounds_toArray, List.set_cons_zero, List.set_cons_succ]
      refine takeH_yes (i := 17) (d := some 79) (v := ?v18) rfl rfl (by kernel_rfl) (by kernel_rfl) (by kernel_rfl) (fun _ _ _ h => h) (by rfl) ?y18 (by assumption) ?_
      case y18 => (intro w hSw; (try dsimp only at hSw); go_simp <;> with_reducible rfl)
      simp only [Act.put, List.setIfInBounds_toArray, List.set_cons_zero, List.set_cons_succ]
      refine takeH_yes (i := 18) (d := some 80) (v := .int .i64 b4) rfl rfl (by kernel_rfl) (by kernel_rfl) (by kernel_rfl) (fun _ _ _ h => h) (by rfl) ?y19 (by assumption) ?_
      case y19 => (intro w hSw; (try dsimp only at hSw); go_simp <;> with_reducible rfl)
      simp only [Act.put, List.setIfInBounds_toArray, List.set_cons_zero, List.set_cons_succ]
      refine takeH_yes (i := 19) (d := some 81) (v := ?v20) rfl rfl (by kernel_rfl) (by kernel_rfl) (by kernel_rfl) (fun _ _ _ h => h) (by rfl) ?y20 (by assumption) ?_
      case y20 => (intro w hSw; (try dsimp only at hSw); go_simp <;> with_reducible rfl)
      simp only [Act.put, List.setIfInBounds_toArray, List.set_cons_zero, List.set_cons_succ]
      refine takeH_yes (i := 20) (d := some 82) (v := ?v21) rfl rfl (by kernel_rfl) (by kernel_rfl) (by kernel_rfl) (fun _ _ _ h => h) (by rfl) ?y21 (by assumption) ?_
      case y21 => (intro w hSw; (try dsimp only at hSw); go_simp <;> with_reducible rfl)
      simp only [Act.put, List.setIfInBounds_toArray, List.set_cons_zero, List.set_cons_succ]
      refine takeH_yes (i := 21) (d := some 83) (v := ?v22) rfl rfl (by kernel_rfl) (by kernel_rfl) (by kernel_rfl) (fun _ _ _ h => h) (by rfl) ?y22 (by assumption) ?_
      case y22 => (intro w hSw; (try dsimp only at hSw); go_simp <;> with_reducible rfl)
      simp only [Act.put, List.setIfInBounds_toArray, List.set_cons_zero, List.set_cons_succ]
      refine takeH_yes (i := 22) (d := some 84) (v := .int .i64 s4) rfl rfl (by kernel_rfl) (by kernel_rfl) (by kernel_rfl) (fun _ _ _ h => h) (by rfl) ?y23 (by assumption) ?_
      case y23 => (intro w hSw; (try dsimp only at hSw); go_simp <;> with_reducible rfl)
      simp only [Act.put, List.setIfInBounds_toArray, List.set_cons_zero, List.set_cons_succ]
      refine takeH_yes (i := 23) (d := some 85) (v := .int .u32 s4) rfl rfl (by kernel_rfl) (by kernel_rfl) (by kernel_rfl) (fun _ _ _ h => h) (by rfl) ?y24 (by assumption) ?_
      case y24 => (intro w hSw; (try dsimp only at hSw); go_simp <;> with_reducible rfl)
      simp only [Act.put, List.setIfInBounds_toArray, List.set_cons_zero, List.set_cons_succ]
      refine takeH_yes (i := 24) (d := some 86) (v := ?v25) rfl rfl (by kernel_rfl) (by kernel_rfl) (by kernel_rfl) (fun _ _ _ h => h) (by rfl) ?y25 (by assumption) ?_
      case y25 => (intro w hSw; (try dsimp only at hSw); go_simp <;> with_reducible rfl)
      simp only [Act.put, List.setIfInBounds_toArray, List.set_cons_zero, List.set_cons_succ]
      refine takeH_yes (i := 25) (d := some 87) (v := ?v26) rfl rfl (by kernel_rfl) (by kernel_rfl) (by kernel_rfl) (fun _ _ _ h => h) (by rfl) ?y26 (by assumption) ?_
      case y26 => (intro w hSw; (try dsimp only at hSw); go_simp <;> with_reducible rfl)
      simp only [Act.put, List.setIfInBounds_toArray, List.set_cons_zero, List.set_cons_succ]
      refine takeH_yes (i := 26) (d := some 88) (v := ?v27) rfl rfl (by kernel_rfl) (by kernel_rfl) (by kernel_rfl) (fun _ _ _ h => h) (by rfl) ?y27 (by assumption) ?_
      case y27 => (intro w hSw; (try dsimp only at hSw); go_simp <;> with_reducible rfl)
      simp only [Act.put, List.setIfInBounds_toArray, List.set_cons_zero, List.set_cons_succ]
      refine takeH_yes (i := 27) (d := some 89) (v := .int .i64 g6) rfl rfl (by kernel_rfl) (by kernel_rfl) (by kernel_rfl) (fun _ _ _ h => h) (by rfl) ?y28 (by assumption) ?_
      case y28 => (intro w hSw; (try dsimp only at hSw); go_simp <;> with_reducible rfl)
      simp only [Act.put, List.setIfInBounds_toArray, List.set_cons_zero, List.set_cons_succ]
      refine takeH_yes (i := 28) (d := some 90) (v := ?v29) rfl rfl (by kernel_rfl) (by kernel_rfl) (by kernel_rfl) (fun _ _ _ h => h) (by rfl) ?y29 (by assumption) ?_
      case y29 => (intro w hSw; (try dsimp only at hSw); go_simp <;> with_reducible rfl)
      simp only [Act.put, List.setIfInBounds_toArray, List.set_cons_zero, List.set_cons_succ]
      refine takeH_yes (i := 29) (d := some 91) (v := ?v30) rfl rfl (by kernel_rfl) (by kernel_rfl) (by kernel_rfl) (fun _ _ _ h => h) (by rfl) ?y30 (by assumption) ?_
      case y30 => (intro w hSw; (try dsimp only at hSw); go_simp <;> with_reducible rfl)
      simp only [Act.put, List.setIfInBounds_toArray, List.set_cons_zero, List.set_cons_succ]
      refine takeH_yes (i := 30) (d := some 92) (v := ?v31) rfl rfl (by kernel_rfl) (by kernel_rfl) (by kernel_rfl) (fun _ _ _ h => h) (by rfl) ?y31 (by assumption) ?_
      case y31 => (intro w hSw; (try dsimp only at hSw); go_simp <;> with_reducible rfl)
      simp only [Act.put, List.setIfInBounds_toArray, List.set_cons_zero, List.set_cons_succ]
      refine takeH_yes (i := 31) (d := some 93) (v := ?v32) rfl rfl (by kernel_rfl) (by kernel_rfl) (by kernel_rfl) (fun _ _ _ h => h) (by rfl) ?y32 (by assumption) ?_
      case y32 => (intro w hSw; (try dsimp only at hSw); go_simp <;> with_reducible rfl)
      simp only [Act.put, List.setIfInBounds_toArray, List.set_cons_zero, List.set_cons_succ]
      refine takeH_yes (i := 32) (d := some 94) (v := ?v33) rfl rfl (by kernel_rfl) (by kernel_rfl) (by kernel_rfl) (fun _ _ _ h => h) (by rfl) ?y33 (by assumption) ?_
      case y33 => (intro w hSw; (try dsimp only at hSw); go_simp <;> with_reducible rfl)
      simp only [Act.put, List.setIfInBounds_toArray, List.set_cons_zero, List.set_cons_succ]
      refine takeH_yes (i := 33) (d := some 95) (v := ?v34) rfl rfl (by kernel_rfl) (by kernel_rfl) (by kernel_rfl) (fun _ _ _ h => h) (by rfl) ?y34 (by assumption) ?_
      case y34 => (intro w hSw; (try dsimp only at hSw); go_simp <;> with_reducible rfl)
      simp only [Act.put, List.setIfInBounds_toArray, List.set_cons_zero, List.set_cons_succ]
      refine takeH_yes (i := 34) (d := some 96) (v := ?v35) rfl rfl (by kernel_rfl) (by kernel_rfl) (by kernel_rfl) (fun _ _ _ h => h) (by rfl) ?y35 (by assumption) ?_
      case y35 => (intro w hSw; (try dsimp only at hSw); go_simp <;> with_reducible rfl)
      simp only [Act.put, List.setIfInBounds_toArray, List.set_cons_zero, List.set_cons_succ]
      refine takeH_yes (i := 35) (d := some 97) (v := ?v36) rfl rfl (by kernel_rfl) (by kernel_rfl) (by kernel_rfl) (fun _ _ _ h => h) (by rfl) ?y36 (by assumption) ?_
      case y36 => (intro w hSw; (try dsimp only at hSw); go_simp <;> with_reducible rfl)
      simp only [Act.put, List.setIfInBounds_toArray, List.set_cons_zero, List.set_cons_succ]
      refine takeH_yes (i := 36) (d := some 98) (v := .string O) rfl rfl (by kernel_rfl) (by kernel_rfl) (by kernel_rfl) (fun _ _ _ h => h) (by rfl) ?y37 (by assumption) ?_
      case y37 => (intro w hSw; (try dsimp only at hSw); go_simp <;> with_reducible rfl)
      simp only [Act.put, List.setIfInBounds_toArray, List.set_cons_zero, List.set_cons_succ]
      refine takeH_yes (i := 37) (d := some 99) (v := ?v38) rfl rfl (by kernel_rfl) (by kernel_rfl) (by kernel_rfl) (fun _ _ _ h => h) (by rfl) ?y38 (by assumption) ?_
      case y38 => (intro w hSw; (try dsimp only at hSw); go_simp <;> with_reducible rfl)
      simp only [Act.put, List.setIfInBounds_toArray, List.set_cons_zero, List.set_cons_succ]
      refine takeH_yes (i := 38) (d := some 100) (v := ?v39) rfl rfl (by kernel_rfl) (by kernel_rfl) (by kernel_rfl) (fun _ _ _ h => h) (by rfl) ?y39 (by assumption) ?_
      case y39 => (intro w hSw; (try dsimp only at hSw); go_simp <;> with_reducible rfl)
      simp only [Act.put, List.setIfInBounds_toArray, List.set_cons_zero, List.set_cons_succ]
      refine takeH_yes (i := 39) (d := some 101) (v := .string Y) rfl rfl (by kernel_rfl) (by kernel_rfl) (by kernel_rfl) (fun _ _ _ h => h) (by rfl) ?y40 (by assumption) ?_
      case y40 => (intro w hSw; (try dsimp only at hSw); go_simp <;> with_reducible rfl)
      simp only [Act.put, List.setIfInBounds_toArray, List.set_cons_zero, List.set_cons_succ]
      refine takeH_yes (i := 40) (d := some 102) (v := ?v41) rfl rfl (by kernel_rfl) (by kernel_rfl) (by kernel_rfl) (fun _ _ _ h => h) (by rfl) ?y41 (by assumption) ?_
      case y41 => (intro w hSw; (try dsimp only at hSw); go_simp <;> with_reducible rfl)
      simp only [Act.put, List.setIfInBounds_toArray, List.set_cons_zero, List.set_cons_succ]
      refine takeH_yes (i := 41) (d := some 103) (v := ?v42) rfl rfl (by kernel_rfl) (by kernel_rfl) (by kernel_rfl) (fun _ _ _ h => h) (by rfl) ?y42 (by assumption) ?_
      case y42 => (intro w hSw; (try dsimp only at hSw); go_simp <;> with_reducible rfl)
      simp only [Act.put, List.setIfInBounds_toArray, List.set_cons_zero, List.set_cons_succ]
      refine takeH_yes (i := 42) (d := some 104) (v := ?v43) rfl rfl (by kernel_rfl) (by kernel_rfl) (by kernel_rfl) (fun _ _ _ h => h) (by rfl) ?y43 (by assumption) ?_
      case y43 => (intro w hSw; (try dsimp only at hSw); go_simp <;> with_reducible rfl)
      simp only [Act.put, List.setIfInBounds_toArray, List.set_cons_zero, List.set_cons_succ]
      refine takeH_yes (i := 43) (d := some 105) (v := ?v44) rfl rfl (by kernel_rfl) (by kernel_rfl) (by kernel_rfl) (fun _ _ _ h => h) (by rfl) ?y44 (by assumption) ?_
      case y44 => (intro w hSw; (try dsimp only at hSw); go_simp <;> with_reducible rfl)
      simp only [Act.put, List.setIfInBounds_toArray, List.set_cons_zero, List.set_cons_succ]
      refine wpAnyH_ready (rs := [44]) (by kernel_rfl) (by simp) ?_
      refine AllReadyH.cons rfl (fun K hK => ?_) AllReadyH.nil
      go_simp
      refine hK.out _ _ ?_ (fun held44 => ?_)
      · exact keepV ⟨n0, n1, s2, s4, g6, n7, n9, O, Y⟩ VD.out (by have := NE.out; omega)
      clear hK K
      try simp only [Act.put, List.setIfInBounds_toArray, List.set_cons_zero, List.set_cons_succ]
      refine takeH_yes (i := 45) (d := some 3) (v := ?v45) rfl rfl (by kernel_rfl) (by kernel_rfl) (by kernel_rfl) (fun _ _ _ h => h) (by rfl) ?y45 (by assumption) ?_
      case y45 => (intro w hSw; (try dsimp only at hSw); go_simp <;> with_reducible rfl)
      simp only [Act.put, List.setIfInBounds_toArray, List.set_cons_zero, List.set_cons_succ]
      refine takeH_yes (i := 46) (d := some 4) (v := ?v46) rfl rfl (by kernel_rfl) (by kernel_rfl) (by kernel_rfl) (fun _ _ _ h => h) (by rfl) ?y46 (by assumption) ?_
      case y46 => (intro w hSw; (try dsimp only at hSw); go_simp <;> with_reducible rfl)
      simp only [Act.put, List.setIfInBounds_toArray, List.set_cons_zero, List.set_cons_succ]
      refine wpAnyH_done (by kernel_rfl) ?_ _
      clear c0 c1 c2 c3 c4 c5 c6 c7 c8 f0 f1 f2 f3 f4 f5 f6 f7 f8
      go_wp2_with fail
      exact refget7_done (V := V) GD.out EE.out HM.out (by rw [H8.out]) rfl rfl rfl

end Go.Proofs.Ytppobficnjpdiaa
