/-
  Get: the call itself.
-/
import Derived.Test.YtbfcccfgphelhaaDoorGueGet
namespace Go.Proofs.YtbfcccfgphelhaaDoor
open Go.RowKit
set_option linter.unusedVariables false
set_option linter.unusedSimpArgs false

theorem call13get (args : Array Value) (u : World) : (callFunc 23 args).run Tryd.prog u = .ok (.enter 23 args) u := by kernel_rfl

/-- Four blocks made one behind the other. -/
structure Blks4 (w u : World) (x0 x1 x2 x3 : Array Value) (t0 t1 t2 t3 : TypeId) : Prop where
  b0 : Blk u w.heap.size x0 t0
  b1 : Blk u (w.heap.size + 1) x1 t1
  b2 : Blk u (w.heap.size + 1 + 1) x2 t2
  b3 : Blk u (w.heap.size + 1 + 1 + 1) x3 t3
  bel : Below w.heap.size w u
  size : w.heap.size + 4 ≤ u.heap.size
theorem Blks4.new (w : World) (x0 x1 x2 x3 : Array Value) (t0 t1 t2 t3 : TypeId) : Blks4 w ((((w.alloc (.cells x0 t0)).alloc (.cells x1 t1)).alloc (.cells x2 t2)).alloc (.cells x3 t3)) x0 x1 x2 x3 t0 t1 t2 t3 := by
  have e1 := Blk.new w x0 t0
  have b1 : Below w.heap.size w (w.alloc (.cells x0 t0)) := (Below.refl _ _).alloc (Nat.le_refl _) _
  have s1 : (w.alloc (.cells x0 t0)).heap.size = w.heap.size + 1 := by simp
  generalize w.alloc (.cells x0 t0) = w1 at *
  have e2 := Blk.new w1 x1 t1
  have b2 : Below w.heap.size w (w1.alloc (.cells x1 t1)) := b1.alloc (by omega) _
  have s2 : (w1.alloc (.cells x1 t1)).heap.size = w.heap.size + 1 + 1 := by simp; omega
  have e1' := e1.alloc (.cells x1 t1)
  generalize w1.alloc (.cells x1 t1) = w2 at *
  have e3 := Blk.new w2 x2 t2
  have b3 : Below w.heap.size w (w2.alloc (.cells x2 t2)) := b2.alloc (by omega) _
  have s3 : (w2.alloc (.cells x2 t2)).heap.size = w.heap.size + 1 + 1 + 1 := by simp; omega
  have e1'' := e1'.alloc (.cells x2 t2)
  have e2' := e2.alloc (.cells x2 t2)
  generalize w2.alloc (.cells x2 t2) = w3 at *
  have e4 := Blk.new w3 x3 t3
  rw [s1] at e2'
  rw [s2] at e3
  rw [s3] at e4
  exact ⟨e1''.alloc _, e2'.alloc _, e3.alloc _, e4, b3.alloc (by omega) _, by simp; omega⟩
theorem Blks4.below {w u u' : World} {x0 x1 x2 x3 : Array Value} {t0 t1 t2 t3 : TypeId} (h : Blks4 w u x0 x1 x2 x3 t0 t1 t2 t3) (hb : Below u.heap.size u u') : Blks4 w u' x0 x1 x2 x3 t0 t1 t2 t3 :=
  ⟨(hb.block _ h.b0.lt).trans h.b0, (hb.block _ h.b1.lt).trans h.b1, (hb.block _ h.b2.lt).trans h.b2, (hb.block _ h.b3.lt).trans h.b3, h.bel.trans (hb.mono h.bel.size), by have := hb.size; have := h.size; omega⟩

/-- A head stored into a block, cell by cell. -/
def put13c (v : World) (N : Nat) (h : H13) : World := (v.setCell ⟨N, 0, none⟩ (.int .i64 h.port)).setCell ⟨N, 1, none⟩ (.bool h.sum)
theorem put13c_blk {v : World} {N : Nat} {g : H13} {T : TypeId} (hb : Blk v N g.cells T) (h : H13) : Blk (put13c v N h) N h.cells T :=
  (hb.set 0 (.int .i64 h.port)).set 1 (.bool h.sum)
theorem put13c_below {v : World} {N B : Nat} {a : World} (hb : Below B a v) (hN : B ≤ N) (h : H13) : Below B a (put13c v N h) := (hb.setCell (p := ⟨N, 0, none⟩) hN _).setCell (p := ⟨N, 1, none⟩) hN _

set_option maxRecDepth 100000 in
set_option maxHeartbeats 2000000 in
theorem get13_any (src dst b : ByteArray) (w : World) (hv : Vers w) (hs : src.size ≤ 400000) (hd : dst.size ≤ 400000) (hz : b.size ≤ 900000) :
    Calls Tryd.prog 11 #[.string src, .string dst, .string b] w (Tells (.tuple #[.agg (get13H src dst b).cells, .string (get13S src dst b), .int .i64 (get13E src dst b : Nat)]) w) := by
  have hmf : ∀ (fn : Fn) (first cap : Array Value) (w : World), (Instr.makeFunc fn first cap).run Tryd.prog w = .ok (.func fn first cap) w := fun _ _ _ _ => rfl
  have HU := Lib.hid (fun W => get8_any b W (by omega))
  have B0 := Lib.hid (Blks4.new w #[.string src] #[.string dst] #[.string b] H13.zero.cells 9 9 9 28)
  have V0 := Lib.hid (hv.on B0.out.bel)
  have HVL := Lib.hid hv.lt
  have HS := Lib.hid hs
  have HDs := Lib.hid hd
  have HZ := Lib.hid hz
  clear hv hs hd hz
  unfold Get8End at HU
  unfold Tells
  unfold D8.cells at HU
  go_enter Tryd.func11, Tryd.ntmps11
  go_wp2_with fail
  simp only [show #[Value.int IntKind.i64 0, Value.bool false] = H13.zero.cells from rfl]
  generalize (((w.alloc (.cells #[.string src] 9)).alloc (.cells #[.string dst] 9)).alloc (.cells #[.string b] 9)).alloc (.cells H13.zero.cells 28) = u0 at *
  refine (HU.out u0).mono ?_
  rintro e u1 ⟨rfl, hb⟩
  have B1 := Lib.hid (B0.out.below hb)
  have V1 := Lib.hid (V0.out.on hb)
  clear hb B0 V0 HU
  by_cases h1 : get8E b = 0
  case neg =>
    have HE : Hid (get13E src dst b = get8E b) := by
      show get13E src dst b = get8E b
      unfold get13E
      rw [if_pos h1]
    have HGG := Lib.hid (get13_err (src := src) (dst := dst) (b := b) (by rw [HE.out]; exact h1))
    have t1 : ((get8E b : Int) != 0) = true := by simp; omega
    clear h1
    obtain ⟨cs, hcs⟩ : ∃ cs : Array Value, cs = #[.int .i64 (get8H b).src, .int .i64 (get8H b).dst, .string (get8H b).pay] := ⟨_, rfl⟩
    have zb := (B1.out.b3.alloc (.cells cs 46)).alloc (.cells #[.int .i64 (get8N b : Nat)] 3)
    have bl := ((B1.out.bel.alloc B1.out.bel.size (.cells cs 46))).alloc (by have := B1.out.bel.size; simp; omega) (.cells #[.int .i64 (get8N b : Nat)] 3)
    subst hcs
    have ⟨z0, z1⟩ := Hc13.of zb
    simp only [H13.zero] at z0 z1
    have f0 := zb.frozen 0
    have f1 := zb.frozen 1
    have ZB := Lib.hid (put13c_blk zb H13.zero)
    have BL := Lib.hid (put13c_below bl (show w.heap.size ≤ w.heap.size + 1 + 1 + 1 by omega) H13.zero)
    clear zb bl
    unfold put13c H13.zero at ZB BL
    simp only at ZB BL
    go_wp2_with fail
    have ⟨c0, c1⟩ := Hc13.of ZB.out
    refine ⟨rfl, .tuple #[.agg H13.zero.cells, .string ⟨#[]⟩, .int .i64 (get8E b : Nat)], ?_, by rw [HGG.out.1, HGG.out.2, HE.out], BL.out⟩
    unfold H13.zero H13.cells
    simp [results, Tryd.results11, go_sem, c0, c1]
  have t1 : ((get8E b : Int) != 0) = false := by simp; omega
  have ⟨g1, g2⟩ := get8_ok h1
  rw [g1, g2]
  have HE := Lib.hid h1
  clear h1 g1 g2
  have B2 := Lib.hid (Blks4.new u1 (dat8 b).cells #[.int .i64 (numOf b 6 2 : Nat)] H13.zero.cells #[.string ⟨#[]⟩] 46 3 28 9)
  have B3 := Lib.hid (B1.out.below B2.out.bel)
  have V3 := Lib.hid (V1.out.on B2.out.bel)
  have HP : Hid ((dat8 b).pay = b.extract 8 b.size) := rfl
  go_wp2_with fail
  simp only [show #[Value.int IntKind.i64 0, Value.bool false] = H13.zero.cells from rfl, show #[Value.int IntKind.i64 (dat8 b).src, Value.int IntKind.i64 (dat8 b).dst, Value.string (dat8 b).pay] = (dat8 b).cells from rfl]
  rw [HP.out]
  generalize (((u1.alloc (.cells (dat8 b).cells 46)).alloc (.cells #[.int .i64 (numOf b 6 2 : Nat)] 3)).alloc (.cells H13.zero.cells 28)).alloc (.cells #[.string ⟨#[]⟩] 9) = u2 at *
  obtain ⟨N, hN⟩ : ∃ N, N = u1.heap.size := ⟨_, rfl⟩
  have HN : Hid (w.heap.size + 4 ≤ N) := by have := B1.out.size; show w.heap.size + 4 ≤ N; omega
  have HL : Hid (N + 4 ≤ u2.heap.size) := by have := B2.out.size; show N + 4 ≤ u2.heap.size; omega
  obtain ⟨d0, d1, d2, d3, _, _⟩ := B2.out
  rw [← hN] at d0 d1 d2 d3
  have D0 := Lib.hid d0
  have D1 := Lib.hid d1
  have D2 := Lib.hid d2
  have D3 := Lib.hid d3
  simp only [← hN]
  clear hN B2 V1 B1 d0 d1 d2 d3 HP
  have hH : N + 1 + 1 ≠ N + 1 + 1 + 1 := by omega
  have RD := read_kb (b.extract 8 b.size) 23 #[.pointer (some ⟨N, 0, none⟩), .pointer (some ⟨N + 1, 0, none⟩), .pointer (some ⟨w.heap.size, 0, none⟩), .pointer (some ⟨w.heap.size + 1, 0, none⟩), .pointer (some ⟨w.heap.size + 1 + 1, 0, none⟩), .pointer (some ⟨N + 1 + 1, 0, none⟩), .pointer (some ⟨N + 1 + 1 + 1, 0, none⟩)] u2 (fun k => k = N + 1 + 1 ∨ k = N + 1 + 1 + 1) (Got13At src dst b (N + 1 + 1) (N + 1 + 1 + 1))
    (fun k hk => by have := HL.out; omega) (fun args u => call13get args u) (fun R u hr hR hk => get131_any R N (N + 1) w.heap.size (w.heap.size + 1) (w.heap.size + 1 + 1) (N + 1 + 1) (N + 1 + 1 + 1) src dst b u HE.out HS.out HDs.out HZ.out (V3.out.kb hk (fun f => f)) hr
      (B3.out.b0.kb hk (fun f => f)) (B3.out.b1.kb hk (fun f => f)) (B3.out.b2.kb hk (fun f => f))
      (by have := HL.out; exact ⟨D0.out.kb hk (fun f => f), D1.out.kb hk (fun f => f), D2.out.kb hk (fun f => f), D3.out.kb hk (fun f => f), Kb.refl _ _, by omega, by omega, by omega, by omega, by omega, by omega, by omega, by omega, by omega⟩)
      (by have := HVL.out; have := B3.out.size; omega))
  refine RD.mono ?_
  rintro e w2 ⟨k, w1, rfl, ⟨rfl, hb1, hy1⟩, hk1, hk2⟩
  have hl := HL.out
  have hn := HN.out
  have H2 := Lib.hid (hb1.kb hk2 (by omega))
  have Y2 := Lib.hid (hy1.kb hk2 (by omega))
  have Z2 := Lib.hid ((B3.out.b3.kb hk1 (by omega)).kb hk2 (by omega))
  have L2 : Hid (Below w.heap.size w w2) := by
    show Below w.heap.size w w2
    have hb := B3.out.bel
    exact ⟨hk2.os.trans (hk1.os.trans hb.os), hk2.tape.trans (hk1.tape.trans hb.tape), hk2.output.trans (hk1.output.trans hb.output), Nat.le_trans hb.size (Nat.le_trans hk1.size hk2.size), fun k hk =>
      (hk2.block k (by have := hk1.size; omega) (by omega)).trans ((hk1.block k (by omega) (by omega)).trans (hb.block k hk))⟩
  clear hb1 hy1 hk1 hk2 RD B3 V3 HL HN hl hH hmf HVL D0 D1 D2 D3 HE t1
  have ⟨c0, c1⟩ := Hc13.of H2.out
  have cY := Y2.out.cell 0
  simp at cY
  have ⟨z0, z1⟩ := Hc13.of Z2.out
  simp only [H13.zero] at z0 z1
  have f0 := Z2.out.frozen 0
  have f1 := Z2.out.frozen 1
  have ne1 : ¬ N = w.heap.size := by omega
  have ne2 : ¬ w.heap.size = N := by omega
  generalize hgh : get13H src dst b = h at *
  have HGH := Lib.hid hgh
  clear hgh
  go_wp2_with fail
  go_region
  clear c0 c1 cY z0 z1 f0 f1
  go_wp2_with fail
  have C3 := (put13c_blk Z2.out h).drew
  have L3 := below_drewN (put13c_below L2.out (show w.heap.size ≤ w.heap.size + 1 + 1 + 1 by omega) h) 1
  clear Z2 Y2 H2 L2
  unfold put13c at C3 L3
  have ⟨c0, c1⟩ := Hc13.of C3
  refine ⟨rfl, .tuple #[.agg h.cells, .string (get13S src dst b), .int .i64 (get13E src dst b : Nat)], ?_, by rw [HGH.out], L3⟩
  unfold H13.cells
  simp [results, Tryd.results11, go_sem, c0, c1]

end Go.Proofs.YtbfcccfgphelhaaDoor
