/-
  Get: what bytes say as a datagram.
-/
import Derived.Test.YtcalpkdgpiebmaaUdpRead
import Derived.RegionTactic
import Derived.BigRegion
import Derived.Test.YtcalpkdgpiebmaaTake
namespace Go.Proofs.Ytcalpkdgpiebmaa
open Go.RowKit
set_option linter.unusedVariables false

/-- What the closure leaves. -/
def Got8At (p : ByteArray) (H Y : Nat) (k : Int) (u : World) : Prop := k = (get8E p : Nat) ∧ Blk u H (get8H p).cells 23 ∧ Blk u Y #[.int .i64 (get8N p : Nat)] 3

/-- While the closure goes on: the reader, the answer's block, the sum's, and the head's. -/
structure Gw8 (u v : World) (R H Y N i : Nat) (p : ByteArray) (h : D8) (s : Array Value) : Prop where
  rd : Rd v R p i
  hb : Blk v H h.cells 23
  yb : Blk v Y #[.int .i64 0] 3
  nb : Blk v N s 44
  kb : Kb (fun k => (k = H ∨ k = Y) ∨ k = R) u v
  rh : R ≠ H
  ry : R ≠ Y
  hy : H ≠ Y
  nh : N ≠ H
  ny : N ≠ Y
  nr : N ≠ R
theorem Gw8.step {u v v' : World} {R H Y N i j : Nat} {p : ByteArray} {h : D8} {s : Array Value} (g : Gw8 u v R H Y N i p h s) (hr : Rd v' R p j) (hk : Kb (· = R) v v') : Gw8 u v' R H Y N j p h s :=
  ⟨hr, g.hb.kb hk (fun e => g.rh e.symm), g.yb.kb hk (fun e => g.ry e.symm), g.nb.kb hk g.nr, g.kb.trans (hk.mono (fun k _ e => Or.inr e)), g.rh, g.ry, g.hy, g.nh, g.ny, g.nr⟩
theorem Gw8.drew {u v : World} {R H Y N i : Nat} {p : ByteArray} {h : D8} {s : Array Value} (g : Gw8 u v R H Y N i p h s) : Gw8 u v.drew R H Y N i p h s :=
  ⟨g.rd, g.hb, g.yb, g.nb, g.kb.drew, g.rh, g.ry, g.hy, g.nh, g.ny, g.nr⟩
theorem Gw8.put {u v : World} {R H Y N i : Nat} {p : ByteArray} {h : D8} {s : Array Value} (g : Gw8 u v R H Y N i p h s) (h' : D8) (k : Nat) (x : Value) (hx : h.cells.setIfInBounds k x = h'.cells) : Gw8 u (v.setCell ⟨H, k, none⟩ x) R H Y N i p h' s := by
  refine ⟨g.rd.set_other g.rh _, ?_, g.yb.set_other g.hy.symm _, g.nb.set_other g.nh _, g.kb.setCell (p := ⟨H, k, none⟩) (fun _ => Or.inl (Or.inl rfl)) _, g.rh, g.ry, g.hy, g.nh, g.ny, g.nr⟩
  rw [← hx]; exact g.hb.set k x
theorem Gw8.put3 {u v : World} {R H Y N i : Nat} {p : ByteArray} {h : D8} {s : Array Value} (g : Gw8 u v R H Y N i p h s) (h' : D8) : Gw8 u (((v.setCell ⟨H, 0, none⟩ (.int .i64 h'.src)).setCell ⟨H, 1, none⟩ (.int .i64 h'.dst)).setCell ⟨H, 2, none⟩ (.string h'.pay)) R H Y N i p h' s :=
  ((g.put ⟨h'.src, h.dst, h.pay⟩ 0 _ rfl).put ⟨h'.src, h'.dst, h.pay⟩ 1 _ rfl).put h' 2 _ rfl
theorem gw8_rest {u v : World} {R H Y N i : Nat} {p : ByteArray} {h : D8} {s : Array Value} (g : Gw8 u v R H Y N i p h s) (hi : i ≤ p.size) (hs : p.size ≤ 1000000) :
    Calls Try.prog 23 #[.pointer (some ⟨R, 0, none⟩)] v fun e v' => e = .returned (.string (p.extract i p.size)) ∧ Gw8 u v' R H Y N p.size p h s := by
  refine (rest_any R p i v g.rd hi (by unfold maxLen; omega)).mono ?_
  rintro e v' ⟨rfl, n, rfl⟩
  exact ⟨rfl, g.step ((g.rd.drewN n).set 1 _) (Kb.setCell (S := (· = R)) ((Kb.refl (· = R) v).drewN n) (p := ⟨R, 1, none⟩) (fun _ => rfl) (.int .i64 (p.size : Int)))⟩

theorem keep8 {u v : World} {R H Y N i : Nat} {p : ByteArray} {h : D8} {a b c d : Value} (g : Gw8 u v R H Y N i p h #[a, b, c, d]) :
    v.cell? ⟨N, 0, none⟩ = some a ∧ v.cell? ⟨N, 1, none⟩ = some b ∧ v.cell? ⟨N, 2, none⟩ = some c ∧ v.cell? ⟨N, 3, none⟩ = some d :=
  ⟨g.nb.cell 0, g.nb.cell 1, g.nb.cell 2, g.nb.cell 3⟩

set_option maxRecDepth 100000 in
set_option maxHeartbeats 4000000 in
theorem get81_any (R X H Y : Nat) (p : ByteArray) (u : World) (hs : p.size ≤ 1000000) (hr : Rd u R p 0) (hX : Blk u X #[.string p] 9) (hH : Blk u H D8.zero.cells 23) (hY : Blk u Y #[.int .i64 0] 3) (h0 : R ≠ X) (h1 : R ≠ H) (h2 : R ≠ Y) (h3 : H ≠ Y) :
    Calls Try.prog 20 #[.pointer (some ⟨R, 0, none⟩), .pointer (some ⟨X, 0, none⟩), .pointer (some ⟨H, 0, none⟩), .pointer (some ⟨Y, 0, none⟩)] u (DoKb (fun k => k = H ∨ k = Y) R u (Got8At p H Y)) := by
  have HR := Lib.hid (readHead_any R p u hr hs)
  have HX := Lib.hid hX
  have N0 := Lib.hid h0
  have N1 := Lib.hid h1
  have N2 := Lib.hid h2
  have N3 := Lib.hid h3
  have HH := Lib.hid hH
  have HY := Lib.hid hY
  have HL := Lib.hid hs
  clear hr h0 h1 h2 h3 hH hY hX hs
  go_enter Try.func20, Try.ntmps20
  go_wp2_with fail
  refine HR.out.mono ?_
  rintro e u1 ⟨k1, ⟨g0, d1, rfl⟩ | ⟨g0, rfl⟩⟩
  case inr =>
    have GE := get8E_short (b := p) (by omega)
    have GG := get8_err (b := p) (by rw [GE]; decide)
    refine ⟨rfl, Or.inr ⟨2, rfl, by rw [GE]; rfl, ?_, ?_⟩, k1.mono (fun k _ e => Or.inr e)⟩
    · rw [GG.1]; exact HH.out.kb k1 (fun e => N1.out e.symm)
    · rw [GG.2]; exact HY.out.kb k1 (fun e => N2.out e.symm)
  have g1 : Gw8 u (u1.alloc (.cells (head8 p) 44)) R H Y u1.heap.size 8 p D8.zero (head8 p) := by
    have hb1 := HH.out.kb k1 (fun e => N1.out e.symm)
    have yb1 := HY.out.kb k1 (fun e => N2.out e.symm)
    have a1 := hb1.lt
    have a2 := yb1.lt
    have a3 : R < u1.heap.size := d1.lt
    exact ⟨d1.alloc _, hb1.alloc _, yb1.alloc _, Blk.new u1 _ _, (k1.mono (fun k _ e => Or.inr e)).alloc _, N1.out, N2.out, N3.out, by omega, by omega, by omega⟩
  have X1 := Lib.hid ((HX.out.kb k1 (fun e => N0.out e.symm)).alloc (.cells (head8 p) 44))
  clear HR HH HY HX k1 d1
  have HD : Hid (dat8 p = ⟨numOf p 0 2, numOf p 2 2, p.extract 8 p.size⟩) := rfl
  have cX := X1.out.cell 0
  have n0 := g1.nb.cell 0
  have n1 := g1.nb.cell 1
  have n2 := g1.nb.cell 2
  have n3 := g1.nb.cell 3
  have G1 := Lib.hid g1
  clear g1 X1
  unfold head8 at n0 n1 n2 n3 cX G1 ⊢
  unfold four at n0 n1 n2 n3 cX G1 ⊢
  simp only [List.getElem?_toArray, List.getElem?_cons_zero, List.getElem?_cons_succ] at n0 n1 n2 n3 cX
  by_cases hq : numOf p 4 2 = p.size
  case neg =>
    have GE := Lib.hid (get8E_len g0 hq)
    have HQ := Lib.hid hq
    clear hq HD
    go_wp2_with fail
    refine (need_no _ _ _ _ (by simp; have := HQ.out; omega)).mono ?_
    rintro e w' ⟨rfl, rfl⟩
    have GG := get8_err (b := p) (by rw [GE.out]; decide)
    refine ⟨rfl, Or.inr ⟨4, rfl, by rw [GE.out]; rfl, ?_, ?_⟩, G1.out.kb⟩
    · rw [GG.1]; exact G1.out.hb
    · rw [GG.2]; exact G1.out.yb
  have GE := Lib.hid (get8E_ok g0 hq)
  have GG := Lib.hid (get8_ok GE.out)
  have HQ := Lib.hid hq
  clear hq
  go_wp2_with fail
  refine (need_yes _ _ _ _ (by simp; have := HQ.out; omega)).mono ?_
  rintro e w' ⟨rfl, rfl⟩
  generalize u1.alloc (.cells #[.int .i64 (numOf p 0 2 : Int), .int .i64 (numOf p 2 2 : Int), .int .i64 (numOf p 4 2 : Int), .int .i64 (numOf p 6 2 : Int)] 44) = v1 at *
  generalize u1.heap.size = N at *
  generalize numOf p 0 2 = m0 at *
  generalize numOf p 2 2 = m1 at *
  generalize numOf p 4 2 = m2 at *
  generalize hm3 : numOf p 6 2 = m3 at *
  have HM3 := Lib.hid hm3
  clear hm3 cX
  obtain ⟨P, hP⟩ : ∃ P, p.extract 8 p.size = P := ⟨_, rfl⟩
  have HP := Lib.hid hP
  clear hP
  have G2 : Hid (Gw8 u v1.drew R H Y N 8 p D8.zero #[.int .i64 (m0 : Int), .int .i64 (m1 : Int), .int .i64 (m2 : Int), .int .i64 (m3 : Int)]) := Lib.hid G1.out.drew
  clear G1
  go_wp2_with fail
  refine wp_region_held_drew (S := (fun W => W.cell? ⟨N, 0, none⟩ = some (.int .i64 (m0 : Int)) ∧ W.cell? ⟨N, 1, none⟩ = some (.int .i64 (m1 : Int)) ∧ W.cell? ⟨N, 2, none⟩ = some (.int .i64 (m2 : Int)) ∧ W.cell? ⟨N, 3, none⟩ = some (.int .i64 (m3 : Int)))) (by kernel_rfl) ?_ (fun hHeld => ?_)
  · exact ⟨n0, n1, n2, n3⟩
  clear n0 n1 n2 n3
  generalize v1.drew = v2 at *
  refine takeH_yes (i := 0) (d := some 15) (v := ?v1) rfl rfl (by kernel_rfl) (by kernel_rfl) (by kernel_rfl) (fun _ _ _ h => h) (by rfl) ?y1 (by assumption) ?_
  case y1 => (intro w hSw; (try dsimp only at hSw); go_simp <;> with_reducible rfl)
  simp only [Act.put, List.setIfInBounds_toArray, List.set_cons_zero, List.set_cons_succ]
  refine takeH_yes (i := 1) (d := some 16) (v := ?v2) rfl rfl (by kernel_rfl) (by kernel_rfl) (by kernel_rfl) (fun _ _ _ h => h) (by rfl) ?y2 (by assumption) ?_
  case y2 => (intro w hSw; (try dsimp only at hSw); go_simp <;> with_reducible rfl)
  simp only [Act.put, List.setIfInBounds_toArray, List.set_cons_zero, List.set_cons_succ]
  refine takeH_yes (i := 2) (d := some 17) (v := ?v3) rfl rfl (by kernel_rfl) (by kernel_rfl) (by kernel_rfl) (fun _ _ _ h => h) (by rfl) ?y3 (by assumption) ?_
  case y3 => (intro w hSw; (try dsimp only at hSw); go_simp <;> with_reducible rfl)
  simp only [Act.put, List.setIfInBounds_toArray, List.set_cons_zero, List.set_cons_succ]
  refine takeH_yes (i := 3) (d := some 18) (v := ?v4) rfl rfl (by kernel_rfl) (by kernel_rfl) (by kernel_rfl) (fun _ _ _ h => h) (by rfl) ?y4 (by assumption) ?_
  case y4 => (intro w hSw; (try dsimp only at hSw); go_simp <;> with_reducible rfl)
  simp only [Act.put, List.setIfInBounds_toArray, List.set_cons_zero, List.set_cons_succ]
  refine takeH_yes (i := 4) (d := some 19) (v := ?v5) rfl rfl (by kernel_rfl) (by kernel_rfl) (by kernel_rfl) (fun _ _ _ h => h) (by rfl) ?y5 (by assumption) ?_
  case y5 => (intro w hSw; (try dsimp only at hSw); go_simp <;> with_reducible rfl)
  simp only [Act.put, List.setIfInBounds_toArray, List.set_cons_zero, List.set_cons_succ]
  refine takeH_yes (i := 7) (d := some 22) (v := ?v6) rfl rfl (by kernel_rfl) (by kernel_rfl) (by kernel_rfl) (fun _ _ _ h => h) (by rfl) ?y6 (by assumption) ?_
  case y6 => (intro w hSw; (try dsimp only at hSw); go_simp <;> with_reducible rfl)
  simp only [Act.put, List.setIfInBounds_toArray, List.set_cons_zero, List.set_cons_succ]
  refine takeH_yes (i := 8) (d := some 23) (v := ?v7) rfl rfl (by kernel_rfl) (by kernel_rfl) (by kernel_rfl) (fun _ _ _ h => h) (by rfl) ?y7 (by assumption) ?_
  case y7 => (intro w hSw; (try dsimp only at hSw); go_simp <;> with_reducible rfl)
  simp only [Act.put, List.setIfInBounds_toArray, List.set_cons_zero, List.set_cons_succ]
  refine wpAnyH_ready (rs := [5]) (by kernel_rfl) (by simp) ?_
  refine AllReadyH.cons rfl (fun K hK => ?_) AllReadyH.nil
  go_simp
  refine ((gw8_rest G2.out (by omega) HL.out)).mono ?_
  rintro e v3 ⟨rfl, g3⟩
  have G3 := Lib.hid g3
  clear g3 G2
  dsimp only
  refine hK.out _ _ ?_ (fun held5 => ?_)
  · exact keep8 G3.out
  clear hK K
  try simp only [Act.put, List.setIfInBounds_toArray, List.set_cons_zero, List.set_cons_succ]
  rw [HP.out]
  have ⟨z0, z1, z2⟩ := Hc8.of G3.out.hb
  simp only [D8.zero] at z0 z1 z2
  have f0 := G3.out.hb.frozen 0
  have f1 := G3.out.hb.frozen 1
  have f2 := G3.out.hb.frozen 2
  refine takeH_yes (i := 6) (d := some 21) (v := ?v8) rfl rfl (by kernel_rfl) (by kernel_rfl) (by kernel_rfl) (fun _ _ _ h => h) (by rfl) ?y8 (by assumption) ?_
  case y8 => (intro w hSw; (try dsimp only at hSw); go_simp <;> with_reducible rfl)
  simp only [Act.put, List.setIfInBounds_toArray, List.set_cons_zero, List.set_cons_succ]
  refine wpAnyH_ready (rs := [9]) (by kernel_rfl) (by simp) ?_
  refine AllReadyH.cons rfl (fun K hK => ?_) AllReadyH.nil
  go_simp
  refine hK.out _ _ ?_ (fun held9 => ?_)
  · exact keep8 (G3.out.put3 ⟨m0, m1, P⟩)
  clear hK K
  try simp only [Act.put, List.setIfInBounds_toArray, List.set_cons_zero, List.set_cons_succ]
  clear z0 z1 z2 f0 f1 f2
  have G4 := Lib.hid (G3.out.put3 ⟨m0, m1, P⟩)
  clear G3
  dsimp only at G4
  generalize ((v3.setCell ⟨H, 0, none⟩ (.int .i64 (m0 : Int))).setCell ⟨H, 1, none⟩ (.int .i64 (m1 : Int))).setCell ⟨H, 2, none⟩ (.string P) = v4 at *
  have cY := G4.out.yb.cell 0
  have fY := G4.out.yb.frozen 0
  simp at cY
  have G5 := Lib.hid (G4.out.yb.set 0 (.int .i64 (m3 : Int)))
  have G6 := Lib.hid (G4.out.hb.set_other (p := ⟨Y, 0, none⟩) G4.out.hy (.int .i64 (m3 : Int)))
  have G7 := Lib.hid (G4.out.kb.setCell (p := ⟨Y, 0, none⟩) (fun _ => Or.inl (Or.inr rfl)) (.int .i64 (m3 : Int)))
  have G8 := Lib.hid (G4.out.nb.set_other (p := ⟨Y, 0, none⟩) G4.out.ny (.int .i64 (m3 : Int)))
  refine wpAnyH_ready (rs := [10]) (by kernel_rfl) (by simp) ?_
  refine AllReadyH.cons rfl (fun K hK => ?_) AllReadyH.nil
  go_simp
  refine hK.out _ _ ?_ (fun held10 => ?_)
  · exact ⟨G8.out.cell 0, G8.out.cell 1, G8.out.cell 2, G8.out.cell 3⟩
  clear hK K
  try simp only [Act.put, List.setIfInBounds_toArray, List.set_cons_zero, List.set_cons_succ]
  refine wpAnyH_done (by kernel_rfl) ?_ _
  clear cY fY
  go_wp2_with fail
  go_end0
  refine ⟨Or.inl ⟨rfl, by rw [GE.out]; rfl, ?_, ?_⟩, G7.out⟩
  · rw [GG.out.1, HD.out, HP.out]; exact G6.out
  · rw [GG.out.2]; exact G5.out

/-- A datagram stored into a block, cell by cell. -/
def put8c (v : World) (N : Nat) (h : D8) : World := ((v.setCell ⟨N, 0, none⟩ (.int .i64 h.src)).setCell ⟨N, 1, none⟩ (.int .i64 h.dst)).setCell ⟨N, 2, none⟩ (.string h.pay)
theorem put8c_blk {v : World} {N : Nat} {g : D8} {T : TypeId} (hb : Blk v N g.cells T) (h : D8) : Blk (put8c v N h) N h.cells T :=
  ((hb.set 0 (.int .i64 h.src)).set 1 (.int .i64 h.dst)).set 2 (.string h.pay)
theorem put8c_kb {S : Nat → Prop} {u v : World} {N : Nat} (hk : Kb S u v) (hN : N < u.heap.size → S N) (h : D8) : Kb S u (put8c v N h) :=
  ((hk.setCell (p := ⟨N, 0, none⟩) hN _).setCell (p := ⟨N, 1, none⟩) hN _).setCell (p := ⟨N, 2, none⟩) hN _

theorem call8get (args : Array Value) (u : World) : (callFunc 20 args).run Try.prog u = .ok (.enter 20 args) u := by kernel_rfl

/-- Get's end. -/
def Get8End (p : ByteArray) (w : World) (e : Ending) (w' : World) : Prop := e = .returned (.tuple #[.agg (get8H p).cells, .int .i64 (get8N p : Nat), .int .i64 (get8E p : Nat)]) ∧ Below w.heap.size w w'

/-- Get's own blocks. -/
structure Get8Blks (p : ByteArray) (w u : World) : Prop where
  x : Blk u w.heap.size #[.string p] 9
  z : Blk u (w.heap.size + 1) D8.zero.cells 23
  h : Blk u (w.heap.size + 1 + 1) D8.zero.cells 23
  y : Blk u (w.heap.size + 1 + 1 + 1) #[.int .i64 0] 3
  bel : Below w.heap.size w u
  size : u.heap.size = w.heap.size + 4
theorem Get8Blks.new (p : ByteArray) (w : World) : Get8Blks p w ((((w.alloc (.cells #[.string p] 9)).alloc (.cells D8.zero.cells 23)).alloc (.cells D8.zero.cells 23)).alloc (.cells #[.int .i64 0] 3)) := by
  have e1 := Blk.new w #[.string p] 9
  have b1 : Below w.heap.size w (w.alloc (.cells #[.string p] 9)) := (Below.refl _ _).alloc (Nat.le_refl _) _
  have s1 : (w.alloc (.cells #[.string p] 9)).heap.size = w.heap.size + 1 := by simp
  generalize w.alloc (.cells #[.string p] 9) = w1 at *
  have e2 := Blk.new w1 D8.zero.cells 23
  have b2 : Below w.heap.size w (w1.alloc (.cells D8.zero.cells 23)) := b1.alloc (by omega) _
  have s2 : (w1.alloc (.cells D8.zero.cells 23)).heap.size = w.heap.size + 1 + 1 := by simp; omega
  have e1' := e1.alloc (.cells D8.zero.cells 23)
  generalize w1.alloc (.cells D8.zero.cells 23) = w2 at *
  have e3 := Blk.new w2 D8.zero.cells 23
  have b3 : Below w.heap.size w (w2.alloc (.cells D8.zero.cells 23)) := b2.alloc (by omega) _
  have s3 : (w2.alloc (.cells D8.zero.cells 23)).heap.size = w.heap.size + 1 + 1 + 1 := by simp; omega
  have e1'' := e1'.alloc (.cells D8.zero.cells 23)
  have e2' := e2.alloc (.cells D8.zero.cells 23)
  generalize w2.alloc (.cells D8.zero.cells 23) = w3 at *
  have e4 := Blk.new w3 #[.int .i64 0] 3
  rw [s1] at e2'
  rw [s2] at e3
  rw [s3] at e4
  exact ⟨e1''.alloc _, e2'.alloc _, e3.alloc _, e4, b3.alloc (by omega) _, by simp; omega⟩

set_option maxRecDepth 100000 in
set_option maxHeartbeats 2000000 in
theorem get8_any (p : ByteArray) (w : World) (hs : p.size ≤ 1000000) :
    Calls Try.prog 9 #[.string p] w (Get8End p w) := by
  have hmf : ∀ (fn : Fn) (first cap : Array Value) (w : World), (Instr.makeFunc fn first cap).run Try.prog w = .ok (.func fn first cap) w := fun _ _ _ _ => rfl
  have G := Lib.hid (Get8Blks.new p w)
  have HP : Hid (p.size ≤ 1000000) := hs
  clear hs
  go_enter Try.func9, Try.ntmps9
  go_wp2_with fail
  simp only [show #[Value.int IntKind.i64 0, Value.int IntKind.i64 0, Value.string { data := #[] }] = D8.zero.cells from rfl]
  generalize (((w.alloc (.cells #[.string p] 9)).alloc (.cells D8.zero.cells 23)).alloc (.cells D8.zero.cells 23)).alloc (.cells #[.int .i64 0] 3) = u0 at *
  have hH : w.heap.size + 1 + 1 ≠ w.heap.size + 1 + 1 + 1 := by omega
  have RD := read_kb p 20 #[.pointer (some ⟨w.heap.size, 0, none⟩), .pointer (some ⟨w.heap.size + 1 + 1, 0, none⟩), .pointer (some ⟨w.heap.size + 1 + 1 + 1, 0, none⟩)] u0 (fun k => k = w.heap.size + 1 + 1 ∨ k = w.heap.size + 1 + 1 + 1) (Got8At p (w.heap.size + 1 + 1) (w.heap.size + 1 + 1 + 1))
    (fun k hk => by have := G.out.size; omega) (fun args u => call8get args u) (fun R u hr hR hk => get81_any R w.heap.size (w.heap.size + 1 + 1) (w.heap.size + 1 + 1 + 1) p u HP.out hr (G.out.x.kb hk (fun f => f)) (G.out.h.kb hk (fun f => f)) (G.out.y.kb hk (fun f => f)) (by have := G.out.size; omega) (by have := G.out.size; omega) (by have := G.out.size; omega) hH)
  refine RD.mono ?_
  rintro e w2 ⟨k, w1, rfl, ⟨rfl, hb1, hy1⟩, hk1, hk2⟩
  have HS := G.out.size
  have B2 := Lib.hid (hb1.kb hk2 (by omega))
  have Y2 := Lib.hid (hy1.kb hk2 (by omega))
  have Z2 := Lib.hid ((G.out.z.kb hk1 (by omega)).kb hk2 (by omega))
  have L2 : Hid (Below w.heap.size w w2) := by
    show Below w.heap.size w w2
    have hb := G.out.bel
    exact ⟨hk2.os.trans (hk1.os.trans hb.os), hk2.tape.trans (hk1.tape.trans hb.tape), hk2.output.trans (hk1.output.trans hb.output), Nat.le_trans hb.size (Nat.le_trans hk1.size hk2.size), fun k hk =>
      (hk2.block k (by have := hk1.size; omega) (by omega)).trans ((hk1.block k (by omega) (by omega)).trans (hb.block k hk))⟩
  clear hb1 hy1 hk1 hk2 RD G HS hH hmf
  have ⟨c0, c1, c2⟩ := Hc8.of B2.out
  have cY := Y2.out.cell 0
  simp at cY
  have ⟨z0, z1, z2⟩ := Hc8.of Z2.out
  simp only [D8.zero] at z0 z1 z2
  have f0 := Z2.out.frozen 0
  have f1 := Z2.out.frozen 1
  have f2 := Z2.out.frozen 2
  generalize hgh : get8H p = h at *
  have HGH := Lib.hid hgh
  clear hgh
  go_wp2_with fail
  go_region
  clear c0 c1 c2 cY z0 z1 z2 f0 f1 f2
  go_wp2_with fail
  have B3 := (put8c_blk Z2.out h).drew
  have K3 := put8c_kb (S := fun k => w.heap.size ≤ k) (u := w) (N := w.heap.size + 1) ⟨L2.out.os, L2.out.tape, L2.out.output, L2.out.size, fun k hk _ => L2.out.block k hk⟩ (fun _ => by omega) h
  have L3 := K3.drew.below (Nat.le_refl _)
  clear K3 Z2 Y2 B2 L2
  unfold put8c at B3 L3
  generalize (((w2.setCell ⟨w.heap.size + 1, 0, none⟩ (.int .i64 h.src)).setCell ⟨w.heap.size + 1, 1, none⟩ (.int .i64 h.dst)).setCell ⟨w.heap.size + 1, 2, none⟩ (.string h.pay)).drew = W at *
  have ⟨c0, c1, c2⟩ := Hc8.of B3
  refine ⟨rfl, .tuple #[.agg (get8H p).cells, .int .i64 (get8N p : Nat), .int .i64 (get8E p : Nat)], ?_, rfl, L3⟩
  rw [HGH.out]
  unfold D8.cells
  simp [results, Try.results9, go_sem, c0, c1, c2]

end Go.Proofs.Ytcalpkdgpiebmaa
