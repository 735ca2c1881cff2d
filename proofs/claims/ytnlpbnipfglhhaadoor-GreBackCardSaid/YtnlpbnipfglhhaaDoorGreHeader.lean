/-
  A header's size and bytes. (Written by wip/tools/gengre.py.)
-/
import Derived.Test.YtnlpbnipfglhhaaDoorGreParts
import Derived.LoopN
namespace Go.Proofs.YtnlpbnipfglhhaaDoor
open Go.RowKit
set_option linter.unusedVariables false
set_option linter.unusedSimpArgs false

/-- While what stands behind the kind is written: the writer, the header's block, and the sum's. -/
structure Hs12 (h : H12) (own : Nat) (w u : World) (B H O : Nat) (bs : List UInt8) : Prop where
  wr : Wr u B (O + 1) bs
  hb : Blk u H h.cells 28
  ob : Blk u O #[.int .i64 (own : Nat)] 3
  bel : Below w.heap.size w u
  le : w.heap.size ≤ B ∧ B < H ∧ H < O ∧ O < u.heap.size
theorem Hs12.later {h : H12} {own : Nat} {w u u' : World} {B H O : Nat} {bs : List UInt8} (p : Hs12 h own w u B H O bs) (hb : Below u.heap.size u u') : Hs12 h own w u' B H O bs := by
  have le := p.le
  refine ⟨p.wr.later hb, (hb.block _ p.hb.lt).trans p.hb, (hb.block _ p.ob.lt).trans p.ob, p.bel.trans (hb.mono p.bel.size), ?_⟩
  have := hb.size
  omega
theorem Hs12.write {h : H12} {own : Nat} {w u u' : World} {B H O : Nat} {bs bs' : List UInt8} (p : Hs12 h own w u B H O bs) (hw : Wr u' B (O + 1) bs') (hk : Kb (fun k => k = B ∨ O + 1 ≤ k) u u') : Hs12 h own w u' B H O bs' := by
  have le := p.le
  refine ⟨hw, p.hb.kb hk (by omega), p.ob.kb hk (by omega), p.bel.trans ⟨hk.os, hk.tape, hk.output, hk.size, fun k hk1 => hk.block k (by have := p.bel.size; omega) (by omega)⟩, ?_⟩
  have := hk.size
  omega
theorem Hs12.of {h : H12} {own : Nat} {w u u' : World} {B H O : Nat} (b : Below w.heap.size w u) (hw : Blk u B #[.slice none 0 0] 70) (hB : w.heap.size ≤ B) (hH : u.heap.size = H) (hO : u.heap.size + 1 = O)
    (h1 : Blk u' u.heap.size h.cells 28) (h2 : Blk u' (u.heap.size + 1) #[.int .i64 (own : Nat)] 3) (h3 : Below u.heap.size u u') (h4 : u'.heap.size = u.heap.size + 3) : Hs12 h own w u' B H O [] := by
  subst hH hO
  have lt := hw.lt
  exact ⟨Wr.start ((h3.block _ lt).trans hw) (by omega) (by omega), h1, h2, b.trans (h3.mono b.size), by omega⟩
/-- While the header is written: both writers. -/
structure Hc12 (w u0 u : World) (B base C : Nat) (bs cs : List UInt8) : Prop where
  wr : Wr u0 B base bs
  wc : Wr u C (C + 1) cs
  bel : Below C u0 u
  eq : u0.heap.size = C
  bw : Below w.heap.size w u0
theorem Hc12.new {h : H12} {own : Nat} {w u : World} {B H O : Nat} {bs : List UInt8} (p : Hs12 h own w u B H O bs) : Hc12 w u (u.alloc (.cells #[.slice none 0 0] 70)) B (O + 1) u.heap.size bs [] :=
  ⟨p.wr, Wr.start (Blk.new u _ _) (by omega) (by simp), (Below.refl _ _).alloc (Nat.le_refl _) _, rfl, p.bel⟩
theorem Hc12.step {w u0 u u' : World} {B base C : Nat} {bs cs cs' : List UInt8} (p : Hc12 w u0 u B base C bs cs) (hw : Wr u' C (C + 1) cs') (hk : Kb (fun k => k = C ∨ C + 1 ≤ k) u u') : Hc12 w u0 u' B base C bs cs' := by
  refine ⟨p.wr, hw, p.bel.trans ⟨hk.os, hk.tape, hk.output, hk.size, fun k hk1 => hk.block k (by have := p.bel.size; have := p.eq; omega) (by omega)⟩, p.eq, p.bw⟩
theorem Hc12.behind {w u0 u : World} {B base C : Nat} {bs cs : List UInt8} (p : Hc12 w u0 u B base C bs cs) : Wr u B base bs := p.wr.later (by rw [p.eq]; exact p.bel)
theorem Hc12.all {w u0 u : World} {B base C : Nat} {bs cs : List UInt8} (p : Hc12 w u0 u B base C bs cs) : Below w.heap.size w u := p.bw.trans (p.bel.mono (by have := p.bw.size; have := p.eq; omega))
theorem hc12_u16 {w u0 u : World} {B base C : Nat} {bs cs : List UInt8} (p : Hc12 w u0 u B base C bs cs) (n : Nat) (hn : n < 65536) (hl : cs.length ≤ 1000) :
    Calls Tryd.prog 27 #[.pointer (some ⟨C, 0, none⟩), .int .i64 (n : Nat)] u fun e u' => e = .returned (.tuple #[]) ∧ Hc12 w u0 u' B base C bs (cs ++ be n 2) :=
  (wu16_any C (C + 1) cs n n u p.wc (by rw [wrap_u64_any]; omega) (by omega) (by omega)).mono fun e u' hh => ⟨hh.1, p.step hh.2.1 hh.2.2⟩
theorem hc12_text {w u0 u : World} {B base C : Nat} {bs cs : List UInt8} (p : Hc12 w u0 u B base C bs cs) (hl : cs.length ≤ 1000) (hs : bs.length ≤ 1000) :
    Calls Tryd.prog 28 #[.pointer (some ⟨C, 0, none⟩), .string ⟨bs.toArray⟩] u fun e u' => e = .returned (.tuple #[]) ∧ Hc12 w u0 u' B base C bs (cs ++ bs) :=
  (wtext_any C (C + 1) cs ⟨bs.toArray⟩ u p.wc (by rw [list_size]; omega)).mono fun e u' hh => ⟨hh.1, p.step hh.2.1 hh.2.2⟩

/-- A part's block. -/
def zp12 : Array Value := #[.bool false, .int .i64 0, .nilFunc]
def pt12 (b : Bool) (n : Int) (F A : Nat) : Array Value := #[.bool b, .int .i64 n, .func (.func F) #[] #[.pointer (some ⟨A, 0, none⟩)]]
theorem pt12_one (b : Bool) (n : Int) (F A : Nat) : (pt12 b n F A).all (·.oneCell') = true := by simp [pt12]; exact ⟨rfl, rfl, rfl⟩
theorem pt12_info (b : Bool) (n : Int) (F A : Nat) : (Tryd.prog.info? 59).map (·.size) = some (pt12 b n F A).size := by kernel_rfl
structure Laid12 (u W : World) (cs : Array Value) : Prop where
  b : Blk W u.heap.size cs 59
  bel : Below u.heap.size u W
  size : W.heap.size = u.heap.size + 1
theorem laid12 (u : World) (cs : Array Value) : Laid12 u ((u.alloc (.cells zp12 59)).setRow u.heap.size cs) cs :=
  ⟨(Blk.new u _ _).row cs, below_row ((Below.refl _ _).alloc (Nat.le_refl _) _) (Nat.le_refl _) _, by simp [World.setRow]⟩

set_option maxRecDepth 100000 in
set_option maxHeartbeats 2000000 in
theorem gre_size_any (h : H12) (w : World) :
    Calls Tryd.prog 12 #[.agg h.cells] w (Tells (.int .i64 (size12 h.sum h.key : Nat)) w) := by
  have HP := Lib.hid (fun W => parts12_any h 0 W)
  have S0 := Lib.hid ((Below.refl w.heap.size w).alloc (Nat.le_refl _) (.cells h.cells 28))
  have i0 := fun s k O H u => idx12_0 s k O H u
  have i1 := fun s k O H u => idx12_1 s k O H u
  obtain ⟨s, k, v⟩ := h
  unfold Tells
  unfold Parts12End at HP
  unfold H12.cells at HP S0 ⊢
  simp only at HP S0 ⊢
  unfold parts12 at HP i0 i1
  cases s <;> cases k
  case true.true =>
    go_enter Tryd.func12, Tryd.ntmps12
    go_wp2_with fail
    generalize w.alloc (.cells #[.bool true, .bool true, .int .u32 (v : Nat)] 28) = u at *
    refine (HP.out u).mono ?_
    rintro e u1 ⟨rfl, -, -, hb, -⟩
    have B1 := Lib.hid (S0.out.trans (hb.mono S0.out.size))
    clear hb HP S0
    generalize u.heap.size + 1 = O at *
    generalize u.heap.size = H at *
    clear u
    go_wp2_with fail
    refine wp_loop_rounds 3 ?_
    rw [rounds_succ]
    have L0 := laid12 u1 (pt12 true 32768 41 O)
    have z0 := Blk.new u1 zp12 59
    have c00 := L0.b.cell 0
    have c01 := L0.b.cell 1
    have c02 := L0.b.cell 2
    unfold pt12 zp12 at L0 c00 c01 c02
    unfold zp12 at z0
    simp only [List.getElem?_toArray, List.getElem?_cons_zero, List.getElem?_cons_succ] at c00 c01 c02
    have LL0 := Lib.hid L0
    have ZZ0 := Lib.hid z0
    clear L0 z0
    go_wp2_with (refine wpList_store_row rfl 59 (.tmp 5) (.tmp 10) rfl u1.heap.size (pt12 true 32768 41 O) rfl rfl 59 zp12 ZZ0.out (pt12_info _ _ _ _) rfl (pt12_one _ _ _ _) ?_; unfold pt12; generalize (u1.alloc (.cells #[.bool false, .int .i64 0, .nilFunc] 59)).setRow u1.heap.size #[.bool true, .int .i64 32768, .func (.func 41) #[] #[.pointer (some ⟨O, 0, none⟩)]] = v0 at *)
    clear c00 c01 c02 ZZ0
    rw [rounds_succ]
    have L1 := laid12 v0 (pt12 true 8192 42 H)
    have z1 := Blk.new v0 zp12 59
    have c10 := L1.b.cell 0
    have c11 := L1.b.cell 1
    have c12 := L1.b.cell 2
    unfold pt12 zp12 at L1 c10 c11 c12
    unfold zp12 at z1
    simp only [List.getElem?_toArray, List.getElem?_cons_zero, List.getElem?_cons_succ] at c10 c11 c12
    have LL1 := Lib.hid L1
    have ZZ1 := Lib.hid z1
    clear L1 z1
    go_wp2_with (refine wpList_store_row rfl 59 (.tmp 5) (.tmp 10) rfl v0.heap.size (pt12 true 8192 42 H) rfl rfl 59 zp12 ZZ1.out (pt12_info _ _ _ _) rfl (pt12_one _ _ _ _) ?_; unfold pt12; generalize (v0.alloc (.cells #[.bool false, .int .i64 0, .nilFunc] 59)).setRow v0.heap.size #[.bool true, .int .i64 8192, .func (.func 42) #[] #[.pointer (some ⟨H, 0, none⟩)]] = v1 at *)
    clear c10 c11 c12 ZZ1
    rw [rounds_succ]
    go_wp2_with fail
    go_ret
    exact ⟨rfl, (B1.out.trans (LL0.out.bel.mono B1.out.size)).trans (LL1.out.bel.mono (Nat.le_trans B1.out.size LL0.out.bel.size))⟩
  case true.false =>
    go_enter Tryd.func12, Tryd.ntmps12
    go_wp2_with fail
    generalize w.alloc (.cells #[.bool true, .bool false, .int .u32 (v : Nat)] 28) = u at *
    refine (HP.out u).mono ?_
    rintro e u1 ⟨rfl, -, -, hb, -⟩
    have B1 := Lib.hid (S0.out.trans (hb.mono S0.out.size))
    clear hb HP S0
    generalize u.heap.size + 1 = O at *
    generalize u.heap.size = H at *
    clear u
    go_wp2_with fail
    refine wp_loop_rounds 3 ?_
    rw [rounds_succ]
    have L0 := laid12 u1 (pt12 true 32768 41 O)
    have z0 := Blk.new u1 zp12 59
    have c00 := L0.b.cell 0
    have c01 := L0.b.cell 1
    have c02 := L0.b.cell 2
    unfold pt12 zp12 at L0 c00 c01 c02
    unfold zp12 at z0
    simp only [List.getElem?_toArray, List.getElem?_cons_zero, List.getElem?_cons_succ] at c00 c01 c02
    have LL0 := Lib.hid L0
    have ZZ0 := Lib.hid z0
    clear L0 z0
    go_wp2_with (refine wpList_store_row rfl 59 (.tmp 5) (.tmp 10) rfl u1.heap.size (pt12 true 32768 41 O) rfl rfl 59 zp12 ZZ0.out (pt12_info _ _ _ _) rfl (pt12_one _ _ _ _) ?_; unfold pt12; generalize (u1.alloc (.cells #[.bool false, .int .i64 0, .nilFunc] 59)).setRow u1.heap.size #[.bool true, .int .i64 32768, .func (.func 41) #[] #[.pointer (some ⟨O, 0, none⟩)]] = v0 at *)
    clear c00 c01 c02 ZZ0
    rw [rounds_succ]
    have L1 := laid12 v0 (pt12 false 8192 42 H)
    have z1 := Blk.new v0 zp12 59
    have c10 := L1.b.cell 0
    have c11 := L1.b.cell 1
    have c12 := L1.b.cell 2
    unfold pt12 zp12 at L1 c10 c11 c12
    unfold zp12 at z1
    simp only [List.getElem?_toArray, List.getElem?_cons_zero, List.getElem?_cons_succ] at c10 c11 c12
    have LL1 := Lib.hid L1
    have ZZ1 := Lib.hid z1
    clear L1 z1
    go_wp2_with (refine wpList_store_row rfl 59 (.tmp 5) (.tmp 10) rfl v0.heap.size (pt12 false 8192 42 H) rfl rfl 59 zp12 ZZ1.out (pt12_info _ _ _ _) rfl (pt12_one _ _ _ _) ?_; unfold pt12; generalize (v0.alloc (.cells #[.bool false, .int .i64 0, .nilFunc] 59)).setRow v0.heap.size #[.bool false, .int .i64 8192, .func (.func 42) #[] #[.pointer (some ⟨H, 0, none⟩)]] = v1 at *)
    clear c10 c11 c12 ZZ1
    rw [rounds_succ]
    go_wp2_with fail
    go_ret
    exact ⟨rfl, (B1.out.trans (LL0.out.bel.mono B1.out.size)).trans (LL1.out.bel.mono (Nat.le_trans B1.out.size LL0.out.bel.size))⟩
  case false.true =>
    go_enter Tryd.func12, Tryd.ntmps12
    go_wp2_with fail
    generalize w.alloc (.cells #[.bool false, .bool true, .int .u32 (v : Nat)] 28) = u at *
    refine (HP.out u).mono ?_
    rintro e u1 ⟨rfl, -, -, hb, -⟩
    have B1 := Lib.hid (S0.out.trans (hb.mono S0.out.size))
    clear hb HP S0
    generalize u.heap.size + 1 = O at *
    generalize u.heap.size = H at *
    clear u
    go_wp2_with fail
    refine wp_loop_rounds 3 ?_
    rw [rounds_succ]
    have L0 := laid12 u1 (pt12 false 32768 41 O)
    have z0 := Blk.new u1 zp12 59
    have c00 := L0.b.cell 0
    have c01 := L0.b.cell 1
    have c02 := L0.b.cell 2
    unfold pt12 zp12 at L0 c00 c01 c02
    unfold zp12 at z0
    simp only [List.getElem?_toArray, List.getElem?_cons_zero, List.getElem?_cons_succ] at c00 c01 c02
    have LL0 := Lib.hid L0
    have ZZ0 := Lib.hid z0
    clear L0 z0
    go_wp2_with (refine wpList_store_row rfl 59 (.tmp 5) (.tmp 10) rfl u1.heap.size (pt12 false 32768 41 O) rfl rfl 59 zp12 ZZ0.out (pt12_info _ _ _ _) rfl (pt12_one _ _ _ _) ?_; unfold pt12; generalize (u1.alloc (.cells #[.bool false, .int .i64 0, .nilFunc] 59)).setRow u1.heap.size #[.bool false, .int .i64 32768, .func (.func 41) #[] #[.pointer (some ⟨O, 0, none⟩)]] = v0 at *)
    clear c00 c01 c02 ZZ0
    rw [rounds_succ]
    have L1 := laid12 v0 (pt12 true 8192 42 H)
    have z1 := Blk.new v0 zp12 59
    have c10 := L1.b.cell 0
    have c11 := L1.b.cell 1
    have c12 := L1.b.cell 2
    unfold pt12 zp12 at L1 c10 c11 c12
    unfold zp12 at z1
    simp only [List.getElem?_toArray, List.getElem?_cons_zero, List.getElem?_cons_succ] at c10 c11 c12
    have LL1 := Lib.hid L1
    have ZZ1 := Lib.hid z1
    clear L1 z1
    go_wp2_with (refine wpList_store_row rfl 59 (.tmp 5) (.tmp 10) rfl v0.heap.size (pt12 true 8192 42 H) rfl rfl 59 zp12 ZZ1.out (pt12_info _ _ _ _) rfl (pt12_one _ _ _ _) ?_; unfold pt12; generalize (v0.alloc (.cells #[.bool false, .int .i64 0, .nilFunc] 59)).setRow v0.heap.size #[.bool true, .int .i64 8192, .func (.func 42) #[] #[.pointer (some ⟨H, 0, none⟩)]] = v1 at *)
    clear c10 c11 c12 ZZ1
    rw [rounds_succ]
    go_wp2_with fail
    go_ret
    exact ⟨rfl, (B1.out.trans (LL0.out.bel.mono B1.out.size)).trans (LL1.out.bel.mono (Nat.le_trans B1.out.size LL0.out.bel.size))⟩
  case false.false =>
    go_enter Tryd.func12, Tryd.ntmps12
    go_wp2_with fail
    generalize w.alloc (.cells #[.bool false, .bool false, .int .u32 (v : Nat)] 28) = u at *
    refine (HP.out u).mono ?_
    rintro e u1 ⟨rfl, -, -, hb, -⟩
    have B1 := Lib.hid (S0.out.trans (hb.mono S0.out.size))
    clear hb HP S0
    generalize u.heap.size + 1 = O at *
    generalize u.heap.size = H at *
    clear u
    go_wp2_with fail
    refine wp_loop_rounds 3 ?_
    rw [rounds_succ]
    have L0 := laid12 u1 (pt12 false 32768 41 O)
    have z0 := Blk.new u1 zp12 59
    have c00 := L0.b.cell 0
    have c01 := L0.b.cell 1
    have c02 := L0.b.cell 2
    unfold pt12 zp12 at L0 c00 c01 c02
    unfold zp12 at z0
    simp only [List.getElem?_toArray, List.getElem?_cons_zero, List.getElem?_cons_succ] at c00 c01 c02
    have LL0 := Lib.hid L0
    have ZZ0 := Lib.hid z0
    clear L0 z0
    go_wp2_with (refine wpList_store_row rfl 59 (.tmp 5) (.tmp 10) rfl u1.heap.size (pt12 false 32768 41 O) rfl rfl 59 zp12 ZZ0.out (pt12_info _ _ _ _) rfl (pt12_one _ _ _ _) ?_; unfold pt12; generalize (u1.alloc (.cells #[.bool false, .int .i64 0, .nilFunc] 59)).setRow u1.heap.size #[.bool false, .int .i64 32768, .func (.func 41) #[] #[.pointer (some ⟨O, 0, none⟩)]] = v0 at *)
    clear c00 c01 c02 ZZ0
    rw [rounds_succ]
    have L1 := laid12 v0 (pt12 false 8192 42 H)
    have z1 := Blk.new v0 zp12 59
    have c10 := L1.b.cell 0
    have c11 := L1.b.cell 1
    have c12 := L1.b.cell 2
    unfold pt12 zp12 at L1 c10 c11 c12
    unfold zp12 at z1
    simp only [List.getElem?_toArray, List.getElem?_cons_zero, List.getElem?_cons_succ] at c10 c11 c12
    have LL1 := Lib.hid L1
    have ZZ1 := Lib.hid z1
    clear L1 z1
    go_wp2_with (refine wpList_store_row rfl 59 (.tmp 5) (.tmp 10) rfl v0.heap.size (pt12 false 8192 42 H) rfl rfl 59 zp12 ZZ1.out (pt12_info _ _ _ _) rfl (pt12_one _ _ _ _) ?_; unfold pt12; generalize (v0.alloc (.cells #[.bool false, .int .i64 0, .nilFunc] 59)).setRow v0.heap.size #[.bool false, .int .i64 8192, .func (.func 42) #[] #[.pointer (some ⟨H, 0, none⟩)]] = v1 at *)
    clear c10 c11 c12 ZZ1
    rw [rounds_succ]
    go_wp2_with fail
    go_ret
    exact ⟨rfl, (B1.out.trans (LL0.out.bel.mono B1.out.size)).trans (LL1.out.bel.mono (Nat.le_trans B1.out.size LL0.out.bel.size))⟩

set_option maxRecDepth 100000 in
set_option maxHeartbeats 4000000 in
theorem header12_any (h : H12) (kind own : Nat) (w : World) (hv : h.v < 4294967296) (hk : kind < 65536) (ho : own < 65536) :
    Calls Tryd.prog 15 #[.agg h.cells, .int .i64 (kind : Nat), .int .i64 (own : Nat)] w (Tells (.string ⟨(head12 h kind own).toArray⟩) w) := by
  have HP := Lib.hid (fun W => parts12_any h own W)
  have HV := Lib.hid hv
  have HK := Lib.hid hk
  have HO := Lib.hid ho
  have i0 := fun s k O H u => idx12_0 s k O H u
  have i1 := fun s k O H u => idx12_1 s k O H u
  have or1 : bits .or .i64 0 32768 = 32768 := by decide
  have or2 : bits .or .i64 32768 8192 = 40960 := by decide
  have or3 : bits .or .i64 0 8192 = 8192 := by decide
  have hb0 := (Below.refl w.heap.size w).alloc (Nat.le_refl _) (.cells h.cells 28)
  have hw0 := Blk.new (w.alloc (.cells h.cells 28)) #[.slice none 0 0] 70
  have hb1 := hb0.alloc hb0.size (.cells #[.slice none 0 0] 70)
  rw [World.size_alloc] at hw0
  have S0 := Lib.hid hb1
  have W0 := Lib.hid hw0
  clear hb0 hw0 hb1 hv hk ho
  obtain ⟨s, k, v⟩ := h
  unfold Tells
  unfold Parts12End at HP
  unfold H12.cells at S0 W0 HP ⊢
  simp only at HP S0 W0 HV ⊢
  unfold parts12 at HP i0 i1
  cases s <;> cases k
  case true.true =>
    go_enter Tryd.func15, Tryd.ntmps15
    go_wp2_with fail
    generalize (w.alloc (.cells #[.bool true, .bool true, .int .u32 (v : Nat)] 28)).alloc (.cells #[.slice none 0 0] 70) = u at *
    have lB : Hid (w.heap.size ≤ w.heap.size + 1) := Nat.le_succ _
    generalize w.heap.size + 1 = B at *
    refine (HP.out u).mono ?_
    rintro e u1 ⟨rfl, hh, ho, hb, hz⟩
    have P0 := Lib.hid (Hs12.of (h := ⟨true, true, v⟩) S0.out W0.out lB.out rfl rfl hh ho hb hz)
    clear hb HP S0 W0 lB hh ho hz
    generalize u.heap.size + 1 = O at *
    generalize u.heap.size = H at *
    clear u
    go_wp2_with fail
    refine wp_loop_rounds 3 ?_
    rw [rounds_succ]
    have L0 := laid12 u1 (pt12 true 32768 41 O)
    have z0 := Blk.new u1 zp12 59
    have c00 := L0.b.cell 0
    have c01 := L0.b.cell 1
    have c02 := L0.b.cell 2
    unfold pt12 zp12 at L0 c00 c01 c02
    unfold zp12 at z0
    simp only [List.getElem?_toArray, List.getElem?_cons_zero, List.getElem?_cons_succ] at c00 c01 c02
    have LL0 := Lib.hid L0
    have ZZ0 := Lib.hid z0
    clear L0 z0
    go_wp2_with (refine wpList_store_row rfl 59 (.tmp 10) (.tmp 17) rfl u1.heap.size (pt12 true 32768 41 O) rfl rfl 59 zp12 ZZ0.out (pt12_info _ _ _ _) rfl (pt12_one _ _ _ _) ?_; unfold pt12; generalize (u1.alloc (.cells #[.bool false, .int .i64 0, .nilFunc] 59)).setRow u1.heap.size #[.bool true, .int .i64 32768, .func (.func 41) #[] #[.pointer (some ⟨O, 0, none⟩)]] = v0 at *)
    clear c00 c01 c02 ZZ0
    have P1 := Lib.hid (P0.out.later LL0.out.bel)
    clear P0 LL0
    refine (write1_any B (O + 1) O own _ v0 P1.out.wr P1.out.ob (by have := P1.out.le; omega) (by omega) HO.out (by simp)).mono ?_
    rintro e u2 ⟨rfl, w2, k2⟩
    have P2 := Lib.hid (P1.out.write w2 k2)
    clear w2 k2 P1
    go_wp2_with fail
    rw [rounds_succ]
    have L1 := laid12 u2 (pt12 true 8192 42 H)
    have z1 := Blk.new u2 zp12 59
    have c10 := L1.b.cell 0
    have c11 := L1.b.cell 1
    have c12 := L1.b.cell 2
    unfold pt12 zp12 at L1 c10 c11 c12
    unfold zp12 at z1
    simp only [List.getElem?_toArray, List.getElem?_cons_zero, List.getElem?_cons_succ] at c10 c11 c12
    have LL1 := Lib.hid L1
    have ZZ1 := Lib.hid z1
    clear L1 z1
    go_wp2_with (refine wpList_store_row rfl 59 (.tmp 10) (.tmp 17) rfl u2.heap.size (pt12 true 8192 42 H) rfl rfl 59 zp12 ZZ1.out (pt12_info _ _ _ _) rfl (pt12_one _ _ _ _) ?_; unfold pt12; generalize (u2.alloc (.cells #[.bool false, .int .i64 0, .nilFunc] 59)).setRow u2.heap.size #[.bool true, .int .i64 8192, .func (.func 42) #[] #[.pointer (some ⟨H, 0, none⟩)]] = v1 at *)
    clear c10 c11 c12 ZZ1
    have P3 := Lib.hid (P2.out.later LL1.out.bel)
    clear P2 LL1
    refine (write2_any B (O + 1) H ⟨true, true, v⟩ _ v1 P3.out.wr P3.out.hb HV.out (by simp [be_length])).mono ?_
    rintro e u3 ⟨rfl, w3, k3⟩
    have P4 := Lib.hid (P3.out.write w3 k3)
    clear w3 k3 P3
    go_wp2_with fail
    rw [rounds_succ]
    go_wp2_with fail
    have C0 := Lib.hid (Hc12.new P4.out)
    clear P4
    generalize u3.alloc (.cells #[.slice none 0 0] 70) = c0 at *
    generalize u3.heap.size = C at *
    refine (hc12_u16 C0.out 40960 (by decide) (by simp)).mono ?_
    rintro e c1 ⟨rfl, C1⟩
    replace C1 := Lib.hid C1
    clear C0
    go_wp2_with fail
    refine (hc12_u16 C1.out kind HK.out (by simp [be_length])).mono ?_
    rintro e c2 ⟨rfl, C2⟩
    replace C2 := Lib.hid C2
    clear C1
    go_wp2_with fail
    refine (wstring_any B (O + 1) _ _ C2.out.behind).mono ?_
    rintro e c3 ⟨rfl, rfl⟩
    go_wp2_with fail
    refine (hc12_text C2.out (by simp [be_length]) (by simp [be_length])).mono ?_
    rintro e c4 ⟨rfl, C4⟩
    replace C4 := Lib.hid C4
    clear C2
    go_wp2_with fail
    refine (wstring_any C (C + 1) _ _ C4.out.wc).mono ?_
    rintro e c5 ⟨rfl, rfl⟩
    go_wp2_with fail
    go_ret
    refine ⟨?_, C4.out.all⟩
    simp [head12, behind12, q12, bits12, p12]
  case true.false =>
    go_enter Tryd.func15, Tryd.ntmps15
    go_wp2_with fail
    generalize (w.alloc (.cells #[.bool true, .bool false, .int .u32 (v : Nat)] 28)).alloc (.cells #[.slice none 0 0] 70) = u at *
    have lB : Hid (w.heap.size ≤ w.heap.size + 1) := Nat.le_succ _
    generalize w.heap.size + 1 = B at *
    refine (HP.out u).mono ?_
    rintro e u1 ⟨rfl, hh, ho, hb, hz⟩
    have P0 := Lib.hid (Hs12.of (h := ⟨true, false, v⟩) S0.out W0.out lB.out rfl rfl hh ho hb hz)
    clear hb HP S0 W0 lB hh ho hz
    generalize u.heap.size + 1 = O at *
    generalize u.heap.size = H at *
    clear u
    go_wp2_with fail
    refine wp_loop_rounds 3 ?_
    rw [rounds_succ]
    have L0 := laid12 u1 (pt12 true 32768 41 O)
    have z0 := Blk.new u1 zp12 59
    have c00 := L0.b.cell 0
    have c01 := L0.b.cell 1
    have c02 := L0.b.cell 2
    unfold pt12 zp12 at L0 c00 c01 c02
    unfold zp12 at z0
    simp only [List.getElem?_toArray, List.getElem?_cons_zero, List.getElem?_cons_succ] at c00 c01 c02
    have LL0 := Lib.hid L0
    have ZZ0 := Lib.hid z0
    clear L0 z0
    go_wp2_with (refine wpList_store_row rfl 59 (.tmp 10) (.tmp 17) rfl u1.heap.size (pt12 true 32768 41 O) rfl rfl 59 zp12 ZZ0.out (pt12_info _ _ _ _) rfl (pt12_one _ _ _ _) ?_; unfold pt12; generalize (u1.alloc (.cells #[.bool false, .int .i64 0, .nilFunc] 59)).setRow u1.heap.size #[.bool true, .int .i64 32768, .func (.func 41) #[] #[.pointer (some ⟨O, 0, none⟩)]] = v0 at *)
    clear c00 c01 c02 ZZ0
    have P1 := Lib.hid (P0.out.later LL0.out.bel)
    clear P0 LL0
    refine (write1_any B (O + 1) O own _ v0 P1.out.wr P1.out.ob (by have := P1.out.le; omega) (by omega) HO.out (by simp)).mono ?_
    rintro e u2 ⟨rfl, w2, k2⟩
    have P2 := Lib.hid (P1.out.write w2 k2)
    clear w2 k2 P1
    go_wp2_with fail
    rw [rounds_succ]
    have L1 := laid12 u2 (pt12 false 8192 42 H)
    have z1 := Blk.new u2 zp12 59
    have c10 := L1.b.cell 0
    have c11 := L1.b.cell 1
    have c12 := L1.b.cell 2
    unfold pt12 zp12 at L1 c10 c11 c12
    unfold zp12 at z1
    simp only [List.getElem?_toArray, List.getElem?_cons_zero, List.getElem?_cons_succ] at c10 c11 c12
    have LL1 := Lib.hid L1
    have ZZ1 := Lib.hid z1
    clear L1 z1
    go_wp2_with (refine wpList_store_row rfl 59 (.tmp 10) (.tmp 17) rfl u2.heap.size (pt12 false 8192 42 H) rfl rfl 59 zp12 ZZ1.out (pt12_info _ _ _ _) rfl (pt12_one _ _ _ _) ?_; unfold pt12; generalize (u2.alloc (.cells #[.bool false, .int .i64 0, .nilFunc] 59)).setRow u2.heap.size #[.bool false, .int .i64 8192, .func (.func 42) #[] #[.pointer (some ⟨H, 0, none⟩)]] = v1 at *)
    clear c10 c11 c12 ZZ1
    have P3 := Lib.hid (P2.out.later LL1.out.bel)
    clear P2 LL1
    have P4 := P3
    generalize v1 = u3 at *
    clear P3
    rw [rounds_succ]
    go_wp2_with fail
    have C0 := Lib.hid (Hc12.new P4.out)
    clear P4
    generalize u3.alloc (.cells #[.slice none 0 0] 70) = c0 at *
    generalize u3.heap.size = C at *
    refine (hc12_u16 C0.out 32768 (by decide) (by simp)).mono ?_
    rintro e c1 ⟨rfl, C1⟩
    replace C1 := Lib.hid C1
    clear C0
    go_wp2_with fail
    refine (hc12_u16 C1.out kind HK.out (by simp [be_length])).mono ?_
    rintro e c2 ⟨rfl, C2⟩
    replace C2 := Lib.hid C2
    clear C1
    go_wp2_with fail
    refine (wstring_any B (O + 1) _ _ C2.out.behind).mono ?_
    rintro e c3 ⟨rfl, rfl⟩
    go_wp2_with fail
    refine (hc12_text C2.out (by simp [be_length]) (by simp [be_length])).mono ?_
    rintro e c4 ⟨rfl, C4⟩
    replace C4 := Lib.hid C4
    clear C2
    go_wp2_with fail
    refine (wstring_any C (C + 1) _ _ C4.out.wc).mono ?_
    rintro e c5 ⟨rfl, rfl⟩
    go_wp2_with fail
    go_ret
    refine ⟨?_, C4.out.all⟩
    simp [head12, behind12, q12, bits12, p12]
  case false.true =>
    go_enter Tryd.func15, Tryd.ntmps15
    go_wp2_with fail
    generalize (w.alloc (.cells #[.bool false, .bool true, .int .u32 (v : Nat)] 28)).alloc (.cells #[.slice none 0 0] 70) = u at *
    have lB : Hid (w.heap.size ≤ w.heap.size + 1) := Nat.le_succ _
    generalize w.heap.size + 1 = B at *
    refine (HP.out u).mono ?_
    rintro e u1 ⟨rfl, hh, ho, hb, hz⟩
    have P0 := Lib.hid (Hs12.of (h := ⟨false, true, v⟩) S0.out W0.out lB.out rfl rfl hh ho hb hz)
    clear hb HP S0 W0 lB hh ho hz
    generalize u.heap.size + 1 = O at *
    generalize u.heap.size = H at *
    clear u
    go_wp2_with fail
    refine wp_loop_rounds 3 ?_
    rw [rounds_succ]
    have L0 := laid12 u1 (pt12 false 32768 41 O)
    have z0 := Blk.new u1 zp12 59
    have c00 := L0.b.cell 0
    have c01 := L0.b.cell 1
    have c02 := L0.b.cell 2
    unfold pt12 zp12 at L0 c00 c01 c02
    unfold zp12 at z0
    simp only [List.getElem?_toArray, List.getElem?_cons_zero, List.getElem?_cons_succ] at c00 c01 c02
    have LL0 := Lib.hid L0
    have ZZ0 := Lib.hid z0
    clear L0 z0
    go_wp2_with (refine wpList_store_row rfl 59 (.tmp 10) (.tmp 17) rfl u1.heap.size (pt12 false 32768 41 O) rfl rfl 59 zp12 ZZ0.out (pt12_info _ _ _ _) rfl (pt12_one _ _ _ _) ?_; unfold pt12; generalize (u1.alloc (.cells #[.bool false, .int .i64 0, .nilFunc] 59)).setRow u1.heap.size #[.bool false, .int .i64 32768, .func (.func 41) #[] #[.pointer (some ⟨O, 0, none⟩)]] = v0 at *)
    clear c00 c01 c02 ZZ0
    have P1 := Lib.hid (P0.out.later LL0.out.bel)
    clear P0 LL0
    have P2 := P1
    generalize v0 = u2 at *
    clear P1
    rw [rounds_succ]
    have L1 := laid12 u2 (pt12 true 8192 42 H)
    have z1 := Blk.new u2 zp12 59
    have c10 := L1.b.cell 0
    have c11 := L1.b.cell 1
    have c12 := L1.b.cell 2
    unfold pt12 zp12 at L1 c10 c11 c12
    unfold zp12 at z1
    simp only [List.getElem?_toArray, List.getElem?_cons_zero, List.getElem?_cons_succ] at c10 c11 c12
    have LL1 := Lib.hid L1
    have ZZ1 := Lib.hid z1
    clear L1 z1
    go_wp2_with (refine wpList_store_row rfl 59 (.tmp 10) (.tmp 17) rfl u2.heap.size (pt12 true 8192 42 H) rfl rfl 59 zp12 ZZ1.out (pt12_info _ _ _ _) rfl (pt12_one _ _ _ _) ?_; unfold pt12; generalize (u2.alloc (.cells #[.bool false, .int .i64 0, .nilFunc] 59)).setRow u2.heap.size #[.bool true, .int .i64 8192, .func (.func 42) #[] #[.pointer (some ⟨H, 0, none⟩)]] = v1 at *)
    clear c10 c11 c12 ZZ1
    have P3 := Lib.hid (P2.out.later LL1.out.bel)
    clear P2 LL1
    refine (write2_any B (O + 1) H ⟨false, true, v⟩ _ v1 P3.out.wr P3.out.hb HV.out (by simp [be_length])).mono ?_
    rintro e u3 ⟨rfl, w3, k3⟩
    have P4 := Lib.hid (P3.out.write w3 k3)
    clear w3 k3 P3
    go_wp2_with fail
    rw [rounds_succ]
    go_wp2_with fail
    have C0 := Lib.hid (Hc12.new P4.out)
    clear P4
    generalize u3.alloc (.cells #[.slice none 0 0] 70) = c0 at *
    generalize u3.heap.size = C at *
    refine (hc12_u16 C0.out 8192 (by decide) (by simp)).mono ?_
    rintro e c1 ⟨rfl, C1⟩
    replace C1 := Lib.hid C1
    clear C0
    go_wp2_with fail
    refine (hc12_u16 C1.out kind HK.out (by simp [be_length])).mono ?_
    rintro e c2 ⟨rfl, C2⟩
    replace C2 := Lib.hid C2
    clear C1
    go_wp2_with fail
    refine (wstring_any B (O + 1) _ _ C2.out.behind).mono ?_
    rintro e c3 ⟨rfl, rfl⟩
    go_wp2_with fail
    refine (hc12_text C2.out (by simp [be_length]) (by simp [be_length])).mono ?_
    rintro e c4 ⟨rfl, C4⟩
    replace C4 := Lib.hid C4
    clear C2
    go_wp2_with fail
    refine (wstring_any C (C + 1) _ _ C4.out.wc).mono ?_
    rintro e c5 ⟨rfl, rfl⟩
    go_wp2_with fail
    go_ret
    refine ⟨?_, C4.out.all⟩
    simp [head12, behind12, q12, bits12, p12]
  case false.false =>
    go_enter Tryd.func15, Tryd.ntmps15
    go_wp2_with fail
    generalize (w.alloc (.cells #[.bool false, .bool false, .int .u32 (v : Nat)] 28)).alloc (.cells #[.slice none 0 0] 70) = u at *
    have lB : Hid (w.heap.size ≤ w.heap.size + 1) := Nat.le_succ _
    generalize w.heap.size + 1 = B at *
    refine (HP.out u).mono ?_
    rintro e u1 ⟨rfl, hh, ho, hb, hz⟩
    have P0 := Lib.hid (Hs12.of (h := ⟨false, false, v⟩) S0.out W0.out lB.out rfl rfl hh ho hb hz)
    clear hb HP S0 W0 lB hh ho hz
    generalize u.heap.size + 1 = O at *
    generalize u.heap.size = H at *
    clear u
    go_wp2_with fail
    refine wp_loop_rounds 3 ?_
    rw [rounds_succ]
    have L0 := laid12 u1 (pt12 false 32768 41 O)
    have z0 := Blk.new u1 zp12 59
    have c00 := L0.b.cell 0
    have c01 := L0.b.cell 1
    have c02 := L0.b.cell 2
    unfold pt12 zp12 at L0 c00 c01 c02
    unfold zp12 at z0
    simp only [List.getElem?_toArray, List.getElem?_cons_zero, List.getElem?_cons_succ] at c00 c01 c02
    have LL0 := Lib.hid L0
    have ZZ0 := Lib.hid z0
    clear L0 z0
    go_wp2_with (refine wpList_store_row rfl 59 (.tmp 10) (.tmp 17) rfl u1.heap.size (pt12 false 32768 41 O) rfl rfl 59 zp12 ZZ0.out (pt12_info _ _ _ _) rfl (pt12_one _ _ _ _) ?_; unfold pt12; generalize (u1.alloc (.cells #[.bool false, .int .i64 0, .nilFunc] 59)).setRow u1.heap.size #[.bool false, .int .i64 32768, .func (.func 41) #[] #[.pointer (some ⟨O, 0, none⟩)]] = v0 at *)
    clear c00 c01 c02 ZZ0
    have P1 := Lib.hid (P0.out.later LL0.out.bel)
    clear P0 LL0
    have P2 := P1
    generalize v0 = u2 at *
    clear P1
    rw [rounds_succ]
    have L1 := laid12 u2 (pt12 false 8192 42 H)
    have z1 := Blk.new u2 zp12 59
    have c10 := L1.b.cell 0
    have c11 := L1.b.cell 1
    have c12 := L1.b.cell 2
    unfold pt12 zp12 at L1 c10 c11 c12
    unfold zp12 at z1
    simp only [List.getElem?_toArray, List.getElem?_cons_zero, List.getElem?_cons_succ] at c10 c11 c12
    have LL1 := Lib.hid L1
    have ZZ1 := Lib.hid z1
    clear L1 z1
    go_wp2_with (refine wpList_store_row rfl 59 (.tmp 10) (.tmp 17) rfl u2.heap.size (pt12 false 8192 42 H) rfl rfl 59 zp12 ZZ1.out (pt12_info _ _ _ _) rfl (pt12_one _ _ _ _) ?_; unfold pt12; generalize (u2.alloc (.cells #[.bool false, .int .i64 0, .nilFunc] 59)).setRow u2.heap.size #[.bool false, .int .i64 8192, .func (.func 42) #[] #[.pointer (some ⟨H, 0, none⟩)]] = v1 at *)
    clear c10 c11 c12 ZZ1
    have P3 := Lib.hid (P2.out.later LL1.out.bel)
    clear P2 LL1
    have P4 := P3
    generalize v1 = u3 at *
    clear P3
    rw [rounds_succ]
    go_wp2_with fail
    have C0 := Lib.hid (Hc12.new P4.out)
    clear P4
    generalize u3.alloc (.cells #[.slice none 0 0] 70) = c0 at *
    generalize u3.heap.size = C at *
    refine (hc12_u16 C0.out 0 (by decide) (by simp)).mono ?_
    rintro e c1 ⟨rfl, C1⟩
    replace C1 := Lib.hid C1
    clear C0
    go_wp2_with fail
    refine (hc12_u16 C1.out kind HK.out (by simp [be_length])).mono ?_
    rintro e c2 ⟨rfl, C2⟩
    replace C2 := Lib.hid C2
    clear C1
    go_wp2_with fail
    refine (wstring_any B (O + 1) _ _ C2.out.behind).mono ?_
    rintro e c3 ⟨rfl, rfl⟩
    go_wp2_with fail
    refine (hc12_text C2.out (by simp [be_length]) (by simp [be_length])).mono ?_
    rintro e c4 ⟨rfl, C4⟩
    replace C4 := Lib.hid C4
    clear C2
    go_wp2_with fail
    refine (wstring_any C (C + 1) _ _ C4.out.wc).mono ?_
    rintro e c5 ⟨rfl, rfl⟩
    go_wp2_with fail
    go_ret
    refine ⟨?_, C4.out.all⟩
    simp [head12, behind12, q12, bits12, p12]

end Go.Proofs.YtnlpbnipfglhhaaDoor
