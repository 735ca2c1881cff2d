/-
  What a header has behind its kind: the closures that write it.
-/
import Derived.Test.YtnlpbnipfglhhaaDoorGreSpec
import Derived.Test.YtnlpbnipfglhhaaDoorWriting
import Derived.Test.YtnlpbnipfglhhaaDoorGround
namespace Go.Proofs.YtnlpbnipfglhhaaDoor
open Go.RowKit
set_option linter.unusedVariables false

theorem Wr.later {w w' : World} {b base : Nat} {bs : List UInt8} (h : Wr w b base bs) (hb : Below w.heap.size w w') : Wr w' b base bs := by
  obtain ⟨v, hv, hown⟩ := h.blk
  refine ⟨⟨v, (hb.block _ hv.lt).trans hv, hown.kept (row := none) ⟨hb.os, hb.tape, hb.output, hb.size, fun k hk _ => hb.block k hk⟩ ?_⟩, h.lt, Nat.le_trans h.le hb.size⟩
  cases v.ownBlock <;> simp
theorem Wr.start {u : World} {b base : Nat} (h : Blk u b #[.slice none 0 0] 70) (h1 : b < base) (h2 : base ≤ u.heap.size) : Wr u b base [] :=
  ⟨⟨_, h, World.ownsRow_nil _ _ _ _⟩, h1, h2⟩

/-- The parts, as they stand in a row. -/
def parts12 (s k : Bool) (O H : Nat) : Array Value := #[.bool s, .int .i64 32768, .func (.func 41) #[] #[.pointer (some ⟨O, 0, none⟩)], .bool k, .int .i64 8192, .func (.func 42) #[] #[.pointer (some ⟨H, 0, none⟩)]]
theorem idx12_0 (s k : Bool) (O H : Nat) (u : World) : (Instr.index 60 (.agg (parts12 s k O H)) (.int .i64 0)).run Tryd.prog u = .ok (.agg #[.bool s, .int .i64 32768, .func (.func 41) #[] #[.pointer (some ⟨O, 0, none⟩)]]) u := by kernel_rfl
theorem idx12_1 (s k : Bool) (O H : Nat) (u : World) : (Instr.index 60 (.agg (parts12 s k O H)) (.int .i64 1)).run Tryd.prog u = .ok (.agg #[.bool k, .int .i64 8192, .func (.func 42) #[] #[.pointer (some ⟨H, 0, none⟩)]]) u := by kernel_rfl

set_option maxHeartbeats 400000 in
theorem write1_any (B base O own : Nat) (bs : List UInt8) (u : World) (hw : Wr u B base bs) (ho : Blk u O #[.int .i64 (own : Nat)] 3) (h1 : O ≠ B) (h2 : O < base) (hn : own < 65536) (hl : bs.length ≤ 1000000) :
    Calls Tryd.prog 41 #[.pointer (some ⟨B, 0, none⟩), .pointer (some ⟨O, 0, none⟩)] u fun e u' => e = .returned (.tuple #[]) ∧ Wr u' B base (bs ++ (be own 2 ++ be 0 2)) ∧ Kb (fun k => k = B ∨ base ≤ k) u u' := by
  have c0 := ho.cell 0
  simp at c0
  have HW := Lib.hid (wu16_any B base bs own own u hw (by rw [wrap_u64_any]; omega) (by omega) (by omega))
  have HL := Lib.hid hl
  clear hw ho h1 h2 hl
  go_enter Tryd.func41, Tryd.ntmps41
  go_wp2_with fail
  refine HW.out.mono ?_
  rintro e u1 ⟨rfl, w1, k1⟩
  have K1 := Lib.hid k1
  have W2 := Lib.hid (wu16_any B base (bs ++ be own 2) 0 0 u1 w1 (by decide) (by decide) (by have := HL.out; rw [List.length_append, be_length]; omega))
  clear HW k1 w1
  go_wp2_with fail
  refine W2.out.mono ?_
  rintro e u2 ⟨rfl, w2, k2⟩
  have R2 : Hid (Wr u2 B base (bs ++ (be own 2 ++ be 0 2))) := by
    show Wr u2 B base (bs ++ (be own 2 ++ be 0 2))
    rw [← List.append_assoc]; exact w2
  have K2 := Lib.hid (K1.out.trans k2)
  clear w2 k2 K1
  go_wp2_with fail
  go_end0
  exact ⟨rfl, R2.out, K2.out⟩

set_option maxHeartbeats 400000 in
theorem write2_any (B base H : Nat) (h : H12) (bs : List UInt8) (u : World) (hw : Wr u B base bs) (ho : Blk u H h.cells 28) (hn : h.v < 4294967296) (hl : bs.length ≤ 1000000) :
    Calls Tryd.prog 42 #[.pointer (some ⟨B, 0, none⟩), .pointer (some ⟨H, 0, none⟩)] u fun e u' => e = .returned (.tuple #[]) ∧ Wr u' B base (bs ++ be h.v 4) ∧ Kb (fun k => k = B ∨ base ≤ k) u u' := by
  have c2 := ho.cell 2
  unfold H12.cells at c2
  simp at c2
  have HW := Lib.hid (wu32_any B base bs h.v h.v u hw (by rw [wrap_u64_any]; omega) (by omega) (by omega))
  clear hw ho hl
  go_enter Tryd.func42, Tryd.ntmps42
  go_wp2_with fail
  refine HW.out.mono ?_
  rintro e u1 ⟨rfl, w1, k1⟩
  have R1 := Lib.hid w1
  have K1 := Lib.hid k1
  clear HW k1 w1
  go_wp2_with fail
  go_end0
  exact ⟨rfl, R1.out, K1.out⟩

/-- How parts ends: its two blocks are the header's and the sum's. -/
def Parts12End (h : H12) (own : Nat) (w : World) (e : Ending) (w' : World) : Prop :=
  e = .returned (.agg (parts12 h.sum h.key (w.heap.size + 1) w.heap.size)) ∧ Blk w' w.heap.size h.cells 28 ∧ Blk w' (w.heap.size + 1) #[.int .i64 (own : Nat)] 3 ∧ Below w.heap.size w w' ∧ w'.heap.size = w.heap.size + 3
def zeros12 : Array Value := #[.bool false, .int .i64 0, .nilFunc, .bool false, .int .i64 0, .nilFunc]
/-- parts' own blocks. -/
structure Pb12 (h : H12) (own : Nat) (w u : World) (zs : Array Value) : Prop where
  hb : Blk u w.heap.size h.cells 28
  ob : Blk u (w.heap.size + 1) #[.int .i64 (own : Nat)] 3
  zb : Blk u (w.heap.size + 1 + 1) zs 60
  bel : Below w.heap.size w u
  size : u.heap.size = w.heap.size + 3
theorem Pb12.new (h : H12) (own : Nat) (w : World) : Pb12 h own w (((w.alloc (.cells h.cells 28)).alloc (.cells #[.int .i64 (own : Nat)] 3)).alloc (.cells zeros12 60)) zeros12 := by
  have e1 := Blk.new w h.cells 28
  generalize hw1 : w.alloc (.cells h.cells 28) = w1 at *
  have s1 : w1.heap.size = w.heap.size + 1 := by rw [← hw1]; simp
  have b1 : Below w.heap.size w w1 := by rw [← hw1]; exact (Below.refl _ _).alloc (Nat.le_refl _) _
  have e2 := Blk.new w1 #[.int .i64 (own : Nat)] 3
  have e1' : Blk (w1.alloc (.cells #[.int .i64 (own : Nat)] 3)) w.heap.size h.cells 28 := e1.alloc _
  generalize hw2 : w1.alloc (.cells #[.int .i64 (own : Nat)] 3) = w2 at *
  have s2 : w2.heap.size = w.heap.size + 2 := by rw [← hw2]; simp; omega
  have b2 : Below w.heap.size w w2 := by rw [← hw2]; exact b1.alloc (by omega) _
  have e3 := Blk.new w2 zeros12 60
  rw [s1] at e2
  rw [s2] at e3
  exact ⟨e1'.alloc _, e2.alloc _, e3, b2.alloc (by omega) _, by simp; omega⟩
theorem Pb12.put {h : H12} {own : Nat} {w u : World} {zs : Array Value} (p : Pb12 h own w u zs) (ys : Array Value) : Pb12 h own w (u.setRow (w.heap.size + 1 + 1) ys) ys :=
  ⟨p.hb.row_other (by omega) _, p.ob.row_other (by omega) _, p.zb.row _, below_row p.bel (by omega) _, by simpa [World.setRow] using p.size⟩

set_option maxHeartbeats 1000000 in
theorem parts12_any (h : H12) (own : Nat) (w : World) :
    Calls Tryd.prog 23 #[.agg h.cells, .int .i64 (own : Nat)] w (Parts12End h own w) := by
  have hmf : ∀ (fn : Fn) (first cap : Array Value) (w : World), (Instr.makeFunc fn first cap).run Tryd.prog w = .ok (.func fn first cap) w := fun _ _ _ _ => rfl
  have P0 := Lib.hid (Pb12.new h own w)
  unfold H12.cells zeros12 at P0
  unfold H12.cells
  have hi : (Tryd.prog.info? 60).map (·.size) = some (parts12 h.sum h.key (w.heap.size + 1) w.heap.size).size := by kernel_rfl
  have h1 : (parts12 h.sum h.key (w.heap.size + 1) w.heap.size).all (·.oneCell') = true := by simp [parts12]; exact ⟨rfl, rfl, rfl, rfl, rfl, rfl⟩
  go_enter Tryd.func23, Tryd.ntmps23
  go_wp2_with (refine wpList_store_row rfl 60 (.tmp 4) (.tmp 13) rfl (w.heap.size + 1 + 1) (parts12 h.sum h.key (w.heap.size + 1) w.heap.size) rfl rfl 60 #[.bool false, .int .i64 0, .nilFunc, .bool false, .int .i64 0, .nilFunc] P0.out.zb hi rfl h1 ?_)
  have P1 := P0.out.put (parts12 h.sum h.key (w.heap.size + 1) w.heap.size)
  refine bodyPost_ret (v := .agg (parts12 h.sum h.key (w.heap.size + 1) w.heap.size)) (results_cell_row rfl _ _ (w.heap.size + 1 + 1) 60 (parts12 h.sum h.key (w.heap.size + 1) w.heap.size) (0, 0) _ rfl P1.zb Tryd.underlying60 rfl hi) rfl ?_
  exact ⟨rfl, P1.hb, P1.ob, P1.bel, P1.size⟩

end Go.Proofs.YtnlpbnipfglhhaaDoor
