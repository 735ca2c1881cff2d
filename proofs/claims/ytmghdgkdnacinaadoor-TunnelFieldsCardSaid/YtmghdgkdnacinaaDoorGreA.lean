/-
  GRE's header, plainly: its bytes; what bytes say as one.
-/
import Derived.Test.YtmghdgkdnacinaaDoorReading
import Derived.Test.YtmghdgkdnacinaaDoorSums
import Derived.Test.YtmghdgkdnacinaaDoorIpipA
import Derived.Test.YtmghdgkdnacinaaDoorWriting
import Derived.Test.YtmghdgkdnacinaaDoorGround
import Derived.LoopN
namespace Go.Proofs.YtmghdgkdnacinaaDoor
open Go.RowKit
set_option linter.unusedVariables false

/-- What a header says. -/
structure H12 where
  sum : Bool
  key : Bool
  v : Nat
def H12.cells (h : H12) : Array Value := #[.bool h.sum, .bool h.key, .int .u32 (h.v : Nat)]
def H12.zero : H12 := ⟨false, false, 0⟩
/-- A number, where it is asked. -/
def p12 (b : Bool) (n : Nat) : Nat := match b with | true => n | false => 0
/-- Bytes, where they are asked. -/
def q12 (b : Bool) (l : List UInt8) : List UInt8 := match b with | true => l | false => []
/-- How many bytes it has; the bits of its first two. -/
def size12 (s k : Bool) : Nat := 4 + p12 s 4 + p12 k 4
def bits12 (s k : Bool) : Nat := p12 s 32768 + p12 k 8192
/-- Behind the kind. -/
def behind12 (h : H12) (own : Nat) : List UInt8 := q12 h.sum (be own 2 ++ be 0 2) ++ q12 h.key (be h.v 4)
def head12 (h : H12) (kind own : Nat) : List UInt8 := be (bits12 h.sum h.key) 2 ++ be kind 2 ++ behind12 h own
/-- Its sum. -/
def own12 (h : H12) (inner : ByteArray) : Nat := match h.sum with | true => sumD (head12 h (v11 inner).kn 0 ++ inner.data.toList) | false => 0
/-- What Put answers. -/
def put12L (h : H12) (inner : ByteArray) : List UInt8 := head12 h (v11 inner).kn (own12 h inner) ++ inner.data.toList
def put12S (h : H12) (inner : ByteArray) : ByteArray := if (v11 inner).en = 0 then ⟨(put12L h inner).toArray⟩ else ⟨#[]⟩

/-- What a header's first four bytes say. -/
inductive F12 | stop (n : Nat) | ok (s k : Bool)
def f12 (b : ByteArray) : F12 :=
  if b.size < 4 then .stop 2 else if numOf b 0 2 % 8 ≠ 0 then .stop 3
  else if numOf b 0 2 = 0 then .ok false false else if numOf b 0 2 = 8192 then .ok false true else if numOf b 0 2 = 32768 then .ok true false else if numOf b 0 2 = 40960 then .ok true true else .stop 9
/-- The packet's fault, by what the header says that it is. -/
def pk12 (kind : Nat) (v : V11) : Nat := if kind ≠ 2048 ∧ kind ≠ 34525 then 6 else if v.en ≠ 0 then v.en else if v.kn ≠ kind then 3 else 0
/-- The sum's fault. -/
def sm12 (s : Bool) (b : ByteArray) : Nat := match s with | false => 0 | true => if numOf b 6 2 ≠ 0 then 9 else if sumD b.data.toList ≠ 0 then 5 else 0
/-- The fault behind the first four bytes. -/
def rest12 (s k : Bool) (b : ByteArray) : Nat :=
  if b.size < size12 s k then 2 else if sm12 s b ≠ 0 then sm12 s b else pk12 (numOf b 2 2) (v11 (b.extract (size12 s k) b.size))
def get12E (b : ByteArray) : Nat := match f12 b with | .stop n => n | .ok s k => rest12 s k b
/-- The key. -/
def key12 (s k : Bool) (b : ByteArray) : Nat := match k with | false => 0 | true => numOf b (size12 s k - 4) 4
def hd12 (b : ByteArray) : H12 := match f12 b with | .stop n => .zero | .ok s k => ⟨s, k, key12 s k b⟩
def in12 (b : ByteArray) : ByteArray := match f12 b with | .stop n => ⟨#[]⟩ | .ok s k => b.extract (size12 s k) b.size
def get12H (b : ByteArray) : H12 := if get12E b = 0 then hd12 b else .zero
def get12S (b : ByteArray) : ByteArray := if get12E b = 0 then in12 b else ⟨#[]⟩

theorem f12_stop_pos {b : ByteArray} {n : Nat} (h : f12 b = .stop n) : n = 2 ∧ b.size < 4 ∨ n = 3 ∧ 4 ≤ b.size ∧ numOf b 0 2 % 8 ≠ 0 ∨ n = 9 ∧ 4 ≤ b.size ∧ numOf b 0 2 % 8 = 0 ∧ numOf b 0 2 ≠ 0 ∧ numOf b 0 2 ≠ 8192 ∧ numOf b 0 2 ≠ 32768 ∧ numOf b 0 2 ≠ 40960 := by
  unfold f12 at h
  by_cases h1 : b.size < 4
  · rw [if_pos h1] at h; injection h with h; exact Or.inl ⟨h.symm, h1⟩
  rw [if_neg h1] at h
  by_cases h2 : numOf b 0 2 % 8 ≠ 0
  · rw [if_pos h2] at h; injection h with h; exact Or.inr (Or.inl ⟨h.symm, by omega, h2⟩)
  rw [if_neg h2] at h
  by_cases h3 : numOf b 0 2 = 0
  · rw [if_pos h3] at h; exact absurd h (by simp)
  rw [if_neg h3] at h
  by_cases h4 : numOf b 0 2 = 8192
  · rw [if_pos h4] at h; exact absurd h (by simp)
  rw [if_neg h4] at h
  by_cases h5 : numOf b 0 2 = 32768
  · rw [if_pos h5] at h; exact absurd h (by simp)
  rw [if_neg h5] at h
  by_cases h6 : numOf b 0 2 = 40960
  · rw [if_pos h6] at h; exact absurd h (by simp)
  rw [if_neg h6] at h
  injection h with h
  exact Or.inr (Or.inr ⟨h.symm, by omega, by omega, h3, h4, h5, h6⟩)
theorem f12_ok_bits {b : ByteArray} {s k : Bool} (h : f12 b = .ok s k) : 4 ≤ b.size ∧ numOf b 0 2 = bits12 s k := by
  unfold f12 at h
  by_cases h1 : b.size < 4
  · rw [if_pos h1] at h; exact absurd h (by simp)
  rw [if_neg h1] at h
  refine ⟨by omega, ?_⟩
  by_cases h2 : numOf b 0 2 % 8 ≠ 0
  · rw [if_pos h2] at h; exact absurd h (by simp)
  rw [if_neg h2] at h
  by_cases h3 : numOf b 0 2 = 0
  · rw [if_pos h3] at h; injection h with e1 e2; subst e1 e2; exact h3
  rw [if_neg h3] at h
  by_cases h4 : numOf b 0 2 = 8192
  · rw [if_pos h4] at h; injection h with e1 e2; subst e1 e2; exact h4
  rw [if_neg h4] at h
  by_cases h5 : numOf b 0 2 = 32768
  · rw [if_pos h5] at h; injection h with e1 e2; subst e1 e2; exact h5
  rw [if_neg h5] at h
  by_cases h6 : numOf b 0 2 = 40960
  · rw [if_pos h6] at h; injection h with e1 e2; subst e1 e2; exact h6
  rw [if_neg h6] at h
  exact absurd h (by simp)
theorem behind12_length (h : H12) (own : Nat) : (behind12 h own).length = p12 h.sum 4 + p12 h.key 4 := by
  obtain ⟨s, k, v⟩ := h
  cases s <;> cases k <;> simp [behind12, q12, p12, be_length]
theorem head12_length (h : H12) (kind own : Nat) : (head12 h kind own).length = size12 h.sum h.key := by
  unfold head12 size12
  rw [List.length_append, List.length_append, be_length, be_length, behind12_length]
  omega
theorem size12_le (s k : Bool) : size12 s k ≤ 12 ∧ 4 ≤ size12 s k := by cases s <;> cases k <;> decide

end Go.Proofs.YtmghdgkdnacinaaDoor

/-
  What a header has behind its kind: the closures that write it.
-/
namespace Go.Proofs.YtmghdgkdnacinaaDoor
open Go.RowKit
set_option linter.unusedVariables false

theorem Wr.later {w w' : World} {b base : Nat} {bs : List UInt8} (h : Wr w b base bs) (hb : Below w.heap.size w w') : Wr w' b base bs := by
  obtain ⟨v, hv, hown⟩ := h.blk
  refine ⟨⟨v, (hb.block _ hv.lt).trans hv, hown.kept (row := none) ⟨hb.os, hb.tape, hb.output, hb.size, fun k hk _ => hb.block k hk⟩ ?_⟩, h.lt, Nat.le_trans h.le hb.size⟩
  cases v.ownBlock <;> simp
theorem Wr.start {u : World} {b base : Nat} (h : Blk u b #[.slice none 0 0] 78) (h1 : b < base) (h2 : base ≤ u.heap.size) : Wr u b base [] :=
  ⟨⟨_, h, World.ownsRow_nil _ _ _ _⟩, h1, h2⟩

/-- The parts, as they stand in a row. -/
def parts12 (s k : Bool) (O H : Nat) : Array Value := #[.bool s, .int .i64 32768, .func (.func 72) #[] #[.pointer (some ⟨O, 0, none⟩)], .bool k, .int .i64 8192, .func (.func 73) #[] #[.pointer (some ⟨H, 0, none⟩)]]
theorem idx12_0 (s k : Bool) (O H : Nat) (u : World) : (Instr.index 95 (.agg (parts12 s k O H)) (.int .i64 0)).run Tryd.prog u = .ok (.agg #[.bool s, .int .i64 32768, .func (.func 72) #[] #[.pointer (some ⟨O, 0, none⟩)]]) u := by kernel_rfl
theorem idx12_1 (s k : Bool) (O H : Nat) (u : World) : (Instr.index 95 (.agg (parts12 s k O H)) (.int .i64 1)).run Tryd.prog u = .ok (.agg #[.bool k, .int .i64 8192, .func (.func 73) #[] #[.pointer (some ⟨H, 0, none⟩)]]) u := by kernel_rfl

set_option maxHeartbeats 400000 in
theorem write1_any (B base O own : Nat) (bs : List UInt8) (u : World) (hw : Wr u B base bs) (ho : Blk u O #[.int .i64 (own : Nat)] 3) (h1 : O ≠ B) (h2 : O < base) (hn : own < 65536) (hl : bs.length ≤ 1000000) :
    Calls Tryd.prog 72 #[.pointer (some ⟨B, 0, none⟩), .pointer (some ⟨O, 0, none⟩)] u fun e u' => e = .returned (.tuple #[]) ∧ Wr u' B base (bs ++ (be own 2 ++ be 0 2)) ∧ Kb (fun k => k = B ∨ base ≤ k) u u' := by
  have c0 := ho.cell 0
  simp at c0
  have HW := Lib.hid (wu16_any B base bs own own u hw (by rw [wrap_u64_any]; omega) (by omega) (by omega))
  have HL := Lib.hid hl
  clear hw ho h1 h2 hl
  go_enter Tryd.func72, Tryd.ntmps72
  go_wp2_with fail
  refine HW.out.mono ?_
  rintro e u1 ⟨rfl, w1, k1⟩
  have K1 := Lib.hid k1
  have W2 := Lib.hid (wu16_any B base (bs ++ be own 2) 0 0 u1 w1 (by decide) (by decide) (by have := HL.out; rw [List.length_append, be_length]; omega))
  clear HW k1 w1
  go_wp2_with fail
  refine W2.out.mono ?_
  rintro e u2 ⟨rfl, w2, k2⟩
  have R2 : Hid (Wr u2 B base (bs ++ (be own 2 ++ be 0 2))) := by
    show Wr u2 B base (bs ++ (be own 2 ++ be 0 2))
    rw [← List.append_assoc]; exact w2
  have K2 := Lib.hid (K1.out.trans k2)
  clear w2 k2 K1
  go_wp2_with fail
  go_end0
  exact ⟨rfl, R2.out, K2.out⟩

set_option maxHeartbeats 400000 in
theorem write2_any (B base H : Nat) (h : H12) (bs : List UInt8) (u : World) (hw : Wr u B base bs) (ho : Blk u H h.cells 66) (hn : h.v < 4294967296) (hl : bs.length ≤ 1000000) :
    Calls Tryd.prog 73 #[.pointer (some ⟨B, 0, none⟩), .pointer (some ⟨H, 0, none⟩)] u fun e u' => e = .returned (.tuple #[]) ∧ Wr u' B base (bs ++ be h.v 4) ∧ Kb (fun k => k = B ∨ base ≤ k) u u' := by
  have c2 := ho.cell 2
  unfold H12.cells at c2
  simp at c2
  have HW := Lib.hid (wu32_any B base bs h.v h.v u hw (by rw [wrap_u64_any]; omega) (by omega) (by omega))
  clear hw ho hl
  go_enter Tryd.func73, Tryd.ntmps73
  go_wp2_with fail
  refine HW.out.mono ?_
  rintro e u1 ⟨rfl, w1, k1⟩
  have R1 := Lib.hid w1
  have K1 := Lib.hid k1
  clear HW k1 w1
  go_wp2_with fail
  go_end0
  exact ⟨rfl, R1.out, K1.out⟩

/-- How parts ends: its two blocks are the header's and the sum's. -/
def Parts12End (h : H12) (own : Nat) (w : World) (e : Ending) (w' : World) : Prop :=
  e = .returned (.agg (parts12 h.sum h.key (w.heap.size + 1) w.heap.size)) ∧ Blk w' w.heap.size h.cells 66 ∧ Blk w' (w.heap.size + 1) #[.int .i64 (own : Nat)] 3 ∧ Below w.heap.size w w' ∧ w'.heap.size = w.heap.size + 3
def zeros12 : Array Value := #[.bool false, .int .i64 0, .nilFunc, .bool false, .int .i64 0, .nilFunc]
/-- parts' own blocks. -/
structure Pb12 (h : H12) (own : Nat) (w u : World) (zs : Array Value) : Prop where
  hb : Blk u w.heap.size h.cells 66
  ob : Blk u (w.heap.size + 1) #[.int .i64 (own : Nat)] 3
  zb : Blk u (w.heap.size + 1 + 1) zs 95
  bel : Below w.heap.size w u
  size : u.heap.size = w.heap.size + 3
theorem Pb12.new (h : H12) (own : Nat) (w : World) : Pb12 h own w (((w.alloc (.cells h.cells 66)).alloc (.cells #[.int .i64 (own : Nat)] 3)).alloc (.cells zeros12 95)) zeros12 := by
  have e1 := Blk.new w h.cells 66
  generalize hw1 : w.alloc (.cells h.cells 66) = w1 at *
  have s1 : w1.heap.size = w.heap.size + 1 := by rw [← hw1]; simp
  have b1 : Below w.heap.size w w1 := by rw [← hw1]; exact (Below.refl _ _).alloc (Nat.le_refl _) _
  have e2 := Blk.new w1 #[.int .i64 (own : Nat)] 3
  have e1' : Blk (w1.alloc (.cells #[.int .i64 (own : Nat)] 3)) w.heap.size h.cells 66 := e1.alloc _
  generalize hw2 : w1.alloc (.cells #[.int .i64 (own : Nat)] 3) = w2 at *
  have s2 : w2.heap.size = w.heap.size + 2 := by rw [← hw2]; simp; omega
  have b2 : Below w.heap.size w w2 := by rw [← hw2]; exact b1.alloc (by omega) _
  have e3 := Blk.new w2 zeros12 95
  rw [s1] at e2
  rw [s2] at e3
  exact ⟨e1'.alloc _, e2.alloc _, e3, b2.alloc (by omega) _, by simp; omega⟩
theorem Pb12.put {h : H12} {own : Nat} {w u : World} {zs : Array Value} (p : Pb12 h own w u zs) (ys : Array Value) : Pb12 h own w (u.setRow (w.heap.size + 1 + 1) ys) ys :=
  ⟨p.hb.row_other (by omega) _, p.ob.row_other (by omega) _, p.zb.row _, below_row p.bel (by omega) _, by simpa [World.setRow] using p.size⟩

set_option maxHeartbeats 1000000 in
theorem parts12_any (h : H12) (own : Nat) (w : World) :
    Calls Tryd.prog 49 #[.agg h.cells, .int .i64 (own : Nat)] w (Parts12End h own w) := by
  have hmf : ∀ (fn : Fn) (first cap : Array Value) (w : World), (Instr.makeFunc fn first cap).run Tryd.prog w = .ok (.func fn first cap) w := fun _ _ _ _ => rfl
  have P0 := Lib.hid (Pb12.new h own w)
  unfold H12.cells zeros12 at P0
  unfold H12.cells
  have hi : (Tryd.prog.info? 95).map (·.size) = some (parts12 h.sum h.key (w.heap.size + 1) w.heap.size).size := by kernel_rfl
  have h1 : (parts12 h.sum h.key (w.heap.size + 1) w.heap.size).all (·.oneCell') = true := by simp [parts12]; exact ⟨rfl, rfl, rfl, rfl, rfl, rfl⟩
  go_enter Tryd.func49, Tryd.ntmps49
  go_wp2_with (refine wpList_store_row rfl 95 (.tmp 4) (.tmp 13) rfl (w.heap.size + 1 + 1) (parts12 h.sum h.key (w.heap.size + 1) w.heap.size) rfl rfl 95 #[.bool false, .int .i64 0, .nilFunc, .bool false, .int .i64 0, .nilFunc] P0.out.zb hi rfl h1 ?_)
  have P1 := P0.out.put (parts12 h.sum h.key (w.heap.size + 1) w.heap.size)
  refine bodyPost_ret (v := .agg (parts12 h.sum h.key (w.heap.size + 1) w.heap.size)) (results_cell_row rfl _ _ (w.heap.size + 1 + 1) 95 (parts12 h.sum h.key (w.heap.size + 1) w.heap.size) (0, 0) _ rfl P1.zb Tryd.underlying95 rfl hi) rfl ?_
  exact ⟨rfl, P1.hb, P1.ob, P1.bel, P1.size⟩

end Go.Proofs.YtmghdgkdnacinaaDoor

/-
  A header's size and bytes. (Written by wip/tools/gengre.py.)
-/
namespace Go.Proofs.YtmghdgkdnacinaaDoor
open Go.RowKit
set_option linter.unusedVariables false
set_option linter.unusedSimpArgs false

/-- While what stands behind the kind is written: the writer, the header's block, and the sum's. -/
structure Hs12 (h : H12) (own : Nat) (w u : World) (B H O : Nat) (bs : List UInt8) : Prop where
  wr : Wr u B (O + 1) bs
  hb : Blk u H h.cells 66
  ob : Blk u O #[.int .i64 (own : Nat)] 3
  bel : Below w.heap.size w u
  le : w.heap.size ≤ B ∧ B < H ∧ H < O ∧ O < u.heap.size
theorem Hs12.later {h : H12} {own : Nat} {w u u' : World} {B H O : Nat} {bs : List UInt8} (p : Hs12 h own w u B H O bs) (hb : Below u.heap.size u u') : Hs12 h own w u' B H O bs := by
  have le := p.le
  refine ⟨p.wr.later hb, (hb.block _ p.hb.lt).trans p.hb, (hb.block _ p.ob.lt).trans p.ob, p.bel.trans (hb.mono p.bel.size), ?_⟩
  have := hb.size
  omega
theorem Hs12.write {h : H12} {own : Nat} {w u u' : World} {B H O : Nat} {bs bs' : List UInt8} (p : Hs12 h own w u B H O bs) (hw : Wr u' B (O + 1) bs') (hk : Kb (fun k => k = B ∨ O + 1 ≤ k) u u') : Hs12 h own w u' B H O bs' := by
  have le := p.le
  refine ⟨hw, p.hb.kb hk (by omega), p.ob.kb hk (by omega), p.bel.trans ⟨hk.os, hk.tape, hk.output, hk.size, fun k hk1 => hk.block k (by have := p.bel.size; omega) (by omega)⟩, ?_⟩
  have := hk.size
  omega
theorem Hs12.of {h : H12} {own : Nat} {w u u' : World} {B H O : Nat} (b : Below w.heap.size w u) (hw : Blk u B #[.slice none 0 0] 78) (hB : w.heap.size ≤ B) (hH : u.heap.size = H) (hO : u.heap.size + 1 = O)
    (h1 : Blk u' u.heap.size h.cells 66) (h2 : Blk u' (u.heap.size + 1) #[.int .i64 (own : Nat)] 3) (h3 : Below u.heap.size u u') (h4 : u'.heap.size = u.heap.size + 3) : Hs12 h own w u' B H O [] := by
  subst hH hO
  have lt := hw.lt
  exact ⟨Wr.start ((h3.block _ lt).trans hw) (by omega) (by omega), h1, h2, b.trans (h3.mono b.size), by omega⟩
/-- While the header is written: both writers. -/
structure Hc12 (w u0 u : World) (B base C : Nat) (bs cs : List UInt8) : Prop where
  wr : Wr u0 B base bs
  wc : Wr u C (C + 1) cs
  bel : Below C u0 u
  eq : u0.heap.size = C
  bw : Below w.heap.size w u0
theorem Hc12.new {h : H12} {own : Nat} {w u : World} {B H O : Nat} {bs : List UInt8} (p : Hs12 h own w u B H O bs) : Hc12 w u (u.alloc (.cells #[.slice none 0 0] 78)) B (O + 1) u.heap.size bs [] :=
  ⟨p.wr, Wr.start (Blk.new u _ _) (by omega) (by simp), (Below.refl _ _).alloc (Nat.le_refl _) _, rfl, p.bel⟩
theorem Hc12.step {w u0 u u' : World} {B base C : Nat} {bs cs cs' : List UInt8} (p : Hc12 w u0 u B base C bs cs) (hw : Wr u' C (C + 1) cs') (hk : Kb (fun k => k = C ∨ C + 1 ≤ k) u u') : Hc12 w u0 u' B base C bs cs' := by
  refine ⟨p.wr, hw, p.bel.trans ⟨hk.os, hk.tape, hk.output, hk.size, fun k hk1 => hk.block k (by have := p.bel.size; have := p.eq; omega) (by omega)⟩, p.eq, p.bw⟩
theorem Hc12.behind {w u0 u : World} {B base C : Nat} {bs cs : List UInt8} (p : Hc12 w u0 u B base C bs cs) : Wr u B base bs := p.wr.later (by rw [p.eq]; exact p.bel)
theorem Hc12.all {w u0 u : World} {B base C : Nat} {bs cs : List UInt8} (p : Hc12 w u0 u B base C bs cs) : Below w.heap.size w u := p.bw.trans (p.bel.mono (by have := p.bw.size; have := p.eq; omega))
theorem hc12_u16 {w u0 u : World} {B base C : Nat} {bs cs : List UInt8} (p : Hc12 w u0 u B base C bs cs) (n : Nat) (hn : n < 65536) (hl : cs.length ≤ 1000) :
    Calls Tryd.prog 38 #[.pointer (some ⟨C, 0, none⟩), .int .i64 (n : Nat)] u fun e u' => e = .returned (.tuple #[]) ∧ Hc12 w u0 u' B base C bs (cs ++ be n 2) :=
  (wu16_any C (C + 1) cs n n u p.wc (by rw [wrap_u64_any]; omega) (by omega) (by omega)).mono fun e u' hh => ⟨hh.1, p.step hh.2.1 hh.2.2⟩
theorem hc12_text {w u0 u : World} {B base C : Nat} {bs cs : List UInt8} (p : Hc12 w u0 u B base C bs cs) (hl : cs.length ≤ 1000) (hs : bs.length ≤ 1000) :
    Calls Tryd.prog 42 #[.pointer (some ⟨C, 0, none⟩), .string ⟨bs.toArray⟩] u fun e u' => e = .returned (.tuple #[]) ∧ Hc12 w u0 u' B base C bs (cs ++ bs) :=
  (wtext_any C (C + 1) cs ⟨bs.toArray⟩ u p.wc (by rw [list_size]; omega)).mono fun e u' hh => ⟨hh.1, p.step hh.2.1 hh.2.2⟩

/-- A part's block. -/
def zp12 : Array Value := #[.bool false, .int .i64 0, .nilFunc]
def pt12 (b : Bool) (n : Int) (F A : Nat) : Array Value := #[.bool b, .int .i64 n, .func (.func F) #[] #[.pointer (some ⟨A, 0, none⟩)]]
theorem pt12_one (b : Bool) (n : Int) (F A : Nat) : (pt12 b n F A).all (·.oneCell') = true := by simp [pt12]; exact ⟨rfl, rfl, rfl⟩
theorem pt12_info (b : Bool) (n : Int) (F A : Nat) : (Tryd.prog.info? 94).map (·.size) = some (pt12 b n F A).size := by kernel_rfl
structure Laid12 (u W : World) (cs : Array Value) : Prop where
  b : Blk W u.heap.size cs 94
  bel : Below u.heap.size u W
  size : W.heap.size = u.heap.size + 1
theorem laid12 (u : World) (cs : Array Value) : Laid12 u ((u.alloc (.cells zp12 94)).setRow u.heap.size cs) cs :=
  ⟨(Blk.new u _ _).row cs, below_row ((Below.refl _ _).alloc (Nat.le_refl _) _) (Nat.le_refl _) _, by simp [World.setRow]⟩

set_option maxRecDepth 100000 in
set_option maxHeartbeats 2000000 in
theorem gre_size_any (h : H12) (w : World) :
    Calls Tryd.prog 25 #[.agg h.cells] w (Tells (.int .i64 (size12 h.sum h.key : Nat)) w) := by
  have HP := Lib.hid (fun W => parts12_any h 0 W)
  have S0 := Lib.hid ((Below.refl w.heap.size w).alloc (Nat.le_refl _) (.cells h.cells 66))
  have i0 := fun s k O H u => idx12_0 s k O H u
  have i1 := fun s k O H u => idx12_1 s k O H u
  obtain ⟨s, k, v⟩ := h
  unfold Tells
  unfold Parts12End at HP
  unfold H12.cells at HP S0 ⊢
  simp only at HP S0 ⊢
  unfold parts12 at HP i0 i1
  cases s <;> cases k
  case true.true =>
    go_enter Tryd.func25, Tryd.ntmps25
    go_wp2_with fail
    generalize w.alloc (.cells #[.bool true, .bool true, .int .u32 (v : Nat)] 66) = u at *
    refine (HP.out u).mono ?_
    rintro e u1 ⟨rfl, -, -, hb, -⟩
    have B1 := Lib.hid (S0.out.trans (hb.mono S0.out.size))
    clear hb HP S0
    generalize u.heap.size + 1 = O at *
    generalize u.heap.size = H at *
    clear u
    go_wp2_with fail
    refine wp_loop_rounds 3 ?_
    rw [rounds_succ]
    have L0 := laid12 u1 (pt12 true 32768 72 O)
    have z0 := Blk.new u1 zp12 94
    have c00 := L0.b.cell 0
    have c01 := L0.b.cell 1
    have c02 := L0.b.cell 2
    unfold pt12 zp12 at L0 c00 c01 c02
    unfold zp12 at z0
    simp only [List.getElem?_toArray, List.getElem?_cons_zero, List.getElem?_cons_succ] at c00 c01 c02
    have LL0 := Lib.hid L0
    have ZZ0 := Lib.hid z0
    clear L0 z0
    go_wp2_with (refine wpList_store_row rfl 94 (.tmp 5) (.tmp 10) rfl u1.heap.size (pt12 true 32768 72 O) rfl rfl 94 zp12 ZZ0.out (pt12_info _ _ _ _) rfl (pt12_one _ _ _ _) ?_; unfold pt12; generalize (u1.alloc (.cells #[.bool false, .int .i64 0, .nilFunc] 94)).setRow u1.heap.size #[.bool true, .int .i64 32768, .func (.func 72) #[] #[.pointer (some ⟨O, 0, none⟩)]] = v0 at *)
    clear c00 c01 c02 ZZ0
    rw [rounds_succ]
    have L1 := laid12 v0 (pt12 true 8192 73 H)
    have z1 := Blk.new v0 zp12 94
    have c10 := L1.b.cell 0
    have c11 := L1.b.cell 1
    have c12 := L1.b.cell 2
    unfold pt12 zp12 at L1 c10 c11 c12
    unfold zp12 at z1
    simp only [List.getElem?_toArray, List.getElem?_cons_zero, List.getElem?_cons_succ] at c10 c11 c12
    have LL1 := Lib.hid L1
    have ZZ1 := Lib.hid z1
    clear L1 z1
    go_wp2_with (refine wpList_store_row rfl 94 (.tmp 5) (.tmp 10) rfl v0.heap.size (pt12 true 8192 73 H) rfl rfl 94 zp12 ZZ1.out (pt12_info _ _ _ _) rfl (pt12_one _ _ _ _) ?_; unfold pt12; generalize (v0.alloc (.cells #[.bool false, .int .i64 0, .nilFunc] 94)).setRow v0.heap.size #[.bool true, .int .i64 8192, .func (.func 73) #[] #[.pointer (some ⟨H, 0, none⟩)]] = v1 at *)
    clear c10 c11 c12 ZZ1
    rw [rounds_succ]
    go_wp2_with fail
    go_ret
    exact ⟨rfl, (B1.out.trans (LL0.out.bel.mono B1.out.size)).trans (LL1.out.bel.mono (Nat.le_trans B1.out.size LL0.out.bel.size))⟩
  case true.false =>
    go_enter Tryd.func25, Tryd.ntmps25
    go_wp2_with fail
    generalize w.alloc (.cells #[.bool true, .bool false, .int .u32 (v : Nat)] 66) = u at *
    refine (HP.out u).mono ?_
    rintro e u1 ⟨rfl, -, -, hb, -⟩
    have B1 := Lib.hid (S0.out.trans (hb.mono S0.out.size))
    clear hb HP S0
    generalize u.heap.size + 1 = O at *
    generalize u.heap.size = H at *
    clear u
    go_wp2_with fail
    refine wp_loop_rounds 3 ?_
    rw [rounds_succ]
    have L0 := laid12 u1 (pt12 true 32768 72 O)
    have z0 := Blk.new u1 zp12 94
    have c00 := L0.b.cell 0
    have c01 := L0.b.cell 1
    have c02 := L0.b.cell 2
    unfold pt12 zp12 at L0 c00 c01 c02
    unfold zp12 at z0
    simp only [List.getElem?_toArray, List.getElem?_cons_zero, List.getElem?_cons_succ] at c00 c01 c02
    have LL0 := Lib.hid L0
    have ZZ0 := Lib.hid z0
    clear L0 z0
    go_wp2_with (refine wpList_store_row rfl 94 (.tmp 5) (.tmp 10) rfl u1.heap.size (pt12 true 32768 72 O) rfl rfl 94 zp12 ZZ0.out (pt12_info _ _ _ _) rfl (pt12_one _ _ _ _) ?_; unfold pt12; generalize (u1.alloc (.cells #[.bool false, .int .i64 0, .nilFunc] 94)).setRow u1.heap.size #[.bool true, .int .i64 32768, .func (.func 72) #[] #[.pointer (some ⟨O, 0, none⟩)]] = v0 at *)
    clear c00 c01 c02 ZZ0
    rw [rounds_succ]
    have L1 := laid12 v0 (pt12 false 8192 73 H)
    have z1 := Blk.new v0 zp12 94
    have c10 := L1.b.cell 0
    have c11 := L1.b.cell 1
    have c12 := L1.b.cell 2
    unfold pt12 zp12 at L1 c10 c11 c12
    unfold zp12 at z1
    simp only [List.getElem?_toArray, List.getElem?_cons_zero, List.getElem?_cons_succ] at c10 c11 c12
    have LL1 := Lib.hid L1
    have ZZ1 := Lib.hid z1
    clear L1 z1
    go_wp2_with (refine wpList_store_row rfl 94 (.tmp 5) (.tmp 10) rfl v0.heap.size (pt12 false 8192 73 H) rfl rfl 94 zp12 ZZ1.out (pt12_info _ _ _ _) rfl (pt12_one _ _ _ _) ?_; unfold pt12; generalize (v0.alloc (.cells #[.bool false, .int .i64 0, .nilFunc] 94)).setRow v0.heap.size #[.bool false, .int .i64 8192, .func (.func 73) #[] #[.pointer (some ⟨H, 0, none⟩)]] = v1 at *)
    clear c10 c11 c12 ZZ1
    rw [rounds_succ]
    go_wp2_with fail
    go_ret
    exact ⟨rfl, (B1.out.trans (LL0.out.bel.mono B1.out.size)).trans (LL1.out.bel.mono (Nat.le_trans B1.out.size LL0.out.bel.size))⟩
  case false.true =>
    go_enter Tryd.func25, Tryd.ntmps25
    go_wp2_with fail
    generalize w.alloc (.cells #[.bool false, .bool true, .int .u32 (v : Nat)] 66) = u at *
    refine (HP.out u).mono ?_
    rintro e u1 ⟨rfl, -, -, hb, -⟩
    have B1 := Lib.hid (S0.out.trans (hb.mono S0.out.size))
    clear hb HP S0
    generalize u.heap.size + 1 = O at *
    generalize u.heap.size = H at *
    clear u
    go_wp2_with fail
    refine wp_loop_rounds 3 ?_
    rw [rounds_succ]
    have L0 := laid12 u1 (pt12 false 32768 72 O)
    have z0 := Blk.new u1 zp12 94
    have c00 := L0.b.cell 0
    have c01 := L0.b.cell 1
    have c02 := L0.b.cell 2
    unfold pt12 zp12 at L0 c00 c01 c02
    unfold zp12 at z0
    simp only [List.getElem?_toArray, List.getElem?_cons_zero, List.getElem?_cons_succ] at c00 c01 c02
    have LL0 := Lib.hid L0
    have ZZ0 := Lib.hid z0
    clear L0 z0
    go_wp2_with (refine wpList_store_row rfl 94 (.tmp 5) (.tmp 10) rfl u1.heap.size (pt12 false 32768 72 O) rfl rfl 94 zp12 ZZ0.out (pt12_info _ _ _ _) rfl (pt12_one _ _ _ _) ?_; unfold pt12; generalize (u1.alloc (.cells #[.bool false, .int .i64 0, .nilFunc] 94)).setRow u1.heap.size #[.bool false, .int .i64 32768, .func (.func 72) #[] #[.pointer (some ⟨O, 0, none⟩)]] = v0 at *)
    clear c00 c01 c02 ZZ0
    rw [rounds_succ]
    have L1 := laid12 v0 (pt12 true 8192 73 H)
    have z1 := Blk.new v0 zp12 94
    have c10 := L1.b.cell 0
    have c11 := L1.b.cell 1
    have c12 := L1.b.cell 2
    unfold pt12 zp12 at L1 c10 c11 c12
    unfold zp12 at z1
    simp only [List.getElem?_toArray, List.getElem?_cons_zero, List.getElem?_cons_succ] at c10 c11 c12
    have LL1 := Lib.hid L1
    have ZZ1 := Lib.hid z1
    clear L1 z1
    go_wp2_with (refine wpList_store_row rfl 94 (.tmp 5) (.tmp 10) rfl v0.heap.size (pt12 true 8192 73 H) rfl rfl 94 zp12 ZZ1.out (pt12_info _ _ _ _) rfl (pt12_one _ _ _ _) ?_; unfold pt12; generalize (v0.alloc (.cells #[.bool false, .int .i64 0, .nilFunc] 94)).setRow v0.heap.size #[.bool true, .int .i64 8192, .func (.func 73) #[] #[.pointer (some ⟨H, 0, none⟩)]] = v1 at *)
    clear c10 c11 c12 ZZ1
    rw [rounds_succ]
    go_wp2_with fail
    go_ret
    exact ⟨rfl, (B1.out.trans (LL0.out.bel.mono B1.out.size)).trans (LL1.out.bel.mono (Nat.le_trans B1.out.size LL0.out.bel.size))⟩
  case false.false =>
    go_enter Tryd.func25, Tryd.ntmps25
    go_wp2_with fail
    generalize w.alloc (.cells #[.bool false, .bool false, .int .u32 (v : Nat)] 66) = u at *
    refine (HP.out u).mono ?_
    rintro e u1 ⟨rfl, -, -, hb, -⟩
    have B1 := Lib.hid (S0.out.trans (hb.mono S0.out.size))
    clear hb HP S0
    generalize u.heap.size + 1 = O at *
    generalize u.heap.size = H at *
    clear u
    go_wp2_with fail
    refine wp_loop_rounds 3 ?_
    rw [rounds_succ]
    have L0 := laid12 u1 (pt12 false 32768 72 O)
    have z0 := Blk.new u1 zp12 94
    have c00 := L0.b.cell 0
    have c01 := L0.b.cell 1
    have c02 := L0.b.cell 2
    unfold pt12 zp12 at L0 c00 c01 c02
    unfold zp12 at z0
    simp only [List.getElem?_toArray, List.getElem?_cons_zero, List.getElem?_cons_succ] at c00 c01 c02
    have LL0 := Lib.hid L0
    have ZZ0 := Lib.hid z0
    clear L0 z0
    go_wp2_with (refine wpList_store_row rfl 94 (.tmp 5) (.tmp 10) rfl u1.heap.size (pt12 false 32768 72 O) rfl rfl 94 zp12 ZZ0.out (pt12_info _ _ _ _) rfl (pt12_one _ _ _ _) ?_; unfold pt12; generalize (u1.alloc (.cells #[.bool false, .int .i64 0, .nilFunc] 94)).setRow u1.heap.size #[.bool false, .int .i64 32768, .func (.func 72) #[] #[.pointer (some ⟨O, 0, none⟩)]] = v0 at *)
    clear c00 c01 c02 ZZ0
    rw [rounds_succ]
    have L1 := laid12 v0 (pt12 false 8192 73 H)
    have z1 := Blk.new v0 zp12 94
    have c10 := L1.b.cell 0
    have c11 := L1.b.cell 1
    have c12 := L1.b.cell 2
    unfold pt12 zp12 at L1 c10 c11 c12
    unfold zp12 at z1
    simp only [List.getElem?_toArray, List.getElem?_cons_zero, List.getElem?_cons_succ] at c10 c11 c12
    have LL1 := Lib.hid L1
    have ZZ1 := Lib.hid z1
    clear L1 z1
    go_wp2_with (refine wpList_store_row rfl 94 (.tmp 5) (.tmp 10) rfl v0.heap.size (pt12 false 8192 73 H) rfl rfl 94 zp12 ZZ1.out (pt12_info _ _ _ _) rfl (pt12_one _ _ _ _) ?_; unfold pt12; generalize (v0.alloc (.cells #[.bool false, .int .i64 0, .nilFunc] 94)).setRow v0.heap.size #[.bool false, .int .i64 8192, .func (.func 73) #[] #[.pointer (some ⟨H, 0, none⟩)]] = v1 at *)
    clear c10 c11 c12 ZZ1
    rw [rounds_succ]
    go_wp2_with fail
    go_ret
    exact ⟨rfl, (B1.out.trans (LL0.out.bel.mono B1.out.size)).trans (LL1.out.bel.mono (Nat.le_trans B1.out.size LL0.out.bel.size))⟩

set_option maxRecDepth 100000 in
set_option maxHeartbeats 4000000 in
theorem header12_any (h : H12) (kind own : Nat) (w : World) (hv : h.v < 4294967296) (hk : kind < 65536) (ho : own < 65536) :
    Calls Tryd.prog 51 #[.agg h.cells, .int .i64 (kind : Nat), .int .i64 (own : Nat)] w (Tells (.string ⟨(head12 h kind own).toArray⟩) w) := by
  have HP := Lib.hid (fun W => parts12_any h own W)
  have HV := Lib.hid hv
  have HK := Lib.hid hk
  have HO := Lib.hid ho
  have i0 := fun s k O H u => idx12_0 s k O H u
  have i1 := fun s k O H u => idx12_1 s k O H u
  have or1 : bits .or .i64 0 32768 = 32768 := by decide
  have or2 : bits .or .i64 32768 8192 = 40960 := by decide
  have or3 : bits .or .i64 0 8192 = 8192 := by decide
  have hb0 := (Below.refl w.heap.size w).alloc (Nat.le_refl _) (.cells h.cells 66)
  have hw0 := Blk.new (w.alloc (.cells h.cells 66)) #[.slice none 0 0] 78
  have hb1 := hb0.alloc hb0.size (.cells #[.slice none 0 0] 78)
  rw [World.size_alloc] at hw0
  have S0 := Lib.hid hb1
  have W0 := Lib.hid hw0
  clear hb0 hw0 hb1 hv hk ho
  obtain ⟨s, k, v⟩ := h
  unfold Tells
  unfold Parts12End at HP
  unfold H12.cells at S0 W0 HP ⊢
  simp only at HP S0 W0 HV ⊢
  unfold parts12 at HP i0 i1
  cases s <;> cases k
  case true.true =>
    go_enter Tryd.func51, Tryd.ntmps51
    go_wp2_with fail
    generalize (w.alloc (.cells #[.bool true, .bool true, .int .u32 (v : Nat)] 66)).alloc (.cells #[.slice none 0 0] 78) = u at *
    have lB : Hid (w.heap.size ≤ w.heap.size + 1) := Nat.le_succ _
    generalize w.heap.size + 1 = B at *
    refine (HP.out u).mono ?_
    rintro e u1 ⟨rfl, hh, ho, hb, hz⟩
    have P0 := Lib.hid (Hs12.of (h := ⟨true, true, v⟩) S0.out W0.out lB.out rfl rfl hh ho hb hz)
    clear hb HP S0 W0 lB hh ho hz
    generalize u.heap.size + 1 = O at *
    generalize u.heap.size = H at *
    clear u
    go_wp2_with fail
    refine wp_loop_rounds 3 ?_
    rw [rounds_succ]
    have L0 := laid12 u1 (pt12 true 32768 72 O)
    have z0 := Blk.new u1 zp12 94
    have c00 := L0.b.cell 0
    have c01 := L0.b.cell 1
    have c02 := L0.b.cell 2
    unfold pt12 zp12 at L0 c00 c01 c02
    unfold zp12 at z0
    simp only [List.getElem?_toArray, List.getElem?_cons_zero, List.getElem?_cons_succ] at c00 c01 c02
    have LL0 := Lib.hid L0
    have ZZ0 := Lib.hid z0
    clear L0 z0
    go_wp2_with (refine wpList_store_row rfl 94 (.tmp 10) (.tmp 17) rfl u1.heap.size (pt12 true 32768 72 O) rfl rfl 94 zp12 ZZ0.out (pt12_info _ _ _ _) rfl (pt12_one _ _ _ _) ?_; unfold pt12; generalize (u1.alloc (.cells #[.bool false, .int .i64 0, .nilFunc] 94)).setRow u1.heap.size #[.bool true, .int .i64 32768, .func (.func 72) #[] #[.pointer (some ⟨O, 0, none⟩)]] = v0 at *)
    clear c00 c01 c02 ZZ0
    have P1 := Lib.hid (P0.out.later LL0.out.bel)
    clear P0 LL0
    refine (write1_any B (O + 1) O own _ v0 P1.out.wr P1.out.ob (by have := P1.out.le; omega) (by omega) HO.out (by simp)).mono ?_
    rintro e u2 ⟨rfl, w2, k2⟩
    have P2 := Lib.hid (P1.out.write w2 k2)
    clear w2 k2 P1
    go_wp2_with fail
    rw [rounds_succ]
    have L1 := laid12 u2 (pt12 true 8192 73 H)
    have z1 := Blk.new u2 zp12 94
    have c10 := L1.b.cell 0
    have c11 := L1.b.cell 1
    have c12 := L1.b.cell 2
    unfold pt12 zp12 at L1 c10 c11 c12
    unfold zp12 at z1
    simp only [List.getElem?_toArray, List.getElem?_cons_zero, List.getElem?_cons_succ] at c10 c11 c12
    have LL1 := Lib.hid L1
    have ZZ1 := Lib.hid z1
    clear L1 z1
    go_wp2_with (refine wpList_store_row rfl 94 (.tmp 10) (.tmp 17) rfl u2.heap.size (pt12 true 8192 73 H) rfl rfl 94 zp12 ZZ1.out (pt12_info _ _ _ _) rfl (pt12_one _ _ _ _) ?_; unfold pt12; generalize (u2.alloc (.cells #[.bool false, .int .i64 0, .nilFunc] 94)).setRow u2.heap.size #[.bool true, .int .i64 8192, .func (.func 73) #[] #[.pointer (some ⟨H, 0, none⟩)]] = v1 at *)
    clear c10 c11 c12 ZZ1
    have P3 := Lib.hid (P2.out.later LL1.out.bel)
    clear P2 LL1
    refine (write2_any B (O + 1) H ⟨true, true, v⟩ _ v1 P3.out.wr P3.out.hb HV.out (by simp [be_length])).mono ?_
    rintro e u3 ⟨rfl, w3, k3⟩
    have P4 := Lib.hid (P3.out.write w3 k3)
    clear w3 k3 P3
    go_wp2_with fail
    rw [rounds_succ]
    go_wp2_with fail
    have C0 := Lib.hid (Hc12.new P4.out)
    clear P4
    generalize u3.alloc (.cells #[.slice none 0 0] 78) = c0 at *
    generalize u3.heap.size = C at *
    refine (hc12_u16 C0.out 40960 (by decide) (by simp)).mono ?_
    rintro e c1 ⟨rfl, C1⟩
    replace C1 := Lib.hid C1
    clear C0
    go_wp2_with fail
    refine (hc12_u16 C1.out kind HK.out (by simp [be_length])).mono ?_
    rintro e c2 ⟨rfl, C2⟩
    replace C2 := Lib.hid C2
    clear C1
    go_wp2_with fail
    refine (wstring_any B (O + 1) _ _ C2.out.behind).mono ?_
    rintro e c3 ⟨rfl, rfl⟩
    go_wp2_with fail
    refine (hc12_text C2.out (by simp [be_length]) (by simp [be_length])).mono ?_
    rintro e c4 ⟨rfl, C4⟩
    replace C4 := Lib.hid C4
    clear C2
    go_wp2_with fail
    refine (wstring_any C (C + 1) _ _ C4.out.wc).mono ?_
    rintro e c5 ⟨rfl, rfl⟩
    go_wp2_with fail
    go_ret
    refine ⟨?_, C4.out.all⟩
    simp [head12, behind12, q12, bits12, p12]
  case true.false =>
    go_enter Tryd.func51, Tryd.ntmps51
    go_wp2_with fail
    generalize (w.alloc (.cells #[.bool true, .bool false, .int .u32 (v : Nat)] 66)).alloc (.cells #[.slice none 0 0] 78) = u at *
    have lB : Hid (w.heap.size ≤ w.heap.size + 1) := Nat.le_succ _
    generalize w.heap.size + 1 = B at *
    refine (HP.out u).mono ?_
    rintro e u1 ⟨rfl, hh, ho, hb, hz⟩
    have P0 := Lib.hid (Hs12.of (h := ⟨true, false, v⟩) S0.out W0.out lB.out rfl rfl hh ho hb hz)
    clear hb HP S0 W0 lB hh ho hz
    generalize u.heap.size + 1 = O at *
    generalize u.heap.size = H at *
    clear u
    go_wp2_with fail
    refine wp_loop_rounds 3 ?_
    rw [rounds_succ]
    have L0 := laid12 u1 (pt12 true 32768 72 O)
    have z0 := Blk.new u1 zp12 94
    have c00 := L0.b.cell 0
    have c01 := L0.b.cell 1
    have c02 := L0.b.cell 2
    unfold pt12 zp12 at L0 c00 c01 c02
    unfold zp12 at z0
    simp only [List.getElem?_toArray, List.getElem?_cons_zero, List.getElem?_cons_succ] at c00 c01 c02
    have LL0 := Lib.hid L0
    have ZZ0 := Lib.hid z0
    clear L0 z0
    go_wp2_with (refine wpList_store_row rfl 94 (.tmp 10) (.tmp 17) rfl u1.heap.size (pt12 true 32768 72 O) rfl rfl 94 zp12 ZZ0.out (pt12_info _ _ _ _) rfl (pt12_one _ _ _ _) ?_; unfold pt12; generalize (u1.alloc (.cells #[.bool false, .int .i64 0, .nilFunc] 94)).setRow u1.heap.size #[.bool true, .int .i64 32768, .func (.func 72) #[] #[.pointer (some ⟨O, 0, none⟩)]] = v0 at *)
    clear c00 c01 c02 ZZ0
    have P1 := Lib.hid (P0.out.later LL0.out.bel)
    clear P0 LL0
    refine (write1_any B (O + 1) O own _ v0 P1.out.wr P1.out.ob (by have := P1.out.le; omega) (by omega) HO.out (by simp)).mono ?_
    rintro e u2 ⟨rfl, w2, k2⟩
    have P2 := Lib.hid (P1.out.write w2 k2)
    clear w2 k2 P1
    go_wp2_with fail
    rw [rounds_succ]
    have L1 := laid12 u2 (pt12 false 8192 73 H)
    have z1 := Blk.new u2 zp12 94
    have c10 := L1.b.cell 0
    have c11 := L1.b.cell 1
    have c12 := L1.b.cell 2
    unfold pt12 zp12 at L1 c10 c11 c12
    unfold zp12 at z1
    simp only [List.getElem?_toArray, List.getElem?_cons_zero, List.getElem?_cons_succ] at c10 c11 c12
    have LL1 := Lib.hid L1
    have ZZ1 := Lib.hid z1
    clear L1 z1
    go_wp2_with (refine wpList_store_row rfl 94 (.tmp 10) (.tmp 17) rfl u2.heap.size (pt12 false 8192 73 H) rfl rfl 94 zp12 ZZ1.out (pt12_info _ _ _ _) rfl (pt12_one _ _ _ _) ?_; unfold pt12; generalize (u2.alloc (.cells #[.bool false, .int .i64 0, .nilFunc] 94)).setRow u2.heap.size #[.bool false, .int .i64 8192, .func (.func 73) #[] #[.pointer (some ⟨H, 0, none⟩)]] = v1 at *)
    clear c10 c11 c12 ZZ1
    have P3 := Lib.hid (P2.out.later LL1.out.bel)
    clear P2 LL1
    have P4 := P3
    generalize v1 = u3 at *
    clear P3
    rw [rounds_succ]
    go_wp2_with fail
    have C0 := Lib.hid (Hc12.new P4.out)
    clear P4
    generalize u3.alloc (.cells #[.slice none 0 0] 78) = c0 at *
    generalize u3.heap.size = C at *
    refine (hc12_u16 C0.out 32768 (by decide) (by simp)).mono ?_
    rintro e c1 ⟨rfl, C1⟩
    replace C1 := Lib.hid C1
    clear C0
    go_wp2_with fail
    refine (hc12_u16 C1.out kind HK.out (by simp [be_length])).mono ?_
    rintro e c2 ⟨rfl, C2⟩
    replace C2 := Lib.hid C2
    clear C1
    go_wp2_with fail
    refine (wstring_any B (O + 1) _ _ C2.out.behind).mono ?_
    rintro e c3 ⟨rfl, rfl⟩
    go_wp2_with fail
    refine (hc12_text C2.out (by simp [be_length]) (by simp [be_length])).mono ?_
    rintro e c4 ⟨rfl, C4⟩
    replace C4 := Lib.hid C4
    clear C2
    go_wp2_with fail
    refine (wstring_any C (C + 1) _ _ C4.out.wc).mono ?_
    rintro e c5 ⟨rfl, rfl⟩
    go_wp2_with fail
    go_ret
    refine ⟨?_, C4.out.all⟩
    simp [head12, behind12, q12, bits12, p12]
  case false.true =>
    go_enter Tryd.func51, Tryd.ntmps51
    go_wp2_with fail
    generalize (w.alloc (.cells #[.bool false, .bool true, .int .u32 (v : Nat)] 66)).alloc (.cells #[.slice none 0 0] 78) = u at *
    have lB : Hid (w.heap.size ≤ w.heap.size + 1) := Nat.le_succ _
    generalize w.heap.size + 1 = B at *
    refine (HP.out u).mono ?_
    rintro e u1 ⟨rfl, hh, ho, hb, hz⟩
    have P0 := Lib.hid (Hs12.of (h := ⟨false, true, v⟩) S0.out W0.out lB.out rfl rfl hh ho hb hz)
    clear hb HP S0 W0 lB hh ho hz
    generalize u.heap.size + 1 = O at *
    generalize u.heap.size = H at *
    clear u
    go_wp2_with fail
    refine wp_loop_rounds 3 ?_
    rw [rounds_succ]
    have L0 := laid12 u1 (pt12 false 32768 72 O)
    have z0 := Blk.new u1 zp12 94
    have c00 := L0.b.cell 0
    have c01 := L0.b.cell 1
    have c02 := L0.b.cell 2
    unfold pt12 zp12 at L0 c00 c01 c02
    unfold zp12 at z0
    simp only [List.getElem?_toArray, List.getElem?_cons_zero, List.getElem?_cons_succ] at c00 c01 c02
    have LL0 := Lib.hid L0
    have ZZ0 := Lib.hid z0
    clear L0 z0
    go_wp2_with (refine wpList_store_row rfl 94 (.tmp 10) (.tmp 17) rfl u1.heap.size (pt12 false 32768 72 O) rfl rfl 94 zp12 ZZ0.out (pt12_info _ _ _ _) rfl (pt12_one _ _ _ _) ?_; unfold pt12; generalize (u1.alloc (.cells #[.bool false, .int .i64 0, .nilFunc] 94)).setRow u1.heap.size #[.bool false, .int .i64 32768, .func (.func 72) #[] #[.pointer (some ⟨O, 0, none⟩)]] = v0 at *)
    clear c00 c01 c02 ZZ0
    have P1 := Lib.hid (P0.out.later LL0.out.bel)
    clear P0 LL0
    have P2 := P1
    generalize v0 = u2 at *
    clear P1
    rw [rounds_succ]
    have L1 := laid12 u2 (pt12 true 8192 73 H)
    have z1 := Blk.new u2 zp12 94
    have c10 := L1.b.cell 0
    have c11 := L1.b.cell 1
    have c12 := L1.b.cell 2
    unfold pt12 zp12 at L1 c10 c11 c12
    unfold zp12 at z1
    simp only [List.getElem?_toArray, List.getElem?_cons_zero, List.getElem?_cons_succ] at c10 c11 c12
    have LL1 := Lib.hid L1
    have ZZ1 := Lib.hid z1
    clear L1 z1
    go_wp2_with (refine wpList_store_row rfl 94 (.tmp 10) (.tmp 17) rfl u2.heap.size (pt12 true 8192 73 H) rfl rfl 94 zp12 ZZ1.out (pt12_info _ _ _ _) rfl (pt12_one _ _ _ _) ?_; unfold pt12; generalize (u2.alloc (.cells #[.bool false, .int .i64 0, .nilFunc] 94)).setRow u2.heap.size #[.bool true, .int .i64 8192, .func (.func 73) #[] #[.pointer (some ⟨H, 0, none⟩)]] = v1 at *)
    clear c10 c11 c12 ZZ1
    have P3 := Lib.hid (P2.out.later LL1.out.bel)
    clear P2 LL1
    refine (write2_any B (O + 1) H ⟨false, true, v⟩ _ v1 P3.out.wr P3.out.hb HV.out (by simp [be_length])).mono ?_
    rintro e u3 ⟨rfl, w3, k3⟩
    have P4 := Lib.hid (P3.out.write w3 k3)
    clear w3 k3 P3
    go_wp2_with fail
    rw [rounds_succ]
    go_wp2_with fail
    have C0 := Lib.hid (Hc12.new P4.out)
    clear P4
    generalize u3.alloc (.cells #[.slice none 0 0] 78) = c0 at *
    generalize u3.heap.size = C at *
    refine (hc12_u16 C0.out 8192 (by decide) (by simp)).mono ?_
    rintro e c1 ⟨rfl, C1⟩
    replace C1 := Lib.hid C1
    clear C0
    go_wp2_with fail
    refine (hc12_u16 C1.out kind HK.out (by simp [be_length])).mono ?_
    rintro e c2 ⟨rfl, C2⟩
    replace C2 := Lib.hid C2
    clear C1
    go_wp2_with fail
    refine (wstring_any B (O + 1) _ _ C2.out.behind).mono ?_
    rintro e c3 ⟨rfl, rfl⟩
    go_wp2_with fail
    refine (hc12_text C2.out (by simp [be_length]) (by simp [be_length])).mono ?_
    rintro e c4 ⟨rfl, C4⟩
    replace C4 := Lib.hid C4
    clear C2
    go_wp2_with fail
    refine (wstring_any C (C + 1) _ _ C4.out.wc).mono ?_
    rintro e c5 ⟨rfl, rfl⟩
    go_wp2_with fail
    go_ret
    refine ⟨?_, C4.out.all⟩
    simp [head12, behind12, q12, bits12, p12]
  case false.false =>
    go_enter Tryd.func51, Tryd.ntmps51
    go_wp2_with fail
    generalize (w.alloc (.cells #[.bool false, .bool false, .int .u32 (v : Nat)] 66)).alloc (.cells #[.slice none 0 0] 78) = u at *
    have lB : Hid (w.heap.size ≤ w.heap.size + 1) := Nat.le_succ _
    generalize w.heap.size + 1 = B at *
    refine (HP.out u).mono ?_
    rintro e u1 ⟨rfl, hh, ho, hb, hz⟩
    have P0 := Lib.hid (Hs12.of (h := ⟨false, false, v⟩) S0.out W0.out lB.out rfl rfl hh ho hb hz)
    clear hb HP S0 W0 lB hh ho hz
    generalize u.heap.size + 1 = O at *
    generalize u.heap.size = H at *
    clear u
    go_wp2_with fail
    refine wp_loop_rounds 3 ?_
    rw [rounds_succ]
    have L0 := laid12 u1 (pt12 false 32768 72 O)
    have z0 := Blk.new u1 zp12 94
    have c00 := L0.b.cell 0
    have c01 := L0.b.cell 1
    have c02 := L0.b.cell 2
    unfold pt12 zp12 at L0 c00 c01 c02
    unfold zp12 at z0
    simp only [List.getElem?_toArray, List.getElem?_cons_zero, List.getElem?_cons_succ] at c00 c01 c02
    have LL0 := Lib.hid L0
    have ZZ0 := Lib.hid z0
    clear L0 z0
    go_wp2_with (refine wpList_store_row rfl 94 (.tmp 10) (.tmp 17) rfl u1.heap.size (pt12 false 32768 72 O) rfl rfl 94 zp12 ZZ0.out (pt12_info _ _ _ _) rfl (pt12_one _ _ _ _) ?_; unfold pt12; generalize (u1.alloc (.cells #[.bool false, .int .i64 0, .nilFunc] 94)).setRow u1.heap.size #[.bool false, .int .i64 32768, .func (.func 72) #[] #[.pointer (some ⟨O, 0, none⟩)]] = v0 at *)
    clear c00 c01 c02 ZZ0
    have P1 := Lib.hid (P0.out.later LL0.out.bel)
    clear P0 LL0
    have P2 := P1
    generalize v0 = u2 at *
    clear P1
    rw [rounds_succ]
    have L1 := laid12 u2 (pt12 false 8192 73 H)
    have z1 := Blk.new u2 zp12 94
    have c10 := L1.b.cell 0
    have c11 := L1.b.cell 1
    have c12 := L1.b.cell 2
    unfold pt12 zp12 at L1 c10 c11 c12
    unfold zp12 at z1
    simp only [List.getElem?_toArray, List.getElem?_cons_zero, List.getElem?_cons_succ] at c10 c11 c12
    have LL1 := Lib.hid L1
    have ZZ1 := Lib.hid z1
    clear L1 z1
    go_wp2_with (refine wpList_store_row rfl 94 (.tmp 10) (.tmp 17) rfl u2.heap.size (pt12 false 8192 73 H) rfl rfl 94 zp12 ZZ1.out (pt12_info _ _ _ _) rfl (pt12_one _ _ _ _) ?_; unfold pt12; generalize (u2.alloc (.cells #[.bool false, .int .i64 0, .nilFunc] 94)).setRow u2.heap.size #[.bool false, .int .i64 8192, .func (.func 73) #[] #[.pointer (some ⟨H, 0, none⟩)]] = v1 at *)
    clear c10 c11 c12 ZZ1
    have P3 := Lib.hid (P2.out.later LL1.out.bel)
    clear P2 LL1
    have P4 := P3
    generalize v1 = u3 at *
    clear P3
    rw [rounds_succ]
    go_wp2_with fail
    have C0 := Lib.hid (Hc12.new P4.out)
    clear P4
    generalize u3.alloc (.cells #[.slice none 0 0] 78) = c0 at *
    generalize u3.heap.size = C at *
    refine (hc12_u16 C0.out 0 (by decide) (by simp)).mono ?_
    rintro e c1 ⟨rfl, C1⟩
    replace C1 := Lib.hid C1
    clear C0
    go_wp2_with fail
    refine (hc12_u16 C1.out kind HK.out (by simp [be_length])).mono ?_
    rintro e c2 ⟨rfl, C2⟩
    replace C2 := Lib.hid C2
    clear C1
    go_wp2_with fail
    refine (wstring_any B (O + 1) _ _ C2.out.behind).mono ?_
    rintro e c3 ⟨rfl, rfl⟩
    go_wp2_with fail
    refine (hc12_text C2.out (by simp [be_length]) (by simp [be_length])).mono ?_
    rintro e c4 ⟨rfl, C4⟩
    replace C4 := Lib.hid C4
    clear C2
    go_wp2_with fail
    refine (wstring_any C (C + 1) _ _ C4.out.wc).mono ?_
    rintro e c5 ⟨rfl, rfl⟩
    go_wp2_with fail
    go_ret
    refine ⟨?_, C4.out.all⟩
    simp [head12, behind12, q12, bits12, p12]

end Go.Proofs.YtmghdgkdnacinaaDoor

/-
  Reading a header's front, and the packet behind it.
-/
namespace Go.Proofs.YtmghdgkdnacinaaDoor
open Go.RowKit
set_option linter.unusedVariables false

/-- A number but for some of its bits. -/
theorem i64_andNot_nat (a b : Nat) (ha : a < 9223372036854775808) (hb : b < 9223372036854775808) : bits .andNot .i64 (a : Int) (b : Int) = ((a &&& (2 ^ 64 - (b + 1)) : Nat) : Int) := by
  show IntKind.i64.wrap ((BitVec.ofInt 64 (a : Int) &&& ~~~BitVec.ofInt 64 (b : Int)).toNat : Nat) = _
  rw [BitVec.ofInt_natCast, BitVec.ofInt_natCast, BitVec.toNat_and, BitVec.toNat_not, BitVec.toNat_ofNat, BitVec.toNat_ofNat, Nat.mod_eq_of_lt (show a < 2 ^ 64 by omega), Nat.mod_eq_of_lt (show b < 2 ^ 64 by omega), IntKind.wrap_i64, Nat.sub_sub, Nat.add_comm 1 b]
  have := Nat.and_le_left (n := a) (m := 2 ^ 64 - (b + 1))
  omega
theorem land_rest (n b : Nat) (hn : n < 2 ^ 64) (h : n &&& (2 ^ 64 - (b + 1)) = 0) (hb : b < 2 ^ 64) : n &&& b = n := by
  apply Nat.eq_of_testBit_eq
  intro i
  have hi := congrArg (fun x => Nat.testBit x i) h
  simp only [Nat.testBit_and, Nat.zero_testBit, Nat.testBit_two_pow_sub_succ hb] at hi
  rw [Nat.testBit_and]
  cases hx : n.testBit i with
  | false => simp
  | true =>
    rw [hx] at hi
    by_cases h64 : i < 64
    · simpa [h64] using hi
    · have := Nat.testBit_lt_two_pow (x := n) (i := i) (Nat.lt_of_lt_of_le hn (Nat.pow_le_pow_right (by decide) (by omega)))
      rw [hx] at this
      exact absurd this (by decide)
theorem andNot_zero (n : Nat) (hn : n < 65536) : ((bits .andNot .i64 (n : Int) 40960) == 0) = decide (n = 0 ∨ n = 8192 ∨ n = 32768 ∨ n = 40960) := by
  have e := i64_andNot_nat n 40960 (by omega) (by decide)
  rw [show ((40960 : Nat) : Int) = 40960 from rfl] at e
  rw [e]
  by_cases h : n &&& (2 ^ 64 - (40960 + 1)) = 0
  · rw [h]
    have h1 := land_rest n 40960 (by omega) h (by decide)
    have h2 : (40960 : Nat) = 2 ^ 13 ||| 2 ^ 15 := by decide
    rw [h2, Nat.and_or_distrib_left, and_pow, and_pow] at h1
    have : n = 0 ∨ n = 8192 ∨ n = 32768 ∨ n = 40960 := by
      split at h1 <;> split at h1 <;> (have h3 := h1.symm; first | (right; right; right; exact h3.trans (by decide)) | (right; left; exact h3.trans (by decide)) | (right; right; left; exact h3.trans (by decide)) | (left; exact h3.trans (by decide)))
    simp [this]
  · have : ¬ (n = 0 ∨ n = 8192 ∨ n = 32768 ∨ n = 40960) := by
      rintro (rfl | rfl | rfl | rfl) <;> exact h (by decide)
    simp only [decide_eq_false this]
    simp
    omega

/-- How the front ends. -/
def Front12End (R : Nat) (b : ByteArray) (u : World) (e : Ending) (u' : World) : Prop :=
  Kb (· = R) u u' ∧ ((∃ s k, f12 b = .ok s k ∧ Rd u' R b 4 ∧ e = .returned (.tuple #[.agg (H12.cells ⟨s, k, 0⟩), .int .i64 (numOf b 2 2 : Nat)])) ∨ (∃ n : Nat, f12 b = .stop n ∧ e = .panicked (stopped n)))

/-- A header stored into a block, cell by cell. -/
def put12c (v : World) (N : Nat) (h : H12) : World := ((v.setCell ⟨N, 0, none⟩ (.bool h.sum)).setCell ⟨N, 1, none⟩ (.bool h.key)).setCell ⟨N, 2, none⟩ (.int .u32 (h.v : Nat))
theorem put12c_blk {v : World} {N : Nat} {g : H12} {T : TypeId} (hb : Blk v N g.cells T) (h : H12) : Blk (put12c v N h) N h.cells T :=
  ((hb.set 0 (.bool h.sum)).set 1 (.bool h.key)).set 2 (.int .u32 (h.v : Nat))
theorem put12c_kb {S : Nat → Prop} {u v : World} {N : Nat} (hk : Kb S u v) (hN : N < u.heap.size → S N) (h : H12) : Kb S u (put12c v N h) :=
  ((hk.setCell (p := ⟨N, 0, none⟩) hN _).setCell (p := ⟨N, 1, none⟩) hN _).setCell (p := ⟨N, 2, none⟩) hN _
theorem put12c_other {v : World} {N M : Nat} {xs : Array Value} {T : TypeId} (hb : Blk v M xs T) (hn : M ≠ N) (h : H12) : Blk (put12c v N h) M xs T :=
  ((hb.set_other (p := ⟨N, 0, none⟩) hn _).set_other (p := ⟨N, 1, none⟩) hn _).set_other (p := ⟨N, 2, none⟩) hn _
/-- A header's three cells. -/
structure Hc12s (w : World) (b : Nat) (h : H12) : Prop where
  c0 : w.cell? ⟨b, 0, none⟩ = some (.bool h.sum)
  c1 : w.cell? ⟨b, 1, none⟩ = some (.bool h.key)
  c2 : w.cell? ⟨b, 2, none⟩ = some (.int .u32 (h.v : Nat))
theorem Hc12s.of {w : World} {b : Nat} {h : H12} {T : TypeId} (hb : Blk w b h.cells T) : Hc12s w b h := ⟨hb.cell 0, hb.cell 1, hb.cell 2⟩

/-- While it reads: the reader, the answer's block. -/
structure Rw12 (u v : World) (R : Nat) (p : ByteArray) (i : Nat) (h : H12) : Prop where
  rd : Rd v R p i
  kb : Kb (· = R) u v
  zb : Blk v u.heap.size h.cells 66
  lt : R < u.heap.size
theorem Rw12.step {u v v' : World} {R : Nat} {p : ByteArray} {i j : Nat} {h : H12} (r : Rw12 u v R p i h) (hr : Rd v' R p j) (hk : Kb (· = R) v v') : Rw12 u v' R p j h :=
  ⟨hr, r.kb.trans hk, r.zb.kb hk (by have := r.lt; omega), r.lt⟩
theorem Rw12.new {u : World} {R : Nat} {p : ByteArray} {i : Nat} (hr : Rd u R p i) : Rw12 u (u.alloc (.cells H12.zero.cells 66)) R p i H12.zero :=
  ⟨hr.alloc _, (Kb.refl _ _).alloc _, Blk.new u _ _, hr.lt⟩
theorem rw12_u16 {u v : World} {R : Nat} {p : ByteArray} {i : Nat} {h : H12} (r : Rw12 u v R p i h) (hi : i + 2 ≤ p.size) (hs : p.size ≤ 1000000) :
    Calls Tryd.prog 67 #[.pointer (some ⟨R, 0, none⟩)] v fun e v' => e = .returned (.int .i64 (numOf p i 2)) ∧ Rw12 u v' R p (i + 2) h :=
  (u16_yes R p i v r.rd hi (by unfold maxLen; omega)).mono fun e v' hh => ⟨hh.1, r.step hh.2.1 hh.2.2⟩
theorem Front12End.stop {u u' : World} {R : Nat} {p : ByteArray} {k : Nat} (hk : Kb (· = R) u u') (he : f12 p = .stop k) : Front12End R p u (.panicked (stopped (k : Nat))) u' :=
  ⟨hk, Or.inr ⟨k, he, rfl⟩⟩

set_option maxRecDepth 100000 in
set_option maxHeartbeats 2000000 in
theorem readFront_any (R : Nat) (b : ByteArray) (u : World) (hr : Rd u R b 0) (hs : b.size ≤ 1000000) :
    Calls Tryd.prog 75 #[.pointer (some ⟨R, 0, none⟩)] u (Front12End R b u) := by
  have V0 := Lib.hid (Rw12.new hr)
  have HS := Lib.hid hs
  clear hr hs
  have F2 : Hid (b.size < 4 → f12 b = .stop 2) := fun h => by unfold f12; rw [if_pos h]
  go_enter Tryd.func75, Tryd.ntmps75
  go_wp2_with fail
  simp only [show #[Value.bool false, Value.bool false, Value.int IntKind.u32 0] = H12.zero.cells from rfl]
  generalize u.alloc (.cells H12.zero.cells 66) = u0 at *
  by_cases h0 : 0 + 2 ≤ b.size
  case neg =>
    refine (u16_no R b 0 u0 V0.out.rd (by omega) (by omega) (by have := HS.out; unfold maxLen; omega)).mono ?_
    rintro e w' ⟨rfl, m, rfl⟩
    exact ⟨rfl, Front12End.stop (k := 2) (V0.out.kb.drewN m) (F2.out (by omega))⟩
  refine (rw12_u16 V0.out h0 HS.out).mono ?_
  rintro e v1 ⟨rfl, r1⟩
  have V1 := Lib.hid r1
  clear r1 V0
  go_wp2_with fail
  by_cases h2 : 2 + 2 ≤ b.size
  case neg =>
    refine (u16_no R b 2 v1 V1.out.rd (by omega) (by omega) (by have := HS.out; unfold maxLen; omega)).mono ?_
    rintro e w' ⟨rfl, m, rfl⟩
    exact ⟨rfl, Front12End.stop (k := 2) (V1.out.kb.drewN m) (F2.out (by omega))⟩
  have HQ : Hid (f12 b = if numOf b 0 2 % 8 ≠ 0 then .stop 3
      else if numOf b 0 2 = 0 then .ok false false else if numOf b 0 2 = 8192 then .ok false true else if numOf b 0 2 = 32768 then .ok true false else if numOf b 0 2 = 40960 then .ok true true else .stop 9) := by
    show f12 b = _
    unfold f12
    rw [if_neg (by omega)]
  refine (rw12_u16 V1.out h2 HS.out).mono ?_
  rintro e v2 ⟨rfl, r2⟩
  have V2 := Lib.hid r2
  clear r2 V1 F2 h0
  have hl := numOf_lt b 0 2 (by omega)
  have e7 := i64_mask 3 (by decide) (numOf b 0 2 : Nat)
  rw [show (((2 ^ 3 - 1 : Nat)) : Int) = 7 from rfl, show (((2 ^ 3 : Nat)) : Int) = 8 from rfl] at e7
  have eN := andNot_zero (numOf b 0 2) hl
  generalize hm : numOf b 2 2 = m at *
  have HM := Lib.hid hm
  clear hm h2
  generalize numOf b 0 2 = n at *
  go_wp2_with fail
  by_cases h8 : n % 8 = 0
  case neg =>
    have hq := HQ.out
    rw [if_pos h8] at hq
    refine (need_no _ _ _ _ (by simp; omega)).mono ?_
    rintro e w' ⟨rfl, rfl⟩
    exact ⟨rfl, Front12End.stop (k := 3) V2.out.kb hq⟩
  refine (need_yes _ _ _ _ (by simp; omega)).mono ?_
  rintro e w' ⟨rfl, rfl⟩
  have hq := HQ.out
  rw [if_neg (by omega)] at hq
  clear HQ e7
  go_wp2_with fail
  by_cases h9 : n = 0 ∨ n = 8192 ∨ n = 32768 ∨ n = 40960
  case neg =>
    have hq' : f12 b = .stop 9 := by rw [hq, if_neg (by omega), if_neg (by omega), if_neg (by omega), if_neg (by omega)]
    refine (need_no _ _ _ _ (by simp; omega)).mono ?_
    rintro e w' ⟨rfl, rfl⟩
    exact ⟨rfl, Front12End.stop (k := 9) V2.out.kb hq'⟩
  refine (need_yes _ _ _ _ (by simp; omega)).mono ?_
  rintro e w' ⟨rfl, rfl⟩
  obtain ⟨s, k, hs1, hk1, hok⟩ : ∃ s k, bits .and .i64 (n : Int) 32768 = (if s then 32768 else 0) ∧ bits .and .i64 (n : Int) 8192 = (if k then 8192 else 0) ∧ f12 b = .ok s k := by
    rcases h9 with rfl | rfl | rfl | rfl
    · exact ⟨false, false, by decide, by decide, hq⟩
    · exact ⟨false, true, by decide, by decide, hq⟩
    · exact ⟨true, false, by decide, by decide, hq⟩
    · exact ⟨true, true, by decide, by decide, hq⟩
  have ts : (bits .and .i64 (n : Int) 32768 != 0) = s := by rw [hs1]; cases s <;> rfl
  have tk : (bits .and .i64 (n : Int) 8192 != 0) = k := by rw [hk1]; cases k <;> rfl
  have HOK := Lib.hid hok
  clear hs1 hk1 hok hq h9 h8 eN hl
  have ⟨z0, z1, z2⟩ := Hc12s.of V2.out.zb
  simp only [H12.zero] at z0 z1 z2
  have f0 := V2.out.zb.frozen 0
  have f1 := V2.out.zb.frozen 1
  have f2 := V2.out.zb.frozen 2
  go_wp2_with fail
  have B3 := put12c_blk V2.out.zb ⟨s, k, 0⟩
  have K3 := put12c_kb V2.out.kb (N := u.heap.size) (fun h => absurd h (Nat.lt_irrefl _)) ⟨s, k, 0⟩
  have D3 : Rd (put12c v2 u.heap.size ⟨s, k, 0⟩) R b 4 := put12c_other V2.out.rd (by have := V2.out.lt; omega) _
  have c := Hc12s.of B3
  unfold put12c at B3 K3 D3 c
  have ⟨c0, c1, c2⟩ := c
  clear z0 z1 z2 f0 f1 f2 V2 c B3
  simp only [show ((0 : Nat) : Int) = 0 from rfl] at c0 c1 c2 K3 D3
  have hm := HM.out
  subst hm
  refine ⟨rfl, .tuple #[.agg (H12.cells ⟨s, k, 0⟩), .int .i64 (numOf b 2 2 : Nat)], ?_, K3, Or.inl ⟨s, k, HOK.out, D3, rfl⟩⟩
  unfold H12.cells
  simp [results, Tryd.results75, go_sem, c0, c1, c2]

end Go.Proofs.YtmghdgkdnacinaaDoor

/-
  Reading the packet behind a header.
-/
namespace Go.Proofs.YtmghdgkdnacinaaDoor
open Go.RowKit
set_option linter.unusedVariables false

/-- How it ends. -/
def Packet12End (R : Nat) (k : Nat) (s : ByteArray) (u : World) (e : Ending) (u' : World) : Prop :=
  Kb (· = R) u u' ∧ ((k = 0 ∧ e = .returned (.string s)) ∨ (k ≠ 0 ∧ e = .panicked (stopped (k : Nat))))
theorem Packet12End.stop {R k n : Nat} {s : ByteArray} {u u' : World} (hk : Kb (· = R) u u') (h : k = n) (h0 : n ≠ 0) : Packet12End R k s u (.panicked (stopped (n : Nat))) u' := by
  subst h; exact ⟨hk, Or.inr ⟨h0, rfl⟩⟩

set_option maxRecDepth 100000 in
set_option maxHeartbeats 2000000 in
theorem readPacket_any (R : Nat) (b : ByteArray) (i kind : Nat) (u : World) (hr : Rd u R b i) (hi : i ≤ b.size) (hs : b.size ≤ 1000000) (hg : Vers u) (hR : 0 ≠ R) :
    Calls Tryd.prog 77 #[.pointer (some ⟨R, 0, none⟩), .int .i64 (kind : Nat)] u (Packet12End R (pk12 kind (v11 (b.extract i b.size))) (b.extract i b.size) u) := by
  have HR := Lib.hid (rest_any R b i u hr hi (by unfold maxLen; omega))
  have HKB := fun n => Kb.setCell (S := (· = R)) ((Kb.refl (· = R) u).drewN n) (p := ⟨R, 1, none⟩) (fun _ => rfl) (.int .i64 (b.size : Int))
  have HW := Lib.hid HKB
  have HG := Lib.hid (fun n => hg.kb (HKB n) hR)
  clear HKB hr hi hs
  have HF := Lib.hid (fun W h => kind11_any (b.extract i b.size) W h)
  have HQ : Hid (pk12 kind (v11 (b.extract i b.size)) = if kind ≠ 2048 ∧ kind ≠ 34525 then 6 else if (v11 (b.extract i b.size)).en ≠ 0 then (v11 (b.extract i b.size)).en else if (v11 (b.extract i b.size)).kn ≠ kind then 3 else 0) := rfl
  unfold Tells at HF
  rw [V11.kind_kn, V11.err_en] at HF
  generalize pk12 kind (v11 (b.extract i b.size)) = Q at *
  generalize (v11 (b.extract i b.size)).kn = q at *
  generalize (v11 (b.extract i b.size)).en = E at *
  generalize b.extract i b.size = s at *
  by_cases h1 : kind ≠ 2048 ∧ kind ≠ 34525
  · have hq := HQ.out
    rw [if_pos h1] at hq
    have H3 := Lib.hid hq
    have t1 : ((kind : Int) == 2048) = false := by simp; omega
    have t2 : ((kind : Int) == 34525) = false := by simp; omega
    clear h1 hq
    go_enter Tryd.func77, Tryd.ntmps77
    go_wp2_with fail
    refine (need_no _ _ _ _ (by simp)).mono ?_
    rintro e w' ⟨rfl, rfl⟩
    exact ⟨rfl, Packet12End.stop (Kb.refl _ _) H3.out (by decide)⟩
  have H5 : Hid (Q = if E ≠ 0 then E else if q ≠ kind then 3 else 0) := by
    show Q = _
    rw [HQ.out, if_neg h1]
  clear HQ
  rcases (show kind = 2048 ∨ kind = 34525 by omega) with rfl | rfl
  · clear h1
    go_enter Tryd.func77, Tryd.ntmps77
    go_wp2_with fail
    refine (need_yes _ _ _ _ (by simp)).mono ?_
    rintro e w' ⟨rfl, rfl⟩
    go_wp2_with fail
    refine HR.out.mono ?_
    rintro e w1 ⟨rfl, n, rfl⟩
    have K1 := Lib.hid (HW.out n)
    have G1 := Lib.hid (HG.out n)
    generalize (u.drewN n).setCell ⟨R, 1, none⟩ (.int .i64 (b.size : Int)) = u1 at *
    go_wp2_with fail
    refine (HF.out u1 G1.out).mono ?_
    rintro e u2 ⟨rfl, hb⟩
    have K2 := Lib.hid (K1.out.trans (⟨hb.os, hb.tape, hb.output, hb.size, fun k hk _ => hb.block k hk⟩ : Kb (· = R) u1 u2))
    clear hb K1 G1 HF HR
    go_wp2_with fail
    by_cases h2 : E = 0
    case neg =>
      have hq := H5.out
      rw [if_pos h2] at hq
      refine (need_no _ _ _ _ (by simp; omega)).mono ?_
      rintro e w' ⟨rfl, rfl⟩
      exact ⟨rfl, Packet12End.stop K2.out hq h2⟩
    have hq := H5.out
    rw [if_neg (by omega)] at hq
    have H6 := Lib.hid hq
    clear hq H5
    refine (need_yes _ _ _ _ (by simp; omega)).mono ?_
    rintro e w' ⟨rfl, rfl⟩
    clear h2
    go_wp2_with fail
    by_cases h3 : q = 2048
    case neg =>
      have hq := H6.out
      rw [if_pos h3] at hq
      refine (need_no _ _ _ _ (by simp; omega)).mono ?_
      rintro e w' ⟨rfl, rfl⟩
      exact ⟨rfl, Packet12End.stop K2.out hq (by decide)⟩
    have hq := H6.out
    rw [if_neg (by omega)] at hq
    have H7 := Lib.hid hq
    clear hq H6
    refine (need_yes _ _ _ _ (by simp; omega)).mono ?_
    rintro e w' ⟨rfl, rfl⟩
    clear h3
    go_wp2_with fail
    go_ret
    exact ⟨K2.out, Or.inl ⟨H7.out, rfl⟩⟩
  · clear h1
    go_enter Tryd.func77, Tryd.ntmps77
    go_wp2_with fail
    refine (need_yes _ _ _ _ (by simp)).mono ?_
    rintro e w' ⟨rfl, rfl⟩
    go_wp2_with fail
    refine HR.out.mono ?_
    rintro e w1 ⟨rfl, n, rfl⟩
    have K1 := Lib.hid (HW.out n)
    have G1 := Lib.hid (HG.out n)
    generalize (u.drewN n).setCell ⟨R, 1, none⟩ (.int .i64 (b.size : Int)) = u1 at *
    go_wp2_with fail
    refine (HF.out u1 G1.out).mono ?_
    rintro e u2 ⟨rfl, hb⟩
    have K2 := Lib.hid (K1.out.trans (⟨hb.os, hb.tape, hb.output, hb.size, fun k hk _ => hb.block k hk⟩ : Kb (· = R) u1 u2))
    clear hb K1 G1 HF HR
    go_wp2_with fail
    by_cases h2 : E = 0
    case neg =>
      have hq := H5.out
      rw [if_pos h2] at hq
      refine (need_no _ _ _ _ (by simp; omega)).mono ?_
      rintro e w' ⟨rfl, rfl⟩
      exact ⟨rfl, Packet12End.stop K2.out hq h2⟩
    have hq := H5.out
    rw [if_neg (by omega)] at hq
    have H6 := Lib.hid hq
    clear hq H5
    refine (need_yes _ _ _ _ (by simp; omega)).mono ?_
    rintro e w' ⟨rfl, rfl⟩
    clear h2
    go_wp2_with fail
    by_cases h3 : q = 34525
    case neg =>
      have hq := H6.out
      rw [if_pos h3] at hq
      refine (need_no _ _ _ _ (by simp; omega)).mono ?_
      rintro e w' ⟨rfl, rfl⟩
      exact ⟨rfl, Packet12End.stop K2.out hq (by decide)⟩
    have hq := H6.out
    rw [if_neg (by omega)] at hq
    have H7 := Lib.hid hq
    clear hq H6
    refine (need_yes _ _ _ _ (by simp; omega)).mono ?_
    rintro e w' ⟨rfl, rfl⟩
    clear h3
    go_wp2_with fail
    go_ret
    exact ⟨K2.out, Or.inl ⟨H7.out, rfl⟩⟩

end Go.Proofs.YtmghdgkdnacinaaDoor
