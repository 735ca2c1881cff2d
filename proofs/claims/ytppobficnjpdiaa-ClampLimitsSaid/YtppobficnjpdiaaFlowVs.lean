/-
  Get's own blocks.
-/
import Derived.Test.YtppobficnjpdiaaFlowAsk
import Derived.LoopN
namespace Go.Proofs.Ytppobficnjpdiaa
open Go.RowKit
set_option linter.unusedVariables false

/-- The questions, as they stand in a row. -/
def asks9 (N V O H Y F : Nat) : Array Value := #[.func (.func 27) #[] #[.pointer (some ⟨N, 0, none⟩), .pointer (some ⟨V, 0, none⟩)],
  .func (.func 29) #[] #[.pointer (some ⟨V, 0, none⟩), .pointer (some ⟨N, 0, none⟩), .pointer (some ⟨H, 0, none⟩), .pointer (some ⟨Y, 0, none⟩)],
  .func (.func 31) #[] #[.pointer (some ⟨H, 0, none⟩)],
  .func (.func 33) #[] #[.pointer (some ⟨H, 0, none⟩), .pointer (some ⟨F, 0, none⟩)],
  .func (.func 35) #[] #[.pointer (some ⟨F, 0, none⟩), .pointer (some ⟨Y, 0, none⟩), .pointer (some ⟨O, 0, none⟩)],
  .func (.func 37) #[] #[.pointer (some ⟨H, 0, none⟩), .pointer (some ⟨O, 0, none⟩), .pointer (some ⟨Y, 0, none⟩)]]

/-- Get's own blocks: the packet, the answer, the version, the sum, the header, the payload, the flow, the questions. -/
structure Vs (w u : World) (p : ByteArray) (N R V O H Y F S : Nat) (v o : Int) (hv : Value) (y : ByteArray) (f : F9) : Prop where
  p : Blk u N #[.string p] 9
  r : Blk u R F9.zero.cells 30
  v : Blk u V #[.int .i64 v] 3
  o : Blk u O #[.int .i64 o] 3
  h : Blk u H #[hv] 63
  y : Blk u Y #[.string y] 9
  f : Blk u F f.cells 30
  s : Blk u S (asks9 N V O H Y F) 66
  bel : Below w.heap.size w u
  le : w.heap.size ≤ N ∧ N < R ∧ R < V ∧ V < O ∧ O < H ∧ H < Y ∧ Y < F ∧ F < S

set_option maxHeartbeats 2000000 in
theorem Vs.new (w : World) (p : ByteArray) (N R V O H Y F S : Nat) (hN : N = w.heap.size) (hR : R = w.heap.size + 1) (hV : V = w.heap.size + 1 + 1) (hO : O = w.heap.size + 1 + 1 + 1) (hH : H = w.heap.size + 1 + 1 + 1 + 1) (hY : Y = w.heap.size + 1 + 1 + 1 + 1 + 1) (hF : F = w.heap.size + 1 + 1 + 1 + 1 + 1 + 1) (hS : S = w.heap.size + 1 + 1 + 1 + 1 + 1 + 1 + 1) :
    Vs w ((((((((w.alloc (.cells #[.string p] 9)).alloc (.cells F9.zero.cells 30)).alloc (.cells #[.int .i64 0] 3)).alloc (.cells #[.int .i64 0] 3)).alloc (.cells #[.nilIface] 63)).alloc (.cells #[.string ⟨#[]⟩] 9)).alloc (.cells F9.zero.cells 30)).alloc (.cells (asks9 N V O H Y F) 66)) p N R V O H Y F S 0 0 .nilIface ⟨#[]⟩ F9.zero := by
  have e0 := Blk.new w #[.string p] 9
  rw [← hN] at e0
  have b0 : Below w.heap.size w (w.alloc (.cells #[.string p] 9)) := (Below.refl _ _).alloc (Nat.le_refl _) _
  have s0 : (w.alloc (.cells #[.string p] 9)).heap.size = R := by simp [hR]
  generalize w.alloc (.cells #[.string p] 9) = w0 at *
  have e1 := Blk.new w0 F9.zero.cells 30
  rw [s0] at e1
  have b1 : Below w.heap.size w (w0.alloc (.cells F9.zero.cells 30)) := b0.alloc (by omega) _
  have s1 : (w0.alloc (.cells F9.zero.cells 30)).heap.size = V := by simp; omega
  replace e0 := e0.alloc (.cells F9.zero.cells 30)
  generalize w0.alloc (.cells F9.zero.cells 30) = w1 at *
  have e2 := Blk.new w1 #[.int .i64 0] 3
  rw [s1] at e2
  have b2 : Below w.heap.size w (w1.alloc (.cells #[.int .i64 0] 3)) := b1.alloc (by omega) _
  have s2 : (w1.alloc (.cells #[.int .i64 0] 3)).heap.size = O := by simp; omega
  replace e0 := e0.alloc (.cells #[.int .i64 0] 3)
  replace e1 := e1.alloc (.cells #[.int .i64 0] 3)
  generalize w1.alloc (.cells #[.int .i64 0] 3) = w2 at *
  have e3 := Blk.new w2 #[.int .i64 0] 3
  rw [s2] at e3
  have b3 : Below w.heap.size w (w2.alloc (.cells #[.int .i64 0] 3)) := b2.alloc (by omega) _
  have s3 : (w2.alloc (.cells #[.int .i64 0] 3)).heap.size = H := by simp; omega
  replace e0 := e0.alloc (.cells #[.int .i64 0] 3)
  replace e1 := e1.alloc (.cells #[.int .i64 0] 3)
  replace e2 := e2.alloc (.cells #[.int .i64 0] 3)
  generalize w2.alloc (.cells #[.int .i64 0] 3) = w3 at *
  have e4 := Blk.new w3 #[.nilIface] 63
  rw [s3] at e4
  have b4 : Below w.heap.size w (w3.alloc (.cells #[.nilIface] 63)) := b3.alloc (by omega) _
  have s4 : (w3.alloc (.cells #[.nilIface] 63)).heap.size = Y := by simp; omega
  replace e0 := e0.alloc (.cells #[.nilIface] 63)
  replace e1 := e1.alloc (.cells #[.nilIface] 63)
  replace e2 := e2.alloc (.cells #[.nilIface] 63)
  replace e3 := e3.alloc (.cells #[.nilIface] 63)
  generalize w3.alloc (.cells #[.nilIface] 63) = w4 at *
  have e5 := Blk.new w4 #[.string ⟨#[]⟩] 9
  rw [s4] at e5
  have b5 : Below w.heap.size w (w4.alloc (.cells #[.string ⟨#[]⟩] 9)) := b4.alloc (by omega) _
  have s5 : (w4.alloc (.cells #[.string ⟨#[]⟩] 9)).heap.size = F := by simp; omega
  replace e0 := e0.alloc (.cells #[.string ⟨#[]⟩] 9)
  replace e1 := e1.alloc (.cells #[.string ⟨#[]⟩] 9)
  replace e2 := e2.alloc (.cells #[.string ⟨#[]⟩] 9)
  replace e3 := e3.alloc (.cells #[.string ⟨#[]⟩] 9)
  replace e4 := e4.alloc (.cells #[.string ⟨#[]⟩] 9)
  generalize w4.alloc (.cells #[.string ⟨#[]⟩] 9) = w5 at *
  have e6 := Blk.new w5 F9.zero.cells 30
  rw [s5] at e6
  have b6 : Below w.heap.size w (w5.alloc (.cells F9.zero.cells 30)) := b5.alloc (by omega) _
  have s6 : (w5.alloc (.cells F9.zero.cells 30)).heap.size = S := by simp; omega
  replace e0 := e0.alloc (.cells F9.zero.cells 30)
  replace e1 := e1.alloc (.cells F9.zero.cells 30)
  replace e2 := e2.alloc (.cells F9.zero.cells 30)
  replace e3 := e3.alloc (.cells F9.zero.cells 30)
  replace e4 := e4.alloc (.cells F9.zero.cells 30)
  replace e5 := e5.alloc (.cells F9.zero.cells 30)
  generalize w5.alloc (.cells F9.zero.cells 30) = w6 at *
  have e7 := Blk.new w6 (asks9 N V O H Y F) 66
  rw [s6] at e7
  have b7 : Below w.heap.size w (w6.alloc (.cells (asks9 N V O H Y F) 66)) := b6.alloc (by omega) _
  replace e0 := e0.alloc (.cells (asks9 N V O H Y F) 66)
  replace e1 := e1.alloc (.cells (asks9 N V O H Y F) 66)
  replace e2 := e2.alloc (.cells (asks9 N V O H Y F) 66)
  replace e3 := e3.alloc (.cells (asks9 N V O H Y F) 66)
  replace e4 := e4.alloc (.cells (asks9 N V O H Y F) 66)
  replace e5 := e5.alloc (.cells (asks9 N V O H Y F) 66)
  replace e6 := e6.alloc (.cells (asks9 N V O H Y F) 66)
  generalize w6.alloc (.cells (asks9 N V O H Y F) 66) = w7 at *
  exact ⟨e0, e1, e2, e3, e4, e5, e6, e7, b7, by omega⟩

theorem Vs.cells {w u : World} {p : ByteArray} {N R V O H Y F S : Nat} {v o : Int} {hv : Value} {y : ByteArray} {f : F9} (s : Vs w u p N R V O H Y F S v o hv y f) (k : Nat) : u.cell? ⟨S, k, none⟩ = (asks9 N V O H Y F)[k]? := s.s.cell k
/-- A question that writes nothing. -/
theorem Vs.none {w u u' : World} {p : ByteArray} {N R V O H Y F S : Nat} {v o : Int} {hv : Value} {y : ByteArray} {f : F9} (s : Vs w u p N R V O H Y F S v o hv y f) (k : Kb (fun _ => False) u u') : Vs w u' p N R V O H Y F S v o hv y f := by
  refine ⟨s.p.kb k id, s.r.kb k id, s.v.kb k id, s.o.kb k id, s.h.kb k id, s.y.kb k id, s.f.kb k id, s.s.kb k id, ?_, s.le⟩
  exact s.bel.trans ⟨k.os, k.tape, k.output, k.size, fun i hi => k.block i (Nat.lt_of_lt_of_le hi s.bel.size) id⟩
theorem Vs.put_v {w u u' : World} {p : ByteArray} {N R V O H Y F S : Nat} {v o : Int} {hv : Value} {y : ByteArray} {f : F9} (s : Vs w u p N R V O H Y F S v o hv y f) (v' : Int) (k : Kb (· = V) u u') (b : Blk u' V #[.int .i64 v'] 3) : Vs w u' p N R V O H Y F S v' o hv y f := by
  have le := s.le
  refine ⟨s.p.kb k (by omega), s.r.kb k (by omega), b, s.o.kb k (by omega), s.h.kb k (by omega), s.y.kb k (by omega), s.f.kb k (by omega), s.s.kb k (by omega), ?_, s.le⟩
  exact s.bel.trans ⟨k.os, k.tape, k.output, k.size, fun i hi => k.block i (Nat.lt_of_lt_of_le hi s.bel.size) (by omega)⟩
theorem Vs.put_hy {w u u' : World} {p : ByteArray} {N R V O H Y F S : Nat} {v o : Int} {hv : Value} {y : ByteArray} {f : F9} (s : Vs w u p N R V O H Y F S v o hv y f) (hv' : Value) (y' : ByteArray) (k : Kb (fun k => k = H ∨ k = Y) u u') (b : Blk u' H #[hv'] 63) (c : Blk u' Y #[.string y'] 9) : Vs w u' p N R V O H Y F S v o hv' y' f := by
  have le := s.le
  refine ⟨s.p.kb k (by omega), s.r.kb k (by omega), s.v.kb k (by omega), s.o.kb k (by omega), b, c, s.f.kb k (by omega), s.s.kb k (by omega), ?_, s.le⟩
  exact s.bel.trans ⟨k.os, k.tape, k.output, k.size, fun i hi => k.block i (Nat.lt_of_lt_of_le hi s.bel.size) (by omega)⟩
theorem Vs.put_f {w u u' : World} {p : ByteArray} {N R V O H Y F S : Nat} {v o : Int} {hv : Value} {y : ByteArray} {f : F9} (s : Vs w u p N R V O H Y F S v o hv y f) (f' : F9) (k : Kb (· = F) u u') (b : Blk u' F f'.cells 30) : Vs w u' p N R V O H Y F S v o hv y f' := by
  have le := s.le
  refine ⟨s.p.kb k (by omega), s.r.kb k (by omega), s.v.kb k (by omega), s.o.kb k (by omega), s.h.kb k (by omega), s.y.kb k (by omega), b, s.s.kb k (by omega), ?_, s.le⟩
  exact s.bel.trans ⟨k.os, k.tape, k.output, k.size, fun i hi => k.block i (Nat.lt_of_lt_of_le hi s.bel.size) (by omega)⟩
theorem Vs.put_fo {w u u' : World} {p : ByteArray} {N R V O H Y F S : Nat} {v o : Int} {hv : Value} {y : ByteArray} {f : F9} (s : Vs w u p N R V O H Y F S v o hv y f) (f' : F9) (o' : Int) (k : Kb (fun k => k = F ∨ k = O) u u') (b : Blk u' F f'.cells 30) (c : Blk u' O #[.int .i64 o'] 3) : Vs w u' p N R V O H Y F S v o' hv y f' := by
  have le := s.le
  refine ⟨s.p.kb k (by omega), s.r.kb k (by omega), s.v.kb k (by omega), c, s.h.kb k (by omega), s.y.kb k (by omega), b, s.s.kb k (by omega), ?_, s.le⟩
  exact s.bel.trans ⟨k.os, k.tape, k.output, k.size, fun i hi => k.block i (Nat.lt_of_lt_of_le hi s.bel.size) (by omega)⟩
/-- The answer, laid. -/
theorem Vs.answer {w u : World} {p : ByteArray} {N R V O H Y F S : Nat} {v o : Int} {hv : Value} {y : ByteArray} {f : F9} (s : Vs w u p N R V O H Y F S v o hv y f) (g : F9) : Blk (put9c u R g) R g.cells 30 ∧ Below w.heap.size w (put9c u R g) := by
  have le := s.le
  refine ⟨put9c_blk s.r g, ?_⟩
  have K := put9c_kb (S := fun k => w.heap.size ≤ k) (u := w) (N := R) ⟨s.bel.os, s.bel.tape, s.bel.output, s.bel.size, fun k hk _ => s.bel.block k hk⟩ (fun _ => by omega) g
  exact K.below (Nat.le_refl _)
theorem get9_end {w u : World} {p : ByteArray} {N R V O H Y F S : Nat} {v o : Int} {hv : Value} {y : ByteArray} {f : F9} {tmps : Array Value} (g : F9) (k : Nat) (s : Vs w u p N R V O H Y F S v o hv y f) (he : flowE p = k) (hg : flowH p = g) (t2 : tmps.getD 2 undef = .pointer (some ⟨R, 0, none⟩)) (t3 : tmps.getD 3 undef = .int .i64 k) :
    bodyPost Try.prog Try.f15 (Tells (.tuple #[.agg (flowH p).cells, .int .i64 (flowE p : Nat)]) w) Exit.ret { tmps := tmps, defers := [] } (put9c u R g) := by
  have a := s.answer g
  have ⟨c0, c1, c2, c3, c4⟩ := Hc9.of a.1
  refine ⟨rfl, .tuple #[.agg g.cells, .int .i64 k], ?_, by rw [hg, he], a.2⟩
  unfold F9.cells
  simp at t2 t3
  simp [results, Try.results15, go_sem, t2, t3, c0, c1, c2, c3, c4]

end Go.Proofs.Ytppobficnjpdiaa
