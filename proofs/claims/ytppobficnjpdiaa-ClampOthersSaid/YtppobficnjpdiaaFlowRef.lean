/-
  The document's Get.
-/
import Derived.Test.YtppobficnjpdiaaFlowOpen
import Derived.Test.YtppobficnjpdiaaTcpRefGet
import Derived.Test.YtppobficnjpdiaaUdpB
import Derived.Test.YtppobficnjpdiaaSums
import Derived.RegionTactic
import Derived.BigRegion
namespace Go.Proofs.Ytppobficnjpdiaa
open Go.RowKit
set_option linter.unusedVariables false

theorem flow_open {p : ByteArray} (h : openE p ≠ 0) : flowE p = openE p := by
  by_cases h0 : verE p = 0
  · by_cases h1 : pktE p = 0
    · cases h2 : (any9 p).piece with
      | true => rw [openE_piece h0 h1 h2, flowE_piece h0 h1 h2]
      | false => exact absurd (openE_ok h0 h1 h2) h
    · rw [openE_pkt h0 h1, flowE_pkt h0 h1]
  · rw [openE_ver h0, flowE_ver h0]
theorem opened {p : ByteArray} (h : openE p = 0) : verE p = 0 ∧ pktE p = 0 ∧ (any9 p).piece = false := by
  by_cases h0 : verE p = 0
  · by_cases h1 : pktE p = 0
    · cases h2 : (any9 p).piece with
      | true => rw [openE_piece h0 h1 h2] at h; omega
      | false => exact ⟨h0, h1, rfl⟩
    · rw [openE_pkt h0 h1] at h; exact absurd h h1
  · rw [openE_ver h0] at h; exact absurd h h0
theorem lax_len {p : ByteArray} (h1 : pktE p = 0) : (((any9 p).src.size : Int) == 4) = (any9 p).lax := by
  unfold pktE at h1
  unfold any9
  by_cases h4 : ver9 p = 4
  · rw [if_pos h4] at h1 ⊢
    have g := getE_zero.1 h1
    have := g.short
    show (((getH p).src.size : Int) == 4) = true
    unfold getH
    rw [if_pos h1]
    show (((p.extract 12 16).size : Int) == 4) = true
    rw [ByteArray.size_extract]
    simp
    omega
  · rw [if_neg h4] at h1 ⊢
    have g := get6E_zero.1 h1
    have := g.short
    show (((get6H p).src.size : Int) == 4) = false
    unfold get6H
    rw [if_pos h1]
    show (((p.extract 8 24).size : Int) == 4) = false
    rw [ByteArray.size_extract]
    simp
    omega
theorem pay9_size' (p : ByteArray) : (pay9 p).size ≤ p.size := by
  unfold pay9
  split
  · unfold getS
    split
    · rw [ByteArray.size_extract]; omega
    · exact Nat.zero_le _
  · unfold get6S
    split
    · rw [ByteArray.size_extract]; omega
    · exact Nat.zero_le _
theorem any9_sizes' (p : ByteArray) : (any9 p).src.size ≤ 16 ∧ (any9 p).dst.size ≤ 16 := by
  unfold any9
  split
  · unfold getH
    split
    · show (p.extract 12 16).size ≤ 16 ∧ (p.extract 16 20).size ≤ 16
      rw [ByteArray.size_extract, ByteArray.size_extract]; omega
    · show (0 : Nat) ≤ 16 ∧ (0 : Nat) ≤ 16
      omega
  · unfold get6H
    split
    · show (p.extract 8 24).size ≤ 16 ∧ (p.extract 24 40).size ≤ 16
      rw [ByteArray.size_extract, ByteArray.size_extract]; omega
    · show (0 : Nat) ≤ 16 ∧ (0 : Nat) ≤ 16
      omega

theorem pseudo_len' (src dst : ByteArray) (proto n : Int) : (pseudoD src.data.toList dst.data.toList proto n).length ≤ src.size + dst.size + 8 := by
  unfold pseudoD
  split <;> simp only [List.length_append, size_list, List.length_cons, List.length_nil] <;> omega

/-- The answer's block, and the flow's. -/
structure Rg (w u : World) (B : Nat) (f : F9) : Prop where
  z : Blk u w.heap.size F9.zero.cells 30
  f : Blk u B f.cells 30
  bel : Below w.heap.size w u
  lt : w.heap.size < B
theorem Rg.below {w u u' : World} {B : Nat} {f : F9} (g : Rg w u B f) (hb : Below u.heap.size u u') : Rg w u' B f :=
  ⟨(hb.block _ g.z.lt).trans g.z, (hb.block _ g.f.lt).trans g.f, g.bel.trans (hb.mono g.bel.size), g.lt⟩
theorem Rg.alloc {w u : World} {B : Nat} {f : F9} (g : Rg w u B f) (o : Obj) : Rg w (u.alloc o) B f := ⟨g.z.alloc o, g.f.alloc o, g.bel.alloc g.bel.size o, g.lt⟩
theorem Rg.drewN {w u : World} {B : Nat} {f : F9} (g : Rg w u B f) (n : Nat) : Rg w (u.drewN n) B f := ⟨g.z.drewN n, g.f.drewN n, below_drewN g.bel n, g.lt⟩
theorem Rg.drew {w u : World} {B : Nat} {f : F9} (g : Rg w u B f) : Rg w u.drew B f := g.drewN 1
theorem Rg.ports {w u : World} {B : Nat} {f : F9} (g : Rg w u B f) (s d : Int) : Rg w ((u.setCell ⟨B, 3, none⟩ (.int .i64 s)).setCell ⟨B, 4, none⟩ (.int .i64 d)) B ⟨f.proto, f.src, f.dst, s, d⟩ := by
  have lt := g.lt
  refine ⟨(g.z.set_other (p := ⟨B, 3, none⟩) (by simp; omega) _).set_other (p := ⟨B, 4, none⟩) (by simp; omega) _, (g.f.set 3 (.int .i64 s)).set 4 (.int .i64 d), ?_, lt⟩
  have K : Kb (fun k => w.heap.size ≤ k) w u := ⟨g.bel.os, g.bel.tape, g.bel.output, g.bel.size, fun k hk _ => g.bel.block k hk⟩
  exact ((K.setCell (p := ⟨B, 3, none⟩) (fun _ => Nat.le_of_lt lt) _).setCell (p := ⟨B, 4, none⟩) (fun _ => Nat.le_of_lt lt) _).below (Nat.le_refl _)
theorem Rg.new {w w1 : World} (f : F9) (hb : Below (w.alloc (.cells F9.zero.cells 30)).heap.size (w.alloc (.cells F9.zero.cells 30)) w1) : Rg w (w1.alloc (.cells f.cells 30)) w1.heap.size f := by
  have z0 := Blk.new w F9.zero.cells 30
  have b0 : Below w.heap.size w (w.alloc (.cells F9.zero.cells 30)) := (Below.refl _ _).alloc (Nat.le_refl _) _
  have z1 : Blk w1 w.heap.size F9.zero.cells 30 := (hb.block _ z0.lt).trans z0
  have b1 : Below w.heap.size w w1 := b0.trans (hb.mono b0.size)
  exact ⟨z1.alloc _, Blk.new _ _ _, b1.alloc b1.size _, z1.lt⟩
theorem ref9_end {w u : World} {p : ByteArray} {B : Nat} {f : F9} {tmps : Array Value} (g : F9) (k : Nat) (s : Rg w u B f) (he : flowE p = k) (hg : flowH p = g) (t2 : tmps.getD 2 undef = .pointer (some ⟨w.heap.size, 0, none⟩)) (t3 : tmps.getD 3 undef = .int .i64 k) :
    bodyPost Try.prog Try.f17 (Tells (.tuple #[.agg (flowH p).cells, .int .i64 (flowE p : Nat)]) w) Exit.ret { tmps := tmps, defers := [] } (put9c u w.heap.size g) := by
  have B1 := put9c_blk s.z g
  have K := put9c_kb (S := fun k => w.heap.size ≤ k) (u := w) (N := w.heap.size) ⟨s.bel.os, s.bel.tape, s.bel.output, s.bel.size, fun k hk _ => s.bel.block k hk⟩ (fun _ => Nat.le_refl _) g
  have ⟨c0, c1, c2, c3, c4⟩ := Hc9.of B1
  refine ⟨rfl, .tuple #[.agg g.cells, .int .i64 k], ?_, by rw [hg, he], K.below (Nat.le_refl _)⟩
  unfold F9.cells
  simp at t2 t3
  simp [results, Try.results17, go_sem, t2, t3, c0, c1, c2, c3, c4]
theorem ref9_stop {w u : World} {p : ByteArray} {B : Nat} {f : F9} {tmps : Array Value} (k : Nat) (s : Rg w u B f) (he : flowE p = k) (h0 : k ≠ 0) (t2 : tmps.getD 2 undef = .pointer (some ⟨w.heap.size, 0, none⟩)) (t3 : tmps.getD 3 undef = .int .i64 k) :
    bodyPost Try.prog Try.f17 (Tells (.tuple #[.agg (flowH p).cells, .int .i64 (flowE p : Nat)]) w) Exit.ret { tmps := tmps, defers := [] } (put9c u w.heap.size F9.zero) :=
  ref9_end F9.zero k s he (flowH_err (by omega)) t2 t3

end Go.Proofs.Ytppobficnjpdiaa
