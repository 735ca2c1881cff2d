/-
  The document's open: the first three questions.
-/
import Derived.Test.YtppobficnjpdiaaFlowHead
import Derived.Test.YtppobficnjpdiaaIp4RefGet
import Derived.Test.YtppobficnjpdiaaIp6B
namespace Go.Proofs.Ytppobficnjpdiaa
open Go.RowKit
set_option linter.unusedVariables false

def openE (p : ByteArray) : Nat := if verE p ≠ 0 then verE p else if pktE p ≠ 0 then pktE p else if (any9 p).piece = true then 14 else 0
def openF (p : ByteArray) : F9 := if openE p = 0 then (any9 p).bare else F9.zero
def openY (p : ByteArray) : ByteArray := if openE p = 0 then pay9 p else ⟨#[]⟩

/-- open's end. -/
def OpenEnd (p : ByteArray) (w : World) (e : Ending) (w' : World) : Prop := e = .returned (.tuple #[.agg (openF p).cells, .string (openY p), .int .i64 (openE p : Nat)]) ∧ Below w.heap.size w w'

/-- The answer's block, and the empty flow's. -/
structure Oz (w u : World) : Prop where
  z : Blk u w.heap.size F9.zero.cells 30
  n : Blk u (w.heap.size + 1) F9.zero.cells 30
  bel : Below w.heap.size w u
theorem Oz.new (w : World) : Oz w ((w.alloc (.cells F9.zero.cells 30)).alloc (.cells F9.zero.cells 30)) := by
  have := Blk.new (w.alloc (.cells F9.zero.cells 30)) F9.zero.cells 30
  rw [show (w.alloc (.cells F9.zero.cells 30)).heap.size = w.heap.size + 1 from by simp] at this
  exact ⟨(Blk.new w _ _).alloc _, this, ((Below.refl _ _).alloc (Nat.le_refl _) _).alloc (by simp) _⟩
theorem Oz.below {w W W' : World} (g : Oz w W) (hb : Below W.heap.size W W') : Oz w W' :=
  ⟨(hb.block _ g.z.lt).trans g.z, (hb.block _ g.n.lt).trans g.n, g.bel.trans (hb.mono g.bel.size)⟩
theorem Oz.alloc {w W : World} (g : Oz w W) (o : Obj) : Oz w (W.alloc o) := ⟨g.z.alloc o, g.n.alloc o, g.bel.alloc g.bel.size o⟩
theorem Oz.put {w u : World} (g : Oz w u) (f : F9) : Blk (put9c u w.heap.size f) w.heap.size f.cells 30 ∧ Below w.heap.size w (put9c u w.heap.size f) := by
  refine ⟨put9c_blk g.z f, ?_⟩
  have K := put9c_kb (S := fun k => w.heap.size ≤ k) (u := w) (N := w.heap.size) ⟨g.bel.os, g.bel.tape, g.bel.output, g.bel.size, fun k hk _ => g.bel.block k hk⟩ (fun _ => Nat.le_refl _) f
  exact K.below (Nat.le_refl _)
theorem open_end {w u : World} {p : ByteArray} {tmps : Array Value} (f : F9) (y : ByteArray) (k : Nat) (g : Oz w u) (he : openE p = k) (hf : openF p = f) (hy : openY p = y) (t2 : tmps.getD 2 undef = .pointer (some ⟨w.heap.size, 0, none⟩)) (t3 : tmps.getD 3 undef = .string y) (t4 : tmps.getD 4 undef = .int .i64 k) :
    bodyPost Try.prog Try.f41 (OpenEnd p w) Exit.ret { tmps := tmps, defers := [] } (put9c u w.heap.size f) := by
  have a := g.put f
  have ⟨c0, c1, c2, c3, c4⟩ := Hc9.of a.1
  refine ⟨rfl, .tuple #[.agg f.cells, .string y, .int .i64 k], ?_, by rw [he, hf, hy], a.2⟩
  unfold F9.cells
  simp at t2 t3 t4
  simp [results, Try.results41, go_sem, t2, t3, t4, c0, c1, c2, c3, c4]
theorem open_stop {w u : World} {p : ByteArray} {tmps : Array Value} (k : Nat) (g : Oz w u) (he : openE p = k) (h0 : k ≠ 0) (t2 : tmps.getD 2 undef = .pointer (some ⟨w.heap.size, 0, none⟩)) (t3 : tmps.getD 3 undef = .string ⟨#[]⟩) (t4 : tmps.getD 4 undef = .int .i64 k) :
    bodyPost Try.prog Try.f41 (OpenEnd p w) Exit.ret { tmps := tmps, defers := [] } (put9c u w.heap.size F9.zero) :=
  open_end F9.zero ⟨#[]⟩ k g he (by unfold openF; rw [if_neg (by omega)]) (by unfold openY; rw [if_neg (by omega)]) t2 t3 t4

theorem openE_ver {p : ByteArray} (h : verE p ≠ 0) : openE p = verE p := by unfold openE; rw [if_pos h]
theorem openE_pkt {p : ByteArray} (h : verE p = 0) (h1 : pktE p ≠ 0) : openE p = pktE p := by unfold openE; rw [if_neg (by omega), if_pos h1]
theorem openE_piece {p : ByteArray} (h : verE p = 0) (h1 : pktE p = 0) (h2 : (any9 p).piece = true) : openE p = 14 := by
  unfold openE; rw [if_neg (by omega), if_neg (by omega), if_pos h2]
theorem openE_ok {p : ByteArray} (h : verE p = 0) (h1 : pktE p = 0) (h2 : (any9 p).piece = false) : openE p = 0 := by
  unfold openE; rw [if_neg (by omega), if_neg (by omega), if_neg (by rw [h2]; decide)]

theorem isEmpty_yes {p : ByteArray} (h : p.size = 0) : p.toList.isEmpty = true := by
  rw [ByteArray.toList_eq, List.isEmpty_iff_length_eq_zero]
  exact (size_list _).trans h
theorem isEmpty_no {p : ByteArray} (h : p.size ≠ 0) : p.toList.isEmpty = false := by
  cases e : p.toList.isEmpty with
  | false => rfl
  | true =>
    rw [ByteArray.toList_eq, List.isEmpty_iff_length_eq_zero] at e
    exact absurd ((size_list _).symm.trans e) h

/-- A header's offset, as it is got, isn't below 0. -/
theorem getH_off (p : ByteArray) : 0 ≤ (getH p).off := by
  unfold getH
  split
  · show 0 ≤ ((numOf p 6 2 % 8192 : Nat) : Int)
    omega
  · exact Int.le_refl _
/-- What the document's open tells of a packet of layer 5. -/
structure Is4 (p : ByteArray) : Prop where
  pkt : getE p ≠ 0 → openE p = getE p
  piece : getE p = 0 → (0 < (getH p).off ∨ (getH p).mf = true) → openE p = 14
  ok : getE p = 0 → ¬ 0 < (getH p).off → (getH p).mf = false → openE p = 0 ∧ openF p = ⟨(getH p).proto, (getH p).src, (getH p).dst, 0, 0⟩ ∧ openY p = getS p
theorem is4 {p : ByteArray} (h0 : p.size ≠ 0) (hv : ver9 p = 4) : Is4 p := by
  have e1 := verE_yes h0 (Or.inl hv)
  have e2 : pktE p = getE p := by unfold pktE; rw [if_pos hv]
  have e3 : any9 p = .four (getH p) := by unfold any9; rw [if_pos hv]
  have e4 : pay9 p = getS p := by unfold pay9; rw [if_pos hv]
  have e5 : (any9 p).piece = ((getH p).off != 0 || (getH p).mf) := by rw [e3]; rfl
  have o := getH_off p
  refine ⟨fun h => ?_, fun h h1 => openE_piece e1 (by omega) ?_, fun h h1 h2 => ?_⟩
  · rw [openE_pkt e1 (by omega), e2]
  · rw [e5]
    rcases h1 with h1 | h1
    · rw [show ((getH p).off != 0) = true by simp; omega]; rfl
    · rw [h1]; simp
  · have e0 : openE p = 0 := openE_ok e1 (by omega) (by rw [e5, h2, show ((getH p).off != 0) = false by simp; omega]; rfl)
    refine ⟨e0, ?_, ?_⟩
    · unfold openF; rw [if_pos e0, e3]; rfl
    · unfold openY; rw [if_pos e0, e4]
structure Is6 (p : ByteArray) : Prop where
  pkt : get6E p ≠ 0 → openE p = get6E p
  ok : get6E p = 0 → openE p = 0 ∧ openF p = ⟨(get6H p).nxt, (get6H p).src, (get6H p).dst, 0, 0⟩ ∧ openY p = get6S p
theorem is6 {p : ByteArray} (h0 : p.size ≠ 0) (hv : ver9 p = 6) : Is6 p := by
  have e1 := verE_yes h0 (Or.inr hv)
  have n4 : ¬ ver9 p = 4 := by omega
  have e2 : pktE p = get6E p := by unfold pktE; rw [if_neg n4]
  have e3 : any9 p = .six (get6H p) := by unfold any9; rw [if_neg n4]
  have e4 : pay9 p = get6S p := by unfold pay9; rw [if_neg n4]
  refine ⟨fun h => ?_, fun h => ?_⟩
  · rw [openE_pkt e1 (by omega), e2]
  · have e0 : openE p = 0 := openE_ok e1 (by omega) (by rw [e3]; rfl)
    refine ⟨e0, ?_, ?_⟩
    · unfold openF; rw [if_pos e0, e3]; rfl
    · unfold openY; rw [if_pos e0, e4]

set_option maxRecDepth 100000 in
set_option maxHeartbeats 1000000 in
theorem open_any (p : ByteArray) (w : World) (hs : p.size ≤ 1000000) :
    Calls Try.prog 41 #[.string p] w (OpenEnd p w) := by
  have G := Lib.hid (Oz.new w)
  have Q4 := Lib.hid (refget_any p · hs)
  have Q6 := Lib.hid (refget6_any p · hs)
  clear hs
  go_enter Try.func41, Try.ntmps41
  go_upto_region 2 with (fail)
  simp only [show #[Value.int IntKind.i64 0, Value.string { data := #[] }, Value.string { data := #[] }, Value.int IntKind.i64 0, Value.int IntKind.i64 0] = F9.zero.cells from rfl]
  generalize (w.alloc (.cells F9.zero.cells 30)).alloc (.cells F9.zero.cells 30) = u0 at *
  have ⟨z0, z1, z2, z3, z4⟩ := Hc9.of G.out.z
  have ⟨n0, n1, n2, n3, n4⟩ := Hc9.of G.out.n
  have f0 := G.out.z.frozen 0
  have f1 := G.out.z.frozen 1
  have f2 := G.out.z.frozen 2
  have f3 := G.out.z.frozen 3
  have f4 := G.out.z.frozen 4
  simp only [F9.zero] at z0 z1 z2 z3 z4 n0 n1 n2 n3 n4
  by_cases h0 : p.size = 0
  · have t0 := isEmpty_yes h0
    have HE := Lib.hid (openE_ver (p := p) (by rw [verE_empty h0]; decide))
    rw [verE_empty h0] at HE
    go_wp2_with fail
    exact open_stop 2 G.out HE.out (by decide) rfl rfl rfl
  have t0 := isEmpty_no h0
  have hp0 : 0 < p.size := by omega
  have I4 := Lib.hid (is4 (p := p) h0)
  have I6 := Lib.hid (is6 (p := p) h0)
  have I3 := Lib.hid (fun h => openE_ver (p := p) (by rw [verE_no h0 h]; decide))
  have I3b := Lib.hid (fun h => verE_no (p := p) h0 h)
  have hv : ver9 p = p[0].toNat / 16 := by unfold ver9; rw [numOf_one p 0 hp0]
  have hl := p[0].toNat_lt
  generalize ver9 p = v at *
  have e1 : (p[0].toNat : Int) / 16 % 256 = (v : Int) := by omega
  clear hv hl h0
  by_cases h4 : v = 4
  · have t1 : ((v : Int) == 4) = true := by simp; omega
    have ⟨J1, J2, J3⟩ := I4.out h4
    clear I4 I6 I3 I3b Q6 h4
    go_wp2_with fail
    refine (Q4.out _).mono ?_
    rintro e w1 ⟨rfl, hb1⟩
    have G1 := G.out.below hb1
    clear z0 z1 z2 z3 z4 n0 n1 n2 n3 n4 f0 f1 f2 f3 f4 G hb1
    generalize getH p = h at *
    generalize getS p = y at *
    generalize getE p = k at *
    obtain ⟨tos, id, off, ttl, proto, df, mf, src, dst, opt⟩ := h
    have G2 := Lib.hid (G1.alloc (.cells (H4.mk tos id off ttl proto df mf src dst opt).cells 52))
    have ⟨c0, c1, c2, c3, c4, c5, c6, c7, c8, c9⟩ := Hc.of (Blk.new w1 (H4.mk tos id off ttl proto df mf src dst opt).cells 52)
    unfold H4.cells at G2 c0 c1 c2 c3 c4 c5 c6 c7 c8 c9 ⊢
    simp only at G2 J1 J2 J3 c0 c1 c2 c3 c4 c5 c6 c7 c8 c9
    clear G1
    have ⟨z0, z1, z2, z3, z4⟩ := Hc9.of G2.out.z
    have ⟨n0, n1, n2, n3, n4⟩ := Hc9.of G2.out.n
    have f0 := G2.out.z.frozen 0
    have f1 := G2.out.z.frozen 1
    have f2 := G2.out.z.frozen 2
    have f3 := G2.out.z.frozen 3
    have f4 := G2.out.z.frozen 4
    simp only [F9.zero] at z0 z1 z2 z3 z4 n0 n1 n2 n3 n4
    by_cases hk : k = 0
    case neg =>
      have t2 : ((k : Int) != 0) = true := by simp; omega
      have HE := Lib.hid (J1 hk)
      clear J1 J2 J3
      go_wp2_with fail
      exact open_stop k G2.out HE.out hk rfl rfl rfl
    have t2 : ((k : Int) != 0) = false := by simp; omega
    by_cases ho : 0 < off
    · have t3 : decide ((0 : Int) < off) = true := by simp; omega
      have HE := Lib.hid (J2 hk (Or.inl ho))
      clear J1 J2 J3 hk ho
      go_wp2_with fail
      exact open_stop 14 G2.out HE.out (by decide) rfl rfl rfl
    have t3 : decide ((0 : Int) < off) = false := by simp; omega
    cases mf with
    | true =>
      have HE := Lib.hid (J2 hk (Or.inr rfl))
      clear J1 J2 J3 hk ho
      go_wp2_with fail
      exact open_stop 14 G2.out HE.out (by decide) rfl rfl rfl
    | false =>
      have HE := Lib.hid (J3 hk (by omega) rfl)
      clear J1 J2 J3 hk ho
      go_wp2_with fail
      exact open_end ⟨proto, src, dst, 0, 0⟩ y 0 G2.out HE.out.1 HE.out.2.1 HE.out.2.2 rfl rfl rfl
  have t1 : ((v : Int) == 4) = false := by simp; omega
  by_cases h6 : v = 6
  · have t2 : ((v : Int) == 6) = true := by simp; omega
    have ⟨J1, J3⟩ := I6.out h6
    clear I4 I6 I3 I3b Q4 h4 h6
    go_wp2_with fail
    refine (Q6.out _).mono ?_
    rintro e w1 ⟨rfl, hb1⟩
    have G1 := G.out.below hb1
    clear z0 z1 z2 z3 z4 n0 n1 n2 n3 n4 f0 f1 f2 f3 f4 G hb1
    generalize get6H p = h at *
    generalize get6S p = y at *
    generalize get6E p = k at *
    have G2 := Lib.hid (G1.alloc (.cells h.cells 109))
    have ⟨c0, c1, c2, c3, c4, c5⟩ := Hc6.of (Blk.new w1 h.cells 109)
    unfold H6.cells at G2 c0 c1 c2 c3 c4 c5 ⊢
    clear G1
    have ⟨z0, z1, z2, z3, z4⟩ := Hc9.of G2.out.z
    have ⟨n0, n1, n2, n3, n4⟩ := Hc9.of G2.out.n
    have f0 := G2.out.z.frozen 0
    have f1 := G2.out.z.frozen 1
    have f2 := G2.out.z.frozen 2
    have f3 := G2.out.z.frozen 3
    have f4 := G2.out.z.frozen 4
    simp only [F9.zero] at z0 z1 z2 z3 z4 n0 n1 n2 n3 n4
    by_cases hk : k = 0
    case neg =>
      have t2 : ((k : Int) != 0) = true := by simp; omega
      have HE := Lib.hid (J1 hk)
      clear J1 J3
      go_wp2_with fail
      exact open_stop k G2.out HE.out hk rfl rfl rfl
    have t2 : ((k : Int) != 0) = false := by simp; omega
    have HE := Lib.hid (J3 hk)
    clear J1 J3 hk
    go_wp2_with fail
    exact open_end ⟨h.nxt, h.src, h.dst, 0, 0⟩ y 0 G2.out HE.out.1 HE.out.2.1 HE.out.2.2 rfl rfl rfl
  have t2 : ((v : Int) == 6) = false := by simp; omega
  have HE := Lib.hid ((I3.out (by omega)).trans (I3b.out (by omega)))
  clear I4 I6 I3 I3b Q4 Q6 h4 h6
  go_wp2_with fail
  exact open_stop 3 G.out HE.out (by decide) rfl rfl rfl

end Go.Proofs.Ytppobficnjpdiaa
