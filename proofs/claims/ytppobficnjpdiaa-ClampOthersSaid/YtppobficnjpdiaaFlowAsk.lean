/-
  What is asked, question by question: the six closures.
-/
import Derived.Test.YtppobficnjpdiaaFlowHolds
namespace Go.Proofs.Ytppobficnjpdiaa
open Go.RowKit
set_option linter.unusedVariables false

theorem below_kb {S : Nat → Prop} {w w' : World} (h : Below w.heap.size w w') : Kb S w w' := ⟨h.os, h.tape, h.output, h.size, fun k hk _ => h.block k hk⟩
/-- What a question answers, which blocks it writes, and what they hold then. -/
def Asks (S : Nat → Prop) (k : Nat) (Q : World → Prop) (u : World) (e : Ending) (u' : World) : Prop := e = .returned (.int .i64 (k : Nat)) ∧ Kb S u u' ∧ Q u'

set_option maxRecDepth 100000 in
set_option maxHeartbeats 1000000 in
theorem ask1_any (P V : Nat) (p : ByteArray) (v0 : Int) (u : World) (hs : p.size ≤ 1000000) (hP : Blk u P #[.string p] 9) (hV : Blk u V #[.int .i64 v0] 3) :
    Calls Try.prog 27 #[.pointer (some ⟨P, 0, none⟩), .pointer (some ⟨V, 0, none⟩)] u (Asks (· = V) (verE p) (fun u' => Blk u' V #[.int .i64 (ver9 p : Nat)] 3) u) := by
  have cP := hP.cell 0
  simp at cP
  have HV := Lib.hid hV
  have RP := Lib.hid (readVersion_any p u hs)
  clear hP hV hs
  unfold Tells at RP
  unfold Asks
  generalize ver9 p = v at *
  generalize verE p = k at *
  go_enter Try.func27, Try.ntmps27
  go_wp2_with fail
  refine RP.out.mono ?_
  rintro e w1 ⟨rfl, hb1⟩
  have K1 : Hid (Kb (· = V) u w1) := below_kb hb1
  have V1 := Lib.hid (HV.out.kb (S := fun _ => False) (below_kb hb1) (fun f => f))
  have cV := V1.out.cell 0
  have fV := V1.out.frozen 0
  simp at cV
  have hlt := V1.out.lt
  clear hb1 HV cP RP
  have V2 := Lib.hid (V1.out.set 0 (.int .i64 (v : Int)))
  have K2 := Lib.hid (Kb.setCell (S := (· = V)) K1.out (p := ⟨V, 0, none⟩) (fun _ => rfl) (.int .i64 (v : Int)))
  go_wp2_with fail
  go_returns
  exact ⟨rfl, K2.out, V2.out⟩

theorem value_form (a : A9) : ∃ T x, a.value = .iface T x := by
  cases a
  · exact ⟨_, _, rfl⟩
  · exact ⟨_, _, rfl⟩

set_option maxRecDepth 100000 in
set_option maxHeartbeats 1000000 in
theorem ask2_any (V P H Y : Nat) (p : ByteArray) (h0 : Value) (y0 : ByteArray) (u : World) (hs : p.size ≤ 1000000) (hV : Blk u V #[.int .i64 (ver9 p : Nat)] 3) (hP : Blk u P #[.string p] 9) (hH : Blk u H #[h0] 63) (hY : Blk u Y #[.string y0] 9) (hne : H ≠ Y) :
    Calls Try.prog 29 #[.pointer (some ⟨V, 0, none⟩), .pointer (some ⟨P, 0, none⟩), .pointer (some ⟨H, 0, none⟩), .pointer (some ⟨Y, 0, none⟩)] u (Asks (fun k => k = H ∨ k = Y) (pktE p) (fun u' => Blk u' H #[(any9 p).value] 63 ∧ Blk u' Y #[.string (pay9 p)] 9) u) := by
  have cP := hP.cell 0
  have cV := hV.cell 0
  simp at cP cV
  have HH := Lib.hid hH
  have HY := Lib.hid hY
  have RP := Lib.hid (readPacket_any p u hs)
  have NE := Lib.hid hne
  clear hP hV hs hH hY hne
  obtain ⟨T, x, hx⟩ := value_form (any9 p)
  rw [hx] at RP ⊢
  clear hx
  generalize pay9 p = y at *
  generalize pktE p = k at *
  generalize ver9 p = v at *
  unfold Tells at RP
  unfold Asks
  go_enter Try.func29, Try.ntmps29
  go_wp2_with fail
  refine RP.out.mono ?_
  rintro e w1 ⟨rfl, hb1⟩
  have K1 : Hid (Kb (fun k => k = H ∨ k = Y) u w1) := below_kb hb1
  have H1 := Lib.hid (HH.out.kb (S := fun _ => False) (below_kb hb1) (fun f => f))
  have Y1 := Lib.hid (HY.out.kb (S := fun _ => False) (below_kb hb1) (fun f => f))
  have cH := H1.out.cell 0
  have fH := H1.out.frozen 0
  have cY := Y1.out.cell 0
  have fY := Y1.out.frozen 0
  simp at cH cY
  clear hb1 HH HY RP cP cV
  have H2 := Lib.hid ((H1.out.set 0 (.iface T x)).set_other (p := ⟨Y, 0, none⟩) NE.out (.string y))
  have Y2 := Lib.hid ((Y1.out.set_other (p := ⟨H, 0, none⟩) (fun e => NE.out e.symm) (.iface T x)).set 0 (.string y))
  have K2 := Lib.hid (Kb.setCell (S := fun k => k = H ∨ k = Y) (Kb.setCell (S := fun k => k = H ∨ k = Y) K1.out (p := ⟨H, 0, none⟩) (fun _ => Or.inl rfl) (.iface T x)) (p := ⟨Y, 0, none⟩) (fun _ => Or.inr rfl) (.string y))
  have hne2 := NE.out
  go_wp2_with fail
  go_returns
  exact ⟨rfl, K2.out, H2.out, Y2.out⟩

set_option maxRecDepth 100000 in
set_option maxHeartbeats 1000000 in
theorem ask3_four (H : Nat) (h : H4) (u : World) (hH : Blk u H #[(A9.four h).value] 63) :
    Calls Try.prog 31 #[.pointer (some ⟨H, 0, none⟩)] u (Asks (fun _ => False) (kU (!(A9.four h).piece) 14) (fun _ => True) u) := by
  have cH := hH.cell 0
  simp at cH
  have QP := Lib.hid (piece4_any h u)
  rw [show (A9.four h).value = .iface 107 (.agg h.cells) from rfl] at cH
  clear hH
  unfold Tells at QP
  unfold Asks
  generalize (A9.four h).piece = b at *
  generalize h.cells = cs at *
  go_enter Try.func31, Try.ntmps31
  go_wp2_with fail
  refine QP.out.mono ?_
  rintro e w1 ⟨rfl, hb1⟩
  have K1 : Hid (Kb (fun _ => False) u w1) := below_kb hb1
  clear hb1 cH QP
  go_wp2_with fail
  refine (unless_any (!b) 14 _).mono ?_
  rintro e w2 ⟨rfl, rfl⟩
  go_wp2_with fail
  go_returns
  exact ⟨rfl, K1.out, trivial⟩

set_option maxRecDepth 100000 in
set_option maxHeartbeats 1000000 in
theorem ask3_six (H : Nat) (h : H6) (u : World) (hH : Blk u H #[(A9.six h).value] 63) :
    Calls Try.prog 31 #[.pointer (some ⟨H, 0, none⟩)] u (Asks (fun _ => False) (kU (!(A9.six h).piece) 14) (fun _ => True) u) := by
  have cH := hH.cell 0
  simp at cH
  have QP := Lib.hid (piece6_any h u)
  rw [show (A9.six h).value = .iface 112 (.agg h.cells) from rfl] at cH
  clear hH
  unfold Tells at QP
  unfold Asks
  generalize (A9.six h).piece = b at *
  generalize h.cells = cs at *
  go_enter Try.func31, Try.ntmps31
  go_wp2_with fail
  refine QP.out.mono ?_
  rintro e w1 ⟨rfl, hb1⟩
  have K1 : Hid (Kb (fun _ => False) u w1) := below_kb hb1
  clear hb1 cH QP
  go_wp2_with fail
  refine (unless_any (!b) 14 _).mono ?_
  rintro e w2 ⟨rfl, rfl⟩
  go_wp2_with fail
  go_returns
  exact ⟨rfl, K1.out, trivial⟩

set_option maxRecDepth 100000 in
set_option maxHeartbeats 1000000 in
theorem ask4_four (H F : Nat) (h : H4) (f : F9) (u : World) (hH : Blk u H #[(A9.four h).value] 63) (hF : Blk u F f.cells 30) :
    Calls Try.prog 33 #[.pointer (some ⟨H, 0, none⟩), .pointer (some ⟨F, 0, none⟩)] u (Asks (· = F) (kU (isK (A9.four h).proto) 6) (fun u' => Blk u' F (A9.four h).bare.cells 30) u) := by
  have cH := hH.cell 0
  simp at cH
  have QP := Lib.hid (bare4_any h u)
  have HF := Lib.hid hF
  rw [show (A9.four h).value = .iface 107 (.agg h.cells) from rfl] at cH
  clear hH hF
  unfold Tells at QP
  unfold Asks
  have HX : Hid ((A9.four h).proto = (A9.four h).bare.proto) := rfl
  generalize (A9.four h).bare = g at *
  generalize (A9.four h).proto = n at *
  generalize h.cells = cs at *
  go_enter Try.func33, Try.ntmps33
  go_wp2_with fail
  refine QP.out.mono ?_
  rintro e w1 ⟨rfl, hb1⟩
  have K1 : Hid (Kb (· = F) u w1) := below_kb hb1
  have F1 := Lib.hid (HF.out.kb (S := fun _ => False) (below_kb hb1) (fun f => f))
  have ⟨z0, z1, z2, z3, z4⟩ := Hc9.of F1.out
  have f0 := F1.out.frozen 0
  have f1 := F1.out.frozen 1
  have f2 := F1.out.frozen 2
  have f3 := F1.out.frozen 3
  have f4 := F1.out.frozen 4
  clear hb1 cH QP HF
  have F2 := Lib.hid (put9c_blk F1.out g)
  have K2 := Lib.hid (put9c_kb (S := (· = F)) (N := F) K1.out (fun _ => rfl) g)
  unfold put9c at F2 K2
  unfold F9.cells
  go_wp2_with fail
  generalize ((((w1.setCell ⟨F, 0, none⟩ (.int .i64 g.proto)).setCell ⟨F, 1, none⟩ (.string g.src)).setCell ⟨F, 2, none⟩ (.string g.dst)).setCell ⟨F, 3, none⟩ (.int .i64 g.sp)).setCell ⟨F, 4, none⟩ (.int .i64 g.dp) = w2 at *
  clear z0 z1 z2 z3 z4 f0 f1 f2 f3 f4
  try go_wp2_with fail
  refine (isKnown_any _ _).mono ?_
  rintro e w3 ⟨rfl, rfl⟩
  go_wp2_with fail
  refine (unless_any _ 6 _).mono ?_
  rintro e w3 ⟨rfl, rfl⟩
  go_wp2_with fail
  go_returns
  exact ⟨by rw [HX.out]; rfl, K2.out, F2.out⟩

set_option maxRecDepth 100000 in
set_option maxHeartbeats 1000000 in
theorem ask4_six (H F : Nat) (h : H6) (f : F9) (u : World) (hH : Blk u H #[(A9.six h).value] 63) (hF : Blk u F f.cells 30) :
    Calls Try.prog 33 #[.pointer (some ⟨H, 0, none⟩), .pointer (some ⟨F, 0, none⟩)] u (Asks (· = F) (kU (isK (A9.six h).proto) 6) (fun u' => Blk u' F (A9.six h).bare.cells 30) u) := by
  have cH := hH.cell 0
  simp at cH
  have QP := Lib.hid (bare6_any h u)
  have HF := Lib.hid hF
  rw [show (A9.six h).value = .iface 112 (.agg h.cells) from rfl] at cH
  clear hH hF
  unfold Tells at QP
  unfold Asks
  have HX : Hid ((A9.six h).proto = (A9.six h).bare.proto) := rfl
  generalize (A9.six h).bare = g at *
  generalize (A9.six h).proto = n at *
  generalize h.cells = cs at *
  go_enter Try.func33, Try.ntmps33
  go_wp2_with fail
  refine QP.out.mono ?_
  rintro e w1 ⟨rfl, hb1⟩
  have K1 : Hid (Kb (· = F) u w1) := below_kb hb1
  have F1 := Lib.hid (HF.out.kb (S := fun _ => False) (below_kb hb1) (fun f => f))
  have ⟨z0, z1, z2, z3, z4⟩ := Hc9.of F1.out
  have f0 := F1.out.frozen 0
  have f1 := F1.out.frozen 1
  have f2 := F1.out.frozen 2
  have f3 := F1.out.frozen 3
  have f4 := F1.out.frozen 4
  clear hb1 cH QP HF
  have F2 := Lib.hid (put9c_blk F1.out g)
  have K2 := Lib.hid (put9c_kb (S := (· = F)) (N := F) K1.out (fun _ => rfl) g)
  unfold put9c at F2 K2
  unfold F9.cells
  go_wp2_with fail
  generalize ((((w1.setCell ⟨F, 0, none⟩ (.int .i64 g.proto)).setCell ⟨F, 1, none⟩ (.string g.src)).setCell ⟨F, 2, none⟩ (.string g.dst)).setCell ⟨F, 3, none⟩ (.int .i64 g.sp)).setCell ⟨F, 4, none⟩ (.int .i64 g.dp) = w2 at *
  clear z0 z1 z2 z3 z4 f0 f1 f2 f3 f4
  try go_wp2_with fail
  refine (isKnown_any _ _).mono ?_
  rintro e w3 ⟨rfl, rfl⟩
  go_wp2_with fail
  refine (unless_any _ 6 _).mono ?_
  rintro e w3 ⟨rfl, rfl⟩
  go_wp2_with fail
  go_returns
  exact ⟨by rw [HX.out]; rfl, K2.out, F2.out⟩

set_option maxRecDepth 100000 in
set_option maxHeartbeats 1000000 in
theorem ask5_any (F Y O : Nat) (f : F9) (b : ByteArray) (o0 : Int) (u : World) (hs : b.size ≤ 1000000) (hF : Blk u F f.cells 30) (hY : Blk u Y #[.string b] 9) (hO : Blk u O #[.int .i64 o0] 3) (hne : F ≠ O) :
    Calls Try.prog 35 #[.pointer (some ⟨F, 0, none⟩), .pointer (some ⟨Y, 0, none⟩), .pointer (some ⟨O, 0, none⟩)] u (Asks (fun k => k = F ∨ k = O) (loadE f.proto b) (fun u' => Blk u' F (F9.cells ⟨f.proto, f.src, f.dst, sp9 f.proto b, dp9 f.proto b⟩) 30 ∧ Blk u' O #[.int .i64 (own9 f.proto b : Nat)] 3) u) := by
  have cY := hY.cell 0
  simp at cY
  have ⟨z0, z1, z2, z3, z4⟩ := Hc9.of hF
  have HF := Lib.hid hF
  have HO := Lib.hid hO
  have NE := Lib.hid hne
  have RP := Lib.hid (readPayload_any f.proto b u hs)
  clear hF hY hO hne hs z1 z2 z3 z4
  unfold Tells at RP
  unfold Asks
  generalize loadE f.proto b = k at *
  generalize sp9 f.proto b = s at *
  generalize dp9 f.proto b = d at *
  generalize own9 f.proto b = n at *
  go_enter Try.func35, Try.ntmps35
  go_wp2_with fail
  refine RP.out.mono ?_
  rintro e w1 ⟨rfl, hb1⟩
  have K1 : Hid (Kb (fun k => k = F ∨ k = O) u w1) := below_kb hb1
  have F1 := Lib.hid (HF.out.kb (S := fun _ => False) (below_kb hb1) (fun f => f))
  have O1 := Lib.hid (HO.out.kb (S := fun _ => False) (below_kb hb1) (fun f => f))
  clear z0 cY HF HO RP hb1
  have ⟨z0, z1, z2, z3, z4⟩ := Hc9.of F1.out
  have f3 := F1.out.frozen 3
  have f4 := F1.out.frozen 4
  have cO := O1.out.cell 0
  have fO := O1.out.frozen 0
  simp at cO
  have F2 := Lib.hid (((F1.out.set 3 (.int .i64 s)).set 4 (.int .i64 d)).set_other (p := ⟨O, 0, none⟩) NE.out (.int .i64 (n : Int)))
  have O2 := Lib.hid (((O1.out.set_other (p := ⟨F, 3, none⟩) (fun e => NE.out e.symm) (.int .i64 s)).set_other (p := ⟨F, 4, none⟩) (fun e => NE.out e.symm) (.int .i64 d)).set 0 (.int .i64 (n : Int)))
  have K2 := Lib.hid (Kb.setCell (S := fun k => k = F ∨ k = O) (Kb.setCell (S := fun k => k = F ∨ k = O) (Kb.setCell (S := fun k => k = F ∨ k = O) K1.out (p := ⟨F, 3, none⟩) (fun _ => Or.inl rfl) (.int .i64 s)) (p := ⟨F, 4, none⟩) (fun _ => Or.inl rfl) (.int .i64 d)) (p := ⟨O, 0, none⟩) (fun _ => Or.inr rfl) (.int .i64 (n : Int)))
  have hne2 := NE.out
  go_wp2_with fail
  go_returns
  exact ⟨rfl, K2.out, F2.out, O2.out⟩

set_option maxRecDepth 100000 in
set_option maxHeartbeats 1000000 in
theorem ask6_four (H O Y : Nat) (h : H4) (n : Nat) (b : ByteArray) (u : World) (hb : b.size ≤ 900000) (hs : h.src.size ≤ 400000) (hd : h.dst.size ≤ 400000) (hH : Blk u H #[(A9.four h).value] 63) (hO : Blk u O #[.int .i64 (n : Nat)] 3) (hY : Blk u Y #[.string b] 9) :
    Calls Try.prog 37 #[.pointer (some ⟨H, 0, none⟩), .pointer (some ⟨O, 0, none⟩), .pointer (some ⟨Y, 0, none⟩)] u (Asks (fun _ => False) (kU ((A9.four h).holds n b) 5) (fun _ => True) u) := by
  have cH := hH.cell 0
  have cO := hO.cell 0
  have cY := hY.cell 0
  simp at cH cO cY
  have QP := Lib.hid (holds4_any h n b u hb hs hd)
  rw [show (A9.four h).value = .iface 107 (.agg h.cells) from rfl] at cH QP
  clear hH hO hY hb hs hd
  unfold Tells at QP
  unfold Asks
  generalize (A9.four h).holds n b = r at *
  generalize h.cells = cs at *
  go_enter Try.func37, Try.ntmps37
  go_wp2_with fail
  refine QP.out.mono ?_
  rintro e w1 ⟨rfl, hb1⟩
  have K1 : Hid (Kb (fun _ => False) u w1) := below_kb hb1
  clear hb1 cH cO cY QP
  go_wp2_with fail
  refine (unless_any r 5 _).mono ?_
  rintro e w2 ⟨rfl, rfl⟩
  go_wp2_with fail
  go_returns
  exact ⟨rfl, K1.out, trivial⟩

set_option maxRecDepth 100000 in
set_option maxHeartbeats 1000000 in
theorem ask6_six (H O Y : Nat) (h : H6) (n : Nat) (b : ByteArray) (u : World) (hb : b.size ≤ 900000) (hs : h.src.size ≤ 400000) (hd : h.dst.size ≤ 400000) (hH : Blk u H #[(A9.six h).value] 63) (hO : Blk u O #[.int .i64 (n : Nat)] 3) (hY : Blk u Y #[.string b] 9) :
    Calls Try.prog 37 #[.pointer (some ⟨H, 0, none⟩), .pointer (some ⟨O, 0, none⟩), .pointer (some ⟨Y, 0, none⟩)] u (Asks (fun _ => False) (kU ((A9.six h).holds n b) 5) (fun _ => True) u) := by
  have cH := hH.cell 0
  have cO := hO.cell 0
  have cY := hY.cell 0
  simp at cH cO cY
  have QP := Lib.hid (holds6_any h n b u hb hs hd)
  rw [show (A9.six h).value = .iface 112 (.agg h.cells) from rfl] at cH QP
  clear hH hO hY hb hs hd
  unfold Tells at QP
  unfold Asks
  generalize (A9.six h).holds n b = r at *
  generalize h.cells = cs at *
  go_enter Try.func37, Try.ntmps37
  go_wp2_with fail
  refine QP.out.mono ?_
  rintro e w1 ⟨rfl, hb1⟩
  have K1 : Hid (Kb (fun _ => False) u w1) := below_kb hb1
  clear hb1 cH cO cY QP
  go_wp2_with fail
  refine (unless_any r 5 _).mono ?_
  rintro e w2 ⟨rfl, rfl⟩
  go_wp2_with fail
  go_returns
  exact ⟨rfl, K1.out, trivial⟩

theorem ask3_any (H : Nat) (a : A9) (u : World) (hH : Blk u H #[a.value] 63) :
    Calls Try.prog 31 #[.pointer (some ⟨H, 0, none⟩)] u (Asks (fun _ => False) (kU (!a.piece) 14) (fun _ => True) u) := by
  cases a
  · exact ask3_four H _ u hH
  · exact ask3_six H _ u hH
theorem ask4_any (H F : Nat) (a : A9) (f : F9) (u : World) (hH : Blk u H #[a.value] 63) (hF : Blk u F f.cells 30) :
    Calls Try.prog 33 #[.pointer (some ⟨H, 0, none⟩), .pointer (some ⟨F, 0, none⟩)] u (Asks (· = F) (kU (isK a.proto) 6) (fun u' => Blk u' F a.bare.cells 30) u) := by
  cases a
  · exact ask4_four H F _ f u hH hF
  · exact ask4_six H F _ f u hH hF
theorem ask6_any (H O Y : Nat) (a : A9) (n : Nat) (b : ByteArray) (u : World) (hb : b.size ≤ 900000) (hs : a.src.size ≤ 400000) (hd : a.dst.size ≤ 400000) (hH : Blk u H #[a.value] 63) (hO : Blk u O #[.int .i64 (n : Nat)] 3) (hY : Blk u Y #[.string b] 9) :
    Calls Try.prog 37 #[.pointer (some ⟨H, 0, none⟩), .pointer (some ⟨O, 0, none⟩), .pointer (some ⟨Y, 0, none⟩)] u (Asks (fun _ => False) (kU (a.holds n b) 5) (fun _ => True) u) := by
  cases a
  · exact ask6_four H O Y _ n b u hb hs hd hH hO hY
  · exact ask6_six H O Y _ n b u hb hs hd hH hO hY

end Go.Proofs.Ytppobficnjpdiaa
