/-
  ClampUpdates returns true at every input.
-/
import Derived.Test.YtppobficnjpdiaaClampAwake
import Derived.Test.YtppobficnjpdiaaClampRefDo
namespace Go.Proofs.Ytppobficnjpdiaa
open Go.RowKit
set_option linter.unusedVariables false

set_option maxRecDepth 100000 in
set_option maxHeartbeats 1000000 in
theorem cupd_far (p : ByteArray) (lim : Nat) (w : World) (hp : p.size ≤ 140737488355328) (h5 : 5000 < p.size) :
    Calls Try.prog 5 #[.string p, .int .u16 (lim : Nat)] w (AwakeEnd w) := by
  have HA := Lib.hid (awakeK_any w)
  go_enter Try.func5, Try.ntmps5
  go_wp2_with fail
  refine HA.out.mono ?_
  rintro e w1 ⟨rfl, hb1⟩
  have B1 := Lib.hid hb1
  clear hb1 HA
  go_wp2_with fail
  go_ret
  exact ⟨rfl, B1.out⟩

set_option maxRecDepth 100000 in
set_option maxHeartbeats 1000000 in
theorem cupd_none (p : ByteArray) (lim : Nat) (w : World) (h5 : p.size ≤ 5000) (hl : lim ≤ 65535) (hk : hasK p = false) :
    Calls Try.prog 5 #[.string p, .int .u16 (lim : Nat)] w (AwakeEnd w) := by
  have HA := Lib.hid (awakeK_any w)
  have G1 := Lib.hid (fun W => rfind_any p W (by omega))
  unfold Tells at G1
  rw [hk] at G1
  clear hk
  generalize rF p = a at *
  generalize rA p = b at *
  generalize (mssK p).is_ = n at *
  go_enter Try.func5, Try.ntmps5
  go_wp2_with fail
  refine HA.out.mono ?_
  rintro e w1 ⟨rfl, hb1⟩
  have B1 := Lib.hid hb1
  clear hb1 HA
  go_wp2_with fail
  refine (G1.out _).mono ?_
  rintro e w2 ⟨rfl, hb2⟩
  have B2 := Lib.hid (B1.out.trans (hb2.mono B1.out.size))
  clear hb2 B1 G1
  go_wp2_with fail
  go_ret
  exact ⟨rfl, B2.out⟩

set_option maxRecDepth 100000 in
set_option maxHeartbeats 1000000 in
theorem cupd_odd (p : ByteArray) (lim : Nat) (w : World) (h5 : p.size ≤ 5000) (hl : lim ≤ 65535) (hk : hasK p = true) (ho : rA p % 2 = 1) :
    Calls Try.prog 5 #[.string p, .int .u16 (lim : Nat)] w (AwakeEnd w) := by
  have HA := Lib.hid (awakeK_any w)
  have G1 := Lib.hid (fun W => rfind_any p W (by omega))
  unfold Tells at G1
  rw [hk] at G1
  have t1 : (((rA p : Nat) : Int) % 2 == 1) = true := by simp; omega
  clear hk ho
  generalize rF p = a at *
  generalize rA p = b at *
  generalize (mssK p).is_ = n at *
  go_enter Try.func5, Try.ntmps5
  go_wp2_with fail
  refine HA.out.mono ?_
  rintro e w1 ⟨rfl, hb1⟩
  have B1 := Lib.hid hb1
  clear hb1 HA
  go_wp2_with fail
  refine (G1.out _).mono ?_
  rintro e w2 ⟨rfl, hb2⟩
  have B2 := Lib.hid (B1.out.trans (hb2.mono B1.out.size))
  clear hb2 B1 G1
  go_wp2_with fail
  go_ret
  exact ⟨rfl, B2.out⟩

set_option maxRecDepth 100000 in
set_option maxHeartbeats 1000000 in
theorem cupd_low (p : ByteArray) (lim : Nat) (w : World) (h5 : p.size ≤ 5000) (hl : lim ≤ 65535) (hk : hasK p = true) (ho : rA p % 2 = 0) (hn : (mssK p).is_ ≤ lim) :
    Calls Try.prog 5 #[.string p, .int .u16 (lim : Nat)] w (AwakeEnd w) := by
  have HA := Lib.hid (awakeK_any w)
  have G1 := Lib.hid (fun W => rfind_any p W (by omega))
  unfold Tells at G1
  rw [hk] at G1
  have t1 : (((rA p : Nat) : Int) % 2 == 1) = false := by simp; omega
  have t2 : decide ((mssK p).is_ ≤ lim) = true := by simp; omega
  clear hk ho
  generalize rF p = a at *
  generalize rA p = b at *
  generalize (mssK p).is_ = n at *
  go_enter Try.func5, Try.ntmps5
  go_wp2_with fail
  refine HA.out.mono ?_
  rintro e w1 ⟨rfl, hb1⟩
  have B1 := Lib.hid hb1
  clear hb1 HA
  go_wp2_with fail
  refine (G1.out _).mono ?_
  rintro e w2 ⟨rfl, hb2⟩
  have B2 := Lib.hid (B1.out.trans (hb2.mono B1.out.size))
  clear hb2 B1 G1
  go_wp2_with fail
  go_ret
  exact ⟨rfl, B2.out⟩

set_option maxRecDepth 100000 in
set_option maxHeartbeats 1000000 in
theorem cupd_unsealed (p : ByteArray) (lim n q : Nat) (w : World) (h5 : p.size ≤ 5000) (hl : lim ≤ 65535) (h : HasK p n q) (ho : q % 2 = 0) (hn : lim < n) (hs : seal9 6 (any9 p).src (any9 p).dst (pay9 p) ≠ pay9 p) :
    Calls Try.prog 5 #[.string p, .int .u16 (lim : Nat)] w (AwakeEnd w) := by
  have HA := Lib.hid (awakeK_any w)
  have L := h.lies
  have hE := flowE_zero.2 h.good
  have G1 := Lib.hid (fun W => rfind_any p W (by omega))
  have G2 := Lib.hid (fun W => refget9_any p W (by omega))
  have hF : rF p = fr9 p := by unfold rF; rw [h.has]; rfl
  have hA : rA p = 20 + q := by unfold rA; rw [h.has, h.mss]; rfl
  rw [hF, hA, h.has, h.tells] at G1
  rw [hE] at G2
  have hsrc : (any9 p).src = (flowH p).src := by rw [flowH_ok hE]; rfl
  have hdst : (any9 p).dst = (flowH p).dst := by rw [flowH_ok hE]; rfl
  have hsz := any9_sizes p
  have l1 := L.size
  have l2 := L.fit
  have G3 := Lib.hid (fun W => refseal_any 6 (any9 p).src (any9 p).dst (pay9 p) W (by omega) (by omega) (by omega))
  rw [hsrc, hdst] at hsz G3
  have ex := L.pay.symm
  have b0 : fr9 p ≤ p.size := by omega
  unfold Tells at G1 G2
  unfold F9.cells at G2
  simp only at G1
  rw [hsrc, hdst] at hs
  have hj : (20 + q) % 2 = 0 := by omega
  have hne : (pay9 p).toList ≠ (seal9 6 (flowH p).src (flowH p).dst (pay9 p)).toList := by
    intro e
    rw [ByteArray.toList_eq, ByteArray.toList_eq] at e
    exact hs (text_ext e).symm
  clear hs hF hA hE hsrc hdst L h
  generalize flowH p = f at *
  generalize fr9 p = fr at *
  generalize pay9 p = S at *
  generalize 20 + q = j at *
  generalize seal9 6 f.src f.dst S = Z at *
  have t3 : (Z.toList == S.toList) = false := by
    rw [beq_eq_false_iff_ne]
    exact fun e => hne e.symm
  clear hne
  have b1 : (0 : Int) ≤ (fr : Int) := by omega
  have b2 : (fr : Int) ≤ (p.size : Int) := by omega
  have t1 : (((j : Nat) : Int) % 2 == 1) = false := by simp; omega
  have t2 : decide (n ≤ lim) = false := by simp; omega
  clear hj
  go_enter Try.func5, Try.ntmps5
  go_wp2_with fail
  refine HA.out.mono ?_
  rintro e w1 ⟨rfl, hb1⟩
  have B1 := Lib.hid hb1
  clear hb1 HA
  go_wp2_with fail
  refine (G1.out _).mono ?_
  rintro e w2 ⟨rfl, hb2⟩
  have B2 := Lib.hid (B1.out.trans (hb2.mono B1.out.size))
  clear hb2 B1 G1
  go_wp2_with fail
  refine (G2.out _).mono ?_
  rintro e w3 ⟨rfl, hb3⟩
  have B3 := Lib.hid (B2.out.trans (hb3.mono B2.out.size))
  clear hb3 B2 G2
  have L4 := Lib.hid (B3.out.alloc B3.out.size (.cells #[.int .i64 f.proto, .string f.src, .string f.dst, .int .i64 f.sp, .int .i64 f.dp] 30))
  have N4 := Lib.hid (Blk.new w3 #[.int .i64 f.proto, .string f.src, .string f.dst, .int .i64 f.sp, .int .i64 f.dp] 30)
  have c1 := N4.out.cell 1
  have c2 := N4.out.cell 2
  simp only [List.getElem?_toArray, List.getElem?_cons_zero, List.getElem?_cons_succ] at c1 c2
  go_wp2_with fail
  refine (G3.out _).mono ?_
  rintro e w5 ⟨rfl, hb5⟩
  have B5 := Lib.hid (L4.out.trans (hb5.mono L4.out.size))
  clear hb5 L4 N4 c1 c2 G3
  go_wp2_with fail
  go_ret
  exact ⟨rfl, B5.out⟩

set_option maxRecDepth 100000 in
set_option maxHeartbeats 1000000 in
theorem cupd_core (p Q S : ByteArray) (f : F9) (lim n j fr u k16 k17 : Nat) (w : World) (h5 : p.size ≤ 5000) (hl : lim ≤ 65535) (hn : lim < n) (hj : j % 2 = 0) (b0 : fr ≤ p.size) (ex : p.extract fr p.size = S) (hqz : Q.size = p.size) (hu : u ≤ 65535)
    (z0 : 17 < S.size) (hk16 : k16 = fr + 16) (hk17 : k17 = fr + 17) (y1 : k16 < Q.size) (y2 : k17 < Q.size) (hm : u = (Q[k16]'y1).toNat * 256 + (Q[k17]'y2).toNat)
    (g1 : ∀ W, Calls Try.prog 16 #[.string p] W fun e w2 => e = Ending.returned (Value.tuple #[.int .i64 (fr : Nat), .int .i64 (j : Nat), .int .i64 (n : Nat), .bool true]) ∧ Below W.heap.size W w2)
    (g2 : ∀ W, Calls Try.prog 17 #[.string p] W fun e w2 => e = Ending.returned (Value.tuple #[.agg #[.int .i64 f.proto, .string f.src, .string f.dst, .int .i64 f.sp, .int .i64 f.dp], .int .i64 0]) ∧ Below W.heap.size W w2)
    (g3 : ∀ W, Calls Try.prog 18 #[.int .i64 6, .string f.src, .string f.dst, .string S] W fun e w2 => e = Ending.returned (Value.string S) ∧ Below W.heap.size W w2)
    (g4 : ∀ W, Calls Try.prog 11 #[.string p, .int .i64 (lim : Nat)] W fun e w2 => e = Ending.returned (Value.string Q) ∧ Below W.heap.size W w2)
    (g5 : ∀ W, Calls Try.prog 19 #[.int .i64 (((S[16]'(by omega)).toNat : Int) * 256 + ((S[17]'z0).toNat : Int)), .int .i64 (n : Nat), .int .i64 (lim : Nat)] W fun e w2 => e = Ending.returned (Value.int .i64 (u : Nat)) ∧ Below W.heap.size W w2) :
    Calls Try.prog 5 #[.string p, .int .u16 (lim : Nat)] w (AwakeEnd w) := by
  have HA := Lib.hid (awakeK_any w)
  have G1 := Lib.hid g1
  have G2 := Lib.hid g2
  have G3 := Lib.hid g3
  have G4 := Lib.hid g4
  have G5 := Lib.hid g5
  clear g1 g2 g3 g4 g5
  have hz16 : 16 < S.size := by omega
  have x1 := (S[16]'hz16).toNat_lt
  have x2 := (S[17]'z0).toNat_lt
  have y3 := (Q[k16]'y1).toNat_lt
  have y4 := (Q[k17]'y2).toNat_lt
  have i16 : (16 : Int) < (S.size : Int) := by omega
  have i17 : (17 : Int) < (S.size : Int) := by omega
  have j16 : (k16 : Int) < (Q.size : Int) := by omega
  have j17 : (k17 : Int) < (Q.size : Int) := by omega
  have j0 : (0 : Int) ≤ (k16 : Int) := by omega
  have j1 : (0 : Int) ≤ (k17 : Int) := by omega
  have e16 : IntKind.i64.wrap ((fr : Int) + 16) = (k16 : Int) := (IntWalk.i64_in _ (by omega)).trans (by omega)
  have e17 : IntKind.i64.wrap ((fr : Int) + 17) = (k17 : Int) := (IntWalk.i64_in _ (by omega)).trans (by omega)
  have HM := Lib.hid hm
  clear hm hk16 hk17
  generalize hs16 : (S[16]'hz16).toNat = s16 at *
  generalize hs17 : (S[17]'z0).toNat = s17 at *
  generalize hq16 : (Q[k16]'y1).toNat = q16 at *
  generalize hq17 : (Q[k17]'y2).toNat = q17 at *
  have a1 : IntKind.i64.wrap ((s16 : Int) * 256) = (s16 : Int) * 256 := IntWalk.i64_in _ (by omega)
  have a2 := i64_or_low ((s16 : Int) * 256) (s17 : Int) 8 (by omega) (by omega) (by omega) (by simp) (by omega) (by simp; omega)
  have a9 : IntKind.i64.wrap (lim : Int) = (lim : Int) := IntWalk.i64_in _ (by omega)
  have a3 : IntKind.i64.wrap (s16 : Int) = (s16 : Int) := IntWalk.i64_in _ (by omega)
  have a4 : IntKind.i64.wrap (s17 : Int) = (s17 : Int) := IntWalk.i64_in _ (by omega)
  have a5 : IntKind.i64.wrap ((q16 : Int) * 256) = (q16 : Int) * 256 := IntWalk.i64_in _ (by omega)
  have a6 := i64_or_low ((q16 : Int) * 256) (q17 : Int) 8 (by omega) (by omega) (by omega) (by simp) (by omega) (by simp; omega)
  have a7 : IntKind.i64.wrap (q16 : Int) = (q16 : Int) := IntWalk.i64_in _ (by omega)
  have a8 : IntKind.i64.wrap (q17 : Int) = (q17 : Int) := IntWalk.i64_in _ (by omega)
  have b1 : (0 : Int) ≤ (fr : Int) := by omega
  have b2 : (fr : Int) ≤ (p.size : Int) := by omega
  have t1 : (((j : Nat) : Int) % 2 == 1) = false := by simp; omega
  have t2 : decide (n ≤ lim) = false := by simp; omega
  clear hj
  go_enter Try.func5, Try.ntmps5
  go_wp2_with fail
  refine HA.out.mono ?_
  rintro e w1 ⟨rfl, hb1⟩
  have B1 := Lib.hid hb1
  clear hb1 HA
  go_wp2_with fail
  refine (G1.out _).mono ?_
  rintro e w2 ⟨rfl, hb2⟩
  have B2 := Lib.hid (B1.out.trans (hb2.mono B1.out.size))
  clear hb2 B1 G1
  go_wp2_with fail
  refine (G2.out _).mono ?_
  rintro e w3 ⟨rfl, hb3⟩
  have B3 := Lib.hid (B2.out.trans (hb3.mono B2.out.size))
  clear hb3 B2 G2
  have L4 := Lib.hid (B3.out.alloc B3.out.size (.cells #[.int .i64 f.proto, .string f.src, .string f.dst, .int .i64 f.sp, .int .i64 f.dp] 30))
  have N4 := Lib.hid (Blk.new w3 #[.int .i64 f.proto, .string f.src, .string f.dst, .int .i64 f.sp, .int .i64 f.dp] 30)
  have c1 := N4.out.cell 1
  have c2 := N4.out.cell 2
  simp only [List.getElem?_toArray, List.getElem?_cons_zero, List.getElem?_cons_succ] at c1 c2
  go_wp2_with fail
  refine (G3.out _).mono ?_
  rintro e w5 ⟨rfl, hb5⟩
  have B5 := Lib.hid (L4.out.trans (hb5.mono L4.out.size))
  clear hb5 L4 N4 c1 c2 G3
  go_wp2_with fail
  refine (G4.out _).mono ?_
  rintro e w6 ⟨rfl, hb6⟩
  have B6 := Lib.hid (B5.out.trans (hb6.mono B5.out.size))
  clear hb6 B5 G4
  have t5 : ((Q.size : Int) != (p.size : Int)) = false := by simp; omega
  go_upto_region 15 with (fail)
  refine wp_region_any (by kernel_rfl) ?_
  change wpAny _ _ _ _ _ _ _ (World.drew _)
  have B7 : Hid (Below w.heap.size w w6.drew) := below_drewN B6.out 1
  generalize w6.drew = w7 at *
  clear B6
  refine takeA_yes (i := 0) (d := some 64) (v := ?v1) rfl rfl (by kernel_rfl) (by kernel_rfl) (by kernel_rfl) (fun _ _ _ h => h) (by rfl) ?y1 ?_
  case y1 => (intro w; go_simp <;> with_reducible rfl)
  simp only [Act.put, List.setIfInBounds_toArray, List.set_cons_zero, List.set_cons_succ]
  refine takeA_yes (i := 1) (d := some 65) (v := ?v2) rfl rfl (by kernel_rfl) (by kernel_rfl) (by kernel_rfl) (fun _ _ _ h => h) (by rfl) ?y2 ?_
  case y2 => (intro w; go_simp <;> with_reducible rfl)
  simp only [Act.put, List.setIfInBounds_toArray, List.set_cons_zero, List.set_cons_succ]
  refine takeA_yes (i := 2) (d := some 66) (v := ?v3) rfl rfl (by kernel_rfl) (by kernel_rfl) (by kernel_rfl) (fun _ _ _ h => h) (by rfl) ?y3 ?_
  case y3 => (intro w; go_simp <;> with_reducible rfl)
  simp only [Act.put, List.setIfInBounds_toArray, List.set_cons_zero, List.set_cons_succ]
  refine takeA_yes (i := 3) (d := some 67) (v := ?v4) rfl rfl (by kernel_rfl) (by kernel_rfl) (by kernel_rfl) (fun _ _ _ h => h) (by rfl) ?y4 ?_
  case y4 => (intro w; go_simp <;> with_reducible rfl)
  simp only [Act.put, List.setIfInBounds_toArray, List.set_cons_zero, List.set_cons_succ]
  refine takeA_yes (i := 4) (d := some 68) (v := ?v5) rfl rfl (by kernel_rfl) (by kernel_rfl) (by kernel_rfl) (fun _ _ _ h => h) (by rfl) ?y5 ?_
  case y5 => (intro w; go_simp <;> with_reducible rfl)
  simp only [Act.put, List.setIfInBounds_toArray, List.set_cons_zero, List.set_cons_succ]
  refine takeA_yes (i := 5) (d := some 69) (v := ?v6) rfl rfl (by kernel_rfl) (by kernel_rfl) (by kernel_rfl) (fun _ _ _ h => h) (by rfl) ?y6 ?_
  case y6 => (intro w; go_simp <;> with_reducible rfl)
  simp only [Act.put, List.setIfInBounds_toArray, List.set_cons_zero, List.set_cons_succ]
  refine takeA_yes (i := 6) (d := some 70) (v := ?v7) rfl rfl (by kernel_rfl) (by kernel_rfl) (by kernel_rfl) (fun _ _ _ h => h) (by rfl) ?y7 ?_
  case y7 => (intro w; go_simp <;> with_reducible rfl)
  simp only [Act.put, List.setIfInBounds_toArray, List.set_cons_zero, List.set_cons_succ]
  refine takeA_yes (i := 7) (d := some 71) (v := ?v8) rfl rfl (by kernel_rfl) (by kernel_rfl) (by kernel_rfl) (fun _ _ _ h => h) (by rfl) ?y8 ?_
  case y8 => (intro w; go_simp <;> with_reducible rfl)
  simp only [Act.put, List.setIfInBounds_toArray, List.set_cons_zero, List.set_cons_succ]
  refine takeA_yes (i := 8) (d := some 72) (v := ?v9) rfl rfl (by kernel_rfl) (by kernel_rfl) (by kernel_rfl) (fun _ _ _ h => h) (by rfl) ?y9 ?_
  case y9 => (intro w; go_simp <;> with_reducible rfl)
  simp only [Act.put, List.setIfInBounds_toArray, List.set_cons_zero, List.set_cons_succ]
  refine takeA_yes (i := 9) (d := some 73) (v := ?v10) rfl rfl (by kernel_rfl) (by kernel_rfl) (by kernel_rfl) (fun _ _ _ h => h) (by rfl) ?y10 ?_
  case y10 => (intro w; go_simp <;> with_reducible rfl)
  simp only [Act.put, List.setIfInBounds_toArray, List.set_cons_zero, List.set_cons_succ]
  refine takeA_yes (i := 10) (d := some 74) (v := ?v11) rfl rfl (by kernel_rfl) (by kernel_rfl) (by kernel_rfl) (fun _ _ _ h => h) (by rfl) ?y11 ?_
  case y11 => (intro w; go_simp <;> with_reducible rfl)
  simp only [Act.put, List.setIfInBounds_toArray, List.set_cons_zero, List.set_cons_succ]
  refine wpAny_ready (rs := [11]) (by kernel_rfl) (by simp) ?_
  refine AllReady.cons rfl (fun K hK => ?_) AllReady.nil
  go_simp
  simp only [Int.cast_ofNat_Int] at G5
  refine (G5.out _).mono ?_
  rintro e w8 ⟨rfl, hb8⟩
  have B8 := Lib.hid (B7.out.trans (hb8.mono B7.out.size))
  clear hb8 B7 G5
  dsimp only
  refine hK _ _ ?_
  clear hK K
  try simp only [Act.put, List.setIfInBounds_toArray, List.set_cons_zero, List.set_cons_succ]
  refine takeA_yes (i := 12) (d := some 13) (v := ?v12) rfl rfl (by kernel_rfl) (by kernel_rfl) (by kernel_rfl) (fun _ _ _ h => h) (by rfl) ?y12 ?_
  case y12 => (intro w; go_simp <;> with_reducible rfl)
  simp only [Act.put, List.setIfInBounds_toArray, List.set_cons_zero, List.set_cons_succ]
  refine wpAny_done (by kernel_rfl) ?_ _
  have t6 : ((q16 : Int) * 256 + (q17 : Int) == (u : Int)) = true := by
    have := HM.out
    simp
    omega
  go_wp2_with fail
  go_quiet (fail)
  go_wp2_with fail
  go_ret
  exact ⟨rfl, below_drewN B8.out nq⟩

set_option maxRecDepth 100000 in
set_option maxHeartbeats 1000000 in
theorem cupd_sealed (p : ByteArray) (lim n q : Nat) (w : World) (h5 : p.size ≤ 5000) (hl : lim ≤ 65535) (h : HasK p n q) (ho : q % 2 = 0) (hn : lim < n) (hs : seal9 6 (any9 p).src (any9 p).dst (pay9 p) = pay9 p) :
    Calls Try.prog 5 #[.string p, .int .u16 (lim : Nat)] w (AwakeEnd w) := by
  have L := h.lies
  have l1 := L.size
  have l2 := L.fit
  have hE := flowE_zero.2 h.good
  have hF : rF p = fr9 p := by unfold rF; rw [h.has]; rfl
  have hA : rA p = 20 + q := by unfold rA; rw [h.has, h.mss]; rfl
  have hsrc : (any9 p).src = (flowH p).src := by rw [flowH_ok hE]; rfl
  have hdst : (any9 p).dst = (flowH p).dst := by rw [flowH_ok hE]; rfl
  have hsz := any9_sizes p
  have hup := h.update_one lim hl ho hs
  have own := own_le h
  have hnl : nearK (lim : Int) = lim := by unfold nearK; omega
  have hqz := (L.changed lim (newK p lim)).size
  have hq16 : numOf (pktK p (fr9 p) q lim (newK p lim)) (fr9 p + 16) 2 = newK p lim := num_with _ (fr9 p + 16) _ (by rw [with9_size _ _ _ (by omega)]; omega) (newK_le _ _)
  have m16 := num_2 (pktK p (fr9 p) q lim (newK p lim)) (fr9 p + 16) (by omega)
  rw [hq16] at m16
  have n16 := num_2 (pay9 p) 16 (by omega)
  refine cupd_core p (pktK p (fr9 p) q lim (newK p lim)) (pay9 p) (flowH p) lim n (20 + q) (fr9 p) (newK p lim) (fr9 p + 16) (fr9 p + 17) w h5 hl hn (by omega) (by omega) L.pay.symm hqz (newK_le _ _) (by omega) rfl rfl (by omega) (by omega) m16 ?_ ?_ ?_ ?_ ?_
  · intro W
    have g := rfind_any p W (by omega)
    rw [hF, hA, h.has, h.tells] at g
    exact g
  · intro W
    have g := refget9_any p W (by omega)
    rw [hE] at g
    exact g
  · intro W
    have g := refseal_any 6 (any9 p).src (any9 p).dst (pay9 p) W (by omega) (by omega) (by omega)
    rw [hs, hsrc, hdst] at g
    exact g
  · intro W
    have g := clamp_any p (lim : Nat) W (by omega)
    rw [hnl, h.clamp lim, if_pos hn] at g
    exact g
  · intro W
    have g := update_any (numOf (pay9 p) 16 2) n lim W
    rw [updI_nat _ _ _ own L.most hl, hup, n16] at g
    exact g

theorem cupd_any (p : ByteArray) (lim : Int) (w : World) (hp : p.size ≤ 140737488355328) (hl : 0 ≤ lim ∧ lim ≤ 65535) :
    Calls Try.prog 5 #[.string p, .int .u16 lim] w (AwakeEnd w) := by
  obtain ⟨lim, rfl⟩ := Int.eq_ofNat_of_zero_le hl.1
  have h65 : lim ≤ 65535 := by omega
  by_cases h5 : 5000 < p.size
  · exact cupd_far p lim w hp h5
  have h6 : p.size ≤ 5000 := by omega
  cases hk : hasK p with
  | false => exact cupd_none p lim w h6 h65 hk
  | true =>
    obtain ⟨n, q, h⟩ := HasK.of hk
    have hA : rA p = 20 + q := by unfold rA; rw [h.has, h.mss]; rfl
    have hm : (mssK p).is_ = n := by rw [h.tells]
    by_cases ho : q % 2 = 0
    · by_cases hn : lim < n
      · by_cases hs : seal9 6 (any9 p).src (any9 p).dst (pay9 p) = pay9 p
        · exact cupd_sealed p lim n q w h6 h65 h ho hn hs
        · exact cupd_unsealed p lim n q w h6 h65 h ho hn hs
      · exact cupd_low p lim w h6 h65 hk (by omega) (by omega)
    · exact cupd_odd p lim w h6 h65 hk (by omega)

end Go.Proofs.Ytppobficnjpdiaa
