/-
  ClampKeeps returns true at every input.
-/
import Derived.Test.YtppobficnjpdiaaClampAwake
import Derived.Deep.LoopGhost
namespace Go.Proofs.Ytppobficnjpdiaa
open Go.RowKit
set_option linter.unusedVariables false

theorem dif_step {a b : ByteArray} {k : Nat} (h1 : k < a.size) (h2 : k < b.size) : dif a.data.toList b.data.toList (k + 1) = dif a.data.toList b.data.toList k + if (a[k]'h1).toNat = (b[k]'h2).toNat then 0 else 1 := by
  have e1 : a.data.toList[k]? = some (a[k]'h1) := by rw [List.getElem?_eq_getElem (by rw [size_list]; exact h1)]; rfl
  have e2 : b.data.toList[k]? = some (b[k]'h2) := by rw [List.getElem?_eq_getElem (by rw [size_list]; exact h2)]; rfl
  show dif a.data.toList b.data.toList k + (if a.data.toList[k]? = b.data.toList[k]? then 0 else 1) = _
  rw [e1, e2]
  by_cases h : (a[k]'h1).toNat = (b[k]'h2).toNat
  · rw [if_pos h, if_pos (by rw [UInt8.toNat_inj.1 h])]
  · rw [if_neg h, if_neg (fun e => h (by rw [Option.some.inj e]))]

set_option maxRecDepth 100000 in
set_option maxHeartbeats 2000000 in
theorem ckeep_far (p : ByteArray) (lim more : Nat) (w : World) (hp : p.size ≤ 140737488355328) (h5 : 5000 < p.size) :
    Calls Try.prog 4 #[.string p, .int .u16 (lim : Nat), .int .u16 (more : Nat)] w (AwakeEnd w) := by
  have HA := Lib.hid (awakeK_any w)
  go_enter Try.func4, Try.ntmps4
  go_wp2_with fail
  refine HA.out.mono ?_
  rintro e w1 ⟨rfl, hb1⟩
  have B1 := Lib.hid hb1
  clear hb1 HA
  go_wp2_with fail
  go_ret
  exact ⟨rfl, B1.out⟩

set_option maxRecDepth 100000 in
set_option maxHeartbeats 2000000 in
theorem ckeep_yes1 (p Q : ByteArray) (f : F9) (E lim more n : Nat) (w : World) (h5 : p.size ≤ 5000) (hl : lim ≤ 65535) (hm : more ≤ 65535) (hmx : lim < more) (hmn : n ≤ lim) (hqz : Q.size = p.size) (hd4 : ∀ k, dif p.data.toList Q.data.toList k ≤ 4)
    (g1 : ∀ W, Calls Try.prog 11 #[.string p, .int .i64 (lim : Nat)] W fun e w2 => e = Ending.returned (Value.string Q) ∧ Below W.heap.size W w2)
    (g2 : ∀ W, Calls Try.prog 15 #[.string p] W fun e w2 => e = Ending.returned (Value.tuple #[.agg #[.int .i64 f.proto, .string f.src, .string f.dst, .int .i64 f.sp, .int .i64 f.dp], .int .i64 (E : Nat)]) ∧ Below W.heap.size W w2)
    (g3 : ∀ W, Calls Try.prog 15 #[.string Q] W fun e w2 => e = Ending.returned (Value.tuple #[.agg #[.int .i64 f.proto, .string f.src, .string f.dst, .int .i64 f.sp, .int .i64 f.dp], .int .i64 (E : Nat)]) ∧ Below W.heap.size W w2)
    (g4 : ∀ W, Calls Try.prog 11 #[.string Q, .int .i64 (lim : Nat)] W fun e w2 => e = Ending.returned (Value.string Q) ∧ Below W.heap.size W w2)
    (g5 : ∀ W, Calls Try.prog 11 #[.string Q, .int .i64 (more : Nat)] W fun e w2 => e = Ending.returned (Value.string Q) ∧ Below W.heap.size W w2)
    (g6 : ∀ W, Calls Try.prog 9 #[.string p] W fun e w2 => e = Ending.returned (Value.tuple #[.int .i64 (n : Nat), .bool true]) ∧ Below W.heap.size W w2)
    (g7 : ∀ W, Calls Try.prog 9 #[.string Q] W fun e w2 => e = Ending.returned (Value.tuple #[.int .i64 (n : Nat), .bool true]) ∧ Below W.heap.size W w2) :
    Calls Try.prog 4 #[.string p, .int .u16 (lim : Nat), .int .u16 (more : Nat)] w (AwakeEnd w) := by
  have HA := Lib.hid (awakeK_any w)
  have G1 := Lib.hid g1
  have G2 := Lib.hid g2
  have G3 := Lib.hid g3
  have G4 := Lib.hid g4
  have G5 := Lib.hid g5
  have G6 := Lib.hid g6
  have G7 := Lib.hid g7
  clear g1 g2 g3 g4 g5 g6 g7
  have HD4 := Lib.hid hd4
  have HQZ := Lib.hid hqz
  have t1 : ((Q.size : Int) != (p.size : Int)) = false := by simp; omega
  clear hd4 hqz
  go_enter Try.func4, Try.ntmps4
  go_wp2_with fail
  refine HA.out.mono ?_
  rintro e w1 ⟨rfl, hb1⟩
  have B1 := Lib.hid hb1
  clear hb1 HA
  go_wp2_with fail
  refine (G1.out _).mono ?_
  rintro e w2 ⟨rfl, hb⟩
  have B2 := Lib.hid (B1.out.trans (hb.mono B1.out.size))
  clear hb B1
  go_wp2_with fail
  refine (G2.out _).mono ?_
  rintro e w3 ⟨rfl, hb⟩
  have B3 := Lib.hid (B2.out.trans (hb.mono B2.out.size))
  clear hb B2
  have L4 := Lib.hid (B3.out.alloc B3.out.size (.cells #[.int .i64 f.proto, .string f.src, .string f.dst, .int .i64 f.sp, .int .i64 f.dp] 30))
  have N4 := Lib.hid (Blk.new w3 #[.int .i64 f.proto, .string f.src, .string f.dst, .int .i64 f.sp, .int .i64 f.dp] 30)
  clear B3
  go_wp2_with fail
  refine (G3.out _).mono ?_
  rintro e w5 ⟨rfl, hb⟩
  have B5 := Lib.hid (L4.out.trans (hb.mono L4.out.size))
  have N5 : Hid (Blk w5 w3.heap.size #[.int .i64 f.proto, .string f.src, .string f.dst, .int .i64 f.sp, .int .i64 f.dp] 30) := (hb.block _ N4.out.lt).trans N4.out
  clear hb L4 N4
  have B6 := Lib.hid (B5.out.alloc B5.out.size (.cells #[.int .i64 f.proto, .string f.src, .string f.dst, .int .i64 f.sp, .int .i64 f.dp] 30))
  have M6 := Lib.hid (Blk.new w5 #[.int .i64 f.proto, .string f.src, .string f.dst, .int .i64 f.sp, .int .i64 f.dp] 30)
  have N6 := Lib.hid (N5.out.alloc (.cells #[.int .i64 f.proto, .string f.src, .string f.dst, .int .i64 f.sp, .int .i64 f.dp] 30))
  have c0 := N6.out.cell 0
  have c1 := N6.out.cell 1
  have c2 := N6.out.cell 2
  have c3 := N6.out.cell 3
  have c4 := N6.out.cell 4
  have d0 := M6.out.cell 0
  have d1 := M6.out.cell 1
  have d2 := M6.out.cell 2
  have d3 := M6.out.cell 3
  have d4 := M6.out.cell 4
  simp only [List.getElem?_toArray, List.getElem?_cons_zero, List.getElem?_cons_succ] at c0 c1 c2 c3 c4 d0 d1 d2 d3 d4
  clear B5 N5
  go_wp2_with fail
  clear c0 c1 c2 c3 c4 d0 d1 d2 d3 d4
  refine (G4.out _).mono ?_
  rintro e w7 ⟨rfl, hb⟩
  have B7 := Lib.hid (B6.out.trans (hb.mono B6.out.size))
  clear hb B6
  go_wp2_with fail
  refine (G5.out _).mono ?_
  rintro e w8 ⟨rfl, hb⟩
  have B8 := Lib.hid (B7.out.trans (hb.mono B7.out.size))
  clear hb B7
  go_wp2_with fail
  refine (G6.out _).mono ?_
  rintro e w9 ⟨rfl, hb⟩
  have B9 := Lib.hid (B8.out.trans (hb.mono B8.out.size))
  clear hb B8
  go_wp2_with fail
  refine (G7.out _).mono ?_
  rintro e w10 ⟨rfl, hb⟩
  have B10 := Lib.hid (B9.out.trans (hb.mono B9.out.size))
  clear hb B9
  go_wp2_with fail
  have hz10 := B10.out.size
  go_loopg [16, 17] p.size (fun g d i wr => ∃ k : Nat, k + g = p.size ∧ i = .int .i64 k ∧ d = .int .i64 (dif p.data.toList Q.data.toList k : Nat) ∧ Hid (Below w.heap.size w wr))
  case atStart => exact ⟨0, by omega, rfl, rfl, B10⟩
  case round =>
    obtain ⟨k, hk, rfl, rfl, HB⟩ := hrel
    by_cases hlt : k < p.size
    · have hlq : k < Q.size := by have := HQZ.out; omega
      have HS := Lib.hid (dif_step hlt hlq)
      have hd := HD4.out k
      have i0 : (0 : Int) ≤ (k : Int) := by omega
      have i1 : (k : Int) < (p.size : Int) := by omega
      have i2 : (k : Int) < (Q.size : Int) := by omega
      have i3 : decide (k < p.size) = true := by simp; omega
      generalize hx : (p[k]'hlt).toNat = x at *
      generalize hy : (Q[k]'hlq).toNat = y at *
      generalize hdd : dif p.data.toList Q.data.toList k = dd at *
      have HDD := Lib.hid hdd
      clear hdd
      have HK := Lib.hid hk
      clear hk
      by_cases hxy : x = y
      · have t3 : ((x : Int) != (y : Int)) = false := by simp; omega
        have hs := HS.out.trans (by rw [if_pos hxy])
        have HE := Lib.hid hs
        clear hs HS
        clear hxy
        go_wp2_with fail
        go_quiet (fail)
        go_wp2_with fail
        go_roundg (gk - 1)
        case measure => have := HK.out; omega
        case rel => exact ⟨k + 1, by have := HK.out; omega, rfl, by rw [HE.out]; rfl, below_drewN HB.out nq⟩
      · have t3 : ((x : Int) != (y : Int)) = true := by simp; omega
        have hs := HS.out.trans (by rw [if_neg hxy])
        have HE := Lib.hid hs
        clear hs HS
        clear hxy
        go_wp2_with fail
        go_quiet (fail)
        go_wp2_with fail
        go_roundg (gk - 1)
        case measure => have := HK.out; omega
        case rel => exact ⟨k + 1, by have := HK.out; omega, rfl, by rw [HE.out]; rfl, below_drewN HB.out nq⟩
    · have hkp : k = p.size := by omega
      have hd := HD4.out k
      generalize hdd : dif p.data.toList Q.data.toList k = dd at *
      clear hdd
      have i3 : decide (k < p.size) = false := by simp; omega
      have t4 : decide ((dd : Int) ≤ 4) = true := by simp; omega
      clear hkp hk
      go_wp2_with fail
      go_ret
      exact ⟨rfl, HB.out⟩

set_option maxRecDepth 100000 in
set_option maxHeartbeats 2000000 in
theorem ckeep_yes2 (p Q : ByteArray) (f : F9) (E lim more n : Nat) (w : World) (h5 : p.size ≤ 5000) (hl : lim ≤ 65535) (hm : more ≤ 65535) (hmx : lim < more) (hmn : lim < n) (hqz : Q.size = p.size) (hd4 : ∀ k, dif p.data.toList Q.data.toList k ≤ 4)
    (g1 : ∀ W, Calls Try.prog 11 #[.string p, .int .i64 (lim : Nat)] W fun e w2 => e = Ending.returned (Value.string Q) ∧ Below W.heap.size W w2)
    (g2 : ∀ W, Calls Try.prog 15 #[.string p] W fun e w2 => e = Ending.returned (Value.tuple #[.agg #[.int .i64 f.proto, .string f.src, .string f.dst, .int .i64 f.sp, .int .i64 f.dp], .int .i64 (E : Nat)]) ∧ Below W.heap.size W w2)
    (g3 : ∀ W, Calls Try.prog 15 #[.string Q] W fun e w2 => e = Ending.returned (Value.tuple #[.agg #[.int .i64 f.proto, .string f.src, .string f.dst, .int .i64 f.sp, .int .i64 f.dp], .int .i64 (E : Nat)]) ∧ Below W.heap.size W w2)
    (g4 : ∀ W, Calls Try.prog 11 #[.string Q, .int .i64 (lim : Nat)] W fun e w2 => e = Ending.returned (Value.string Q) ∧ Below W.heap.size W w2)
    (g5 : ∀ W, Calls Try.prog 11 #[.string Q, .int .i64 (more : Nat)] W fun e w2 => e = Ending.returned (Value.string Q) ∧ Below W.heap.size W w2)
    (g6 : ∀ W, Calls Try.prog 9 #[.string p] W fun e w2 => e = Ending.returned (Value.tuple #[.int .i64 (n : Nat), .bool true]) ∧ Below W.heap.size W w2)
    (g7 : ∀ W, Calls Try.prog 9 #[.string Q] W fun e w2 => e = Ending.returned (Value.tuple #[.int .i64 (lim : Nat), .bool true]) ∧ Below W.heap.size W w2) :
    Calls Try.prog 4 #[.string p, .int .u16 (lim : Nat), .int .u16 (more : Nat)] w (AwakeEnd w) := by
  have HA := Lib.hid (awakeK_any w)
  have G1 := Lib.hid g1
  have G2 := Lib.hid g2
  have G3 := Lib.hid g3
  have G4 := Lib.hid g4
  have G5 := Lib.hid g5
  have G6 := Lib.hid g6
  have G7 := Lib.hid g7
  clear g1 g2 g3 g4 g5 g6 g7
  have HD4 := Lib.hid hd4
  have HQZ := Lib.hid hqz
  have t1 : ((Q.size : Int) != (p.size : Int)) = false := by simp; omega
  clear hd4 hqz
  go_enter Try.func4, Try.ntmps4
  go_wp2_with fail
  refine HA.out.mono ?_
  rintro e w1 ⟨rfl, hb1⟩
  have B1 := Lib.hid hb1
  clear hb1 HA
  go_wp2_with fail
  refine (G1.out _).mono ?_
  rintro e w2 ⟨rfl, hb⟩
  have B2 := Lib.hid (B1.out.trans (hb.mono B1.out.size))
  clear hb B1
  go_wp2_with fail
  refine (G2.out _).mono ?_
  rintro e w3 ⟨rfl, hb⟩
  have B3 := Lib.hid (B2.out.trans (hb.mono B2.out.size))
  clear hb B2
  have L4 := Lib.hid (B3.out.alloc B3.out.size (.cells #[.int .i64 f.proto, .string f.src, .string f.dst, .int .i64 f.sp, .int .i64 f.dp] 30))
  have N4 := Lib.hid (Blk.new w3 #[.int .i64 f.proto, .string f.src, .string f.dst, .int .i64 f.sp, .int .i64 f.dp] 30)
  clear B3
  go_wp2_with fail
  refine (G3.out _).mono ?_
  rintro e w5 ⟨rfl, hb⟩
  have B5 := Lib.hid (L4.out.trans (hb.mono L4.out.size))
  have N5 : Hid (Blk w5 w3.heap.size #[.int .i64 f.proto, .string f.src, .string f.dst, .int .i64 f.sp, .int .i64 f.dp] 30) := (hb.block _ N4.out.lt).trans N4.out
  clear hb L4 N4
  have B6 := Lib.hid (B5.out.alloc B5.out.size (.cells #[.int .i64 f.proto, .string f.src, .string f.dst, .int .i64 f.sp, .int .i64 f.dp] 30))
  have M6 := Lib.hid (Blk.new w5 #[.int .i64 f.proto, .string f.src, .string f.dst, .int .i64 f.sp, .int .i64 f.dp] 30)
  have N6 := Lib.hid (N5.out.alloc (.cells #[.int .i64 f.proto, .string f.src, .string f.dst, .int .i64 f.sp, .int .i64 f.dp] 30))
  have c0 := N6.out.cell 0
  have c1 := N6.out.cell 1
  have c2 := N6.out.cell 2
  have c3 := N6.out.cell 3
  have c4 := N6.out.cell 4
  have d0 := M6.out.cell 0
  have d1 := M6.out.cell 1
  have d2 := M6.out.cell 2
  have d3 := M6.out.cell 3
  have d4 := M6.out.cell 4
  simp only [List.getElem?_toArray, List.getElem?_cons_zero, List.getElem?_cons_succ] at c0 c1 c2 c3 c4 d0 d1 d2 d3 d4
  clear B5 N5
  go_wp2_with fail
  clear c0 c1 c2 c3 c4 d0 d1 d2 d3 d4
  refine (G4.out _).mono ?_
  rintro e w7 ⟨rfl, hb⟩
  have B7 := Lib.hid (B6.out.trans (hb.mono B6.out.size))
  clear hb B6
  go_wp2_with fail
  refine (G5.out _).mono ?_
  rintro e w8 ⟨rfl, hb⟩
  have B8 := Lib.hid (B7.out.trans (hb.mono B7.out.size))
  clear hb B7
  go_wp2_with fail
  refine (G6.out _).mono ?_
  rintro e w9 ⟨rfl, hb⟩
  have B9 := Lib.hid (B8.out.trans (hb.mono B8.out.size))
  clear hb B8
  go_wp2_with fail
  refine (G7.out _).mono ?_
  rintro e w10 ⟨rfl, hb⟩
  have B10 := Lib.hid (B9.out.trans (hb.mono B9.out.size))
  clear hb B9
  go_wp2_with fail
  have hz10 := B10.out.size
  go_loopg [16, 17] p.size (fun g d i wr => ∃ k : Nat, k + g = p.size ∧ i = .int .i64 k ∧ d = .int .i64 (dif p.data.toList Q.data.toList k : Nat) ∧ Hid (Below w.heap.size w wr))
  case atStart => exact ⟨0, by omega, rfl, rfl, B10⟩
  case round =>
    obtain ⟨k, hk, rfl, rfl, HB⟩ := hrel
    by_cases hlt : k < p.size
    · have hlq : k < Q.size := by have := HQZ.out; omega
      have HS := Lib.hid (dif_step hlt hlq)
      have hd := HD4.out k
      have i0 : (0 : Int) ≤ (k : Int) := by omega
      have i1 : (k : Int) < (p.size : Int) := by omega
      have i2 : (k : Int) < (Q.size : Int) := by omega
      have i3 : decide (k < p.size) = true := by simp; omega
      generalize hx : (p[k]'hlt).toNat = x at *
      generalize hy : (Q[k]'hlq).toNat = y at *
      generalize hdd : dif p.data.toList Q.data.toList k = dd at *
      have HDD := Lib.hid hdd
      clear hdd
      have HK := Lib.hid hk
      clear hk
      by_cases hxy : x = y
      · have t3 : ((x : Int) != (y : Int)) = false := by simp; omega
        have hs := HS.out.trans (by rw [if_pos hxy])
        have HE := Lib.hid hs
        clear hs HS
        clear hxy
        go_wp2_with fail
        go_quiet (fail)
        go_wp2_with fail
        go_roundg (gk - 1)
        case measure => have := HK.out; omega
        case rel => exact ⟨k + 1, by have := HK.out; omega, rfl, by rw [HE.out]; rfl, below_drewN HB.out nq⟩
      · have t3 : ((x : Int) != (y : Int)) = true := by simp; omega
        have hs := HS.out.trans (by rw [if_neg hxy])
        have HE := Lib.hid hs
        clear hs HS
        clear hxy
        go_wp2_with fail
        go_quiet (fail)
        go_wp2_with fail
        go_roundg (gk - 1)
        case measure => have := HK.out; omega
        case rel => exact ⟨k + 1, by have := HK.out; omega, rfl, by rw [HE.out]; rfl, below_drewN HB.out nq⟩
    · have hkp : k = p.size := by omega
      have hd := HD4.out k
      generalize hdd : dif p.data.toList Q.data.toList k = dd at *
      clear hdd
      have i3 : decide (k < p.size) = false := by simp; omega
      have t4 : decide ((dd : Int) ≤ 4) = true := by simp; omega
      clear hkp hk
      go_wp2_with fail
      go_ret
      exact ⟨rfl, HB.out⟩

set_option maxRecDepth 100000 in
set_option maxHeartbeats 2000000 in
theorem ckeep_yes3 (p Q : ByteArray) (f : F9) (E lim more n : Nat) (w : World) (h5 : p.size ≤ 5000) (hl : lim ≤ 65535) (hm : more ≤ 65535) (hmx : more ≤ lim) (hmn : n ≤ lim) (hqz : Q.size = p.size) (hd4 : ∀ k, dif p.data.toList Q.data.toList k ≤ 4)
    (g1 : ∀ W, Calls Try.prog 11 #[.string p, .int .i64 (lim : Nat)] W fun e w2 => e = Ending.returned (Value.string Q) ∧ Below W.heap.size W w2)
    (g2 : ∀ W, Calls Try.prog 15 #[.string p] W fun e w2 => e = Ending.returned (Value.tuple #[.agg #[.int .i64 f.proto, .string f.src, .string f.dst, .int .i64 f.sp, .int .i64 f.dp], .int .i64 (E : Nat)]) ∧ Below W.heap.size W w2)
    (g3 : ∀ W, Calls Try.prog 15 #[.string Q] W fun e w2 => e = Ending.returned (Value.tuple #[.agg #[.int .i64 f.proto, .string f.src, .string f.dst, .int .i64 f.sp, .int .i64 f.dp], .int .i64 (E : Nat)]) ∧ Below W.heap.size W w2)
    (g4 : ∀ W, Calls Try.prog 11 #[.string Q, .int .i64 (lim : Nat)] W fun e w2 => e = Ending.returned (Value.string Q) ∧ Below W.heap.size W w2)
    (g5 : ∀ W, Calls Try.prog 11 #[.string Q, .int .i64 (lim : Nat)] W fun e w2 => e = Ending.returned (Value.string Q) ∧ Below W.heap.size W w2)
    (g6 : ∀ W, Calls Try.prog 9 #[.string p] W fun e w2 => e = Ending.returned (Value.tuple #[.int .i64 (n : Nat), .bool true]) ∧ Below W.heap.size W w2)
    (g7 : ∀ W, Calls Try.prog 9 #[.string Q] W fun e w2 => e = Ending.returned (Value.tuple #[.int .i64 (n : Nat), .bool true]) ∧ Below W.heap.size W w2) :
    Calls Try.prog 4 #[.string p, .int .u16 (lim : Nat), .int .u16 (more : Nat)] w (AwakeEnd w) := by
  have HA := Lib.hid (awakeK_any w)
  have G1 := Lib.hid g1
  have G2 := Lib.hid g2
  have G3 := Lib.hid g3
  have G4 := Lib.hid g4
  have G5 := Lib.hid g5
  have G6 := Lib.hid g6
  have G7 := Lib.hid g7
  clear g1 g2 g3 g4 g5 g6 g7
  have HD4 := Lib.hid hd4
  have HQZ := Lib.hid hqz
  have t1 : ((Q.size : Int) != (p.size : Int)) = false := by simp; omega
  clear hd4 hqz
  go_enter Try.func4, Try.ntmps4
  go_wp2_with fail
  refine HA.out.mono ?_
  rintro e w1 ⟨rfl, hb1⟩
  have B1 := Lib.hid hb1
  clear hb1 HA
  go_wp2_with fail
  refine (G1.out _).mono ?_
  rintro e w2 ⟨rfl, hb⟩
  have B2 := Lib.hid (B1.out.trans (hb.mono B1.out.size))
  clear hb B1
  go_wp2_with fail
  refine (G2.out _).mono ?_
  rintro e w3 ⟨rfl, hb⟩
  have B3 := Lib.hid (B2.out.trans (hb.mono B2.out.size))
  clear hb B2
  have L4 := Lib.hid (B3.out.alloc B3.out.size (.cells #[.int .i64 f.proto, .string f.src, .string f.dst, .int .i64 f.sp, .int .i64 f.dp] 30))
  have N4 := Lib.hid (Blk.new w3 #[.int .i64 f.proto, .string f.src, .string f.dst, .int .i64 f.sp, .int .i64 f.dp] 30)
  clear B3
  go_wp2_with fail
  refine (G3.out _).mono ?_
  rintro e w5 ⟨rfl, hb⟩
  have B5 := Lib.hid (L4.out.trans (hb.mono L4.out.size))
  have N5 : Hid (Blk w5 w3.heap.size #[.int .i64 f.proto, .string f.src, .string f.dst, .int .i64 f.sp, .int .i64 f.dp] 30) := (hb.block _ N4.out.lt).trans N4.out
  clear hb L4 N4
  have B6 := Lib.hid (B5.out.alloc B5.out.size (.cells #[.int .i64 f.proto, .string f.src, .string f.dst, .int .i64 f.sp, .int .i64 f.dp] 30))
  have M6 := Lib.hid (Blk.new w5 #[.int .i64 f.proto, .string f.src, .string f.dst, .int .i64 f.sp, .int .i64 f.dp] 30)
  have N6 := Lib.hid (N5.out.alloc (.cells #[.int .i64 f.proto, .string f.src, .string f.dst, .int .i64 f.sp, .int .i64 f.dp] 30))
  have c0 := N6.out.cell 0
  have c1 := N6.out.cell 1
  have c2 := N6.out.cell 2
  have c3 := N6.out.cell 3
  have c4 := N6.out.cell 4
  have d0 := M6.out.cell 0
  have d1 := M6.out.cell 1
  have d2 := M6.out.cell 2
  have d3 := M6.out.cell 3
  have d4 := M6.out.cell 4
  simp only [List.getElem?_toArray, List.getElem?_cons_zero, List.getElem?_cons_succ] at c0 c1 c2 c3 c4 d0 d1 d2 d3 d4
  clear B5 N5
  go_wp2_with fail
  clear c0 c1 c2 c3 c4 d0 d1 d2 d3 d4
  refine (G4.out _).mono ?_
  rintro e w7 ⟨rfl, hb⟩
  have B7 := Lib.hid (B6.out.trans (hb.mono B6.out.size))
  clear hb B6
  go_wp2_with fail
  refine (G5.out _).mono ?_
  rintro e w8 ⟨rfl, hb⟩
  have B8 := Lib.hid (B7.out.trans (hb.mono B7.out.size))
  clear hb B7
  go_wp2_with fail
  refine (G6.out _).mono ?_
  rintro e w9 ⟨rfl, hb⟩
  have B9 := Lib.hid (B8.out.trans (hb.mono B8.out.size))
  clear hb B8
  go_wp2_with fail
  refine (G7.out _).mono ?_
  rintro e w10 ⟨rfl, hb⟩
  have B10 := Lib.hid (B9.out.trans (hb.mono B9.out.size))
  clear hb B9
  go_wp2_with fail
  have hz10 := B10.out.size
  go_loopg [16, 17] p.size (fun g d i wr => ∃ k : Nat, k + g = p.size ∧ i = .int .i64 k ∧ d = .int .i64 (dif p.data.toList Q.data.toList k : Nat) ∧ Hid (Below w.heap.size w wr))
  case atStart => exact ⟨0, by omega, rfl, rfl, B10⟩
  case round =>
    obtain ⟨k, hk, rfl, rfl, HB⟩ := hrel
    by_cases hlt : k < p.size
    · have hlq : k < Q.size := by have := HQZ.out; omega
      have HS := Lib.hid (dif_step hlt hlq)
      have hd := HD4.out k
      have i0 : (0 : Int) ≤ (k : Int) := by omega
      have i1 : (k : Int) < (p.size : Int) := by omega
      have i2 : (k : Int) < (Q.size : Int) := by omega
      have i3 : decide (k < p.size) = true := by simp; omega
      generalize hx : (p[k]'hlt).toNat = x at *
      generalize hy : (Q[k]'hlq).toNat = y at *
      generalize hdd : dif p.data.toList Q.data.toList k = dd at *
      have HDD := Lib.hid hdd
      clear hdd
      have HK := Lib.hid hk
      clear hk
      by_cases hxy : x = y
      · have t3 : ((x : Int) != (y : Int)) = false := by simp; omega
        have hs := HS.out.trans (by rw [if_pos hxy])
        have HE := Lib.hid hs
        clear hs HS
        clear hxy
        go_wp2_with fail
        go_quiet (fail)
        go_wp2_with fail
        go_roundg (gk - 1)
        case measure => have := HK.out; omega
        case rel => exact ⟨k + 1, by have := HK.out; omega, rfl, by rw [HE.out]; rfl, below_drewN HB.out nq⟩
      · have t3 : ((x : Int) != (y : Int)) = true := by simp; omega
        have hs := HS.out.trans (by rw [if_neg hxy])
        have HE := Lib.hid hs
        clear hs HS
        clear hxy
        go_wp2_with fail
        go_quiet (fail)
        go_wp2_with fail
        go_roundg (gk - 1)
        case measure => have := HK.out; omega
        case rel => exact ⟨k + 1, by have := HK.out; omega, rfl, by rw [HE.out]; rfl, below_drewN HB.out nq⟩
    · have hkp : k = p.size := by omega
      have hd := HD4.out k
      generalize hdd : dif p.data.toList Q.data.toList k = dd at *
      clear hdd
      have i3 : decide (k < p.size) = false := by simp; omega
      have t4 : decide ((dd : Int) ≤ 4) = true := by simp; omega
      clear hkp hk
      go_wp2_with fail
      go_ret
      exact ⟨rfl, HB.out⟩

set_option maxRecDepth 100000 in
set_option maxHeartbeats 2000000 in
theorem ckeep_yes4 (p Q : ByteArray) (f : F9) (E lim more n : Nat) (w : World) (h5 : p.size ≤ 5000) (hl : lim ≤ 65535) (hm : more ≤ 65535) (hmx : more ≤ lim) (hmn : lim < n) (hqz : Q.size = p.size) (hd4 : ∀ k, dif p.data.toList Q.data.toList k ≤ 4)
    (g1 : ∀ W, Calls Try.prog 11 #[.string p, .int .i64 (lim : Nat)] W fun e w2 => e = Ending.returned (Value.string Q) ∧ Below W.heap.size W w2)
    (g2 : ∀ W, Calls Try.prog 15 #[.string p] W fun e w2 => e = Ending.returned (Value.tuple #[.agg #[.int .i64 f.proto, .string f.src, .string f.dst, .int .i64 f.sp, .int .i64 f.dp], .int .i64 (E : Nat)]) ∧ Below W.heap.size W w2)
    (g3 : ∀ W, Calls Try.prog 15 #[.string Q] W fun e w2 => e = Ending.returned (Value.tuple #[.agg #[.int .i64 f.proto, .string f.src, .string f.dst, .int .i64 f.sp, .int .i64 f.dp], .int .i64 (E : Nat)]) ∧ Below W.heap.size W w2)
    (g4 : ∀ W, Calls Try.prog 11 #[.string Q, .int .i64 (lim : Nat)] W fun e w2 => e = Ending.returned (Value.string Q) ∧ Below W.heap.size W w2)
    (g5 : ∀ W, Calls Try.prog 11 #[.string Q, .int .i64 (lim : Nat)] W fun e w2 => e = Ending.returned (Value.string Q) ∧ Below W.heap.size W w2)
    (g6 : ∀ W, Calls Try.prog 9 #[.string p] W fun e w2 => e = Ending.returned (Value.tuple #[.int .i64 (n : Nat), .bool true]) ∧ Below W.heap.size W w2)
    (g7 : ∀ W, Calls Try.prog 9 #[.string Q] W fun e w2 => e = Ending.returned (Value.tuple #[.int .i64 (lim : Nat), .bool true]) ∧ Below W.heap.size W w2) :
    Calls Try.prog 4 #[.string p, .int .u16 (lim : Nat), .int .u16 (more : Nat)] w (AwakeEnd w) := by
  have HA := Lib.hid (awakeK_any w)
  have G1 := Lib.hid g1
  have G2 := Lib.hid g2
  have G3 := Lib.hid g3
  have G4 := Lib.hid g4
  have G5 := Lib.hid g5
  have G6 := Lib.hid g6
  have G7 := Lib.hid g7
  clear g1 g2 g3 g4 g5 g6 g7
  have HD4 := Lib.hid hd4
  have HQZ := Lib.hid hqz
  have t1 : ((Q.size : Int) != (p.size : Int)) = false := by simp; omega
  clear hd4 hqz
  go_enter Try.func4, Try.ntmps4
  go_wp2_with fail
  refine HA.out.mono ?_
  rintro e w1 ⟨rfl, hb1⟩
  have B1 := Lib.hid hb1
  clear hb1 HA
  go_wp2_with fail
  refine (G1.out _).mono ?_
  rintro e w2 ⟨rfl, hb⟩
  have B2 := Lib.hid (B1.out.trans (hb.mono B1.out.size))
  clear hb B1
  go_wp2_with fail
  refine (G2.out _).mono ?_
  rintro e w3 ⟨rfl, hb⟩
  have B3 := Lib.hid (B2.out.trans (hb.mono B2.out.size))
  clear hb B2
  have L4 := Lib.hid (B3.out.alloc B3.out.size (.cells #[.int .i64 f.proto, .string f.src, .string f.dst, .int .i64 f.sp, .int .i64 f.dp] 30))
  have N4 := Lib.hid (Blk.new w3 #[.int .i64 f.proto, .string f.src, .string f.dst, .int .i64 f.sp, .int .i64 f.dp] 30)
  clear B3
  go_wp2_with fail
  refine (G3.out _).mono ?_
  rintro e w5 ⟨rfl, hb⟩
  have B5 := Lib.hid (L4.out.trans (hb.mono L4.out.size))
  have N5 : Hid (Blk w5 w3.heap.size #[.int .i64 f.proto, .string f.src, .string f.dst, .int .i64 f.sp, .int .i64 f.dp] 30) := (hb.block _ N4.out.lt).trans N4.out
  clear hb L4 N4
  have B6 := Lib.hid (B5.out.alloc B5.out.size (.cells #[.int .i64 f.proto, .string f.src, .string f.dst, .int .i64 f.sp, .int .i64 f.dp] 30))
  have M6 := Lib.hid (Blk.new w5 #[.int .i64 f.proto, .string f.src, .string f.dst, .int .i64 f.sp, .int .i64 f.dp] 30)
  have N6 := Lib.hid (N5.out.alloc (.cells #[.int .i64 f.proto, .string f.src, .string f.dst, .int .i64 f.sp, .int .i64 f.dp] 30))
  have c0 := N6.out.cell 0
  have c1 := N6.out.cell 1
  have c2 := N6.out.cell 2
  have c3 := N6.out.cell 3
  have c4 := N6.out.cell 4
  have d0 := M6.out.cell 0
  have d1 := M6.out.cell 1
  have d2 := M6.out.cell 2
  have d3 := M6.out.cell 3
  have d4 := M6.out.cell 4
  simp only [List.getElem?_toArray, List.getElem?_cons_zero, List.getElem?_cons_succ] at c0 c1 c2 c3 c4 d0 d1 d2 d3 d4
  clear B5 N5
  go_wp2_with fail
  clear c0 c1 c2 c3 c4 d0 d1 d2 d3 d4
  refine (G4.out _).mono ?_
  rintro e w7 ⟨rfl, hb⟩
  have B7 := Lib.hid (B6.out.trans (hb.mono B6.out.size))
  clear hb B6
  go_wp2_with fail
  refine (G5.out _).mono ?_
  rintro e w8 ⟨rfl, hb⟩
  have B8 := Lib.hid (B7.out.trans (hb.mono B7.out.size))
  clear hb B7
  go_wp2_with fail
  refine (G6.out _).mono ?_
  rintro e w9 ⟨rfl, hb⟩
  have B9 := Lib.hid (B8.out.trans (hb.mono B8.out.size))
  clear hb B8
  go_wp2_with fail
  refine (G7.out _).mono ?_
  rintro e w10 ⟨rfl, hb⟩
  have B10 := Lib.hid (B9.out.trans (hb.mono B9.out.size))
  clear hb B9
  go_wp2_with fail
  have hz10 := B10.out.size
  go_loopg [16, 17] p.size (fun g d i wr => ∃ k : Nat, k + g = p.size ∧ i = .int .i64 k ∧ d = .int .i64 (dif p.data.toList Q.data.toList k : Nat) ∧ Hid (Below w.heap.size w wr))
  case atStart => exact ⟨0, by omega, rfl, rfl, B10⟩
  case round =>
    obtain ⟨k, hk, rfl, rfl, HB⟩ := hrel
    by_cases hlt : k < p.size
    · have hlq : k < Q.size := by have := HQZ.out; omega
      have HS := Lib.hid (dif_step hlt hlq)
      have hd := HD4.out k
      have i0 : (0 : Int) ≤ (k : Int) := by omega
      have i1 : (k : Int) < (p.size : Int) := by omega
      have i2 : (k : Int) < (Q.size : Int) := by omega
      have i3 : decide (k < p.size) = true := by simp; omega
      generalize hx : (p[k]'hlt).toNat = x at *
      generalize hy : (Q[k]'hlq).toNat = y at *
      generalize hdd : dif p.data.toList Q.data.toList k = dd at *
      have HDD := Lib.hid hdd
      clear hdd
      have HK := Lib.hid hk
      clear hk
      by_cases hxy : x = y
      · have t3 : ((x : Int) != (y : Int)) = false := by simp; omega
        have hs := HS.out.trans (by rw [if_pos hxy])
        have HE := Lib.hid hs
        clear hs HS
        clear hxy
        go_wp2_with fail
        go_quiet (fail)
        go_wp2_with fail
        go_roundg (gk - 1)
        case measure => have := HK.out; omega
        case rel => exact ⟨k + 1, by have := HK.out; omega, rfl, by rw [HE.out]; rfl, below_drewN HB.out nq⟩
      · have t3 : ((x : Int) != (y : Int)) = true := by simp; omega
        have hs := HS.out.trans (by rw [if_neg hxy])
        have HE := Lib.hid hs
        clear hs HS
        clear hxy
        go_wp2_with fail
        go_quiet (fail)
        go_wp2_with fail
        go_roundg (gk - 1)
        case measure => have := HK.out; omega
        case rel => exact ⟨k + 1, by have := HK.out; omega, rfl, by rw [HE.out]; rfl, below_drewN HB.out nq⟩
    · have hkp : k = p.size := by omega
      have hd := HD4.out k
      generalize hdd : dif p.data.toList Q.data.toList k = dd at *
      clear hdd
      have i3 : decide (k < p.size) = false := by simp; omega
      have t4 : decide ((dd : Int) ≤ 4) = true := by simp; omega
      clear hkp hk
      go_wp2_with fail
      go_ret
      exact ⟨rfl, HB.out⟩

set_option maxRecDepth 100000 in
set_option maxHeartbeats 2000000 in
theorem ckeep_no1 (p : ByteArray) (f : F9) (E lim more : Nat) (w : World) (h5 : p.size ≤ 5000) (hl : lim ≤ 65535) (hm : more ≤ 65535) (hmx : lim < more) 
    (g1 : ∀ W, Calls Try.prog 11 #[.string p, .int .i64 (lim : Nat)] W fun e w2 => e = Ending.returned (Value.string p) ∧ Below W.heap.size W w2)
    (g2 : ∀ W, Calls Try.prog 15 #[.string p] W fun e w2 => e = Ending.returned (Value.tuple #[.agg #[.int .i64 f.proto, .string f.src, .string f.dst, .int .i64 f.sp, .int .i64 f.dp], .int .i64 (E : Nat)]) ∧ Below W.heap.size W w2)
    (g3 : ∀ W, Calls Try.prog 15 #[.string p] W fun e w2 => e = Ending.returned (Value.tuple #[.agg #[.int .i64 f.proto, .string f.src, .string f.dst, .int .i64 f.sp, .int .i64 f.dp], .int .i64 (E : Nat)]) ∧ Below W.heap.size W w2)
    (g4 : ∀ W, Calls Try.prog 11 #[.string p, .int .i64 (lim : Nat)] W fun e w2 => e = Ending.returned (Value.string p) ∧ Below W.heap.size W w2)
    (g5 : ∀ W, Calls Try.prog 11 #[.string p, .int .i64 (more : Nat)] W fun e w2 => e = Ending.returned (Value.string p) ∧ Below W.heap.size W w2)
    (g6 : ∀ W, Calls Try.prog 9 #[.string p] W fun e w2 => e = Ending.returned (Value.tuple #[.int .i64 (0 : Nat), .bool false]) ∧ Below W.heap.size W w2)
    (g7 : ∀ W, Calls Try.prog 9 #[.string p] W fun e w2 => e = Ending.returned (Value.tuple #[.int .i64 (0 : Nat), .bool false]) ∧ Below W.heap.size W w2) :
    Calls Try.prog 4 #[.string p, .int .u16 (lim : Nat), .int .u16 (more : Nat)] w (AwakeEnd w) := by
  have HA := Lib.hid (awakeK_any w)
  have G1 := Lib.hid g1
  have G2 := Lib.hid g2
  have G3 := Lib.hid g3
  have G4 := Lib.hid g4
  have G5 := Lib.hid g5
  have G6 := Lib.hid g6
  have G7 := Lib.hid g7
  clear g1 g2 g3 g4 g5 g6 g7
  have HD4 : Hid (∀ k, dif p.data.toList p.data.toList k ≤ 4) := fun k => by rw [dif_same]; omega
  have HQZ : Hid (p.size = p.size) := rfl
  go_enter Try.func4, Try.ntmps4
  go_wp2_with fail
  refine HA.out.mono ?_
  rintro e w1 ⟨rfl, hb1⟩
  have B1 := Lib.hid hb1
  clear hb1 HA
  go_wp2_with fail
  refine (G1.out _).mono ?_
  rintro e w2 ⟨rfl, hb⟩
  have B2 := Lib.hid (B1.out.trans (hb.mono B1.out.size))
  clear hb B1
  go_wp2_with fail
  refine (G2.out _).mono ?_
  rintro e w3 ⟨rfl, hb⟩
  have B3 := Lib.hid (B2.out.trans (hb.mono B2.out.size))
  clear hb B2
  have L4 := Lib.hid (B3.out.alloc B3.out.size (.cells #[.int .i64 f.proto, .string f.src, .string f.dst, .int .i64 f.sp, .int .i64 f.dp] 30))
  have N4 := Lib.hid (Blk.new w3 #[.int .i64 f.proto, .string f.src, .string f.dst, .int .i64 f.sp, .int .i64 f.dp] 30)
  clear B3
  go_wp2_with fail
  refine (G3.out _).mono ?_
  rintro e w5 ⟨rfl, hb⟩
  have B5 := Lib.hid (L4.out.trans (hb.mono L4.out.size))
  have N5 : Hid (Blk w5 w3.heap.size #[.int .i64 f.proto, .string f.src, .string f.dst, .int .i64 f.sp, .int .i64 f.dp] 30) := (hb.block _ N4.out.lt).trans N4.out
  clear hb L4 N4
  have B6 := Lib.hid (B5.out.alloc B5.out.size (.cells #[.int .i64 f.proto, .string f.src, .string f.dst, .int .i64 f.sp, .int .i64 f.dp] 30))
  have M6 := Lib.hid (Blk.new w5 #[.int .i64 f.proto, .string f.src, .string f.dst, .int .i64 f.sp, .int .i64 f.dp] 30)
  have N6 := Lib.hid (N5.out.alloc (.cells #[.int .i64 f.proto, .string f.src, .string f.dst, .int .i64 f.sp, .int .i64 f.dp] 30))
  have c0 := N6.out.cell 0
  have c1 := N6.out.cell 1
  have c2 := N6.out.cell 2
  have c3 := N6.out.cell 3
  have c4 := N6.out.cell 4
  have d0 := M6.out.cell 0
  have d1 := M6.out.cell 1
  have d2 := M6.out.cell 2
  have d3 := M6.out.cell 3
  have d4 := M6.out.cell 4
  simp only [List.getElem?_toArray, List.getElem?_cons_zero, List.getElem?_cons_succ] at c0 c1 c2 c3 c4 d0 d1 d2 d3 d4
  clear B5 N5
  go_wp2_with fail
  clear c0 c1 c2 c3 c4 d0 d1 d2 d3 d4
  refine (G4.out _).mono ?_
  rintro e w7 ⟨rfl, hb⟩
  have B7 := Lib.hid (B6.out.trans (hb.mono B6.out.size))
  clear hb B6
  go_wp2_with fail
  refine (G5.out _).mono ?_
  rintro e w8 ⟨rfl, hb⟩
  have B8 := Lib.hid (B7.out.trans (hb.mono B7.out.size))
  clear hb B7
  go_wp2_with fail
  refine (G6.out _).mono ?_
  rintro e w9 ⟨rfl, hb⟩
  have B9 := Lib.hid (B8.out.trans (hb.mono B8.out.size))
  clear hb B8
  go_wp2_with fail
  refine (G7.out _).mono ?_
  rintro e w10 ⟨rfl, hb⟩
  have B10 := Lib.hid (B9.out.trans (hb.mono B9.out.size))
  clear hb B9
  go_wp2_with fail
  have hz10 := B10.out.size
  go_loopg [16, 17] p.size (fun g d i wr => ∃ k : Nat, k + g = p.size ∧ i = .int .i64 k ∧ d = .int .i64 (dif p.data.toList p.data.toList k : Nat) ∧ Hid (Below w.heap.size w wr))
  case atStart => exact ⟨0, by omega, rfl, rfl, B10⟩
  case round =>
    obtain ⟨k, hk, rfl, rfl, HB⟩ := hrel
    by_cases hlt : k < p.size
    · have hlq : k < p.size := by have := HQZ.out; omega
      have HS := Lib.hid (dif_step hlt hlq)
      have hd := HD4.out k
      have i0 : (0 : Int) ≤ (k : Int) := by omega
      have i1 : (k : Int) < (p.size : Int) := by omega
      have i2 : (k : Int) < (p.size : Int) := by omega
      have i3 : decide (k < p.size) = true := by simp; omega
      generalize hx : (p[k]'hlt).toNat = x at *
      generalize hdd : dif p.data.toList p.data.toList k = dd at *
      have HDD := Lib.hid hdd
      clear hdd
      have HK := Lib.hid hk
      clear hk
      have t3 : ((x : Int) != (x : Int)) = false := by simp
      have hs := HS.out.trans (by rw [if_pos rfl])
      have HE := Lib.hid hs
      clear hs HS
      go_wp2_with fail
      go_quiet (fail)
      go_wp2_with fail
      go_roundg (gk - 1)
      case measure => have := HK.out; omega
      case rel => exact ⟨k + 1, by have := HK.out; omega, rfl, by rw [HE.out]; rfl, below_drewN HB.out nq⟩
    · have hkp : k = p.size := by omega
      have hd := HD4.out k
      generalize hdd : dif p.data.toList p.data.toList k = dd at *
      clear hdd
      have i3 : decide (k < p.size) = false := by simp; omega
      have t4 : decide ((dd : Int) ≤ 4) = true := by simp; omega
      clear hkp hk
      go_wp2_with fail
      go_ret
      exact ⟨rfl, HB.out⟩

set_option maxRecDepth 100000 in
set_option maxHeartbeats 2000000 in
theorem ckeep_no2 (p : ByteArray) (f : F9) (E lim more : Nat) (w : World) (h5 : p.size ≤ 5000) (hl : lim ≤ 65535) (hm : more ≤ 65535) (hmx : more ≤ lim) 
    (g1 : ∀ W, Calls Try.prog 11 #[.string p, .int .i64 (lim : Nat)] W fun e w2 => e = Ending.returned (Value.string p) ∧ Below W.heap.size W w2)
    (g2 : ∀ W, Calls Try.prog 15 #[.string p] W fun e w2 => e = Ending.returned (Value.tuple #[.agg #[.int .i64 f.proto, .string f.src, .string f.dst, .int .i64 f.sp, .int .i64 f.dp], .int .i64 (E : Nat)]) ∧ Below W.heap.size W w2)
    (g3 : ∀ W, Calls Try.prog 15 #[.string p] W fun e w2 => e = Ending.returned (Value.tuple #[.agg #[.int .i64 f.proto, .string f.src, .string f.dst, .int .i64 f.sp, .int .i64 f.dp], .int .i64 (E : Nat)]) ∧ Below W.heap.size W w2)
    (g4 : ∀ W, Calls Try.prog 11 #[.string p, .int .i64 (lim : Nat)] W fun e w2 => e = Ending.returned (Value.string p) ∧ Below W.heap.size W w2)
    (g5 : ∀ W, Calls Try.prog 11 #[.string p, .int .i64 (lim : Nat)] W fun e w2 => e = Ending.returned (Value.string p) ∧ Below W.heap.size W w2)
    (g6 : ∀ W, Calls Try.prog 9 #[.string p] W fun e w2 => e = Ending.returned (Value.tuple #[.int .i64 (0 : Nat), .bool false]) ∧ Below W.heap.size W w2)
    (g7 : ∀ W, Calls Try.prog 9 #[.string p] W fun e w2 => e = Ending.returned (Value.tuple #[.int .i64 (0 : Nat), .bool false]) ∧ Below W.heap.size W w2) :
    Calls Try.prog 4 #[.string p, .int .u16 (lim : Nat), .int .u16 (more : Nat)] w (AwakeEnd w) := by
  have HA := Lib.hid (awakeK_any w)
  have G1 := Lib.hid g1
  have G2 := Lib.hid g2
  have G3 := Lib.hid g3
  have G4 := Lib.hid g4
  have G5 := Lib.hid g5
  have G6 := Lib.hid g6
  have G7 := Lib.hid g7
  clear g1 g2 g3 g4 g5 g6 g7
  have HD4 : Hid (∀ k, dif p.data.toList p.data.toList k ≤ 4) := fun k => by rw [dif_same]; omega
  have HQZ : Hid (p.size = p.size) := rfl
  go_enter Try.func4, Try.ntmps4
  go_wp2_with fail
  refine HA.out.mono ?_
  rintro e w1 ⟨rfl, hb1⟩
  have B1 := Lib.hid hb1
  clear hb1 HA
  go_wp2_with fail
  refine (G1.out _).mono ?_
  rintro e w2 ⟨rfl, hb⟩
  have B2 := Lib.hid (B1.out.trans (hb.mono B1.out.size))
  clear hb B1
  go_wp2_with fail
  refine (G2.out _).mono ?_
  rintro e w3 ⟨rfl, hb⟩
  have B3 := Lib.hid (B2.out.trans (hb.mono B2.out.size))
  clear hb B2
  have L4 := Lib.hid (B3.out.alloc B3.out.size (.cells #[.int .i64 f.proto, .string f.src, .string f.dst, .int .i64 f.sp, .int .i64 f.dp] 30))
  have N4 := Lib.hid (Blk.new w3 #[.int .i64 f.proto, .string f.src, .string f.dst, .int .i64 f.sp, .int .i64 f.dp] 30)
  clear B3
  go_wp2_with fail
  refine (G3.out _).mono ?_
  rintro e w5 ⟨rfl, hb⟩
  have B5 := Lib.hid (L4.out.trans (hb.mono L4.out.size))
  have N5 : Hid (Blk w5 w3.heap.size #[.int .i64 f.proto, .string f.src, .string f.dst, .int .i64 f.sp, .int .i64 f.dp] 30) := (hb.block _ N4.out.lt).trans N4.out
  clear hb L4 N4
  have B6 := Lib.hid (B5.out.alloc B5.out.size (.cells #[.int .i64 f.proto, .string f.src, .string f.dst, .int .i64 f.sp, .int .i64 f.dp] 30))
  have M6 := Lib.hid (Blk.new w5 #[.int .i64 f.proto, .string f.src, .string f.dst, .int .i64 f.sp, .int .i64 f.dp] 30)
  have N6 := Lib.hid (N5.out.alloc (.cells #[.int .i64 f.proto, .string f.src, .string f.dst, .int .i64 f.sp, .int .i64 f.dp] 30))
  have c0 := N6.out.cell 0
  have c1 := N6.out.cell 1
  have c2 := N6.out.cell 2
  have c3 := N6.out.cell 3
  have c4 := N6.out.cell 4
  have d0 := M6.out.cell 0
  have d1 := M6.out.cell 1
  have d2 := M6.out.cell 2
  have d3 := M6.out.cell 3
  have d4 := M6.out.cell 4
  simp only [List.getElem?_toArray, List.getElem?_cons_zero, List.getElem?_cons_succ] at c0 c1 c2 c3 c4 d0 d1 d2 d3 d4
  clear B5 N5
  go_wp2_with fail
  clear c0 c1 c2 c3 c4 d0 d1 d2 d3 d4
  refine (G4.out _).mono ?_
  rintro e w7 ⟨rfl, hb⟩
  have B7 := Lib.hid (B6.out.trans (hb.mono B6.out.size))
  clear hb B6
  go_wp2_with fail
  refine (G5.out _).mono ?_
  rintro e w8 ⟨rfl, hb⟩
  have B8 := Lib.hid (B7.out.trans (hb.mono B7.out.size))
  clear hb B7
  go_wp2_with fail
  refine (G6.out _).mono ?_
  rintro e w9 ⟨rfl, hb⟩
  have B9 := Lib.hid (B8.out.trans (hb.mono B8.out.size))
  clear hb B8
  go_wp2_with fail
  refine (G7.out _).mono ?_
  rintro e w10 ⟨rfl, hb⟩
  have B10 := Lib.hid (B9.out.trans (hb.mono B9.out.size))
  clear hb B9
  go_wp2_with fail
  have hz10 := B10.out.size
  go_loopg [16, 17] p.size (fun g d i wr => ∃ k : Nat, k + g = p.size ∧ i = .int .i64 k ∧ d = .int .i64 (dif p.data.toList p.data.toList k : Nat) ∧ Hid (Below w.heap.size w wr))
  case atStart => exact ⟨0, by omega, rfl, rfl, B10⟩
  case round =>
    obtain ⟨k, hk, rfl, rfl, HB⟩ := hrel
    by_cases hlt : k < p.size
    · have hlq : k < p.size := by have := HQZ.out; omega
      have HS := Lib.hid (dif_step hlt hlq)
      have hd := HD4.out k
      have i0 : (0 : Int) ≤ (k : Int) := by omega
      have i1 : (k : Int) < (p.size : Int) := by omega
      have i2 : (k : Int) < (p.size : Int) := by omega
      have i3 : decide (k < p.size) = true := by simp; omega
      generalize hx : (p[k]'hlt).toNat = x at *
      generalize hdd : dif p.data.toList p.data.toList k = dd at *
      have HDD := Lib.hid hdd
      clear hdd
      have HK := Lib.hid hk
      clear hk
      have t3 : ((x : Int) != (x : Int)) = false := by simp
      have hs := HS.out.trans (by rw [if_pos rfl])
      have HE := Lib.hid hs
      clear hs HS
      go_wp2_with fail
      go_quiet (fail)
      go_wp2_with fail
      go_roundg (gk - 1)
      case measure => have := HK.out; omega
      case rel => exact ⟨k + 1, by have := HK.out; omega, rfl, by rw [HE.out]; rfl, below_drewN HB.out nq⟩
    · have hkp : k = p.size := by omega
      have hd := HD4.out k
      generalize hdd : dif p.data.toList p.data.toList k = dd at *
      clear hdd
      have i3 : decide (k < p.size) = false := by simp; omega
      have t4 : decide ((dd : Int) ≤ 4) = true := by simp; omega
      clear hkp hk
      go_wp2_with fail
      go_ret
      exact ⟨rfl, HB.out⟩

theorem ckeep_any (p : ByteArray) (lim more : Int) (w : World) (hp : p.size ≤ 140737488355328) (hl : 0 ≤ lim ∧ lim ≤ 65535) (hm : 0 ≤ more ∧ more ≤ 65535) :
    Calls Try.prog 4 #[.string p, .int .u16 lim, .int .u16 more] w (AwakeEnd w) := by
  obtain ⟨lim, rfl⟩ := Int.eq_ofNat_of_zero_le hl.1
  obtain ⟨more, rfl⟩ := Int.eq_ofNat_of_zero_le hm.1
  have hl2 : lim ≤ 65535 := by omega
  have hm2 : more ≤ 65535 := by omega
  by_cases h5 : 5000 < p.size
  · exact ckeep_far p lim more w hp h5
  have h6 : p.size ≤ 5000 := by omega
  have near : ∀ n : Nat, n ≤ 65535 → nearK (n : Int) = n := by intro n h; unfold nearK; omega
  have K := kept p lim hl2
  have C : ∀ (P : ByteArray) (b : Nat), P.size ≤ 5000 → b ≤ 65535 → ∀ W, Calls Try.prog 11 #[.string P, .int .i64 (b : Nat)] W fun e w2 => e = Ending.returned (.string (clampK P b)) ∧ Below W.heap.size W w2 := by
    intro P b hP hb W
    have g := clamp_any P b W (by omega)
    rw [near b hb] at g
    exact g
  have g1 := C p lim h6 hl2
  have g2 : ∀ W, Calls Try.prog 15 #[.string p] W fun e w2 => e = Ending.returned (.tuple #[.agg #[.int .i64 (flowH p).proto, .string (flowH p).src, .string (flowH p).dst, .int .i64 (flowH p).sp, .int .i64 (flowH p).dp], .int .i64 (flowE p : Nat)]) ∧ Below W.heap.size W w2 := fun W => get9_any p W (by omega)
  have hz := K.size
  have g3 : ∀ W, Calls Try.prog 15 #[.string (clampK p lim)] W fun e w2 => e = Ending.returned (.tuple #[.agg #[.int .i64 (flowH p).proto, .string (flowH p).src, .string (flowH p).dst, .int .i64 (flowH p).sp, .int .i64 (flowH p).dp], .int .i64 (flowE p : Nat)]) ∧ Below W.heap.size W w2 := by
    intro W
    have g := get9_any (clampK p lim) W (by omega)
    rw [K.flow, K.err] at g
    exact g
  have g4 := C (clampK p lim) lim (by omega) hl2
  rw [K.again lim (Nat.le_refl _) hl2] at g4
  have g6 : ∀ W, Calls Try.prog 9 #[.string p] W fun e w2 => e = Ending.returned (.tuple #[.int .i64 ((mssK p).is_ : Nat), .bool (hasK p)]) ∧ Below W.heap.size W w2 := fun W => mss_any' p W (by omega)
  have g7 : ∀ W, Calls Try.prog 9 #[.string (clampK p lim)] W fun e w2 => e = Ending.returned (.tuple #[.int .i64 ((mssK (clampK p lim)).is_ : Nat), .bool (hasK (clampK p lim))]) ∧ Below W.heap.size W w2 := fun W => mss_any' (clampK p lim) W (by omega)
  have g5 : lim < more → ∀ W, Calls Try.prog 11 #[.string (clampK p lim), .int .i64 (more : Nat)] W fun e w2 => e = Ending.returned (.string (clampK p lim)) ∧ Below W.heap.size W w2 := by
    intro h
    have g := C (clampK p lim) more (by omega) hm2
    rw [K.again more (by omega) hm2] at g
    exact g
  cases hk : hasK p with
  | true =>
    have hm3 := K.mss hk
    rw [K.has, hk, hm3] at g7
    rw [hk] at g6
    generalize (mssK p).is_ = n at *
    by_cases h1 : lim < more
    · by_cases h2 : lim < n
      · rw [Nat.min_eq_right (by omega)] at g7
        exact ckeep_yes2 p (clampK p lim) (flowH p) (flowE p) lim more n w h6 hl2 hm2 h1 h2 hz K.diff g1 g2 g3 g4 (g5 h1) g6 g7
      · rw [Nat.min_eq_left (by omega)] at g7
        exact ckeep_yes1 p (clampK p lim) (flowH p) (flowE p) lim more n w h6 hl2 hm2 h1 (by omega) hz K.diff g1 g2 g3 g4 (g5 h1) g6 g7
    · by_cases h2 : lim < n
      · rw [Nat.min_eq_right (by omega)] at g7
        exact ckeep_yes4 p (clampK p lim) (flowH p) (flowE p) lim more n w h6 hl2 hm2 (by omega) h2 hz K.diff g1 g2 g3 g4 g4 g6 g7
      · rw [Nat.min_eq_left (by omega)] at g7
        exact ckeep_yes3 p (clampK p lim) (flowH p) (flowE p) lim more n w h6 hl2 hm2 (by omega) (by omega) hz K.diff g1 g2 g3 g4 g4 g6 g7
  | false =>
    have hm3 : (mssK p).is_ = 0 := by unfold mssK; rw [hk]; rfl
    have hq := K.same hk
    rw [hq] at g1 g3 g4 g5 g7
    rw [hk, hm3] at g6 g7
    by_cases h1 : lim < more
    · exact ckeep_no1 p (flowH p) (flowE p) lim more w h6 hl2 hm2 h1 g1 g2 g3 g4 (g5 h1) g6 g7
    · exact ckeep_no2 p (flowH p) (flowE p) lim more w h6 hl2 hm2 (by omega) g1 g2 g3 g4 g4 g6 g7

end Go.Proofs.Ytppobficnjpdiaa
