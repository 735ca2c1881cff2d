/-
  A packet's MSS and its segment's sum, found.
-/
import Derived.Test.YtppobficnjpdiaaClampSegAt
import Derived.Test.YtppobficnjpdiaaFlowGet
import Derived.Test.YtppobficnjpdiaaTcpMss
import Derived.Test.YtppobficnjpdiaaTcpC
namespace Go.Proofs.Ytppobficnjpdiaa
open Go.RowKit
set_option linter.unusedVariables false

/-- The two results' blocks. -/
structure Fk (w u : World) (a b : NK) : Prop where
  x : Blk u w.heap.size a.cells 54
  y : Blk u (w.heap.size + 1) b.cells 54
  bel : Below w.heap.size w u
theorem Fk.new (w : World) : Fk w ((w.alloc (.cells NK.zero.cells 54)).alloc (.cells NK.zero.cells 54)) NK.zero NK.zero := by
  have e2 := Blk.new (w.alloc (.cells NK.zero.cells 54)) NK.zero.cells 54
  rw [show (w.alloc (.cells NK.zero.cells 54)).heap.size = w.heap.size + 1 from by simp] at e2
  exact ⟨(Blk.new w _ _).alloc _, e2, ((Below.refl _ _).alloc (Nat.le_refl _) _).alloc (by simp) _⟩
theorem Fk.below {w u u' : World} {a b : NK} (h : Fk w u a b) (hb : Below u.heap.size u u') : Fk w u' a b :=
  ⟨(hb.block _ h.x.lt).trans h.x, (hb.block _ h.y.lt).trans h.y, h.bel.trans (hb.mono h.bel.size)⟩
theorem Fk.alloc {w u : World} {a b : NK} (h : Fk w u a b) (o : Obj) : Fk w (u.alloc o) a b := ⟨h.x.alloc o, h.y.alloc o, h.bel.alloc h.bel.size o⟩
theorem Fk.drew {w u : World} {a b : NK} (h : Fk w u a b) : Fk w u.drew a b := ⟨h.x.drew, h.y.drew, below_drewN h.bel 1⟩
theorem Fk.put {w u : World} {a b : NK} (h : Fk w u a b) (c d : NK) (a0 a1 b0 b1 : Int) (e1 : a0 = c.at_) (e2 : a1 = c.is_) (e3 : b0 = d.at_) (e4 : b1 = d.is_) :
    Fk w ((((u.setCell ⟨w.heap.size, 0, none⟩ (.int .i64 a0)).setCell ⟨w.heap.size, 1, none⟩ (.int .i64 a1)).setCell ⟨w.heap.size + 1, 0, none⟩ (.int .i64 b0)).setCell ⟨w.heap.size + 1, 1, none⟩ (.int .i64 b1)) c d := by
  subst e1 e2 e3 e4
  refine ⟨?_, ?_, ?_⟩
  · exact (((h.x.set 0 _).set 1 _).set_other (by simp) _).set_other (by simp) _
  · exact (((h.y.set_other (by simp) _).set_other (by simp) _).set 0 _).set 1 _
  · exact (((h.bel.setCell (p := ⟨w.heap.size, 0, none⟩) (Nat.le_refl _) _).setCell (p := ⟨w.heap.size, 1, none⟩) (Nat.le_refl _) _).setCell (p := ⟨w.heap.size + 1, 0, none⟩) (by simp) _).setCell (p := ⟨w.heap.size + 1, 1, none⟩) (by simp) _

set_option maxRecDepth 100000 in
set_option maxHeartbeats 1000000 in
theorem find_err (p : ByteArray) (w : World) (hs : p.size ≤ 900000) (hE : flowE p ≠ 0) :
    Calls Try.prog 22 #[.string p] w (Tells (.tuple #[.agg NK.zero.cells, .agg NK.zero.cells, .bool false]) w) := by
  have G9 := Lib.hid (fun W => get9_any p W hs)
  have F0 := Lib.hid (Fk.new w)
  have hz0 : (w.alloc (.cells #[.int .i64 0, .int .i64 0] 54)).heap.size = w.heap.size + 1 := by simp
  unfold Tells at G9 ⊢
  unfold F9.cells at G9
  unfold NK.zero NK.cells at F0
  simp only [Int.cast_ofNat_Int] at F0
  have t1 : ((flowE p : Int) != 0) = true := by simp; omega
  clear hE
  go_enter Try.func22, Try.ntmps22
  go_wp2_with fail
  generalize (w.alloc (.cells #[.int .i64 0, .int .i64 0] 54)).alloc (.cells #[.int .i64 0, .int .i64 0] 54) = u0 at *
  refine (G9.out _).mono ?_
  rintro e u1 ⟨rfl, hb1⟩
  have F1 := Lib.hid (F0.out.below hb1)
  clear hb1 F0 G9 hz0
  generalize flowE p = E at *
  generalize flowH p = h at *
  have F2 := Lib.hid (F1.out.alloc (.cells #[.int .i64 h.proto, .string h.src, .string h.dst, .int .i64 h.sp, .int .i64 h.dp] 30))
  have B2 := Lib.hid (Blk.new u1 #[.int .i64 h.proto, .string h.src, .string h.dst, .int .i64 h.sp, .int .i64 h.dp] 30)
  clear F1 B2
  have ⟨cx0, cx1, x0, x1⟩ := HcK.of F2.out.x
  have ⟨cy0, cy1, y0, y1⟩ := HcK.of F2.out.y
  simp only [Int.cast_ofNat_Int] at cx0 cx1 cy0 cy1
  go_wp2_with fail
  have F9 := F2.out.put NK.zero NK.zero 0 0 0 0 rfl rfl rfl rfl
  have ⟨r0, r1, _, _⟩ := HcK.of F9.x
  have ⟨s0, s1, _, _⟩ := HcK.of F9.y
  simp only [NK.zero, Int.cast_ofNat_Int] at r0 r1 s0 s1
  refine ⟨rfl, .tuple #[.agg NK.zero.cells, .agg NK.zero.cells, .bool false], ?_, rfl, F9.bel⟩
  unfold NK.cells
  simp [results, Try.results22, go_sem, r0, r1, s0, s1, NK.zero]

set_option maxRecDepth 100000 in
set_option maxHeartbeats 1000000 in
theorem find_other (p : ByteArray) (w : World) (hs : p.size ≤ 900000) (hE : flowE p = 0) (hp : (flowH p).proto ≠ 6) :
    Calls Try.prog 22 #[.string p] w (Tells (.tuple #[.agg NK.zero.cells, .agg NK.zero.cells, .bool false]) w) := by
  have G9 := Lib.hid (fun W => get9_any p W hs)
  have F0 := Lib.hid (Fk.new w)
  have hz0 : (w.alloc (.cells #[.int .i64 0, .int .i64 0] 54)).heap.size = w.heap.size + 1 := by simp
  unfold Tells at G9 ⊢
  unfold F9.cells at G9
  unfold NK.zero NK.cells at F0
  simp only [Int.cast_ofNat_Int] at F0
  have t1 : ((flowE p : Int) != 0) = false := by simp; omega
  have t2 : ((flowH p).proto != 6) = true := by simp; omega
  clear hE hp
  go_enter Try.func22, Try.ntmps22
  go_wp2_with fail
  generalize (w.alloc (.cells #[.int .i64 0, .int .i64 0] 54)).alloc (.cells #[.int .i64 0, .int .i64 0] 54) = u0 at *
  refine (G9.out _).mono ?_
  rintro e u1 ⟨rfl, hb1⟩
  have F1 := Lib.hid (F0.out.below hb1)
  clear hb1 F0 G9 hz0
  generalize flowE p = E at *
  generalize flowH p = h at *
  have F2 := Lib.hid (F1.out.alloc (.cells #[.int .i64 h.proto, .string h.src, .string h.dst, .int .i64 h.sp, .int .i64 h.dp] 30))
  have B2 := Lib.hid (Blk.new u1 #[.int .i64 h.proto, .string h.src, .string h.dst, .int .i64 h.sp, .int .i64 h.dp] 30)
  have c0 := B2.out.cell 0
  simp only [List.getElem?_toArray, List.getElem?_cons_zero] at c0
  clear F1
  have ⟨cx0, cx1, x0, x1⟩ := HcK.of F2.out.x
  have ⟨cy0, cy1, y0, y1⟩ := HcK.of F2.out.y
  simp only [Int.cast_ofNat_Int] at cx0 cx1 cy0 cy1
  go_wp2_with fail
  have F9 := F2.out.put NK.zero NK.zero 0 0 0 0 rfl rfl rfl rfl
  have ⟨r0, r1, _, _⟩ := HcK.of F9.x
  have ⟨s0, s1, _, _⟩ := HcK.of F9.y
  simp only [NK.zero, Int.cast_ofNat_Int] at r0 r1 s0 s1
  refine ⟨rfl, .tuple #[.agg NK.zero.cells, .agg NK.zero.cells, .bool false], ?_, rfl, F9.bel⟩
  unfold NK.cells
  simp [results, Try.results22, go_sem, r0, r1, s0, s1, NK.zero]

/-- Of a valid packet of TCP. -/
structure TcpK (p : ByteArray) : Prop where
  ne : p.size ≠ 0
  fr : fr9 p ≤ p.size
  pay : p.extract (fr9 p) p.size = pay9 p
  seg : get7H (pay9 p) = seg7 (pay9 p)
  num : get7N (pay9 p) = numOf (pay9 p) 16 2
  err : get7E (pay9 p) = 0
  tcp : (any9 p).proto = 6
  size : (pay9 p).size ≤ p.size
  flg : numOf (pay9 p) 13 1 < 256
theorem TcpK.of {p : ByteArray} (hE : flowE p = 0) (hp : (flowH p).proto = 6) : TcpK p := by
  have g := flowE_zero.1 hE
  rw [flowH_ok hE] at hp
  have hp' : (any9 p).proto = 6 := hp
  have sh := shape9 g.pkt
  have hl := g.load
  rw [hp'] at hl
  have h7 : get7E (pay9 p) = 0 := hl
  have g7 := get7E_zero.1 h7
  have l := numOf_lt (pay9 p) 13 1 (by have := g7.short; omega)
  have := sh.fr
  exact ⟨by omega, this.2, sh.pay.symm, (get7_ok h7).1, (get7_ok h7).2, h7, hp', pay9_size p, l⟩

set_option maxRecDepth 100000 in
set_option maxHeartbeats 1000000 in
theorem find_none (p : ByteArray) (w : World) (hs : p.size ≤ 900000) (hE : flowE p = 0) (hp : (flowH p).proto = 6) (hms : mssOf p = none) :
    Calls Try.prog 22 #[.string p] w (Tells (.tuple #[.agg NK.zero.cells, .agg NK.zero.cells, .bool false]) w) := by
  have G9 := Lib.hid (fun W => get9_any p W hs)
  have F0 := Lib.hid (Fk.new w)
  have hz0 : (w.alloc (.cells #[.int .i64 0, .int .i64 0] 54)).heap.size = w.heap.size + 1 := by simp
  unfold Tells at G9 ⊢
  unfold F9.cells at G9
  unfold NK.zero NK.cells at F0
  simp only [Int.cast_ofNat_Int] at F0
  have K := TcpK.of hE hp
  have GA := Lib.hid (fun W => segmentAt_any p W (by omega) K.ne)
  have GT := Lib.hid (fun W => get7_any (pay9 p) W (by have := K.size; omega))
  have GM := Lib.hid (fun W => mss_call ((pay9 p).extract 20 (off7 (pay9 p))) W (by rw [ByteArray.size_extract]; have := K.size; unfold maxLen; omega))
  unfold Tells at GA
  unfold Get7End at GT
  unfold MssEnd at GM
  rw [K.seg, K.num, K.err] at GT
  have hm2 : mssL ((pay9 p).extract 20 (off7 (pay9 p))).data.toList = none := hms
  rw [hm2] at GM
  simp only [mN, mA, Option.isSome_none] at GM
  have ex := K.pay
  have hfr := K.fr
  have hfl := K.flg
  have hsz := K.size
  have t1 : ((flowE p : Int) != 0) = false := by simp; omega
  have t2 : ((flowH p).proto != 6) = false := by simp; omega
  clear hE hp hm2 hms K
  go_enter Try.func22, Try.ntmps22
  go_wp2_with fail
  generalize (w.alloc (.cells #[.int .i64 0, .int .i64 0] 54)).alloc (.cells #[.int .i64 0, .int .i64 0] 54) = u0 at *
  refine (G9.out _).mono ?_
  rintro e u1 ⟨rfl, hb1⟩
  have F1 := Lib.hid (F0.out.below hb1)
  clear hb1 F0 G9 hz0
  generalize flowE p = E at *
  generalize flowH p = h at *
  have F2 := Lib.hid (F1.out.alloc (.cells #[.int .i64 h.proto, .string h.src, .string h.dst, .int .i64 h.sp, .int .i64 h.dp] 30))
  have B2 := Lib.hid (Blk.new u1 #[.int .i64 h.proto, .string h.src, .string h.dst, .int .i64 h.sp, .int .i64 h.dp] 30)
  have c0 := B2.out.cell 0
  simp only [List.getElem?_toArray, List.getElem?_cons_zero] at c0
  clear F1
  go_wp2_with fail
  clear c0 t1 t2
  refine (GA.out _).mono ?_
  rintro e u3 ⟨rfl, hb3⟩
  have F3 := Lib.hid (F2.out.below hb3)
  clear hb3 F2 B2 GA
  generalize u1.alloc (.cells #[.int .i64 h.proto, .string h.src, .string h.dst, .int .i64 h.sp, .int .i64 h.dp] 30) = u2 at *
  have b1 : (0 : Int) ≤ (fr9 p : Int) := by omega
  have b2 : ((fr9 p : Nat) : Int) ≤ (p.size : Int) := by omega
  go_wp2_with fail
  refine (GT.out _).mono ?_
  rintro e u4 ⟨rfl, hb4⟩
  have F4 := Lib.hid (F3.out.below hb4)
  clear hb4 F3 GT ex
  have hopt : (seg7 (pay9 p)).opt = (pay9 p).extract 20 (off7 (pay9 p)) := rfl
  have hflg : (seg7 (pay9 p)).flg = (numOf (pay9 p) 13 1 : Nat) := rfl
  generalize (pay9 p).extract 20 (off7 (pay9 p)) = O at *
  generalize numOf (pay9 p) 13 1 = n13 at *
  generalize numOf (pay9 p) 16 2 = n16 at *
  generalize pay9 p = S at *
  generalize fr9 p = fr at *
  unfold S7.cells
  rw [hopt, hflg]
  have F5 := Lib.hid (F4.out.alloc (.cells #[.int .i64 (seg7 S).src, .int .i64 (seg7 S).dst, .int .u32 (seg7 S).seq, .int .u32 (seg7 S).ack, .int .i64 (n13 : Nat), .int .i64 (seg7 S).win, .int .i64 (seg7 S).urg, .string O, .string (seg7 S).pay] 49))
  have B5 := Lib.hid (Blk.new u4 #[.int .i64 (seg7 S).src, .int .i64 (seg7 S).dst, .int .u32 (seg7 S).seq, .int .u32 (seg7 S).ack, .int .i64 (n13 : Nat), .int .i64 (seg7 S).win, .int .i64 (seg7 S).urg, .string O, .string (seg7 S).pay] 49)
  have d7 := B5.out.cell 7
  have d4 := B5.out.cell 4
  simp only [List.getElem?_toArray, List.getElem?_cons_zero, List.getElem?_cons_succ] at d7 d4
  go_wp2_with fail
  refine (GM.out _).mono ?_
  rintro e u6 ⟨rfl, hb6⟩
  have F6 := Lib.hid (F5.out.below hb6)
  have B6 : Hid (Blk u6 u4.heap.size #[.int .i64 (seg7 S).src, .int .i64 (seg7 S).dst, .int .u32 (seg7 S).seq, .int .u32 (seg7 S).ack, .int .i64 (n13 : Nat), .int .i64 (seg7 S).win, .int .i64 (seg7 S).urg, .string O, .string (seg7 S).pay] 49) := (hb6.block _ B5.out.lt).trans B5.out
  clear hb6 F5 F4 GM B5 d7 d4
  have d4 := B6.out.cell 4
  simp only [List.getElem?_toArray, List.getElem?_cons_zero, List.getElem?_cons_succ] at d4
  have ⟨cx0, cx1, x0, x1⟩ := HcK.of F6.out.x
  have ⟨cy0, cy1, y0, y1⟩ := HcK.of F6.out.y
  simp only [Int.cast_ofNat_Int] at cx0 cx1 cy0 cy1
  go_wp2_with fail
  have F9 := F6.out.put NK.zero NK.zero 0 0 0 0 rfl rfl rfl rfl
  have ⟨r0, r1, _, _⟩ := HcK.of F9.x
  have ⟨s0, s1, _, _⟩ := HcK.of F9.y
  simp only [NK.zero, Int.cast_ofNat_Int] at r0 r1 s0 s1
  refine ⟨rfl, .tuple #[.agg NK.zero.cells, .agg NK.zero.cells, .bool false], ?_, rfl, F9.bel⟩
  unfold NK.cells
  simp [results, Try.results22, go_sem, r0, r1, s0, s1, NK.zero]

set_option maxRecDepth 100000 in
set_option maxHeartbeats 1000000 in
theorem find_mute (p : ByteArray) (w : World) (hs : p.size ≤ 900000) (hE : flowE p = 0) (hp : (flowH p).proto = 6) (n q : Nat) (hms : mssOf p = some (n, q)) (hsy : numOf (pay9 p) 13 1 / 2 % 2 = 0) :
    Calls Try.prog 22 #[.string p] w (Tells (.tuple #[.agg NK.zero.cells, .agg NK.zero.cells, .bool false]) w) := by
  have G9 := Lib.hid (fun W => get9_any p W hs)
  have F0 := Lib.hid (Fk.new w)
  have hz0 : (w.alloc (.cells #[.int .i64 0, .int .i64 0] 54)).heap.size = w.heap.size + 1 := by simp
  unfold Tells at G9 ⊢
  unfold F9.cells at G9
  unfold NK.zero NK.cells at F0
  simp only [Int.cast_ofNat_Int] at F0
  have K := TcpK.of hE hp
  have GA := Lib.hid (fun W => segmentAt_any p W (by omega) K.ne)
  have GT := Lib.hid (fun W => get7_any (pay9 p) W (by have := K.size; omega))
  have GM := Lib.hid (fun W => mss_call ((pay9 p).extract 20 (off7 (pay9 p))) W (by rw [ByteArray.size_extract]; have := K.size; unfold maxLen; omega))
  unfold Tells at GA
  unfold Get7End at GT
  unfold MssEnd at GM
  rw [K.seg, K.num, K.err] at GT
  have hm2 : mssL ((pay9 p).extract 20 (off7 (pay9 p))).data.toList = some (n, q) := hms
  rw [hm2] at GM
  simp only [mN, mA, Option.isSome_some] at GM
  have ex := K.pay
  have hfr := K.fr
  have hfl := K.flg
  have hsz := K.size
  have em : bits .and .i64 (numOf (pay9 p) 13 1 : Int) 2 = 0 := (i64_and_bit _ 1 (by omega) (by decide)).trans (if_neg (by omega))
  have t1 : ((flowE p : Int) != 0) = false := by simp; omega
  have t2 : ((flowH p).proto != 6) = false := by simp; omega
  clear hE hp hm2 hms K
  go_enter Try.func22, Try.ntmps22
  go_wp2_with fail
  generalize (w.alloc (.cells #[.int .i64 0, .int .i64 0] 54)).alloc (.cells #[.int .i64 0, .int .i64 0] 54) = u0 at *
  refine (G9.out _).mono ?_
  rintro e u1 ⟨rfl, hb1⟩
  have F1 := Lib.hid (F0.out.below hb1)
  clear hb1 F0 G9 hz0
  generalize flowE p = E at *
  generalize flowH p = h at *
  have F2 := Lib.hid (F1.out.alloc (.cells #[.int .i64 h.proto, .string h.src, .string h.dst, .int .i64 h.sp, .int .i64 h.dp] 30))
  have B2 := Lib.hid (Blk.new u1 #[.int .i64 h.proto, .string h.src, .string h.dst, .int .i64 h.sp, .int .i64 h.dp] 30)
  have c0 := B2.out.cell 0
  simp only [List.getElem?_toArray, List.getElem?_cons_zero] at c0
  clear F1
  go_wp2_with fail
  clear c0 t1 t2
  refine (GA.out _).mono ?_
  rintro e u3 ⟨rfl, hb3⟩
  have F3 := Lib.hid (F2.out.below hb3)
  clear hb3 F2 B2 GA
  generalize u1.alloc (.cells #[.int .i64 h.proto, .string h.src, .string h.dst, .int .i64 h.sp, .int .i64 h.dp] 30) = u2 at *
  have b1 : (0 : Int) ≤ (fr9 p : Int) := by omega
  have b2 : ((fr9 p : Nat) : Int) ≤ (p.size : Int) := by omega
  go_wp2_with fail
  refine (GT.out _).mono ?_
  rintro e u4 ⟨rfl, hb4⟩
  have F4 := Lib.hid (F3.out.below hb4)
  clear hb4 F3 GT ex
  have hopt : (seg7 (pay9 p)).opt = (pay9 p).extract 20 (off7 (pay9 p)) := rfl
  have hflg : (seg7 (pay9 p)).flg = (numOf (pay9 p) 13 1 : Nat) := rfl
  generalize (pay9 p).extract 20 (off7 (pay9 p)) = O at *
  generalize numOf (pay9 p) 13 1 = n13 at *
  generalize numOf (pay9 p) 16 2 = n16 at *
  generalize pay9 p = S at *
  generalize fr9 p = fr at *
  unfold S7.cells
  rw [hopt, hflg]
  have F5 := Lib.hid (F4.out.alloc (.cells #[.int .i64 (seg7 S).src, .int .i64 (seg7 S).dst, .int .u32 (seg7 S).seq, .int .u32 (seg7 S).ack, .int .i64 (n13 : Nat), .int .i64 (seg7 S).win, .int .i64 (seg7 S).urg, .string O, .string (seg7 S).pay] 49))
  have B5 := Lib.hid (Blk.new u4 #[.int .i64 (seg7 S).src, .int .i64 (seg7 S).dst, .int .u32 (seg7 S).seq, .int .u32 (seg7 S).ack, .int .i64 (n13 : Nat), .int .i64 (seg7 S).win, .int .i64 (seg7 S).urg, .string O, .string (seg7 S).pay] 49)
  have d7 := B5.out.cell 7
  have d4 := B5.out.cell 4
  simp only [List.getElem?_toArray, List.getElem?_cons_zero, List.getElem?_cons_succ] at d7 d4
  go_wp2_with fail
  refine (GM.out _).mono ?_
  rintro e u6 ⟨rfl, hb6⟩
  have F6 := Lib.hid (F5.out.below hb6)
  have B6 : Hid (Blk u6 u4.heap.size #[.int .i64 (seg7 S).src, .int .i64 (seg7 S).dst, .int .u32 (seg7 S).seq, .int .u32 (seg7 S).ack, .int .i64 (n13 : Nat), .int .i64 (seg7 S).win, .int .i64 (seg7 S).urg, .string O, .string (seg7 S).pay] 49) := (hb6.block _ B5.out.lt).trans B5.out
  clear hb6 F5 F4 GM B5 d7 d4
  have d4 := B6.out.cell 4
  simp only [List.getElem?_toArray, List.getElem?_cons_zero, List.getElem?_cons_succ] at d4
  have ⟨cx0, cx1, x0, x1⟩ := HcK.of F6.out.x
  have ⟨cy0, cy1, y0, y1⟩ := HcK.of F6.out.y
  simp only [Int.cast_ofNat_Int] at cx0 cx1 cy0 cy1
  go_wp2_with fail
  have F9 := F6.out.put NK.zero NK.zero 0 0 0 0 rfl rfl rfl rfl
  have ⟨r0, r1, _, _⟩ := HcK.of F9.x
  have ⟨s0, s1, _, _⟩ := HcK.of F9.y
  simp only [NK.zero, Int.cast_ofNat_Int] at r0 r1 s0 s1
  refine ⟨rfl, .tuple #[.agg NK.zero.cells, .agg NK.zero.cells, .bool false], ?_, rfl, F9.bel⟩
  unfold NK.cells
  simp [results, Try.results22, go_sem, r0, r1, s0, s1, NK.zero]

set_option maxRecDepth 100000 in
set_option maxHeartbeats 1000000 in
theorem find_yes (p : ByteArray) (w : World) (hs : p.size ≤ 900000) (hE : flowE p = 0) (hp : (flowH p).proto = 6) (n q : Nat) (hms : mssOf p = some (n, q)) (hsy : numOf (pay9 p) 13 1 / 2 % 2 = 1) (hq : q ≤ 900000) (FR N16 : Nat) (hFR : fr9 p = FR) (hN16 : numOf (pay9 p) 16 2 = N16) :
    Calls Try.prog 22 #[.string p] w (Tells (.tuple #[.agg (NK.cells ⟨FR + 20 + q, n⟩), .agg (NK.cells ⟨FR + 16, N16⟩), .bool true]) w) := by
  have G9 := Lib.hid (fun W => get9_any p W hs)
  have F0 := Lib.hid (Fk.new w)
  have hz0 : (w.alloc (.cells #[.int .i64 0, .int .i64 0] 54)).heap.size = w.heap.size + 1 := by simp
  unfold Tells at G9 ⊢
  unfold F9.cells at G9
  unfold NK.zero NK.cells at F0
  simp only [Int.cast_ofNat_Int] at F0
  have K := TcpK.of hE hp
  have GA := Lib.hid (fun W => segmentAt_any p W (by omega) K.ne)
  have GT := Lib.hid (fun W => get7_any (pay9 p) W (by have := K.size; omega))
  have GM := Lib.hid (fun W => mss_call ((pay9 p).extract 20 (off7 (pay9 p))) W (by rw [ByteArray.size_extract]; have := K.size; unfold maxLen; omega))
  unfold Tells at GA
  unfold Get7End at GT
  unfold MssEnd at GM
  rw [K.seg, K.num, K.err] at GT
  have hm2 : mssL ((pay9 p).extract 20 (off7 (pay9 p))).data.toList = some (n, q) := hms
  rw [hm2] at GM
  simp only [mN, mA, Option.isSome_some] at GM
  have ex := K.pay
  have hfr := K.fr
  have hfl := K.flg
  have hsz := K.size
  have em : bits .and .i64 (numOf (pay9 p) 13 1 : Int) 2 = 2 := (i64_and_bit _ 1 (by omega) (by decide)).trans (if_pos (by omega))
  have HFR := Lib.hid hFR
  have HN16 := Lib.hid hN16
  clear hFR hN16
  have t1 : ((flowE p : Int) != 0) = false := by simp; omega
  have t2 : ((flowH p).proto != 6) = false := by simp; omega
  clear hE hp hm2 hms K
  go_enter Try.func22, Try.ntmps22
  go_wp2_with fail
  generalize (w.alloc (.cells #[.int .i64 0, .int .i64 0] 54)).alloc (.cells #[.int .i64 0, .int .i64 0] 54) = u0 at *
  refine (G9.out _).mono ?_
  rintro e u1 ⟨rfl, hb1⟩
  have F1 := Lib.hid (F0.out.below hb1)
  clear hb1 F0 G9 hz0
  generalize flowE p = E at *
  generalize flowH p = h at *
  have F2 := Lib.hid (F1.out.alloc (.cells #[.int .i64 h.proto, .string h.src, .string h.dst, .int .i64 h.sp, .int .i64 h.dp] 30))
  have B2 := Lib.hid (Blk.new u1 #[.int .i64 h.proto, .string h.src, .string h.dst, .int .i64 h.sp, .int .i64 h.dp] 30)
  have c0 := B2.out.cell 0
  simp only [List.getElem?_toArray, List.getElem?_cons_zero] at c0
  clear F1
  go_wp2_with fail
  clear c0 t1 t2
  refine (GA.out _).mono ?_
  rintro e u3 ⟨rfl, hb3⟩
  have F3 := Lib.hid (F2.out.below hb3)
  clear hb3 F2 B2 GA
  generalize u1.alloc (.cells #[.int .i64 h.proto, .string h.src, .string h.dst, .int .i64 h.sp, .int .i64 h.dp] 30) = u2 at *
  have b1 : (0 : Int) ≤ (fr9 p : Int) := by omega
  have b2 : ((fr9 p : Nat) : Int) ≤ (p.size : Int) := by omega
  go_wp2_with fail
  refine (GT.out _).mono ?_
  rintro e u4 ⟨rfl, hb4⟩
  have F4 := Lib.hid (F3.out.below hb4)
  clear hb4 F3 GT ex
  have hopt : (seg7 (pay9 p)).opt = (pay9 p).extract 20 (off7 (pay9 p)) := rfl
  have hflg : (seg7 (pay9 p)).flg = (numOf (pay9 p) 13 1 : Nat) := rfl
  generalize (pay9 p).extract 20 (off7 (pay9 p)) = O at *
  generalize numOf (pay9 p) 13 1 = n13 at *
  generalize numOf (pay9 p) 16 2 = n16 at *
  generalize pay9 p = S at *
  generalize fr9 p = fr at *
  unfold S7.cells
  rw [hopt, hflg]
  have F5 := Lib.hid (F4.out.alloc (.cells #[.int .i64 (seg7 S).src, .int .i64 (seg7 S).dst, .int .u32 (seg7 S).seq, .int .u32 (seg7 S).ack, .int .i64 (n13 : Nat), .int .i64 (seg7 S).win, .int .i64 (seg7 S).urg, .string O, .string (seg7 S).pay] 49))
  have B5 := Lib.hid (Blk.new u4 #[.int .i64 (seg7 S).src, .int .i64 (seg7 S).dst, .int .u32 (seg7 S).seq, .int .u32 (seg7 S).ack, .int .i64 (n13 : Nat), .int .i64 (seg7 S).win, .int .i64 (seg7 S).urg, .string O, .string (seg7 S).pay] 49)
  have d7 := B5.out.cell 7
  have d4 := B5.out.cell 4
  simp only [List.getElem?_toArray, List.getElem?_cons_zero, List.getElem?_cons_succ] at d7 d4
  go_wp2_with fail
  refine (GM.out _).mono ?_
  rintro e u6 ⟨rfl, hb6⟩
  have F6 := Lib.hid (F5.out.below hb6)
  have B6 : Hid (Blk u6 u4.heap.size #[.int .i64 (seg7 S).src, .int .i64 (seg7 S).dst, .int .u32 (seg7 S).seq, .int .u32 (seg7 S).ack, .int .i64 (n13 : Nat), .int .i64 (seg7 S).win, .int .i64 (seg7 S).urg, .string O, .string (seg7 S).pay] 49) := (hb6.block _ B5.out.lt).trans B5.out
  clear hb6 F5 F4 GM B5 d7 d4
  have d4 := B6.out.cell 4
  simp only [List.getElem?_toArray, List.getElem?_cons_zero, List.getElem?_cons_succ] at d4
  have ⟨cx0, cx1, x0, x1⟩ := HcK.of F6.out.x
  have ⟨cy0, cy1, y0, y1⟩ := HcK.of F6.out.y
  simp only [Int.cast_ofNat_Int] at cx0 cx1 cy0 cy1
  go_wp2_with fail
  have hFR := HFR.out
  have hN16 := HN16.out
  subst hFR hN16
  have F9 := F6.out.put ⟨fr + 20 + q, n⟩ ⟨fr + 16, n16⟩ ((fr : Int) + 20 + (q : Int)) (n : Int) ((fr : Int) + 16) (n16 : Int) rfl rfl rfl rfl
  have ⟨r0, r1, _, _⟩ := HcK.of F9.x
  have ⟨s0, s1, _, _⟩ := HcK.of F9.y
  simp only at r0 r1 s0 s1
  refine ⟨rfl, .tuple #[.agg (NK.cells ⟨fr + 20 + q, n⟩), .agg (NK.cells ⟨fr + 16, n16⟩), .bool true], ?_, rfl, F9.bel⟩
  unfold NK.cells
  simp [results, Try.results22, go_sem, r0, r1, s0, s1]

theorem find_any (p : ByteArray) (w : World) (hs : p.size ≤ 900000) :
    Calls Try.prog 22 #[.string p] w (Tells (.tuple #[.agg (mssK p).cells, .agg (ownK p).cells, .bool (hasK p)]) w) := by
  cases hk : hasK p with
  | true =>
    obtain ⟨n, q, h⟩ := HasK.of hk
    rw [h.tells, h.owns]
    have hL := h.lies
    exact find_yes p w hs (flowE_zero.2 h.good) (by rw [flowH_ok (flowE_zero.2 h.good)]; exact h.tcp) n q h.mss h.syn (by have := hL.fit; have := hL.size; omega) _ _ rfl rfl
  | false =>
    have hm : mssK p = NK.zero := by unfold mssK; rw [hk]; rfl
    have ho : ownK p = NK.zero := by unfold ownK; rw [hk]; rfl
    rw [hm, ho]
    by_cases hE : flowE p = 0
    case neg => exact find_err p w hs hE
    by_cases hp : (flowH p).proto = 6
    case neg => exact find_other p w hs hE hp
    have K := TcpK.of hE hp
    cases hms : mssOf p with
    | none => exact find_none p w hs hE hp hms
    | some v =>
      obtain ⟨n, q⟩ := v
      by_cases hsy : numOf (pay9 p) 13 1 / 2 % 2 = 1
      · unfold hasK at hk
        rw [hE, K.tcp, hms, hsy] at hk
        simp at hk
      · exact find_mute p w hs hE hp n q hms (by omega)

end Go.Proofs.Ytppobficnjpdiaa
