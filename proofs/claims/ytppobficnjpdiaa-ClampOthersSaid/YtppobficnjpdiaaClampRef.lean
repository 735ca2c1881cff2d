/-
  The document's Find, MSS and Limit.
-/
import Derived.Test.YtppobficnjpdiaaClampFind
import Derived.Test.YtppobficnjpdiaaFlowRefGet
import Derived.Test.YtppobficnjpdiaaTcpRefGet
import Derived.Test.YtppobficnjpdiaaTcpRefMss
namespace Go.Proofs.Ytppobficnjpdiaa
open Go.RowKit
set_option linter.unusedVariables false

set_option maxRecDepth 100000 in
set_option maxHeartbeats 1000000 in
theorem rfind_err (p : ByteArray) (w : World) (hs : p.size ≤ 900000) (hE : flowE p ≠ 0) :
    Calls Try.prog 16 #[.string p] w (Tells (.tuple #[.int .i64 0, .int .i64 0, .int .i64 0, .bool false]) w) := by
  have G9 := Lib.hid (fun W => refget9_any p W hs)
  unfold Tells at G9 ⊢
  unfold F9.cells at G9
  have t1 : ((flowE p : Int) != 0) = true := by simp; omega
  clear hE
  go_enter Try.func16, Try.ntmps16
  go_wp2_with fail
  refine (G9.out _).mono ?_
  rintro e u1 ⟨rfl, hb1⟩
  have F1 := Lib.hid hb1
  clear hb1 G9
  generalize flowE p = E at *
  generalize flowH p = h at *
  have F2 := Lib.hid (F1.out.alloc F1.out.size (.cells #[.int .i64 h.proto, .string h.src, .string h.dst, .int .i64 h.sp, .int .i64 h.dp] 30))
  have B2 := Lib.hid (Blk.new u1 #[.int .i64 h.proto, .string h.src, .string h.dst, .int .i64 h.sp, .int .i64 h.dp] 30)
  clear F1 B2
  go_wp2_with fail
  refine ⟨rfl, .tuple #[.int .i64 0, .int .i64 0, .int .i64 0, .bool false], ?_, rfl, F2.out⟩
  simp [results, Try.results16, go_sem]

set_option maxRecDepth 100000 in
set_option maxHeartbeats 1000000 in
theorem rfind_other (p : ByteArray) (w : World) (hs : p.size ≤ 900000) (hE : flowE p = 0) (hp : (flowH p).proto ≠ 6) :
    Calls Try.prog 16 #[.string p] w (Tells (.tuple #[.int .i64 0, .int .i64 0, .int .i64 0, .bool false]) w) := by
  have G9 := Lib.hid (fun W => refget9_any p W hs)
  unfold Tells at G9 ⊢
  unfold F9.cells at G9
  have t1 : ((flowE p : Int) != 0) = false := by simp; omega
  have t2 : ((flowH p).proto != 6) = true := by simp; omega
  clear hE hp
  go_enter Try.func16, Try.ntmps16
  go_wp2_with fail
  refine (G9.out _).mono ?_
  rintro e u1 ⟨rfl, hb1⟩
  have F1 := Lib.hid hb1
  clear hb1 G9
  generalize flowE p = E at *
  generalize flowH p = h at *
  have F2 := Lib.hid (F1.out.alloc F1.out.size (.cells #[.int .i64 h.proto, .string h.src, .string h.dst, .int .i64 h.sp, .int .i64 h.dp] 30))
  have B2 := Lib.hid (Blk.new u1 #[.int .i64 h.proto, .string h.src, .string h.dst, .int .i64 h.sp, .int .i64 h.dp] 30)
  have c0 := B2.out.cell 0
  simp only [List.getElem?_toArray, List.getElem?_cons_zero] at c0
  clear F1
  go_wp2_with fail
  refine ⟨rfl, .tuple #[.int .i64 0, .int .i64 0, .int .i64 0, .bool false], ?_, rfl, F2.out⟩
  simp [results, Try.results16, go_sem]

/-- How long the source is, and where the segment begins. -/
structure SrcK (p : ByteArray) : Prop where
  four : ver9 p = 4 → (flowH p).src.size = 4 ∧ ∃ h : 0 < p.size, (((p[0]'h).toNat : Nat) : Int) % 16 * 4 = (fr9 p : Nat)
  six : ver9 p ≠ 4 → (flowH p).src.size = 16 ∧ fr9 p = 40
theorem SrcK.of {p : ByteArray} (hE : flowE p = 0) : SrcK p := by
  have g := flowE_zero.1 hE
  have hk := g.pkt
  unfold pktE at hk
  constructor
  · intro h4
    rw [if_pos h4] at hk
    have G := getE_zero.1 hk
    have hsz := G.short
    refine ⟨?_, by omega, ?_⟩
    · rw [flowH_ok hE]
      show (any9 p).src.size = 4
      unfold any9
      rw [if_pos h4]
      have e : getH p = hdr p := by unfold getH; rw [if_pos hk]
      rw [e]
      show (p.extract 12 16).size = 4
      rw [ByteArray.size_extract]
      omega
    · have e : fr9 p = 4 * (numOf p 0 1 % 16) := by unfold fr9; rw [if_pos h4]; rfl
      rw [e, numOf_one p 0 (by omega)]
      omega
  · intro h4
    rw [if_neg h4] at hk
    have G := get6E_zero.1 hk
    have hsz := G.short
    refine ⟨?_, by unfold fr9; rw [if_neg h4]⟩
    rw [flowH_ok hE]
    show (any9 p).src.size = 16
    unfold any9
    rw [if_neg h4]
    have e : get6H p = hdr6 p := by unfold get6H; rw [if_pos hk]
    rw [e]
    show (p.extract 8 24).size = 16
    rw [ByteArray.size_extract]
    omega

set_option maxRecDepth 100000 in
set_option maxHeartbeats 1000000 in
theorem rfind_none4 (p : ByteArray) (w : World) (hs : p.size ≤ 900000) (hE : flowE p = 0) (hp : (flowH p).proto = 6) (hv : ver9 p = 4) (hms : mssOf p = none) :
    Calls Try.prog 16 #[.string p] w (Tells (.tuple #[.int .i64 0, .int .i64 0, .int .i64 0, .bool false]) w) := by
  have G9 := Lib.hid (fun W => refget9_any p W hs)
  unfold Tells at G9 ⊢
  unfold F9.cells at G9
  have K := TcpK.of hE hp
  have GT := Lib.hid (fun W => refget7_any (pay9 p) W (by have := K.size; omega))
  have GM := Lib.hid (fun W => refmss_any ((pay9 p).extract 20 (off7 (pay9 p))) W (by rw [ByteArray.size_extract]; have := K.size; omega))
  unfold Ref7Got at GT
  unfold RefMssEnd at GM
  rw [K.seg, K.num, K.err] at GT
  have hm2 : mssL ((pay9 p).extract 20 (off7 (pay9 p))).data.toList = none := hms
  rw [hm2] at GM
  simp only [mN, mA, Option.isSome_none] at GM
  have ex := K.pay
  have hfr := K.fr
  have hfl := K.flg
  have hsz := K.size
  have hsr := (SrcK.of hE).four hv
  obtain ⟨hsr, h0, hfe⟩ := hsr
  have t3 : ((((flowH p).src.size : Nat) : Int) == 4) = true := by simp; omega
  have hlt : (0 : Int) < (p.size : Int) := by omega
  generalize hp0 : (p[0]'h0).toNat = c0' at *
  have l0 : c0' < 256 := by have := (p[0]'h0).toNat_lt; omega
  have t1 : ((flowE p : Int) != 0) = false := by simp; omega
  have t2 : ((flowH p).proto != 6) = false := by simp; omega
  clear hE hp hm2 hms K hv hsr
  go_enter Try.func16, Try.ntmps16
  go_wp2_with fail
  refine (G9.out _).mono ?_
  rintro e u1 ⟨rfl, hb1⟩
  have F1 := Lib.hid hb1
  clear hb1 G9
  generalize flowE p = E at *
  generalize flowH p = h at *
  have F2 := Lib.hid (F1.out.alloc F1.out.size (.cells #[.int .i64 h.proto, .string h.src, .string h.dst, .int .i64 h.sp, .int .i64 h.dp] 30))
  have B2 := Lib.hid (Blk.new u1 #[.int .i64 h.proto, .string h.src, .string h.dst, .int .i64 h.sp, .int .i64 h.dp] 30)
  have c0 := B2.out.cell 0
  have c1 := B2.out.cell 1
  simp only [List.getElem?_toArray, List.getElem?_cons_zero, List.getElem?_cons_succ] at c0 c1
  clear F1
  have b1 : (0 : Int) ≤ (fr9 p : Int) := by omega
  have b2 : ((fr9 p : Nat) : Int) ≤ (p.size : Int) := by omega
  go_wp2_with fail
  clear c0 c1 t1 t2 t3
  refine (GT.out _).mono ?_
  rintro e u4 ⟨rfl, hb4⟩
  have F4 := Lib.hid (F2.out.trans (hb4.mono F2.out.size))
  clear hb4 F2 B2 GT ex
  have hopt : (seg7 (pay9 p)).opt = (pay9 p).extract 20 (off7 (pay9 p)) := rfl
  have hflg : (seg7 (pay9 p)).flg = (numOf (pay9 p) 13 1 : Nat) := rfl
  generalize (pay9 p).extract 20 (off7 (pay9 p)) = O at *
  generalize numOf (pay9 p) 13 1 = n13 at *
  generalize numOf (pay9 p) 16 2 = n16 at *
  generalize pay9 p = S at *
  unfold S7.cells
  rw [hopt, hflg]
  have F5 := Lib.hid (F4.out.alloc F4.out.size (.cells #[.int .i64 (seg7 S).src, .int .i64 (seg7 S).dst, .int .u32 (seg7 S).seq, .int .u32 (seg7 S).ack, .int .i64 (n13 : Nat), .int .i64 (seg7 S).win, .int .i64 (seg7 S).urg, .string O, .string (seg7 S).pay] 49))
  have B5 := Lib.hid (Blk.new u4 #[.int .i64 (seg7 S).src, .int .i64 (seg7 S).dst, .int .u32 (seg7 S).seq, .int .u32 (seg7 S).ack, .int .i64 (n13 : Nat), .int .i64 (seg7 S).win, .int .i64 (seg7 S).urg, .string O, .string (seg7 S).pay] 49)
  have d7 := B5.out.cell 7
  have d4 := B5.out.cell 4
  simp only [List.getElem?_toArray, List.getElem?_cons_zero, List.getElem?_cons_succ] at d7 d4
  go_wp2_with fail
  refine (GM.out _).mono ?_
  rintro e u6 ⟨rfl, hb6⟩
  have F6 := Lib.hid (F5.out.trans (hb6.mono F5.out.size))
  have B6 : Hid (Blk u6 u4.heap.size #[.int .i64 (seg7 S).src, .int .i64 (seg7 S).dst, .int .u32 (seg7 S).seq, .int .u32 (seg7 S).ack, .int .i64 (n13 : Nat), .int .i64 (seg7 S).win, .int .i64 (seg7 S).urg, .string O, .string (seg7 S).pay] 49) := (hb6.block _ B5.out.lt).trans B5.out
  clear hb6 F5 F4 GM B5 d7 d4
  have d4 := B6.out.cell 4
  simp only [List.getElem?_toArray, List.getElem?_cons_zero, List.getElem?_cons_succ] at d4
  go_wp2_with fail
  refine ⟨rfl, .tuple #[.int .i64 0, .int .i64 0, .int .i64 0, .bool false], ?_, rfl, F6.out⟩
  simp [results, Try.results16, go_sem]

set_option maxRecDepth 100000 in
set_option maxHeartbeats 1000000 in
theorem rfind_mute4 (p : ByteArray) (w : World) (hs : p.size ≤ 900000) (hE : flowE p = 0) (hp : (flowH p).proto = 6) (hv : ver9 p = 4) (n q : Nat) (hms : mssOf p = some (n, q)) (hsy : numOf (pay9 p) 13 1 / 2 % 2 = 0) :
    Calls Try.prog 16 #[.string p] w (Tells (.tuple #[.int .i64 0, .int .i64 0, .int .i64 0, .bool false]) w) := by
  have G9 := Lib.hid (fun W => refget9_any p W hs)
  unfold Tells at G9 ⊢
  unfold F9.cells at G9
  have K := TcpK.of hE hp
  have GT := Lib.hid (fun W => refget7_any (pay9 p) W (by have := K.size; omega))
  have GM := Lib.hid (fun W => refmss_any ((pay9 p).extract 20 (off7 (pay9 p))) W (by rw [ByteArray.size_extract]; have := K.size; omega))
  unfold Ref7Got at GT
  unfold RefMssEnd at GM
  rw [K.seg, K.num, K.err] at GT
  have hm2 : mssL ((pay9 p).extract 20 (off7 (pay9 p))).data.toList = some (n, q) := hms
  rw [hm2] at GM
  simp only [mN, mA, Option.isSome_some] at GM
  have ex := K.pay
  have hfr := K.fr
  have hfl := K.flg
  have hsz := K.size
  have hsr := (SrcK.of hE).four hv
  obtain ⟨hsr, h0, hfe⟩ := hsr
  have t3 : ((((flowH p).src.size : Nat) : Int) == 4) = true := by simp; omega
  have hlt : (0 : Int) < (p.size : Int) := by omega
  generalize hp0 : (p[0]'h0).toNat = c0' at *
  have l0 : c0' < 256 := by have := (p[0]'h0).toNat_lt; omega
  have em : ((numOf (pay9 p) 13 1 : Int) / 2 % 2 == 0) = true := by simp; omega
  clear hsy
  have t1 : ((flowE p : Int) != 0) = false := by simp; omega
  have t2 : ((flowH p).proto != 6) = false := by simp; omega
  clear hE hp hm2 hms K hv hsr
  go_enter Try.func16, Try.ntmps16
  go_wp2_with fail
  refine (G9.out _).mono ?_
  rintro e u1 ⟨rfl, hb1⟩
  have F1 := Lib.hid hb1
  clear hb1 G9
  generalize flowE p = E at *
  generalize flowH p = h at *
  have F2 := Lib.hid (F1.out.alloc F1.out.size (.cells #[.int .i64 h.proto, .string h.src, .string h.dst, .int .i64 h.sp, .int .i64 h.dp] 30))
  have B2 := Lib.hid (Blk.new u1 #[.int .i64 h.proto, .string h.src, .string h.dst, .int .i64 h.sp, .int .i64 h.dp] 30)
  have c0 := B2.out.cell 0
  have c1 := B2.out.cell 1
  simp only [List.getElem?_toArray, List.getElem?_cons_zero, List.getElem?_cons_succ] at c0 c1
  clear F1
  have b1 : (0 : Int) ≤ (fr9 p : Int) := by omega
  have b2 : ((fr9 p : Nat) : Int) ≤ (p.size : Int) := by omega
  go_wp2_with fail
  clear c0 c1 t1 t2 t3
  refine (GT.out _).mono ?_
  rintro e u4 ⟨rfl, hb4⟩
  have F4 := Lib.hid (F2.out.trans (hb4.mono F2.out.size))
  clear hb4 F2 B2 GT ex
  have hopt : (seg7 (pay9 p)).opt = (pay9 p).extract 20 (off7 (pay9 p)) := rfl
  have hflg : (seg7 (pay9 p)).flg = (numOf (pay9 p) 13 1 : Nat) := rfl
  generalize (pay9 p).extract 20 (off7 (pay9 p)) = O at *
  generalize numOf (pay9 p) 13 1 = n13 at *
  generalize numOf (pay9 p) 16 2 = n16 at *
  generalize pay9 p = S at *
  unfold S7.cells
  rw [hopt, hflg]
  have F5 := Lib.hid (F4.out.alloc F4.out.size (.cells #[.int .i64 (seg7 S).src, .int .i64 (seg7 S).dst, .int .u32 (seg7 S).seq, .int .u32 (seg7 S).ack, .int .i64 (n13 : Nat), .int .i64 (seg7 S).win, .int .i64 (seg7 S).urg, .string O, .string (seg7 S).pay] 49))
  have B5 := Lib.hid (Blk.new u4 #[.int .i64 (seg7 S).src, .int .i64 (seg7 S).dst, .int .u32 (seg7 S).seq, .int .u32 (seg7 S).ack, .int .i64 (n13 : Nat), .int .i64 (seg7 S).win, .int .i64 (seg7 S).urg, .string O, .string (seg7 S).pay] 49)
  have d7 := B5.out.cell 7
  have d4 := B5.out.cell 4
  simp only [List.getElem?_toArray, List.getElem?_cons_zero, List.getElem?_cons_succ] at d7 d4
  go_wp2_with fail
  refine (GM.out _).mono ?_
  rintro e u6 ⟨rfl, hb6⟩
  have F6 := Lib.hid (F5.out.trans (hb6.mono F5.out.size))
  have B6 : Hid (Blk u6 u4.heap.size #[.int .i64 (seg7 S).src, .int .i64 (seg7 S).dst, .int .u32 (seg7 S).seq, .int .u32 (seg7 S).ack, .int .i64 (n13 : Nat), .int .i64 (seg7 S).win, .int .i64 (seg7 S).urg, .string O, .string (seg7 S).pay] 49) := (hb6.block _ B5.out.lt).trans B5.out
  clear hb6 F5 F4 GM B5 d7 d4
  have d4 := B6.out.cell 4
  simp only [List.getElem?_toArray, List.getElem?_cons_zero, List.getElem?_cons_succ] at d4
  go_wp2_with fail
  refine ⟨rfl, .tuple #[.int .i64 0, .int .i64 0, .int .i64 0, .bool false], ?_, rfl, F6.out⟩
  simp [results, Try.results16, go_sem]

set_option maxRecDepth 100000 in
set_option maxHeartbeats 1000000 in
theorem rfind_yes4 (p : ByteArray) (w : World) (hs : p.size ≤ 900000) (hE : flowE p = 0) (hp : (flowH p).proto = 6) (hv : ver9 p = 4) (n q : Nat) (hms : mssOf p = some (n, q)) (hsy : numOf (pay9 p) 13 1 / 2 % 2 = 1) (hq : q ≤ 900000) :
    Calls Try.prog 16 #[.string p] w (Tells (.tuple #[.int .i64 (fr9 p : Nat), .int .i64 (20 + q : Nat), .int .i64 (n : Nat), .bool true]) w) := by
  have G9 := Lib.hid (fun W => refget9_any p W hs)
  unfold Tells at G9 ⊢
  unfold F9.cells at G9
  have K := TcpK.of hE hp
  have GT := Lib.hid (fun W => refget7_any (pay9 p) W (by have := K.size; omega))
  have GM := Lib.hid (fun W => refmss_any ((pay9 p).extract 20 (off7 (pay9 p))) W (by rw [ByteArray.size_extract]; have := K.size; omega))
  unfold Ref7Got at GT
  unfold RefMssEnd at GM
  rw [K.seg, K.num, K.err] at GT
  have hm2 : mssL ((pay9 p).extract 20 (off7 (pay9 p))).data.toList = some (n, q) := hms
  rw [hm2] at GM
  simp only [mN, mA, Option.isSome_some] at GM
  have ex := K.pay
  have hfr := K.fr
  have hfl := K.flg
  have hsz := K.size
  have hsr := (SrcK.of hE).four hv
  obtain ⟨hsr, h0, hfe⟩ := hsr
  have t3 : ((((flowH p).src.size : Nat) : Int) == 4) = true := by simp; omega
  have hlt : (0 : Int) < (p.size : Int) := by omega
  generalize hp0 : (p[0]'h0).toNat = c0' at *
  have l0 : c0' < 256 := by have := (p[0]'h0).toNat_lt; omega
  have em : ((numOf (pay9 p) 13 1 : Int) / 2 % 2 == 0) = false := by simp; omega
  clear hsy
  have t1 : ((flowE p : Int) != 0) = false := by simp; omega
  have t2 : ((flowH p).proto != 6) = false := by simp; omega
  clear hE hp hm2 hms K hv hsr
  go_enter Try.func16, Try.ntmps16
  go_wp2_with fail
  refine (G9.out _).mono ?_
  rintro e u1 ⟨rfl, hb1⟩
  have F1 := Lib.hid hb1
  clear hb1 G9
  generalize flowE p = E at *
  generalize flowH p = h at *
  have F2 := Lib.hid (F1.out.alloc F1.out.size (.cells #[.int .i64 h.proto, .string h.src, .string h.dst, .int .i64 h.sp, .int .i64 h.dp] 30))
  have B2 := Lib.hid (Blk.new u1 #[.int .i64 h.proto, .string h.src, .string h.dst, .int .i64 h.sp, .int .i64 h.dp] 30)
  have c0 := B2.out.cell 0
  have c1 := B2.out.cell 1
  simp only [List.getElem?_toArray, List.getElem?_cons_zero, List.getElem?_cons_succ] at c0 c1
  clear F1
  have b1 : (0 : Int) ≤ (fr9 p : Int) := by omega
  have b2 : ((fr9 p : Nat) : Int) ≤ (p.size : Int) := by omega
  go_wp2_with fail
  clear c0 c1 t1 t2 t3
  refine (GT.out _).mono ?_
  rintro e u4 ⟨rfl, hb4⟩
  have F4 := Lib.hid (F2.out.trans (hb4.mono F2.out.size))
  clear hb4 F2 B2 GT ex
  have hopt : (seg7 (pay9 p)).opt = (pay9 p).extract 20 (off7 (pay9 p)) := rfl
  have hflg : (seg7 (pay9 p)).flg = (numOf (pay9 p) 13 1 : Nat) := rfl
  generalize (pay9 p).extract 20 (off7 (pay9 p)) = O at *
  generalize numOf (pay9 p) 13 1 = n13 at *
  generalize numOf (pay9 p) 16 2 = n16 at *
  generalize pay9 p = S at *
  unfold S7.cells
  rw [hopt, hflg]
  have F5 := Lib.hid (F4.out.alloc F4.out.size (.cells #[.int .i64 (seg7 S).src, .int .i64 (seg7 S).dst, .int .u32 (seg7 S).seq, .int .u32 (seg7 S).ack, .int .i64 (n13 : Nat), .int .i64 (seg7 S).win, .int .i64 (seg7 S).urg, .string O, .string (seg7 S).pay] 49))
  have B5 := Lib.hid (Blk.new u4 #[.int .i64 (seg7 S).src, .int .i64 (seg7 S).dst, .int .u32 (seg7 S).seq, .int .u32 (seg7 S).ack, .int .i64 (n13 : Nat), .int .i64 (seg7 S).win, .int .i64 (seg7 S).urg, .string O, .string (seg7 S).pay] 49)
  have d7 := B5.out.cell 7
  have d4 := B5.out.cell 4
  simp only [List.getElem?_toArray, List.getElem?_cons_zero, List.getElem?_cons_succ] at d7 d4
  go_wp2_with fail
  refine (GM.out _).mono ?_
  rintro e u6 ⟨rfl, hb6⟩
  have F6 := Lib.hid (F5.out.trans (hb6.mono F5.out.size))
  have B6 : Hid (Blk u6 u4.heap.size #[.int .i64 (seg7 S).src, .int .i64 (seg7 S).dst, .int .u32 (seg7 S).seq, .int .u32 (seg7 S).ack, .int .i64 (n13 : Nat), .int .i64 (seg7 S).win, .int .i64 (seg7 S).urg, .string O, .string (seg7 S).pay] 49) := (hb6.block _ B5.out.lt).trans B5.out
  clear hb6 F5 F4 GM B5 d7 d4
  have d4 := B6.out.cell 4
  simp only [List.getElem?_toArray, List.getElem?_cons_zero, List.getElem?_cons_succ] at d4
  go_wp2_with fail
  refine ⟨rfl, .tuple #[.int .i64 (fr9 p : Nat), .int .i64 (20 + q : Nat), .int .i64 (n : Nat), .bool true], ?_, rfl, F6.out⟩
  simp [results, Try.results16, go_sem]

set_option maxRecDepth 100000 in
set_option maxHeartbeats 1000000 in
theorem rfind_none6 (p : ByteArray) (w : World) (hs : p.size ≤ 900000) (hE : flowE p = 0) (hp : (flowH p).proto = 6) (hv : ver9 p ≠ 4) (hms : mssOf p = none) :
    Calls Try.prog 16 #[.string p] w (Tells (.tuple #[.int .i64 0, .int .i64 0, .int .i64 0, .bool false]) w) := by
  have G9 := Lib.hid (fun W => refget9_any p W hs)
  unfold Tells at G9 ⊢
  unfold F9.cells at G9
  have K := TcpK.of hE hp
  have GT := Lib.hid (fun W => refget7_any (pay9 p) W (by have := K.size; omega))
  have GM := Lib.hid (fun W => refmss_any ((pay9 p).extract 20 (off7 (pay9 p))) W (by rw [ByteArray.size_extract]; have := K.size; omega))
  unfold Ref7Got at GT
  unfold RefMssEnd at GM
  rw [K.seg, K.num, K.err] at GT
  have hm2 : mssL ((pay9 p).extract 20 (off7 (pay9 p))).data.toList = none := hms
  rw [hm2] at GM
  simp only [mN, mA, Option.isSome_none] at GM
  have ex := K.pay
  have hfr := K.fr
  have hfl := K.flg
  have hsz := K.size
  have hsr := (SrcK.of hE).six hv
  obtain ⟨hsr, hfe⟩ := hsr
  have t3 : ((((flowH p).src.size : Nat) : Int) == 4) = false := by simp; omega
  have HFE := Lib.hid hfe
  clear hfe
  have t1 : ((flowE p : Int) != 0) = false := by simp; omega
  have t2 : ((flowH p).proto != 6) = false := by simp; omega
  clear hE hp hm2 hms K hv hsr
  go_enter Try.func16, Try.ntmps16
  go_wp2_with fail
  refine (G9.out _).mono ?_
  rintro e u1 ⟨rfl, hb1⟩
  have F1 := Lib.hid hb1
  clear hb1 G9
  generalize flowE p = E at *
  generalize flowH p = h at *
  have F2 := Lib.hid (F1.out.alloc F1.out.size (.cells #[.int .i64 h.proto, .string h.src, .string h.dst, .int .i64 h.sp, .int .i64 h.dp] 30))
  have B2 := Lib.hid (Blk.new u1 #[.int .i64 h.proto, .string h.src, .string h.dst, .int .i64 h.sp, .int .i64 h.dp] 30)
  have c0 := B2.out.cell 0
  have c1 := B2.out.cell 1
  simp only [List.getElem?_toArray, List.getElem?_cons_zero, List.getElem?_cons_succ] at c0 c1
  clear F1
  have b1 : (0 : Int) ≤ (fr9 p : Int) := by omega
  have b2 : ((fr9 p : Nat) : Int) ≤ (p.size : Int) := by omega
  have hfe := HFE.out
  rw [hfe] at ex b2
  have b3 : (40 : Int) ≤ (p.size : Int) := by omega
  clear hfe
  go_wp2_with fail
  clear c0 c1 t1 t2 t3
  refine (GT.out _).mono ?_
  rintro e u4 ⟨rfl, hb4⟩
  have F4 := Lib.hid (F2.out.trans (hb4.mono F2.out.size))
  clear hb4 F2 B2 GT ex
  have hopt : (seg7 (pay9 p)).opt = (pay9 p).extract 20 (off7 (pay9 p)) := rfl
  have hflg : (seg7 (pay9 p)).flg = (numOf (pay9 p) 13 1 : Nat) := rfl
  generalize (pay9 p).extract 20 (off7 (pay9 p)) = O at *
  generalize numOf (pay9 p) 13 1 = n13 at *
  generalize numOf (pay9 p) 16 2 = n16 at *
  generalize pay9 p = S at *
  unfold S7.cells
  rw [hopt, hflg]
  have F5 := Lib.hid (F4.out.alloc F4.out.size (.cells #[.int .i64 (seg7 S).src, .int .i64 (seg7 S).dst, .int .u32 (seg7 S).seq, .int .u32 (seg7 S).ack, .int .i64 (n13 : Nat), .int .i64 (seg7 S).win, .int .i64 (seg7 S).urg, .string O, .string (seg7 S).pay] 49))
  have B5 := Lib.hid (Blk.new u4 #[.int .i64 (seg7 S).src, .int .i64 (seg7 S).dst, .int .u32 (seg7 S).seq, .int .u32 (seg7 S).ack, .int .i64 (n13 : Nat), .int .i64 (seg7 S).win, .int .i64 (seg7 S).urg, .string O, .string (seg7 S).pay] 49)
  have d7 := B5.out.cell 7
  have d4 := B5.out.cell 4
  simp only [List.getElem?_toArray, List.getElem?_cons_zero, List.getElem?_cons_succ] at d7 d4
  go_wp2_with fail
  refine (GM.out _).mono ?_
  rintro e u6 ⟨rfl, hb6⟩
  have F6 := Lib.hid (F5.out.trans (hb6.mono F5.out.size))
  have B6 : Hid (Blk u6 u4.heap.size #[.int .i64 (seg7 S).src, .int .i64 (seg7 S).dst, .int .u32 (seg7 S).seq, .int .u32 (seg7 S).ack, .int .i64 (n13 : Nat), .int .i64 (seg7 S).win, .int .i64 (seg7 S).urg, .string O, .string (seg7 S).pay] 49) := (hb6.block _ B5.out.lt).trans B5.out
  clear hb6 F5 F4 GM B5 d7 d4
  have d4 := B6.out.cell 4
  simp only [List.getElem?_toArray, List.getElem?_cons_zero, List.getElem?_cons_succ] at d4
  go_wp2_with fail
  refine ⟨rfl, .tuple #[.int .i64 0, .int .i64 0, .int .i64 0, .bool false], ?_, rfl, F6.out⟩
  simp [results, Try.results16, go_sem]

set_option maxRecDepth 100000 in
set_option maxHeartbeats 1000000 in
theorem rfind_mute6 (p : ByteArray) (w : World) (hs : p.size ≤ 900000) (hE : flowE p = 0) (hp : (flowH p).proto = 6) (hv : ver9 p ≠ 4) (n q : Nat) (hms : mssOf p = some (n, q)) (hsy : numOf (pay9 p) 13 1 / 2 % 2 = 0) :
    Calls Try.prog 16 #[.string p] w (Tells (.tuple #[.int .i64 0, .int .i64 0, .int .i64 0, .bool false]) w) := by
  have G9 := Lib.hid (fun W => refget9_any p W hs)
  unfold Tells at G9 ⊢
  unfold F9.cells at G9
  have K := TcpK.of hE hp
  have GT := Lib.hid (fun W => refget7_any (pay9 p) W (by have := K.size; omega))
  have GM := Lib.hid (fun W => refmss_any ((pay9 p).extract 20 (off7 (pay9 p))) W (by rw [ByteArray.size_extract]; have := K.size; omega))
  unfold Ref7Got at GT
  unfold RefMssEnd at GM
  rw [K.seg, K.num, K.err] at GT
  have hm2 : mssL ((pay9 p).extract 20 (off7 (pay9 p))).data.toList = some (n, q) := hms
  rw [hm2] at GM
  simp only [mN, mA, Option.isSome_some] at GM
  have ex := K.pay
  have hfr := K.fr
  have hfl := K.flg
  have hsz := K.size
  have hsr := (SrcK.of hE).six hv
  obtain ⟨hsr, hfe⟩ := hsr
  have t3 : ((((flowH p).src.size : Nat) : Int) == 4) = false := by simp; omega
  have HFE := Lib.hid hfe
  clear hfe
  have em : ((numOf (pay9 p) 13 1 : Int) / 2 % 2 == 0) = true := by simp; omega
  clear hsy
  have t1 : ((flowE p : Int) != 0) = false := by simp; omega
  have t2 : ((flowH p).proto != 6) = false := by simp; omega
  clear hE hp hm2 hms K hv hsr
  go_enter Try.func16, Try.ntmps16
  go_wp2_with fail
  refine (G9.out _).mono ?_
  rintro e u1 ⟨rfl, hb1⟩
  have F1 := Lib.hid hb1
  clear hb1 G9
  generalize flowE p = E at *
  generalize flowH p = h at *
  have F2 := Lib.hid (F1.out.alloc F1.out.size (.cells #[.int .i64 h.proto, .string h.src, .string h.dst, .int .i64 h.sp, .int .i64 h.dp] 30))
  have B2 := Lib.hid (Blk.new u1 #[.int .i64 h.proto, .string h.src, .string h.dst, .int .i64 h.sp, .int .i64 h.dp] 30)
  have c0 := B2.out.cell 0
  have c1 := B2.out.cell 1
  simp only [List.getElem?_toArray, List.getElem?_cons_zero, List.getElem?_cons_succ] at c0 c1
  clear F1
  have b1 : (0 : Int) ≤ (fr9 p : Int) := by omega
  have b2 : ((fr9 p : Nat) : Int) ≤ (p.size : Int) := by omega
  have hfe := HFE.out
  rw [hfe] at ex b2
  have b3 : (40 : Int) ≤ (p.size : Int) := by omega
  clear hfe
  go_wp2_with fail
  clear c0 c1 t1 t2 t3
  refine (GT.out _).mono ?_
  rintro e u4 ⟨rfl, hb4⟩
  have F4 := Lib.hid (F2.out.trans (hb4.mono F2.out.size))
  clear hb4 F2 B2 GT ex
  have hopt : (seg7 (pay9 p)).opt = (pay9 p).extract 20 (off7 (pay9 p)) := rfl
  have hflg : (seg7 (pay9 p)).flg = (numOf (pay9 p) 13 1 : Nat) := rfl
  generalize (pay9 p).extract 20 (off7 (pay9 p)) = O at *
  generalize numOf (pay9 p) 13 1 = n13 at *
  generalize numOf (pay9 p) 16 2 = n16 at *
  generalize pay9 p = S at *
  unfold S7.cells
  rw [hopt, hflg]
  have F5 := Lib.hid (F4.out.alloc F4.out.size (.cells #[.int .i64 (seg7 S).src, .int .i64 (seg7 S).dst, .int .u32 (seg7 S).seq, .int .u32 (seg7 S).ack, .int .i64 (n13 : Nat), .int .i64 (seg7 S).win, .int .i64 (seg7 S).urg, .string O, .string (seg7 S).pay] 49))
  have B5 := Lib.hid (Blk.new u4 #[.int .i64 (seg7 S).src, .int .i64 (seg7 S).dst, .int .u32 (seg7 S).seq, .int .u32 (seg7 S).ack, .int .i64 (n13 : Nat), .int .i64 (seg7 S).win, .int .i64 (seg7 S).urg, .string O, .string (seg7 S).pay] 49)
  have d7 := B5.out.cell 7
  have d4 := B5.out.cell 4
  simp only [List.getElem?_toArray, List.getElem?_cons_zero, List.getElem?_cons_succ] at d7 d4
  go_wp2_with fail
  refine (GM.out _).mono ?_
  rintro e u6 ⟨rfl, hb6⟩
  have F6 := Lib.hid (F5.out.trans (hb6.mono F5.out.size))
  have B6 : Hid (Blk u6 u4.heap.size #[.int .i64 (seg7 S).src, .int .i64 (seg7 S).dst, .int .u32 (seg7 S).seq, .int .u32 (seg7 S).ack, .int .i64 (n13 : Nat), .int .i64 (seg7 S).win, .int .i64 (seg7 S).urg, .string O, .string (seg7 S).pay] 49) := (hb6.block _ B5.out.lt).trans B5.out
  clear hb6 F5 F4 GM B5 d7 d4
  have d4 := B6.out.cell 4
  simp only [List.getElem?_toArray, List.getElem?_cons_zero, List.getElem?_cons_succ] at d4
  go_wp2_with fail
  refine ⟨rfl, .tuple #[.int .i64 0, .int .i64 0, .int .i64 0, .bool false], ?_, rfl, F6.out⟩
  simp [results, Try.results16, go_sem]

set_option maxRecDepth 100000 in
set_option maxHeartbeats 1000000 in
theorem rfind_yes6 (p : ByteArray) (w : World) (hs : p.size ≤ 900000) (hE : flowE p = 0) (hp : (flowH p).proto = 6) (hv : ver9 p ≠ 4) (n q : Nat) (hms : mssOf p = some (n, q)) (hsy : numOf (pay9 p) 13 1 / 2 % 2 = 1) (hq : q ≤ 900000) :
    Calls Try.prog 16 #[.string p] w (Tells (.tuple #[.int .i64 (fr9 p : Nat), .int .i64 (20 + q : Nat), .int .i64 (n : Nat), .bool true]) w) := by
  have G9 := Lib.hid (fun W => refget9_any p W hs)
  unfold Tells at G9 ⊢
  unfold F9.cells at G9
  have K := TcpK.of hE hp
  have GT := Lib.hid (fun W => refget7_any (pay9 p) W (by have := K.size; omega))
  have GM := Lib.hid (fun W => refmss_any ((pay9 p).extract 20 (off7 (pay9 p))) W (by rw [ByteArray.size_extract]; have := K.size; omega))
  unfold Ref7Got at GT
  unfold RefMssEnd at GM
  rw [K.seg, K.num, K.err] at GT
  have hm2 : mssL ((pay9 p).extract 20 (off7 (pay9 p))).data.toList = some (n, q) := hms
  rw [hm2] at GM
  simp only [mN, mA, Option.isSome_some] at GM
  have ex := K.pay
  have hfr := K.fr
  have hfl := K.flg
  have hsz := K.size
  have hsr := (SrcK.of hE).six hv
  obtain ⟨hsr, hfe⟩ := hsr
  have t3 : ((((flowH p).src.size : Nat) : Int) == 4) = false := by simp; omega
  have HFE := Lib.hid hfe
  clear hfe
  have em : ((numOf (pay9 p) 13 1 : Int) / 2 % 2 == 0) = false := by simp; omega
  clear hsy
  have t1 : ((flowE p : Int) != 0) = false := by simp; omega
  have t2 : ((flowH p).proto != 6) = false := by simp; omega
  clear hE hp hm2 hms K hv hsr
  go_enter Try.func16, Try.ntmps16
  go_wp2_with fail
  refine (G9.out _).mono ?_
  rintro e u1 ⟨rfl, hb1⟩
  have F1 := Lib.hid hb1
  clear hb1 G9
  generalize flowE p = E at *
  generalize flowH p = h at *
  have F2 := Lib.hid (F1.out.alloc F1.out.size (.cells #[.int .i64 h.proto, .string h.src, .string h.dst, .int .i64 h.sp, .int .i64 h.dp] 30))
  have B2 := Lib.hid (Blk.new u1 #[.int .i64 h.proto, .string h.src, .string h.dst, .int .i64 h.sp, .int .i64 h.dp] 30)
  have c0 := B2.out.cell 0
  have c1 := B2.out.cell 1
  simp only [List.getElem?_toArray, List.getElem?_cons_zero, List.getElem?_cons_succ] at c0 c1
  clear F1
  have b1 : (0 : Int) ≤ (fr9 p : Int) := by omega
  have b2 : ((fr9 p : Nat) : Int) ≤ (p.size : Int) := by omega
  have hfe := HFE.out
  rw [hfe] at ex b2
  have b3 : (40 : Int) ≤ (p.size : Int) := by omega
  clear hfe
  go_wp2_with fail
  clear c0 c1 t1 t2 t3
  refine (GT.out _).mono ?_
  rintro e u4 ⟨rfl, hb4⟩
  have F4 := Lib.hid (F2.out.trans (hb4.mono F2.out.size))
  clear hb4 F2 B2 GT ex
  have hopt : (seg7 (pay9 p)).opt = (pay9 p).extract 20 (off7 (pay9 p)) := rfl
  have hflg : (seg7 (pay9 p)).flg = (numOf (pay9 p) 13 1 : Nat) := rfl
  generalize (pay9 p).extract 20 (off7 (pay9 p)) = O at *
  generalize numOf (pay9 p) 13 1 = n13 at *
  generalize numOf (pay9 p) 16 2 = n16 at *
  generalize pay9 p = S at *
  unfold S7.cells
  rw [hopt, hflg]
  have F5 := Lib.hid (F4.out.alloc F4.out.size (.cells #[.int .i64 (seg7 S).src, .int .i64 (seg7 S).dst, .int .u32 (seg7 S).seq, .int .u32 (seg7 S).ack, .int .i64 (n13 : Nat), .int .i64 (seg7 S).win, .int .i64 (seg7 S).urg, .string O, .string (seg7 S).pay] 49))
  have B5 := Lib.hid (Blk.new u4 #[.int .i64 (seg7 S).src, .int .i64 (seg7 S).dst, .int .u32 (seg7 S).seq, .int .u32 (seg7 S).ack, .int .i64 (n13 : Nat), .int .i64 (seg7 S).win, .int .i64 (seg7 S).urg, .string O, .string (seg7 S).pay] 49)
  have d7 := B5.out.cell 7
  have d4 := B5.out.cell 4
  simp only [List.getElem?_toArray, List.getElem?_cons_zero, List.getElem?_cons_succ] at d7 d4
  go_wp2_with fail
  refine (GM.out _).mono ?_
  rintro e u6 ⟨rfl, hb6⟩
  have F6 := Lib.hid (F5.out.trans (hb6.mono F5.out.size))
  have B6 : Hid (Blk u6 u4.heap.size #[.int .i64 (seg7 S).src, .int .i64 (seg7 S).dst, .int .u32 (seg7 S).seq, .int .u32 (seg7 S).ack, .int .i64 (n13 : Nat), .int .i64 (seg7 S).win, .int .i64 (seg7 S).urg, .string O, .string (seg7 S).pay] 49) := (hb6.block _ B5.out.lt).trans B5.out
  clear hb6 F5 F4 GM B5 d7 d4
  have d4 := B6.out.cell 4
  simp only [List.getElem?_toArray, List.getElem?_cons_zero, List.getElem?_cons_succ] at d4
  go_wp2_with fail
  refine ⟨rfl, .tuple #[.int .i64 40, .int .i64 (20 + q : Nat), .int .i64 (n : Nat), .bool true], ?_, by rw [HFE.out]; rfl, F6.out⟩
  simp [results, Try.results16, go_sem]

/-- What the document finds. -/
def rF (p : ByteArray) : Nat := if hasK p then fr9 p else 0
def rA (p : ByteArray) : Nat := if hasK p then 20 + mA (mssOf p) else 0
theorem rfind_any (p : ByteArray) (w : World) (hs : p.size ≤ 900000) :
    Calls Try.prog 16 #[.string p] w (Tells (.tuple #[.int .i64 (rF p : Nat), .int .i64 (rA p : Nat), .int .i64 ((mssK p).is_ : Nat), .bool (hasK p)]) w) := by
  cases hk : hasK p with
  | true =>
    obtain ⟨n, q, h⟩ := HasK.of hk
    have hF : rF p = fr9 p := by unfold rF; rw [hk]; rfl
    have hA : rA p = 20 + q := by unfold rA; rw [hk, h.mss]; rfl
    rw [h.tells, hF, hA]
    have hL := h.lies
    have hE := flowE_zero.2 h.good
    have hp : (flowH p).proto = 6 := by rw [flowH_ok hE]; exact h.tcp
    by_cases hv : ver9 p = 4
    · exact rfind_yes4 p w hs hE hp hv n q h.mss h.syn (by have := hL.fit; have := hL.size; omega)
    · exact rfind_yes6 p w hs hE hp hv n q h.mss h.syn (by have := hL.fit; have := hL.size; omega)
  | false =>
    have hm : (mssK p).is_ = 0 := by unfold mssK; rw [hk]; rfl
    have hF : rF p = 0 := by unfold rF; rw [hk]; rfl
    have hA : rA p = 0 := by unfold rA; rw [hk]; rfl
    rw [hm, hF, hA]
    by_cases hE : flowE p = 0
    case neg => exact rfind_err p w hs hE
    by_cases hp : (flowH p).proto = 6
    case neg => exact rfind_other p w hs hE hp
    have K := TcpK.of hE hp
    cases hms : mssOf p with
    | none =>
      by_cases hv : ver9 p = 4
      · exact rfind_none4 p w hs hE hp hv hms
      · exact rfind_none6 p w hs hE hp hv hms
    | some v =>
      obtain ⟨n, q⟩ := v
      by_cases hsy : numOf (pay9 p) 13 1 / 2 % 2 = 1
      · unfold hasK at hk
        rw [hE, K.tcp, hms, hsy] at hk
        simp at hk
      · by_cases hv : ver9 p = 4
        · exact rfind_mute4 p w hs hE hp hv n q hms (by omega)
        · exact rfind_mute6 p w hs hE hp hv n q hms (by omega)

set_option maxRecDepth 100000 in
set_option maxHeartbeats 1000000 in
theorem rmss_any (p : ByteArray) (w : World) (hs : p.size ≤ 900000) :
    Calls Try.prog 10 #[.string p] w (Tells (.tuple #[.int .i64 ((mssK p).is_ : Nat), .bool (hasK p)]) w) := by
  have G := Lib.hid (fun W => rfind_any p W hs)
  unfold Tells at G ⊢
  generalize rF p = a at *
  generalize rA p = b at *
  generalize (mssK p).is_ = n at *
  generalize hasK p = h at *
  go_enter Try.func10, Try.ntmps10
  go_wp2_with fail
  refine (G.out _).mono ?_
  rintro e u ⟨rfl, hb⟩
  have L := Lib.hid hb
  clear hb G
  go_wp2_with fail
  go_ret2
  exact ⟨rfl, L.out⟩

set_option maxRecDepth 100000 in
set_option maxHeartbeats 1000000 in
theorem rlimit_any (mtu over : Int) (six : Bool) (w : World) (h1 : -1099511627776 ≤ mtu) (h2 : mtu ≤ 1099511627776) (h3 : -1099511627776 ≤ over) (h4 : over ≤ 1099511627776) :
    Calls Try.prog 14 #[.int .i64 mtu, .int .i64 over, .bool six] w fun e w' => e = .returned (.int .i64 (nearK (mtu - over - if six then 60 else 40) : Nat)) ∧ w = w' := by
  have key : ∀ x : Int, (x < 0 ∧ nearK x = 0) ∨ (65535 < x ∧ nearK x = 65535) ∨ (0 ≤ x ∧ x ≤ 65535 ∧ ((nearK x : Nat) : Int) = x) := by
    intro x; unfold nearK; omega
  cases six with
  | true =>
    simp only [if_true]
    rcases key (mtu - over - 60) with ⟨k1, k2⟩ | ⟨k1, k2⟩ | ⟨k1, k2, k3⟩
    · rw [k2]
      go_enter Try.func14, Try.ntmps14
      go_wp2_with fail
      go_ret
      exact ⟨rfl, rfl⟩
    · rw [k2]
      go_enter Try.func14, Try.ntmps14
      go_wp2_with fail
      go_ret
      exact ⟨rfl, rfl⟩
    · rw [k3]
      clear k3
      go_enter Try.func14, Try.ntmps14
      go_wp2_with fail
      go_ret
      exact ⟨rfl, rfl⟩
  | false =>
    simp only [Bool.false_eq_true, if_false]
    rcases key (mtu - over - 40) with ⟨k1, k2⟩ | ⟨k1, k2⟩ | ⟨k1, k2, k3⟩
    · rw [k2]
      go_enter Try.func14, Try.ntmps14
      go_wp2_with fail
      go_ret
      exact ⟨rfl, rfl⟩
    · rw [k2]
      go_enter Try.func14, Try.ntmps14
      go_wp2_with fail
      go_ret
      exact ⟨rfl, rfl⟩
    · rw [k3]
      clear k3
      go_enter Try.func14, Try.ntmps14
      go_wp2_with fail
      go_ret
      exact ⟨rfl, rfl⟩

end Go.Proofs.Ytppobficnjpdiaa
