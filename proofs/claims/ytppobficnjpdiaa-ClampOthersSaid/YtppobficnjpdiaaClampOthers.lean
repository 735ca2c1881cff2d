/-
  ClampOthers returns true at every input.
-/
import Derived.Test.YtppobficnjpdiaaClampAwake
import Derived.Test.YtppobficnjpdiaaClampRef
namespace Go.Proofs.Ytppobficnjpdiaa
open Go.RowKit
set_option linter.unusedVariables false

theorem u8_and (a b : Nat) (ha : a < 256) (hb : b < 256) : bits .and .u8 (a : Int) (b : Int) = ((a &&& b : Nat) : Int) := by
  show IntKind.u8.wrap ((BitVec.ofInt 8 (a : Int) &&& BitVec.ofInt 8 (b : Int)).toNat : Nat) = _
  rw [BitVec.ofInt_natCast, BitVec.ofInt_natCast, BitVec.toNat_and, BitVec.toNat_ofNat, BitVec.toNat_ofNat, Nat.mod_eq_of_lt (by omega), Nat.mod_eq_of_lt (by omega), IntKind.wrap_u8]
  have := Nat.and_le_left (n := a) (m := b)
  omega
theorem u8_and15 (a : Nat) (ha : a < 256) : bits .and .u8 (a : Int) 15 = (a : Int) % 16 := by
  have e := u8_and a 15 ha (by omega)
  rw [show a &&& 15 = a % 16 from Nat.and_two_pow_sub_one_eq_mod a 4] at e
  exact e.trans (by omega)
theorem u8_and2 (a : Nat) (ha : a < 256) : bits .and .u8 (a : Int) 2 = if a / 2 % 2 = 1 then 2 else 0 := by
  have e := u8_and a 2 ha (by omega)
  rw [show a &&& 2 = if a / 2 % 2 = 1 then 2 else 0 from and_pow a 1] at e
  refine e.trans ?_
  split <;> rfl

theorem num_behind (p : ByteArray) (f i k : Nat) : numOf (p.extract f p.size) i k = numOf p (f + i) k := by
  have hl : (p.extract f p.size).data.toList = p.data.toList.drop f := by rw [sl_ext, sl_all]
  have e : (p.extract f p.size).extract i (i + k) = p.extract (f + i) (f + i + k) := by
    apply text_ext
    rw [sl_ext, sl_ext]
    unfold sl
    rw [hl, List.take_drop, List.drop_drop, ← Nat.add_assoc]
  show val ((p.extract f p.size).extract i (i + k)).data.toList = val (p.extract (f + i) (f + i + k)).data.toList
  rw [e]
/-- The flags' byte. -/
theorem flag_at {p : ByteArray} (hE : flowE p = 0) (hp : (flowH p).proto = 6) (k : Nat) (hk : k = fr9 p + 13) : ∃ h : k < p.size, (p[k]'h).toNat = numOf (pay9 p) 13 1 := by
  subst hk
  have K := TcpK.of hE hp
  have g7 := get7E_zero.1 K.err
  have l := g7.short
  have hz : (pay9 p).size = p.size - fr9 p := by rw [← K.pay, ByteArray.size_extract]; omega
  have h : fr9 p + 13 < p.size := by omega
  refine ⟨h, ?_⟩
  have e : numOf (pay9 p) 13 1 = numOf p (fr9 p + 13) 1 := by rw [← K.pay]; exact num_behind p (fr9 p) 13 1
  rw [e, numOf_one p _ h]

set_option maxRecDepth 100000 in
set_option maxHeartbeats 1000000 in
theorem coth_far (p : ByteArray) (lim : Int) (w : World) (hp : p.size ≤ 140737488355328) (h5 : 5000 < p.size) :
    Calls Try.prog 7 #[.string p, .int .i64 lim] w (AwakeEnd w) := by
  have HA := Lib.hid (awakeK_any w)
  go_enter Try.func7, Try.ntmps7
  go_wp2_with fail
  refine HA.out.mono ?_
  rintro e w1 ⟨rfl, hb1⟩
  have B1 := Lib.hid hb1
  clear hb1 HA
  go_wp2_with fail
  go_ret
  exact ⟨rfl, B1.out⟩

set_option maxRecDepth 100000 in
set_option maxHeartbeats 1000000 in
theorem coth_err (p : ByteArray) (lim : Int) (w : World) (h5 : p.size ≤ 5000) (hk : hasK p = false) (hE : flowE p ≠ 0) :
    Calls Try.prog 7 #[.string p, .int .i64 lim] w (AwakeEnd w) := by
  have HA := Lib.hid (awakeK_any w)
  have G1 := Lib.hid (fun W => mss_any' p W (by omega))
  have G2 := Lib.hid (fun W => get9_any p W (by omega))
  have G3 := Lib.hid (fun W => clamp_any p lim W (by omega))
  unfold Tells at G1 G2 G3
  unfold F9.cells at G2
  have hm : (mssK p).is_ = 0 := by unfold mssK; rw [hk]; rfl
  rw [hk, hm] at G1
  rw [clampK_none _ hk] at G3
  have t1 : ((flowE p : Int) != 0) = true := by simp; omega
  clear hE
  clear hk hm
  generalize flowE p = E at *
  generalize flowH p = f at *
  go_enter Try.func7, Try.ntmps7
  go_wp2_with fail
  refine HA.out.mono ?_
  rintro e w1 ⟨rfl, hb1⟩
  have B1 := Lib.hid hb1
  clear hb1 HA
  go_wp2_with fail
  refine (G1.out _).mono ?_
  rintro e w2 ⟨rfl, hb2⟩
  have B2 := Lib.hid (B1.out.trans (hb2.mono B1.out.size))
  clear hb2 B1 G1
  go_wp2_with fail
  refine (G2.out _).mono ?_
  rintro e w3 ⟨rfl, hb3⟩
  have B3 := Lib.hid (B2.out.trans (hb3.mono B2.out.size))
  clear hb3 B2 G2
  have L4 := Lib.hid (B3.out.alloc B3.out.size (.cells #[.int .i64 f.proto, .string f.src, .string f.dst, .int .i64 f.sp, .int .i64 f.dp] 30))
  have N4 := Lib.hid (Blk.new w3 #[.int .i64 f.proto, .string f.src, .string f.dst, .int .i64 f.sp, .int .i64 f.dp] 30)
  have c0 := N4.out.cell 0
  have c1 := N4.out.cell 1
  simp only [List.getElem?_toArray, List.getElem?_cons_zero, List.getElem?_cons_succ] at c0 c1
  go_wp2_with fail
  refine (G3.out _).mono ?_
  rintro e w5 ⟨rfl, hb5⟩
  have B5 := Lib.hid (L4.out.trans (hb5.mono L4.out.size))
  go_wp2_with fail
  go_ret
  exact ⟨rfl, B5.out⟩

set_option maxRecDepth 100000 in
set_option maxHeartbeats 1000000 in
theorem coth_other (p : ByteArray) (lim : Int) (w : World) (h5 : p.size ≤ 5000) (hk : hasK p = false) (hE : flowE p = 0) (hpr : (flowH p).proto ≠ 6) :
    Calls Try.prog 7 #[.string p, .int .i64 lim] w (AwakeEnd w) := by
  have HA := Lib.hid (awakeK_any w)
  have G1 := Lib.hid (fun W => mss_any' p W (by omega))
  have G2 := Lib.hid (fun W => get9_any p W (by omega))
  have G3 := Lib.hid (fun W => clamp_any p lim W (by omega))
  unfold Tells at G1 G2 G3
  unfold F9.cells at G2
  have hm : (mssK p).is_ = 0 := by unfold mssK; rw [hk]; rfl
  rw [hk, hm] at G1
  rw [clampK_none _ hk] at G3
  have t1 : ((flowE p : Int) != 0) = false := by simp; omega
  have t2 : ((flowH p).proto != 6) = true := by simp; omega
  clear hE hpr
  clear hk hm
  generalize flowE p = E at *
  generalize flowH p = f at *
  go_enter Try.func7, Try.ntmps7
  go_wp2_with fail
  refine HA.out.mono ?_
  rintro e w1 ⟨rfl, hb1⟩
  have B1 := Lib.hid hb1
  clear hb1 HA
  go_wp2_with fail
  refine (G1.out _).mono ?_
  rintro e w2 ⟨rfl, hb2⟩
  have B2 := Lib.hid (B1.out.trans (hb2.mono B1.out.size))
  clear hb2 B1 G1
  go_wp2_with fail
  refine (G2.out _).mono ?_
  rintro e w3 ⟨rfl, hb3⟩
  have B3 := Lib.hid (B2.out.trans (hb3.mono B2.out.size))
  clear hb3 B2 G2
  have L4 := Lib.hid (B3.out.alloc B3.out.size (.cells #[.int .i64 f.proto, .string f.src, .string f.dst, .int .i64 f.sp, .int .i64 f.dp] 30))
  have N4 := Lib.hid (Blk.new w3 #[.int .i64 f.proto, .string f.src, .string f.dst, .int .i64 f.sp, .int .i64 f.dp] 30)
  have c0 := N4.out.cell 0
  have c1 := N4.out.cell 1
  simp only [List.getElem?_toArray, List.getElem?_cons_zero, List.getElem?_cons_succ] at c0 c1
  go_wp2_with fail
  refine (G3.out _).mono ?_
  rintro e w5 ⟨rfl, hb5⟩
  have B5 := Lib.hid (L4.out.trans (hb5.mono L4.out.size))
  go_wp2_with fail
  go_ret
  exact ⟨rfl, B5.out⟩

set_option maxRecDepth 100000 in
set_option maxHeartbeats 1000000 in
theorem coth_yes4 (p : ByteArray) (lim : Int) (w : World) (h5 : p.size ≤ 5000) (hk : hasK p = true) (hE : flowE p = 0) (hpr : (flowH p).proto = 6) (hv : ver9 p = 4) (hsy : numOf (pay9 p) 13 1 / 2 % 2 = 1) :
    Calls Try.prog 7 #[.string p, .int .i64 lim] w (AwakeEnd w) := by
  have HA := Lib.hid (awakeK_any w)
  have G1 := Lib.hid (fun W => mss_any' p W (by omega))
  have G2 := Lib.hid (fun W => get9_any p W (by omega))
  have G3 := Lib.hid (fun W => clamp_any p lim W (by omega))
  unfold Tells at G1 G2 G3
  unfold F9.cells at G2
  rw [hk] at G1
  obtain ⟨hsr, h0, hfe⟩ := (SrcK.of hE).four hv
  have t3 : ((((flowH p).src.size : Nat) : Int) == 4) = true := by simp; omega
  obtain ⟨k, hk13⟩ : ∃ k, k = fr9 p + 13 := ⟨_, rfl⟩
  obtain ⟨hi, hx⟩ := flag_at hE hpr k hk13
  have hlt : (0 : Int) < (p.size : Int) := by omega
  have l0 := (p[0]'h0).toNat_lt
  have em0 := u8_and15 (p[0]'h0).toNat l0
  generalize hp0 : (p[0]'h0).toNat = c0' at *
  generalize fr9 p = fr at *
  have e13 : IntKind.i64.wrap ((fr : Int) + 13) = (k : Int) := (IntWalk.i64_in _ (by omega)).trans (by omega)
  have hk2 : (0 : Int) ≤ (k : Int) := by omega
  have hk3 : (k : Int) < (p.size : Int) := by omega
  have HK13 := Lib.hid hk13
  clear hk13
  have lx := (p[k]'hi).toNat_lt
  have emx := u8_and2 (p[k]'hi).toNat lx
  generalize hpx : (p[k]'hi).toNat = x at *
  rw [if_pos (by rw [hx]; exact hsy)] at emx
  clear hsy hx
  have t1 : ((flowE p : Int) != 0) = false := by simp; omega
  have t2 : ((flowH p).proto != 6) = false := by simp; omega
  clear hE hpr hk hv hsr
  generalize (mssK p).is_ = n at *
  generalize flowE p = E at *
  generalize flowH p = f at *
  go_enter Try.func7, Try.ntmps7
  go_wp2_with fail
  refine HA.out.mono ?_
  rintro e w1 ⟨rfl, hb1⟩
  have B1 := Lib.hid hb1
  clear hb1 HA
  go_wp2_with fail
  refine (G1.out _).mono ?_
  rintro e w2 ⟨rfl, hb2⟩
  have B2 := Lib.hid (B1.out.trans (hb2.mono B1.out.size))
  clear hb2 B1 G1
  go_wp2_with fail
  refine (G2.out _).mono ?_
  rintro e w3 ⟨rfl, hb3⟩
  have B3 := Lib.hid (B2.out.trans (hb3.mono B2.out.size))
  clear hb3 B2 G2
  have L4 := Lib.hid (B3.out.alloc B3.out.size (.cells #[.int .i64 f.proto, .string f.src, .string f.dst, .int .i64 f.sp, .int .i64 f.dp] 30))
  have N4 := Lib.hid (Blk.new w3 #[.int .i64 f.proto, .string f.src, .string f.dst, .int .i64 f.sp, .int .i64 f.dp] 30)
  have c0 := N4.out.cell 0
  have c1 := N4.out.cell 1
  simp only [List.getElem?_toArray, List.getElem?_cons_zero, List.getElem?_cons_succ] at c0 c1
  go_wp2_with fail
  go_ret
  exact ⟨rfl, L4.out⟩

set_option maxRecDepth 100000 in
set_option maxHeartbeats 1000000 in
theorem coth_no4 (p : ByteArray) (lim : Int) (w : World) (h5 : p.size ≤ 5000) (hk : hasK p = false) (hE : flowE p = 0) (hpr : (flowH p).proto = 6) (hv : ver9 p = 4)  :
    Calls Try.prog 7 #[.string p, .int .i64 lim] w (AwakeEnd w) := by
  have HA := Lib.hid (awakeK_any w)
  have G1 := Lib.hid (fun W => mss_any' p W (by omega))
  have G2 := Lib.hid (fun W => get9_any p W (by omega))
  have G3 := Lib.hid (fun W => clamp_any p lim W (by omega))
  unfold Tells at G1 G2 G3
  unfold F9.cells at G2
  have hm : (mssK p).is_ = 0 := by unfold mssK; rw [hk]; rfl
  rw [hk, hm] at G1
  rw [clampK_none _ hk] at G3
  obtain ⟨hsr, h0, hfe⟩ := (SrcK.of hE).four hv
  have t3 : ((((flowH p).src.size : Nat) : Int) == 4) = true := by simp; omega
  obtain ⟨k, hk13⟩ : ∃ k, k = fr9 p + 13 := ⟨_, rfl⟩
  obtain ⟨hi, hx⟩ := flag_at hE hpr k hk13
  have hlt : (0 : Int) < (p.size : Int) := by omega
  have l0 := (p[0]'h0).toNat_lt
  have em0 := u8_and15 (p[0]'h0).toNat l0
  generalize hp0 : (p[0]'h0).toNat = c0' at *
  generalize fr9 p = fr at *
  have e13 : IntKind.i64.wrap ((fr : Int) + 13) = (k : Int) := (IntWalk.i64_in _ (by omega)).trans (by omega)
  have hk2 : (0 : Int) ≤ (k : Int) := by omega
  have hk3 : (k : Int) < (p.size : Int) := by omega
  have HK13 := Lib.hid hk13
  clear hk13
  have lx := (p[k]'hi).toNat_lt
  have emx := u8_and2 (p[k]'hi).toNat lx
  generalize hpx : (p[k]'hi).toNat = x at *
  have t1 : ((flowE p : Int) != 0) = false := by simp; omega
  have t2 : ((flowH p).proto != 6) = false := by simp; omega
  clear hE hpr hk hv hsr hm hx
  generalize flowE p = E at *
  generalize flowH p = f at *
  by_cases hb : x / 2 % 2 = 1
  · rw [if_pos hb] at emx
    clear hb
    go_enter Try.func7, Try.ntmps7
    go_wp2_with fail
    refine HA.out.mono ?_
    rintro e w1 ⟨rfl, hb1⟩
    have B1 := Lib.hid hb1
    clear hb1 HA
    go_wp2_with fail
    refine (G1.out _).mono ?_
    rintro e w2 ⟨rfl, hb2⟩
    have B2 := Lib.hid (B1.out.trans (hb2.mono B1.out.size))
    clear hb2 B1 G1
    go_wp2_with fail
    refine (G2.out _).mono ?_
    rintro e w3 ⟨rfl, hb3⟩
    have B3 := Lib.hid (B2.out.trans (hb3.mono B2.out.size))
    clear hb3 B2 G2
    have L4 := Lib.hid (B3.out.alloc B3.out.size (.cells #[.int .i64 f.proto, .string f.src, .string f.dst, .int .i64 f.sp, .int .i64 f.dp] 30))
    have N4 := Lib.hid (Blk.new w3 #[.int .i64 f.proto, .string f.src, .string f.dst, .int .i64 f.sp, .int .i64 f.dp] 30)
    have c0 := N4.out.cell 0
    have c1 := N4.out.cell 1
    simp only [List.getElem?_toArray, List.getElem?_cons_zero, List.getElem?_cons_succ] at c0 c1
    go_wp2_with fail
    refine (G3.out _).mono ?_
    rintro e w5 ⟨rfl, hb5⟩
    have B5 := Lib.hid (L4.out.trans (hb5.mono L4.out.size))
    go_wp2_with fail
    go_ret
    exact ⟨rfl, B5.out⟩
  · rw [if_neg hb] at emx
    clear hb
    go_enter Try.func7, Try.ntmps7
    go_wp2_with fail
    refine HA.out.mono ?_
    rintro e w1 ⟨rfl, hb1⟩
    have B1 := Lib.hid hb1
    clear hb1 HA
    go_wp2_with fail
    refine (G1.out _).mono ?_
    rintro e w2 ⟨rfl, hb2⟩
    have B2 := Lib.hid (B1.out.trans (hb2.mono B1.out.size))
    clear hb2 B1 G1
    go_wp2_with fail
    refine (G2.out _).mono ?_
    rintro e w3 ⟨rfl, hb3⟩
    have B3 := Lib.hid (B2.out.trans (hb3.mono B2.out.size))
    clear hb3 B2 G2
    have L4 := Lib.hid (B3.out.alloc B3.out.size (.cells #[.int .i64 f.proto, .string f.src, .string f.dst, .int .i64 f.sp, .int .i64 f.dp] 30))
    have N4 := Lib.hid (Blk.new w3 #[.int .i64 f.proto, .string f.src, .string f.dst, .int .i64 f.sp, .int .i64 f.dp] 30)
    have c0 := N4.out.cell 0
    have c1 := N4.out.cell 1
    simp only [List.getElem?_toArray, List.getElem?_cons_zero, List.getElem?_cons_succ] at c0 c1
    go_wp2_with fail
    refine (G3.out _).mono ?_
    rintro e w5 ⟨rfl, hb5⟩
    have B5 := Lib.hid (L4.out.trans (hb5.mono L4.out.size))
    go_wp2_with fail
    go_ret
    exact ⟨rfl, B5.out⟩

set_option maxRecDepth 100000 in
set_option maxHeartbeats 1000000 in
theorem coth_yes6 (p : ByteArray) (lim : Int) (w : World) (h5 : p.size ≤ 5000) (hk : hasK p = true) (hE : flowE p = 0) (hpr : (flowH p).proto = 6) (hv : ver9 p ≠ 4) (hsy : numOf (pay9 p) 13 1 / 2 % 2 = 1) :
    Calls Try.prog 7 #[.string p, .int .i64 lim] w (AwakeEnd w) := by
  have HA := Lib.hid (awakeK_any w)
  have G1 := Lib.hid (fun W => mss_any' p W (by omega))
  have G2 := Lib.hid (fun W => get9_any p W (by omega))
  have G3 := Lib.hid (fun W => clamp_any p lim W (by omega))
  unfold Tells at G1 G2 G3
  unfold F9.cells at G2
  rw [hk] at G1
  obtain ⟨hsr, hfe⟩ := (SrcK.of hE).six hv
  have t3 : ((((flowH p).src.size : Nat) : Int) == 4) = false := by simp; omega
  obtain ⟨hi, hx⟩ := flag_at hE hpr 53 (by omega)
  have hlt : (53 : Int) < (p.size : Int) := by omega
  clear hfe
  have lx := (p[53]'hi).toNat_lt
  have emx := u8_and2 (p[53]'hi).toNat lx
  generalize hpx : (p[53]'hi).toNat = x at *
  rw [if_pos (by rw [hx]; exact hsy)] at emx
  clear hsy hx
  have t1 : ((flowE p : Int) != 0) = false := by simp; omega
  have t2 : ((flowH p).proto != 6) = false := by simp; omega
  clear hE hpr hk hv hsr
  generalize (mssK p).is_ = n at *
  generalize flowE p = E at *
  generalize flowH p = f at *
  go_enter Try.func7, Try.ntmps7
  go_wp2_with fail
  refine HA.out.mono ?_
  rintro e w1 ⟨rfl, hb1⟩
  have B1 := Lib.hid hb1
  clear hb1 HA
  go_wp2_with fail
  refine (G1.out _).mono ?_
  rintro e w2 ⟨rfl, hb2⟩
  have B2 := Lib.hid (B1.out.trans (hb2.mono B1.out.size))
  clear hb2 B1 G1
  go_wp2_with fail
  refine (G2.out _).mono ?_
  rintro e w3 ⟨rfl, hb3⟩
  have B3 := Lib.hid (B2.out.trans (hb3.mono B2.out.size))
  clear hb3 B2 G2
  have L4 := Lib.hid (B3.out.alloc B3.out.size (.cells #[.int .i64 f.proto, .string f.src, .string f.dst, .int .i64 f.sp, .int .i64 f.dp] 30))
  have N4 := Lib.hid (Blk.new w3 #[.int .i64 f.proto, .string f.src, .string f.dst, .int .i64 f.sp, .int .i64 f.dp] 30)
  have c0 := N4.out.cell 0
  have c1 := N4.out.cell 1
  simp only [List.getElem?_toArray, List.getElem?_cons_zero, List.getElem?_cons_succ] at c0 c1
  go_wp2_with fail
  go_ret
  exact ⟨rfl, L4.out⟩

set_option maxRecDepth 100000 in
set_option maxHeartbeats 1000000 in
theorem coth_no6 (p : ByteArray) (lim : Int) (w : World) (h5 : p.size ≤ 5000) (hk : hasK p = false) (hE : flowE p = 0) (hpr : (flowH p).proto = 6) (hv : ver9 p ≠ 4)  :
    Calls Try.prog 7 #[.string p, .int .i64 lim] w (AwakeEnd w) := by
  have HA := Lib.hid (awakeK_any w)
  have G1 := Lib.hid (fun W => mss_any' p W (by omega))
  have G2 := Lib.hid (fun W => get9_any p W (by omega))
  have G3 := Lib.hid (fun W => clamp_any p lim W (by omega))
  unfold Tells at G1 G2 G3
  unfold F9.cells at G2
  have hm : (mssK p).is_ = 0 := by unfold mssK; rw [hk]; rfl
  rw [hk, hm] at G1
  rw [clampK_none _ hk] at G3
  obtain ⟨hsr, hfe⟩ := (SrcK.of hE).six hv
  have t3 : ((((flowH p).src.size : Nat) : Int) == 4) = false := by simp; omega
  obtain ⟨hi, hx⟩ := flag_at hE hpr 53 (by omega)
  have hlt : (53 : Int) < (p.size : Int) := by omega
  clear hfe
  have lx := (p[53]'hi).toNat_lt
  have emx := u8_and2 (p[53]'hi).toNat lx
  generalize hpx : (p[53]'hi).toNat = x at *
  have t1 : ((flowE p : Int) != 0) = false := by simp; omega
  have t2 : ((flowH p).proto != 6) = false := by simp; omega
  clear hE hpr hk hv hsr hm hx
  generalize flowE p = E at *
  generalize flowH p = f at *
  by_cases hb : x / 2 % 2 = 1
  · rw [if_pos hb] at emx
    clear hb
    go_enter Try.func7, Try.ntmps7
    go_wp2_with fail
    refine HA.out.mono ?_
    rintro e w1 ⟨rfl, hb1⟩
    have B1 := Lib.hid hb1
    clear hb1 HA
    go_wp2_with fail
    refine (G1.out _).mono ?_
    rintro e w2 ⟨rfl, hb2⟩
    have B2 := Lib.hid (B1.out.trans (hb2.mono B1.out.size))
    clear hb2 B1 G1
    go_wp2_with fail
    refine (G2.out _).mono ?_
    rintro e w3 ⟨rfl, hb3⟩
    have B3 := Lib.hid (B2.out.trans (hb3.mono B2.out.size))
    clear hb3 B2 G2
    have L4 := Lib.hid (B3.out.alloc B3.out.size (.cells #[.int .i64 f.proto, .string f.src, .string f.dst, .int .i64 f.sp, .int .i64 f.dp] 30))
    have N4 := Lib.hid (Blk.new w3 #[.int .i64 f.proto, .string f.src, .string f.dst, .int .i64 f.sp, .int .i64 f.dp] 30)
    have c0 := N4.out.cell 0
    have c1 := N4.out.cell 1
    simp only [List.getElem?_toArray, List.getElem?_cons_zero, List.getElem?_cons_succ] at c0 c1
    go_wp2_with fail
    refine (G3.out _).mono ?_
    rintro e w5 ⟨rfl, hb5⟩
    have B5 := Lib.hid (L4.out.trans (hb5.mono L4.out.size))
    go_wp2_with fail
    go_ret
    exact ⟨rfl, B5.out⟩
  · rw [if_neg hb] at emx
    clear hb
    go_enter Try.func7, Try.ntmps7
    go_wp2_with fail
    refine HA.out.mono ?_
    rintro e w1 ⟨rfl, hb1⟩
    have B1 := Lib.hid hb1
    clear hb1 HA
    go_wp2_with fail
    refine (G1.out _).mono ?_
    rintro e w2 ⟨rfl, hb2⟩
    have B2 := Lib.hid (B1.out.trans (hb2.mono B1.out.size))
    clear hb2 B1 G1
    go_wp2_with fail
    refine (G2.out _).mono ?_
    rintro e w3 ⟨rfl, hb3⟩
    have B3 := Lib.hid (B2.out.trans (hb3.mono B2.out.size))
    clear hb3 B2 G2
    have L4 := Lib.hid (B3.out.alloc B3.out.size (.cells #[.int .i64 f.proto, .string f.src, .string f.dst, .int .i64 f.sp, .int .i64 f.dp] 30))
    have N4 := Lib.hid (Blk.new w3 #[.int .i64 f.proto, .string f.src, .string f.dst, .int .i64 f.sp, .int .i64 f.dp] 30)
    have c0 := N4.out.cell 0
    have c1 := N4.out.cell 1
    simp only [List.getElem?_toArray, List.getElem?_cons_zero, List.getElem?_cons_succ] at c0 c1
    go_wp2_with fail
    refine (G3.out _).mono ?_
    rintro e w5 ⟨rfl, hb5⟩
    have B5 := Lib.hid (L4.out.trans (hb5.mono L4.out.size))
    go_wp2_with fail
    go_ret
    exact ⟨rfl, B5.out⟩

theorem coth_any (p : ByteArray) (lim : Int) (w : World) (hp : p.size ≤ 140737488355328) :
    Calls Try.prog 7 #[.string p, .int .i64 lim] w (AwakeEnd w) := by
  by_cases h5 : 5000 < p.size
  · exact coth_far p lim w hp h5
  have h6 : p.size ≤ 5000 := by omega
  cases hk : hasK p with
  | true =>
    obtain ⟨n, q, h⟩ := HasK.of hk
    have hE := flowE_zero.2 h.good
    have hpr : (flowH p).proto = 6 := by rw [flowH_ok hE]; exact h.tcp
    by_cases hv : ver9 p = 4
    · exact coth_yes4 p lim w h6 hk hE hpr hv h.syn
    · exact coth_yes6 p lim w h6 hk hE hpr hv h.syn
  | false =>
    by_cases hE : flowE p = 0
    · by_cases hpr : (flowH p).proto = 6
      · by_cases hv : ver9 p = 4
        · exact coth_no4 p lim w h6 hk hE hpr hv
        · exact coth_no6 p lim w h6 hk hE hpr hv
      · exact coth_other p lim w h6 hk hE hpr
    · exact coth_err p lim w h6 hk hE

end Go.Proofs.Ytppobficnjpdiaa
