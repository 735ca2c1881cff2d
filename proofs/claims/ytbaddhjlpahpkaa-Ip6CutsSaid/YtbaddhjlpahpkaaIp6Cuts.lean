/-
  Ip6Cuts returns true at every input.
-/
import Derived.Test.YtbaddhjlpahpkaaIp6Back
import Derived.Test.YtbaddhjlpahpkaaTake
import Derived.Deep.CutBlock
import Derived.Deep.DeepCutAuto
namespace Go.Proofs.Ytbaddhjlpahpkaa
open Go.RowKit
set_option linter.unusedVariables false

theorem u8_and15 (a : UInt8) : bits .and .u8 (a.toNat : Int) 15 = ((a.toNat % 16 : Nat) : Int) := by
  have h1 : (BitVec.ofInt 8 (a.toNat : Int)) = a.toBitVec := by rw [BitVec.ofInt_natCast]; simp
  show IntKind.u8.wrap ((BitVec.ofInt 8 (a.toNat : Int) &&& BitVec.ofInt 8 15).toNat : Nat) = _
  rw [h1, BitVec.toNat_and, show (BitVec.ofInt 8 15).toNat = 2 ^ 4 - 1 from rfl, Nat.and_two_pow_sub_one_eq_mod, IntKind.wrap_u8]
  have h2 : a.toBitVec.toNat = a.toNat := rfl
  rw [h2]
  omega
theorem u8_first (v : Nat) (a : UInt8) : ∃ c : UInt8, bits .or .u8 (IntKind.u8.wrap ((v : Int) * 16)) (bits .and .u8 (a.toNat : Int) 15) = (c.toNat : Int) ∧ c.toNat / 16 = v % 16 := by
  refine ⟨UInt8.ofNat (v % 16 * 16 + a.toNat % 16), ?_, ?_⟩
  · rw [u8_and15, IntKind.wrap_u8]
    rw [bits_join .u8 8 (by decide) (fun n h0 h1 => by rw [IntKind.wrap_u8]; have h2 : n < (256 : Int) := h1; omega) 4 _ _ (by omega) (by show _ % (16 : Int) = 0; omega) (by show _ < (256 : Int); omega) (by omega) (by show _ < (16 : Int); omega) (by show _ < (256 : Int); omega)]
    rw [UInt8.toNat_ofNat']
    omega
  · rw [UInt8.toNat_ofNat']
    omega

theorem empty_yes {s : ByteArray} (h : s.size = 0) : s.toList.isEmpty = true := by
  have : s.data.toList.length = 0 := by simpa using h
  rw [ByteArray.toList_eq, List.length_eq_zero_iff.1 this]
  rfl
theorem empty_no {s : ByteArray} (h : ¬ s.size = 0) : s.toList.isEmpty = false := by
  rw [ByteArray.toList_eq]
  cases hl : s.data.toList with
  | nil => exact absurd (by simpa using congrArg List.length hl) h
  | cons a l => rfl
/-- Bytes 00, made in any world. -/
theorem zeros_run (n : Nat) (hn : n ≤ 281474976710656) : ∃ O : Obj, ∀ W : World, (Instr.makeSlice 38 (.int .i64 (n : Int)) (.int .i64 (n : Int))).run Try.prog W = .ok (.slice (some ⟨W.heap.size, 0, none⟩) n n) (W.alloc O) ∧ ByteBlk (W.alloc O) W.heap.size (List.replicate n 0) := by
  refine ⟨.cells (madeCells #[.int .u8 0] n) 5, fun W => ⟨run_make_row' (P := Try.prog) 38 5 (.int .u8 0) 1 Try.underlying38 Try.infoByte rfl .i64 .i64 n (by omega) (by omega) W, ?_⟩⟩
  obtain ⟨c, hc, hs, hi⟩ := World.rowIs_made W (.int .u8 0) n 5
  refine ⟨c, 5, (0, 0), hc, fun j hj => ?_, Or.inr rfl⟩
  rw [hi j (by simpa using hj)]
  simp
/-- What is put into a header's block leaves what was there. -/
theorem Held6.put {w W : World} {h : H6} (r : Held6 w W h) {M : Nat} (hM : w.heap.size < M) (g : H6) : Held6 w (put6c W M g) h :=
  r.kb (put6c_kb (S := (· = M)) (Kb.refl _ W) (fun _ => rfl) g) (fun k e => by rw [e]; exact hM)

set_option maxRecDepth 100000 in
set_option maxHeartbeats 2000000 in
theorem cuts6_any (h : H6) (pay : ByteArray) (ver : Int) (w : World) (hp1 : pay.size ≤ 140737488355328) (hv : 0 ≤ ver ∧ ver ≤ 255) :
    Calls Try.prog 5 #[.agg h.cells, .string pay, .int .u8 ver] w (AwakeEnd w) := by
  have HA := Lib.hid (awake6_any (w.alloc (.cells h.cells 23)))
  have HF := Lib.hid (fun W => few6_any h W)
  have H1 := Lib.hid (fun W => put6_any h pay W)
  have S1 := Lib.hid (Held6.new w h)
  generalize h.few = fw at *
  unfold Put6End at H1
  have PT := Lib.hid (put6_cases h pay)
  generalize put6S h pay = P at *
  generalize put6E h pay = E at *
  unfold H6.cells at HA HF H1 S1 ⊢
  go_enter Try.func5, Try.ntmps5
  go_wp2_with fail
  refine HA.out.mono ?_
  rintro e w1 ⟨rfl, hb1⟩
  have S2 := Lib.hid (S1.out.below hb1)
  clear hb1 S1 HA
  have ⟨c0, c1, c2, c3, c4, c5⟩ := Hc6.of S2.out.b
  go_wp2_with fail
  refine (HF.out _).mono ?_
  rintro e w2 ⟨rfl, hb2⟩
  have S3 := Lib.hid (S2.out.below hb2)
  clear hb2 S2 HF c0 c1 c2 c3 c4 c5
  cases fw
  · go_wp2_with fail
    go_ret
    exact ⟨rfl, S3.out.bel⟩
  by_cases h7 : pay.size ≤ 3000
  case neg =>
    have t7 : decide ((3000 : Int) < (pay.size : Int)) = true := by simp; omega
    go_wp2_with fail
    go_ret
    exact ⟨rfl, S3.out.bel⟩
  have t7 : decide ((3000 : Int) < (pay.size : Int)) = false := by simp; omega
  have ⟨c0, c1, c2, c3, c4, c5⟩ := Hc6.of S3.out.b
  go_wp2_with fail
  refine (H1.out _).mono ?_
  rintro e w3 ⟨rfl, hb3⟩
  have S4 := Lib.hid (S3.out.below hb3)
  clear hb3 S3 H1 c0 c1 c2 c3 c4 c5 t7
  rcases PT.out with ⟨rfl, hsent⟩ | ⟨hE, rfl⟩
  case inr =>
    have tE : ((E : Int) != 0) = true := by simp; omega
    clear PT hE
    go_wp2_with fail
    go_ret
    exact ⟨rfl, S4.out.bel⟩
  clear PT
  have hsz := hsent.size
  have hP1 : 40 ≤ P.size := by omega
  have hP2 : P.size ≤ 3040 := by omega
  have SE := Lib.hid hsent
  have HSZ := Lib.hid hsz
  clear hsent hsz
  obtain ⟨n, hn⟩ : ∃ n, n = P.size - 1 := ⟨_, rfl⟩
  have m1 : (P.size : Int) - 1 = (n : Int) := by omega
  have m2 : (n : Int) ≤ (P.size : Int) := by omega
  have HNN := Lib.hid hn
  clear hn
  have G1 := Lib.hid (fun W => get6_any (P.extract 0 n) W (by rw [ByteArray.size_extract]; omega))
  unfold Get6End at G1
  have EA : Hid (get6E (P.extract 0 n) = if pay.size = 0 then 2 else 4) := by
    show get6E (P.extract 0 n) = _
    rw [HNN.out]; exact SE.out.less
  generalize get6H (P.extract 0 n) = g1 at *
  generalize get6S (P.extract 0 n) = s1 at *
  generalize get6E (P.extract 0 n) = A at *
  unfold H6.cells at G1
  go_wp2_with fail
  refine (G1.out _).mono ?_
  rintro e w4 ⟨rfl, hb4⟩
  have S5 := Lib.hid (S4.out.below hb4)
  clear hb4 S4 G1 m1 m2
  obtain ⟨Z, hZ⟩ : ∃ Z : ByteArray, Z = ⟨#[122]⟩ := ⟨_, rfl⟩
  have hZs : Z.size = 1 := by rw [hZ]; rfl
  have G2 := Lib.hid (fun W => get6_any (P ++ Z) W (by rw [cat_size]; omega))
  unfold Get6End at G2
  rw [SE.out.more Z hZs, hZ] at G2
  clear hZ hZs Z
  generalize get6H (P ++ ⟨#[122]⟩) = g2 at *
  generalize get6S (P ++ ⟨#[122]⟩) = s2 at *
  unfold H6.cells at G2
  go_wp2_with fail
  have S6 := Lib.hid (S5.out.alloc (.cells #[.int .i64 g1.cls, .int .i64 g1.lab, .int .i64 g1.nxt, .int .i64 g1.hops, .string g1.src, .string g1.dst] 23))
  clear S5
  generalize w4.alloc (.cells #[.int .i64 g1.cls, .int .i64 g1.lab, .int .i64 g1.nxt, .int .i64 g1.hops, .string g1.src, .string g1.dst] 23) = w5 at *
  refine (G2.out _).mono ?_
  rintro e w6 ⟨rfl, hb6⟩
  have S7 := Lib.hid ((S6.out.below hb6).alloc (.cells #[.int .i64 g2.cls, .int .i64 g2.lab, .int .i64 g2.nxt, .int .i64 g2.hops, .string g2.src, .string g2.dst] 23))
  clear hb6 S6 G2
  go_wp2_with fail
  have S8 := Lib.hid S7.out.drew
  have hP0 : 0 < P.size := by omega
  have b0 : (0 : Int) < (P.size : Int) := by omega
  have b1 : (1 : Int) ≤ (P.size : Int) := by omega
  clear S7
  obtain ⟨v, rfl⟩ := Int.eq_ofNat_of_zero_le hv.1
  obtain ⟨c, hor, hc⟩ := u8_first v P[0]
  have HC6 := Lib.hid hc
  clear hc hv
  obtain ⟨Q, hQ⟩ : ∃ Q, P.extract 1 P.size = Q := ⟨_, rfl⟩
  have hQs : Q.size ≤ 3040 := by rw [← hQ, ByteArray.size_extract]; omega
  obtain ⟨C, hC⟩ : ∃ C : ByteArray, C = ⟨#[c]⟩ := ⟨_, rfl⟩
  have hCs : C.size = 1 := by rw [hC]; rfl
  have hcat : ¬ (9223372036854775807 < C.size + Q.size) := by omega
  have hcv := fun W => conv_new W [c] #[.int .u8 (c.toNat : Int)] rfl 1 rfl
  rw [show (⟨[c].toArray⟩ : ByteArray) = C from hC.symm] at hcv
  have EC : Hid (get6E (C ++ Q) = if c.toNat / 16 = 6 then 0 else 3) := by
    show get6E (C ++ Q) = _
    rw [hC, ← hQ]; exact SE.out.first c
  have hXs : (C ++ Q).size ≤ 1000000 := by rw [cat_size]; omega
  have G3 := Lib.hid (fun W => get6_any (C ++ Q) W hXs)
  clear hCs hC
  refine wp_region_any (by kernel_rfl) ?_
  change wpAny _ _ _ _ _ _ _ (World.drew _)
  generalize (w6.alloc (.cells #[.int .i64 g2.cls, .int .i64 g2.lab, .int .i64 g2.nxt, .int .i64 g2.hops, .string g2.src, .string g2.dst] 23)).drew = w7 at *
  refine takeA_yes (i := 0) (d := some 60) (v := ?v1) rfl rfl (by kernel_rfl) (by kernel_rfl) (by kernel_rfl) (fun _ _ _ h => h) (by rfl) ?y1 ?_
  case y1 => (intro w; go_simp <;> with_reducible rfl)
  simp only [Act.put, List.setIfInBounds_toArray, List.set_cons_zero, List.set_cons_succ]
  refine takeA_yes (i := 1) (d := some 61) (v := ?v2) rfl rfl (by kernel_rfl) (by kernel_rfl) (by kernel_rfl) (fun _ _ _ h => h) (by rfl) ?y2 ?_
  case y2 => (intro w; go_simp <;> with_reducible rfl)
  simp only [Act.put, List.setIfInBounds_toArray, List.set_cons_zero, List.set_cons_succ]
  refine takeA_yes (i := 2) (d := some 62) (v := ?v3) rfl rfl (by kernel_rfl) (by kernel_rfl) (by kernel_rfl) (fun _ _ _ h => h) (by rfl) ?y3 ?_
  case y3 => (intro w; go_simp <;> with_reducible rfl)
  simp only [Act.put, List.setIfInBounds_toArray, List.set_cons_zero, List.set_cons_succ]
  refine takeA_yes (i := 3) (d := some 63) (v := ?v4) rfl rfl (by kernel_rfl) (by kernel_rfl) (by kernel_rfl) (fun _ _ _ h => h) (by rfl) ?y4 ?_
  case y4 => (intro w; go_simp <;> with_reducible rfl)
  simp only [Act.put, List.setIfInBounds_toArray, List.set_cons_zero, List.set_cons_succ]
  refine takeA_yes (i := 4) (d := some 64) (v := ?v5) rfl rfl (by kernel_rfl) (by kernel_rfl) (by kernel_rfl) (fun _ _ _ h => h) (by rfl) ?y5 ?_
  case y5 => (intro w; go_simp <;> with_reducible rfl)
  simp only [Act.put, List.setIfInBounds_toArray, List.set_cons_zero, List.set_cons_succ]
  refine takeA_yes (i := 5) (d := some 65) (v := .int .u8 (c.toNat : Int)) rfl rfl (by kernel_rfl) (by kernel_rfl) (by kernel_rfl) (fun _ _ _ h => h) (by rfl) ?y6 ?_
  case y6 => (intro w; go_simp <;> with_reducible rfl)
  simp only [Act.put, List.setIfInBounds_toArray, List.set_cons_zero, List.set_cons_succ]
  refine takeA_yes (i := 8) (d := some 68) (v := ?v7) rfl rfl (by kernel_rfl) (by kernel_rfl) (by kernel_rfl) (fun _ _ _ h => h) (by rfl) ?y7 ?_
  case y7 => (intro w; go_simp <;> with_reducible rfl)
  simp only [Act.put, List.setIfInBounds_toArray, List.set_cons_zero, List.set_cons_succ]
  refine takeA_yes (i := 9) (d := some 69) (v := ?v8) rfl rfl (by kernel_rfl) (by kernel_rfl) (by kernel_rfl) (fun _ _ _ h => h) (by rfl) ?y8 ?_
  case y8 => (intro w; go_simp <;> with_reducible rfl)
  simp only [Act.put, List.setIfInBounds_toArray, List.set_cons_zero, List.set_cons_succ]
  refine wpAny_ready (rs := [6]) (by kernel_rfl) (by simp) ?_
  refine AllReady.cons rfl (fun K hK => ?_) AllReady.nil
  go_simp
  refine hK _ _ ?_
  clear hK K
  try simp only [Act.put, List.setIfInBounds_toArray, List.set_cons_zero, List.set_cons_succ]
  refine wpAny_ready (rs := [7]) (by kernel_rfl) (by simp) ?_
  refine AllReady.cons rfl (fun K hK => ?_) AllReady.nil
  go_simp
  refine hK _ _ ?_
  clear hK K
  try simp only [Act.put, List.setIfInBounds_toArray, List.set_cons_zero, List.set_cons_succ]
  refine takeA_yes (i := 10) (d := some 70) (v := ?v9) rfl rfl (by kernel_rfl) (by kernel_rfl) (by kernel_rfl) (fun _ _ _ h => h) (by rfl) ?y9 ?_
  case y9 => (intro w; go_simp <;> with_reducible rfl)
  simp only [Act.put, List.setIfInBounds_toArray, List.set_cons_zero, List.set_cons_succ]
  refine takeA_yes (i := 11) (d := some 15) (v := ?v10) rfl rfl (by kernel_rfl) (by kernel_rfl) (by kernel_rfl) (fun _ _ _ h => h) (by rfl) ?y10 ?_
  case y10 => (intro w; go_simp <;> with_reducible rfl)
  simp only [Act.put, List.setIfInBounds_toArray, List.set_cons_zero, List.set_cons_succ]
  refine wpAny_done (by kernel_rfl) ?_ _
  have S9 := Lib.hid (S8.out.alloc (.cells #[.int .u8 (c.toNat : Int)] 5))
  clear S8 hcv hor hcat hXs hQs b0 b1 hQ
  generalize w7.alloc (.cells #[.int .u8 (c.toNat : Int)] 5) = w8 at *
  unfold Get6End at G3
  generalize get6H (C ++ Q) = g3 at *
  generalize get6S (C ++ Q) = s3 at *
  generalize get6E (C ++ Q) = D at *
  generalize C ++ Q = X at *
  unfold H6.cells at G3
  go_wp2_with fail
  refine (G3.out _).mono ?_
  rintro e w9 ⟨rfl, hb9⟩
  have S10 := Lib.hid ((S9.out.below hb9).alloc (.cells #[.int .i64 g3.cls, .int .i64 g3.lab, .int .i64 g3.nxt, .int .i64 g3.hops, .string g3.src, .string g3.dst] 23))
  clear hb9 S9 G3
  go_wp2_with fail
  have S11 := Lib.hid S10.out.drew
  clear S10
  obtain ⟨A40, hA⟩ : ∃ A40, P.extract 0 40 = A40 := ⟨_, rfl⟩
  have hAs : A40.size ≤ 40 := by rw [← hA, ByteArray.size_extract]; omega
  obtain ⟨ZZ, hZZ⟩ : ∃ ZZ : ByteArray, ZZ = ⟨(List.replicate pay.size (0 : UInt8)).toArray⟩ := ⟨_, rfl⟩
  have hZs : ZZ.size = pay.size := by rw [hZZ, list_size]; simp
  have G4 := Lib.hid (fun W => get6_any (A40 ++ ZZ) W (by rw [cat_size]; omega))
  unfold Get6End at G4
  have ho := SE.out.other ZZ hZs
  rw [hA] at ho
  rw [ho.1, ho.2] at G4
  clear ho
  have hcat2 : ¬ (9223372036854775807 < A40.size + ZZ.size) := by omega
  have b40 : (40 : Int) ≤ (P.size : Int) := by omega
  generalize get6S (A40 ++ ZZ) = s4 at *
  unfold H6.cells at G4
  obtain ⟨O, hO⟩ := zeros_run pay.size (by omega)
  go_cut [19, 20, 21] (fun v19 v20 v21 wx => ∃ M, v19 = .pointer (some ⟨M, 0, none⟩) ∧ v20 = .string s4 ∧ v21 = .int .i64 0 ∧ Hid (Blk wx M h.cells 23 ∧ Held6 w wx h))
  case first =>
    refine wp_region_any (by kernel_rfl) ?_
    change wpAny _ _ _ _ _ _ _ (World.drew _)
    generalize (w9.alloc (.cells #[.int .i64 g3.cls, .int .i64 g3.lab, .int .i64 g3.nxt, .int .i64 g3.hops, .string g3.src, .string g3.dst] 23)).drew = w10 at *
    have hlt := S11.out.lt
    have M1 := (hO w10).1
    have M2 := (hO (w10.alloc (.cells #[.int .i64 0, .int .i64 0, .int .i64 0, .int .i64 0, .string ⟨#[]⟩, .string ⟨#[]⟩] 23))).1
    have F1 := (hO w10).2.text (cap := pay.size) (n := pay.size) (by simp)
    have F2 := (hO (w10.alloc (.cells #[.int .i64 0, .int .i64 0, .int .i64 0, .int .i64 0, .string ⟨#[]⟩, .string ⟨#[]⟩] 23))).2.text (cap := pay.size) (n := pay.size) (by simp)
    have F3 := ((hO w10).2.kb ((Kb.refl (fun _ => False) _).alloc (.cells #[.int .i64 0, .int .i64 0, .int .i64 0, .int .i64 0, .string ⟨#[]⟩, .string ⟨#[]⟩] 23)) (fun f => f)).text (cap := pay.size) (n := pay.size) (by simp)
    rw [show (w10.alloc (.cells #[.int .i64 0, .int .i64 0, .int .i64 0, .int .i64 0, .string ⟨#[]⟩, .string ⟨#[]⟩] 23)).heap.size = w10.heap.size + 1 from by simp] at M2 F2
    rw [← hZZ] at F1 F2 F3
    clear hO hZZ hZs
    refine takeA_yes (i := 0) (d := some 78) (v := ?v11) rfl rfl (by kernel_rfl) (by kernel_rfl) (by kernel_rfl) (fun _ _ _ h => h) (by rfl) ?y11 ?_
    case y11 => (intro w; go_simp <;> with_reducible rfl)
    simp only [Act.put, List.setIfInBounds_toArray, List.set_cons_zero, List.set_cons_succ]
    refine takeA_yes (i := 1) (d := some 79) (v := ?v12) rfl rfl (by kernel_rfl) (by kernel_rfl) (by kernel_rfl) (fun _ _ _ h => h) (by rfl) ?y12 ?_
    case y12 => (intro w; go_simp <;> with_reducible rfl)
    simp only [Act.put, List.setIfInBounds_toArray, List.set_cons_zero, List.set_cons_succ]
    refine takeA_yes (i := 2) (d := some 80) (v := ?v13) rfl rfl (by kernel_rfl) (by kernel_rfl) (by kernel_rfl) (fun _ _ _ h => h) (by rfl) ?y13 ?_
    case y13 => (intro w; go_simp <;> with_reducible rfl)
    simp only [Act.put, List.setIfInBounds_toArray, List.set_cons_zero, List.set_cons_succ]
    refine takeA_yes (i := 3) (d := some 81) (v := ?v14) rfl rfl (by kernel_rfl) (by kernel_rfl) (by kernel_rfl) (fun _ _ _ h => h) (by rfl) ?y14 ?_
    case y14 => (intro w; go_simp <;> with_reducible rfl)
    simp only [Act.put, List.setIfInBounds_toArray, List.set_cons_zero, List.set_cons_succ]
    refine wpAny_ready (rs := [4, 12]) (by kernel_rfl) (by simp) ?_
    refine AllReady.cons rfl (fun K hK => ?_) (AllReady.cons rfl (fun K hK => ?_) AllReady.nil)
    · go_simp
      refine hK _ _ ?_
      clear hK K
      try simp only [Act.put, List.setIfInBounds_toArray, List.set_cons_zero, List.set_cons_succ]
      refine wpAny_ready (rs := [5, 12]) (by kernel_rfl) (by simp) ?_
      refine AllReady.cons rfl (fun K hK => ?_) (AllReady.cons rfl (fun K hK => ?_) AllReady.nil)
      · go_simp
        refine hK _ _ ?_
        clear hK K
        try simp only [Act.put, List.setIfInBounds_toArray, List.set_cons_zero, List.set_cons_succ]
        refine takeA_yes (i := 6) (d := some 84) (v := ?v15) rfl rfl (by kernel_rfl) (by kernel_rfl) (by kernel_rfl) (fun _ _ _ h => h) (by rfl) ?y15 ?_
        case y15 => (intro w; go_simp <;> with_reducible rfl)
        simp only [Act.put, List.setIfInBounds_toArray, List.set_cons_zero, List.set_cons_succ]
        refine wpAny_ready (rs := [7, 12]) (by kernel_rfl) (by simp) ?_
        refine AllReady.cons rfl (fun K hK => ?_) (AllReady.cons rfl (fun K hK => ?_) AllReady.nil)
        · go_simp
          refine (G4.out _).mono ?_
          rintro e w11 ⟨rfl, hb11⟩
          refine hK _ _ ?_
          clear hK K
          try simp only [Act.put, List.setIfInBounds_toArray, List.set_cons_zero, List.set_cons_succ]
          have hh := Lib.hid ((S11.out.alloc O).below hb11)
          clear hb11
          refine takeA_yes (i := 8) (d := some 77) (v := ?v16) rfl rfl (by kernel_rfl) (by kernel_rfl) (by kernel_rfl) (fun _ _ _ h => h) (by rfl) ?y16 ?_
          case y16 => (intro w; go_simp <;> with_reducible rfl)
          simp only [Act.put, List.setIfInBounds_toArray, List.set_cons_zero, List.set_cons_succ]
          refine takeA_yes (i := 9) (d := some 86) (v := ?v17) rfl rfl (by kernel_rfl) (by kernel_rfl) (by kernel_rfl) (fun _ _ _ h => h) (by rfl) ?y17 ?_
          case y17 => (intro w; go_simp <;> with_reducible rfl)
          simp only [Act.put, List.setIfInBounds_toArray, List.set_cons_zero, List.set_cons_succ]
          refine takeA_yes (i := 10) (d := some 87) (v := ?v18) rfl rfl (by kernel_rfl) (by kernel_rfl) (by kernel_rfl) (fun _ _ _ h => h) (by rfl) ?y18 ?_
          case y18 => (intro w; go_simp <;> with_reducible rfl)
          simp only [Act.put, List.setIfInBounds_toArray, List.set_cons_zero, List.set_cons_succ]
          refine takeA_yes (i := 11) (d := some 88) (v := ?v19) rfl rfl (by kernel_rfl) (by kernel_rfl) (by kernel_rfl) (fun _ _ _ h => h) (by rfl) ?y19 ?_
          case y19 => (intro w; go_simp <;> with_reducible rfl)
          simp only [Act.put, List.setIfInBounds_toArray, List.set_cons_zero, List.set_cons_succ]
          refine wpAny_ready (rs := [12]) (by kernel_rfl) (by simp) ?_
          refine AllReady.cons rfl (fun K hK => ?_) AllReady.nil
          go_simp
          refine hK _ _ ?_
          clear hK K
          try simp only [Act.put, List.setIfInBounds_toArray, List.set_cons_zero, List.set_cons_succ]
          refine wpAny_ready (rs := [13]) (by kernel_rfl) (by simp) ?_
          refine AllReady.cons rfl (fun K hK => ?_) AllReady.nil
          go_simp
          refine hK _ _ ?_
          clear hK K
          try simp only [Act.put, List.setIfInBounds_toArray, List.set_cons_zero, List.set_cons_succ]
          refine takeA_yes (i := 14) (d := some 20) (v := ?v20) rfl rfl (by kernel_rfl) (by kernel_rfl) (by kernel_rfl) (fun _ _ _ h => h) (by rfl) ?y20 ?_
          case y20 => (intro w; go_simp <;> with_reducible rfl)
          simp only [Act.put, List.setIfInBounds_toArray, List.set_cons_zero, List.set_cons_succ]
          refine takeA_yes (i := 15) (d := some 21) (v := ?v21) rfl rfl (by kernel_rfl) (by kernel_rfl) (by kernel_rfl) (fun _ _ _ h => h) (by rfl) ?y21 ?_
          case y21 => (intro w; go_simp <;> with_reducible rfl)
          simp only [Act.put, List.setIfInBounds_toArray, List.set_cons_zero, List.set_cons_succ]
          refine wpAny_done (by kernel_rfl) ?_ _
          go_wp2_with fail
          go_meet
          exact ⟨w11.heap.size, rfl, rfl, rfl, Lib.hid ⟨Blk.new w11 h.cells 23, hh.out.alloc _⟩⟩
        · go_simp
          refine hK _ _ ?_
          clear hK K
          try simp only [Act.put, List.setIfInBounds_toArray, List.set_cons_zero, List.set_cons_succ]
          refine wpAny_ready (rs := [7]) (by kernel_rfl) (by simp) ?_
          refine AllReady.cons rfl (fun K hK => ?_) AllReady.nil
          go_simp
          refine (G4.out _).mono ?_
          rintro e w11 ⟨rfl, hb11⟩
          refine hK _ _ ?_
          clear hK K
          try simp only [Act.put, List.setIfInBounds_toArray, List.set_cons_zero, List.set_cons_succ]
          refine takeA_yes (i := 8) (d := some 77) (v := ?v22) rfl rfl (by kernel_rfl) (by kernel_rfl) (by kernel_rfl) (fun _ _ _ h => h) (by rfl) ?y22 ?_
          case y22 => (intro w; go_simp <;> with_reducible rfl)
          simp only [Act.put, List.setIfInBounds_toArray, List.set_cons_zero, List.set_cons_succ]
          refine takeA_yes (i := 9) (d := some 86) (v := ?v23) rfl rfl (by kernel_rfl) (by kernel_rfl) (by kernel_rfl) (fun _ _ _ h => h) (by rfl) ?y23 ?_
          case y23 => (intro w; go_simp <;> with_reducible rfl)
          simp only [Act.put, List.setIfInBounds_toArray, List.set_cons_zero, List.set_cons_succ]
          refine takeA_yes (i := 10) (d := some 87) (v := ?v24) rfl rfl (by kernel_rfl) (by kernel_rfl) (by kernel_rfl) (fun _ _ _ h => h) (by rfl) ?y24 ?_
          case y24 => (intro w; go_simp <;> with_reducible rfl)
          simp only [Act.put, List.setIfInBounds_toArray, List.set_cons_zero, List.set_cons_succ]
          refine takeA_yes (i := 11) (d := some 88) (v := ?v25) rfl rfl (by kernel_rfl) (by kernel_rfl) (by kernel_rfl) (fun _ _ _ h => h) (by rfl) ?y25 ?_
          case y25 => (intro w; go_simp <;> with_reducible rfl)
          simp only [Act.put, List.setIfInBounds_toArray, List.set_cons_zero, List.set_cons_succ]
          have zb : Blk w11 (w10.heap.size + 1) H6.zero.cells 23 := (hb11.block _ (show Blk ((w10.alloc O).alloc (.cells H6.zero.cells 23)) (w10.heap.size + 1) H6.zero.cells 23 from by have := Blk.new (w10.alloc O) H6.zero.cells 23; rwa [show (w10.alloc O).heap.size = w10.heap.size + 1 from by simp] at this).lt).trans (show Blk ((w10.alloc O).alloc (.cells H6.zero.cells 23)) (w10.heap.size + 1) H6.zero.cells 23 from by have := Blk.new (w10.alloc O) H6.zero.cells 23; rwa [show (w10.alloc O).heap.size = w10.heap.size + 1 from by simp] at this)
          have hh := Lib.hid (((S11.out.alloc O).alloc (.cells #[.int .i64 0, .int .i64 0, .int .i64 0, .int .i64 0, .string ⟨#[]⟩, .string ⟨#[]⟩] 23)).below hb11)
          clear hb11
          have ⟨z0, z1, z2, z3, z4, z5⟩ := Hc6.of zb
          simp only [H6.zero] at z0 z1 z2 z3 z4 z5
          have f0 := zb.frozen 0
          have f1 := zb.frozen 1
          have f2 := zb.frozen 2
          have f3 := zb.frozen 3
          have f4 := zb.frozen 4
          have f5 := zb.frozen 5
          have ZB := Lib.hid zb
          clear zb
          refine wpAny_ready (rs := [13]) (by kernel_rfl) (by simp) ?_
          refine AllReady.cons rfl (fun K hK => ?_) AllReady.nil
          go_simp
          refine hK _ _ ?_
          clear hK K
          try simp only [Act.put, List.setIfInBounds_toArray, List.set_cons_zero, List.set_cons_succ]
          clear z0 z1 z2 z3 z4 z5 f0 f1 f2 f3 f4 f5
          refine takeA_yes (i := 14) (d := some 20) (v := ?v26) rfl rfl (by kernel_rfl) (by kernel_rfl) (by kernel_rfl) (fun _ _ _ h => h) (by rfl) ?y26 ?_
          case y26 => (intro w; go_simp <;> with_reducible rfl)
          simp only [Act.put, List.setIfInBounds_toArray, List.set_cons_zero, List.set_cons_succ]
          refine takeA_yes (i := 15) (d := some 21) (v := ?v27) rfl rfl (by kernel_rfl) (by kernel_rfl) (by kernel_rfl) (fun _ _ _ h => h) (by rfl) ?y27 ?_
          case y27 => (intro w; go_simp <;> with_reducible rfl)
          simp only [Act.put, List.setIfInBounds_toArray, List.set_cons_zero, List.set_cons_succ]
          refine wpAny_done (by kernel_rfl) ?_ _
          go_wp2_with fail
          go_meet
          exact ⟨w10.heap.size + 1, rfl, rfl, rfl, Lib.hid ⟨put6c_blk ZB.out h, hh.out.put (by omega) h⟩⟩
      · go_simp
        refine hK _ _ ?_
        clear hK K
        try simp only [Act.put, List.setIfInBounds_toArray, List.set_cons_zero, List.set_cons_succ]
        refine wpAny_ready (rs := [5]) (by kernel_rfl) (by simp) ?_
        refine AllReady.cons rfl (fun K hK => ?_) AllReady.nil
        go_simp
        refine hK _ _ ?_
        clear hK K
        try simp only [Act.put, List.setIfInBounds_toArray, List.set_cons_zero, List.set_cons_succ]
        refine takeA_yes (i := 6) (d := some 84) (v := ?v28) rfl rfl (by kernel_rfl) (by kernel_rfl) (by kernel_rfl) (fun _ _ _ h => h) (by rfl) ?y28 ?_
        case y28 => (intro w; go_simp <;> with_reducible rfl)
        simp only [Act.put, List.setIfInBounds_toArray, List.set_cons_zero, List.set_cons_succ]
        refine wpAny_ready (rs := [7]) (by kernel_rfl) (by simp) ?_
        refine AllReady.cons rfl (fun K hK => ?_) AllReady.nil
        go_simp
        refine (G4.out _).mono ?_
        rintro e w11 ⟨rfl, hb11⟩
        refine hK _ _ ?_
        clear hK K
        try simp only [Act.put, List.setIfInBounds_toArray, List.set_cons_zero, List.set_cons_succ]
        refine takeA_yes (i := 8) (d := some 77) (v := ?v29) rfl rfl (by kernel_rfl) (by kernel_rfl) (by kernel_rfl) (fun _ _ _ h => h) (by rfl) ?y29 ?_
        case y29 => (intro w; go_simp <;> with_reducible rfl)
        simp only [Act.put, List.setIfInBounds_toArray, List.set_cons_zero, List.set_cons_succ]
        refine takeA_yes (i := 9) (d := some 86) (v := ?v30) rfl rfl (by kernel_rfl) (by kernel_rfl) (by kernel_rfl) (fun _ _ _ h => h) (by rfl) ?y30 ?_
        case y30 => (intro w; go_simp <;> with_reducible rfl)
        simp only [Act.put, List.setIfInBounds_toArray, List.set_cons_zero, List.set_cons_succ]
        refine takeA_yes (i := 10) (d := some 87) (v := ?v31) rfl rfl (by kernel_rfl) (by kernel_rfl) (by kernel_rfl) (fun _ _ _ h => h) (by rfl) ?y31 ?_
        case y31 => (intro w; go_simp <;> with_reducible rfl)
        simp only [Act.put, List.setIfInBounds_toArray, List.set_cons_zero, List.set_cons_succ]
        refine takeA_yes (i := 11) (d := some 88) (v := ?v32) rfl rfl (by kernel_rfl) (by kernel_rfl) (by kernel_rfl) (fun _ _ _ h => h) (by rfl) ?y32 ?_
        case y32 => (intro w; go_simp <;> with_reducible rfl)
        simp only [Act.put, List.setIfInBounds_toArray, List.set_cons_zero, List.set_cons_succ]
        have zb : Blk w11 (w10.heap.size + 1) H6.zero.cells 23 := (hb11.block _ (show Blk ((w10.alloc O).alloc (.cells H6.zero.cells 23)) (w10.heap.size + 1) H6.zero.cells 23 from by have := Blk.new (w10.alloc O) H6.zero.cells 23; rwa [show (w10.alloc O).heap.size = w10.heap.size + 1 from by simp] at this).lt).trans (show Blk ((w10.alloc O).alloc (.cells H6.zero.cells 23)) (w10.heap.size + 1) H6.zero.cells 23 from by have := Blk.new (w10.alloc O) H6.zero.cells 23; rwa [show (w10.alloc O).heap.size = w10.heap.size + 1 from by simp] at this)
        have hh := Lib.hid (((S11.out.alloc O).alloc (.cells #[.int .i64 0, .int .i64 0, .int .i64 0, .int .i64 0, .string ⟨#[]⟩, .string ⟨#[]⟩] 23)).below hb11)
        clear hb11
        have ⟨z0, z1, z2, z3, z4, z5⟩ := Hc6.of zb
        simp only [H6.zero] at z0 z1 z2 z3 z4 z5
        have f0 := zb.frozen 0
        have f1 := zb.frozen 1
        have f2 := zb.frozen 2
        have f3 := zb.frozen 3
        have f4 := zb.frozen 4
        have f5 := zb.frozen 5
        have ZB := Lib.hid zb
        clear zb
        refine wpAny_ready (rs := [13]) (by kernel_rfl) (by simp) ?_
        refine AllReady.cons rfl (fun K hK => ?_) AllReady.nil
        go_simp
        refine hK _ _ ?_
        clear hK K
        try simp only [Act.put, List.setIfInBounds_toArray, List.set_cons_zero, List.set_cons_succ]
        clear z0 z1 z2 z3 z4 z5 f0 f1 f2 f3 f4 f5
        refine takeA_yes (i := 14) (d := some 20) (v := ?v33) rfl rfl (by kernel_rfl) (by kernel_rfl) (by kernel_rfl) (fun _ _ _ h => h) (by rfl) ?y33 ?_
        case y33 => (intro w; go_simp <;> with_reducible rfl)
        simp only [Act.put, List.setIfInBounds_toArray, List.set_cons_zero, List.set_cons_succ]
        refine takeA_yes (i := 15) (d := some 21) (v := ?v34) rfl rfl (by kernel_rfl) (by kernel_rfl) (by kernel_rfl) (fun _ _ _ h => h) (by rfl) ?y34 ?_
        case y34 => (intro w; go_simp <;> with_reducible rfl)
        simp only [Act.put, List.setIfInBounds_toArray, List.set_cons_zero, List.set_cons_succ]
        refine wpAny_done (by kernel_rfl) ?_ _
        go_wp2_with fail
        go_meet
        exact ⟨w10.heap.size + 1, rfl, rfl, rfl, Lib.hid ⟨put6c_blk ZB.out h, hh.out.put (by omega) h⟩⟩
    · go_simp
      refine hK _ _ ?_
      clear hK K
      try simp only [Act.put, List.setIfInBounds_toArray, List.set_cons_zero, List.set_cons_succ]
      refine wpAny_ready (rs := [4]) (by kernel_rfl) (by simp) ?_
      refine AllReady.cons rfl (fun K hK => ?_) AllReady.nil
      go_simp
      refine hK _ _ ?_
      clear hK K
      try simp only [Act.put, List.setIfInBounds_toArray, List.set_cons_zero, List.set_cons_succ]
      refine wpAny_ready (rs := [5]) (by kernel_rfl) (by simp) ?_
      refine AllReady.cons rfl (fun K hK => ?_) AllReady.nil
      go_simp
      refine hK _ _ ?_
      clear hK K
      try simp only [Act.put, List.setIfInBounds_toArray, List.set_cons_zero, List.set_cons_succ]
      refine takeA_yes (i := 6) (d := some 84) (v := ?v35) rfl rfl (by kernel_rfl) (by kernel_rfl) (by kernel_rfl) (fun _ _ _ h => h) (by rfl) ?y35 ?_
      case y35 => (intro w; go_simp <;> with_reducible rfl)
      simp only [Act.put, List.setIfInBounds_toArray, List.set_cons_zero, List.set_cons_succ]
      refine wpAny_ready (rs := [7]) (by kernel_rfl) (by simp) ?_
      refine AllReady.cons rfl (fun K hK => ?_) AllReady.nil
      go_simp
      refine (G4.out _).mono ?_
      rintro e w11 ⟨rfl, hb11⟩
      refine hK _ _ ?_
      clear hK K
      try simp only [Act.put, List.setIfInBounds_toArray, List.set_cons_zero, List.set_cons_succ]
      refine takeA_yes (i := 8) (d := some 77) (v := ?v36) rfl rfl (by kernel_rfl) (by kernel_rfl) (by kernel_rfl) (fun _ _ _ h => h) (by rfl) ?y36 ?_
      case y36 => (intro w; go_simp <;> with_reducible rfl)
      simp only [Act.put, List.setIfInBounds_toArray, List.set_cons_zero, List.set_cons_succ]
      refine takeA_yes (i := 9) (d := some 86) (v := ?v37) rfl rfl (by kernel_rfl) (by kernel_rfl) (by kernel_rfl) (fun _ _ _ h => h) (by rfl) ?y37 ?_
      case y37 => (intro w; go_simp <;> with_reducible rfl)
      simp only [Act.put, List.setIfInBounds_toArray, List.set_cons_zero, List.set_cons_succ]
      refine takeA_yes (i := 10) (d := some 87) (v := ?v38) rfl rfl (by kernel_rfl) (by kernel_rfl) (by kernel_rfl) (fun _ _ _ h => h) (by rfl) ?y38 ?_
      case y38 => (intro w; go_simp <;> with_reducible rfl)
      simp only [Act.put, List.setIfInBounds_toArray, List.set_cons_zero, List.set_cons_succ]
      refine takeA_yes (i := 11) (d := some 88) (v := ?v39) rfl rfl (by kernel_rfl) (by kernel_rfl) (by kernel_rfl) (fun _ _ _ h => h) (by rfl) ?y39 ?_
      case y39 => (intro w; go_simp <;> with_reducible rfl)
      simp only [Act.put, List.setIfInBounds_toArray, List.set_cons_zero, List.set_cons_succ]
      have zb : Blk w11 (w10.heap.size) H6.zero.cells 23 := (hb11.block _ (show Blk ((w10.alloc (.cells H6.zero.cells 23)).alloc O) w10.heap.size H6.zero.cells 23 from (Blk.new w10 _ _).alloc O).lt).trans (show Blk ((w10.alloc (.cells H6.zero.cells 23)).alloc O) w10.heap.size H6.zero.cells 23 from (Blk.new w10 _ _).alloc O)
      have hh := Lib.hid (((S11.out.alloc (.cells #[.int .i64 0, .int .i64 0, .int .i64 0, .int .i64 0, .string ⟨#[]⟩, .string ⟨#[]⟩] 23)).alloc O).below hb11)
      clear hb11
      have ⟨z0, z1, z2, z3, z4, z5⟩ := Hc6.of zb
      simp only [H6.zero] at z0 z1 z2 z3 z4 z5
      have f0 := zb.frozen 0
      have f1 := zb.frozen 1
      have f2 := zb.frozen 2
      have f3 := zb.frozen 3
      have f4 := zb.frozen 4
      have f5 := zb.frozen 5
      have ZB := Lib.hid zb
      clear zb
      refine wpAny_ready (rs := [13]) (by kernel_rfl) (by simp) ?_
      refine AllReady.cons rfl (fun K hK => ?_) AllReady.nil
      go_simp
      refine hK _ _ ?_
      clear hK K
      try simp only [Act.put, List.setIfInBounds_toArray, List.set_cons_zero, List.set_cons_succ]
      clear z0 z1 z2 z3 z4 z5 f0 f1 f2 f3 f4 f5
      refine takeA_yes (i := 14) (d := some 20) (v := ?v40) rfl rfl (by kernel_rfl) (by kernel_rfl) (by kernel_rfl) (fun _ _ _ h => h) (by rfl) ?y40 ?_
      case y40 => (intro w; go_simp <;> with_reducible rfl)
      simp only [Act.put, List.setIfInBounds_toArray, List.set_cons_zero, List.set_cons_succ]
      refine takeA_yes (i := 15) (d := some 21) (v := ?v41) rfl rfl (by kernel_rfl) (by kernel_rfl) (by kernel_rfl) (fun _ _ _ h => h) (by rfl) ?y41 ?_
      case y41 => (intro w; go_simp <;> with_reducible rfl)
      simp only [Act.put, List.setIfInBounds_toArray, List.set_cons_zero, List.set_cons_succ]
      refine wpAny_done (by kernel_rfl) ?_ _
      go_wp2_with fail
      go_meet
      exact ⟨w10.heap.size, rfl, rfl, rfl, Lib.hid ⟨put6c_blk ZB.out h, hh.out.put (by omega) h⟩⟩
  case rest =>
  obtain ⟨M, rfl, rfl, rfl, hm⟩ := hcut
  clear S11 G4 hO
  have ⟨x0, x1, x2, x3, x4, x5⟩ := Hc6.of hm.out.1
  have ⟨y0, y1, y2, y3, y4, y5⟩ := Hc6.of hm.out.2.b
  have hAA := EA.out
  have hDD := EC.out
  rw [HC6.out] at hDD
  clear EA EC HC6 SE HSZ HNN
  by_cases p0 : pay.size = 0
  · rw [if_pos p0] at hAA
    subst hAA
    have tP := empty_yes p0
    by_cases v6 : v % 16 = 6
    · rw [if_pos v6] at hDD
      subst hDD
      have tv : (((v : Int) % 16) == 6) = true := by simp; omega
      clear v6 p0
      go_wp2_with fail
      go_ret
      exact ⟨rfl, hm.out.2.bel⟩
    · rw [if_neg v6] at hDD
      subst hDD
      have tv : (((v : Int) % 16) == 6) = false := by simp; omega
      clear v6 p0
      go_wp2_with fail
      go_ret
      exact ⟨rfl, hm.out.2.bel⟩
  · rw [if_neg p0] at hAA
    subst hAA
    have tP := empty_no p0
    by_cases v6 : v % 16 = 6
    · rw [if_pos v6] at hDD
      subst hDD
      have tv : (((v : Int) % 16) == 6) = true := by simp; omega
      clear v6 p0
      go_wp2_with fail
      go_ret
      exact ⟨rfl, hm.out.2.bel⟩
    · rw [if_neg v6] at hDD
      subst hDD
      have tv : (((v : Int) % 16) == 6) = false := by simp; omega
      clear v6 p0
      go_wp2_with fail
      go_ret
      exact ⟨rfl, hm.out.2.bel⟩

end Go.Proofs.Ytbaddhjlpahpkaa
