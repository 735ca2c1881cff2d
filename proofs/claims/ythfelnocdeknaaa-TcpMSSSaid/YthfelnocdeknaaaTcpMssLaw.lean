/-
  TcpMSS returns true at every input.
-/
import Derived.Test.YthfelnocdeknaaaTcpAwake
import Derived.Test.YthfelnocdeknaaaTake
namespace Go.Proofs.Ythfelnocdeknaaa
open Go.RowKit
set_option linter.unusedVariables false

/-- Of options that tell an MSS: where it stands, and what becomes of them with another number in its place. -/
structure MssAt (o : ByteArray) (n q : Nat) : Prop where
  two : 2 ≤ q
  fit : q + 2 ≤ o.size
  kind : (o[q - 2]'(by omega)).toNat = 2
  size : (o[q - 1]'(by omega)).toNat = 4
  num : n = (o[q]'(by omega)).toNat * 256 + (o[q + 1]'(by omega)).toNat
  right : rightL (o.extract 0 (q - 2)).data.toList = true
  none : mssL (o.extract 0 (q - 2)).data.toList = none
  other : ∀ a b : UInt8, rightL (o.extract 0 q ++ ⟨#[a, b]⟩ ++ o.extract (q + 2) o.size).data.toList = true ∧ mssL (o.extract 0 q ++ ⟨#[a, b]⟩ ++ o.extract (q + 2) o.size).data.toList = some (a.toNat * 256 + b.toNat, q)
theorem list_at {o : ByteArray} {l : List UInt8} (h : o.data.toList = l) {i : Nat} (hi : i < o.size) {c : UInt8} (hc : l[i]? = some c) : (o[i]'hi) = c := by
  have e : l[i]? = some (o[i]'hi) := by rw [← h, List.getElem?_eq_getElem (by simpa using hi)]; rfl
  rw [e] at hc
  exact Option.some.inj hc
theorem mssAt {o : ByteArray} {n q : Nat} (hm : mssL o.data.toList = some (n, q)) : MssAt o n q := by
  have hr : rightL o.data.toList = true := by
    cases h : rightL o.data.toList with
    | true => rfl
    | false => rw [mssL_none h] at hm; cases hm
  rw [mssL_right hr] at hm
  obtain ⟨pre, x, y, post, e, hq, hn, hp, hno, hall⟩ := (stands _ hr 0 n q hm).at_
  have hlen : o.size = pre.length + 4 + post.length := by
    have := congrArg List.length e
    simp only [List.length_append, List.length_cons, Array.length_toList, ByteArray.size_data] at this
    omega
  have hq2 : q = pre.length + 2 := by omega
  subst hq2
  have hpre : (o.extract 0 (pre.length + 2 - 2)).data.toList = pre := by
    rw [extract_list, e, List.drop_zero, show pre.length + 2 - 2 = pre.length by omega, List.take_left' rfl]
  have h1 : (o.extract 0 (pre.length + 2)).data.toList = pre ++ [2, 4] := by
    rw [extract_list, e, List.drop_zero, show pre ++ 2 :: 4 :: x :: y :: post = (pre ++ [2, 4]) ++ x :: y :: post by simp, List.take_left' (by simp)]
  have h2 : (o.extract (pre.length + 2 + 2) o.size).data.toList = post := by
    rw [extract_list, List.take_of_length_le (by simp), e, show pre ++ 2 :: 4 :: x :: y :: post = (pre ++ [2, 4, x, y]) ++ post by simp, List.drop_left' (by simp)]
  have hat : ∀ k (hk : pre.length + k < o.size) c, ([2, 4, x, y] : List UInt8)[k]? = some c → (o[pre.length + k]'hk) = c := by
    intro k hk c hc
    have hk4 : k < 4 := by
      by_cases h : k < 4
      · exact h
      · rw [List.getElem?_eq_none (by simp; omega)] at hc; cases hc
    refine list_at e hk ?_
    rw [List.getElem?_append_right (by omega), show pre.length + k - pre.length = k by omega, show (2 :: 4 :: x :: y :: post : List UInt8) = [2, 4, x, y] ++ post by simp, List.getElem?_append_left (by simpa using hk4)]
    exact hc
  refine ⟨by omega, by omega, ?_, ?_, ?_, by rw [hpre]; exact hp, by rw [hpre, mssL_right hp]; exact hno, ?_⟩
  · have := hat 0 (by omega) 2 rfl
    simp only [Nat.add_sub_cancel]
    simp only [Nat.add_zero] at this
    rw [this]; rfl
  · have := hat 1 (by omega) 4 rfl
    simp only [show pre.length + 2 - 1 = pre.length + 1 by omega]
    rw [this]; rfl
  · have e2 : (o[pre.length + 2]'(by omega)) = x := hat 2 (by omega) x rfl
    have e3 : (o[pre.length + 2 + 1]'(by omega)) = y := hat 3 (by omega) y rfl
    rw [e2, e3]
    exact hn
  · intro a b
    have e2 : (o.extract 0 (pre.length + 2) ++ ⟨#[a, b]⟩ ++ o.extract (pre.length + 2 + 2) o.size).data.toList = pre ++ 2 :: 4 :: a :: b :: post := by
      rw [cat_list, cat_list, h1, h2]
      simp
    rw [e2]
    obtain ⟨hr', hm'⟩ := hall a b
    refine ⟨hr', ?_⟩
    rw [mssL_right hr', hm']

set_option maxRecDepth 100000 in
set_option maxHeartbeats 2000000 in
theorem mssLaw_any (o : ByteArray) (fresh : Nat) (w : World) (hz : o.size ≤ 140737488355328) (hf : fresh ≤ 65535) :
    Calls Try.prog 6 #[.string o, .int .u16 (fresh : Int)] w (AwakeEnd w) := by
  have HA := Lib.hid (awake7_any w)
  have HM := Lib.hid (fun W => mss_call o W (by unfold maxLen; omega))
  unfold MssEnd at HM
  go_enter Try.func6, Try.ntmps6
  go_wp2_with fail
  refine HA.out.mono ?_
  rintro e w1 ⟨rfl, hb1⟩
  have B1 := Lib.hid hb1
  clear hb1 HA
  by_cases h7 : o.size ≤ 1000
  case neg =>
    have t7 : decide ((1000 : Int) < (o.size : Int)) = true := by simp; omega
    go_wp2_with fail
    go_ret
    exact ⟨rfl, B1.out⟩
  have t7 : decide ((1000 : Int) < (o.size : Int)) = false := by simp; omega
  go_wp2_with fail
  refine (HM.out _).mono ?_
  rintro e w2 ⟨rfl, hb2⟩
  have B2 := Lib.hid (B1.out.trans (hb2.mono B1.out.size))
  clear hb2 B1 t7
  cases hm : mssL o.data.toList with
  | none =>
    simp only [mN, mA, Option.isSome]
    go_wp2_with fail
    go_ret
    exact ⟨rfl, B2.out⟩
  | some v =>
    obtain ⟨n, q⟩ := v
    have F := Lib.hid (mssAt hm)
    simp only [mN, mA, Option.isSome]
    have h2 := F.out.two
    have hfit := F.out.fit
    have t3 : decide ((q : Int) < 2) = false := by simp; omega
    have t4 : decide ((o.size : Int) < (q : Int) + 2) = false := by simp; omega
    obtain ⟨p, hp⟩ : ∃ p, p = q - 2 := ⟨_, rfl⟩
    obtain ⟨p1, hp1⟩ : ∃ p, p = q - 1 := ⟨_, rfl⟩
    obtain ⟨p3, hp3⟩ : ∃ p, p = q + 1 := ⟨_, rfl⟩
    have k0 : q < o.size := by omega
    have k1 : p < o.size := by omega
    have k2 : p1 < o.size := by omega
    have k3 : p3 < o.size := by omega
    have t1 : (((o[p]'k1).toNat : Int) != 2) = false := by simp; have := F.out.kind; simp only [← hp] at this; omega
    have t2 : (((o[p1]'k2).toNat : Int) != 4) = false := by simp; have := F.out.size; simp only [← hp1] at this; omega
    have l2 : (o[q]'k0).toNat < 256 := (o[q]'k0).toNat_lt
    have l3 : (o[p3]'k3).toNat < 256 := (o[p3]'k3).toNat_lt
    have t9 : ((n : Int) != ((o[q]'k0).toNat : Int) * 256 + ((o[p3]'k3).toNat : Int)) = false := by simp; have := F.out.num; simp only [← hp3] at this; omega
    have eo : bits .or .i64 (((o[q]'k0).toNat : Int) * 256) ((o[p3]'k3).toNat : Int) = ((o[q]'k0).toNat : Int) * 256 + ((o[p3]'k3).toNat : Int) := i64_or_low _ _ 8 (by decide) (by omega) (by omega) (by simp) (by omega) (by simp; omega)
    have e1 : IntKind.i64.wrap ((q : Int) + 2) = (q : Int) + 2 := IntWalk.i64_in _ (by omega)
    have e2 : IntKind.i64.wrap ((q : Int) - 2) = (p : Int) := by rw [IntWalk.i64_in _ (by omega)]; omega
    have e3 : IntKind.i64.wrap ((q : Int) - 1) = (p1 : Int) := by rw [IntWalk.i64_in _ (by omega)]; omega
    have e4 : IntKind.i64.wrap ((q : Int) + 1) = (p3 : Int) := by rw [IntWalk.i64_in _ (by omega)]; omega
    have e5 : IntKind.i64.wrap ((o[q]'k0).toNat : Int) = ((o[q]'k0).toNat : Int) := IntWalk.i64_in _ (by omega)
    have e6 : IntKind.i64.wrap (((o[q]'k0).toNat : Int) * 256) = ((o[q]'k0).toNat : Int) * 256 := IntWalk.i64_in _ (by omega)
    have e7 : IntKind.i64.wrap ((o[p3]'k3).toNat : Int) = ((o[p3]'k3).toNat : Int) := IntWalk.i64_in _ (by omega)
    have HP := Lib.hid hp
    clear hp hp1 hp3
    go_wp2_with fail
    go_quiet (fail)
    have B3 := Lib.hid (below_drewN B2.out nq)
    clear B2 t1 t2 t9 eo e3 e4 e5 e6 e7 t3 t4 l2 l3 HM
    generalize w2.drewN nq = w3 at *
    obtain ⟨a, ha⟩ : ∃ a : UInt8, a = UInt8.ofNat (fresh / 256) := ⟨_, rfl⟩
    obtain ⟨b, hb⟩ : ∃ b : UInt8, b = UInt8.ofNat fresh := ⟨_, rfl⟩
    have han : a.toNat = fresh / 256 := by rw [ha, UInt8.toNat_ofNat']; omega
    have hbn : b.toNat = fresh % 256 := by rw [hb, UInt8.toNat_ofNat']
    have hva : IntKind.u8.wrap ((fresh : Int) / 256) = (a.toNat : Int) := by rw [IntKind.wrap_u8]; omega
    have hvb : IntKind.u8.wrap (fresh : Int) = (b.toNat : Int) := by rw [IntKind.wrap_u8]; omega
    have hab : a.toNat * 256 + b.toNat = fresh := by omega
    have FO := F.out.other a b
    rw [hab] at FO
    have FP := Lib.hid F.out.right
    have FN := Lib.hid F.out.none
    rw [← HP.out] at FP FN
    obtain ⟨A, hA⟩ : ∃ A, o.extract 0 q = A := ⟨_, rfl⟩
    obtain ⟨q2, hq2⟩ : ∃ q2, q2 = q + 2 := ⟨_, rfl⟩
    have e8 : IntKind.i64.wrap ((q : Int) + 2) = (q2 : Int) := by rw [IntWalk.i64_in _ (by omega)]; omega
    rw [← hq2] at FO
    have g1 : q ≤ o.size := by omega
    have g2 : q2 ≤ o.size := by omega
    have g3 : p ≤ o.size := by omega
    have i1 : ((q : Int) - 2).toNat = p := by have := HP.out; omega
    clear e1 hq2
    obtain ⟨Z, hZ⟩ : ∃ Z, o.extract q2 o.size = Z := ⟨_, rfl⟩
    obtain ⟨E, hE⟩ : ∃ E, o.extract 0 p = E := ⟨_, rfl⟩
    have hAs : A.size ≤ 1000 := by rw [← hA, ByteArray.size_extract]; omega
    have hZs : Z.size ≤ 1000 := by rw [← hZ, ByteArray.size_extract]; omega
    have hEs : E.size ≤ 1000 := by rw [← hE, ByteArray.size_extract]; omega
    obtain ⟨C, hC⟩ : ∃ C : ByteArray, C = ⟨#[a, b]⟩ := ⟨_, rfl⟩
    have hCs : C.size = 2 := by rw [hC]; rfl
    rw [← hC, hA, hZ] at FO
    rw [hE] at FP FN
    have hXs : (A ++ C ++ Z).size ≤ 3000 := by rw [cat_size, cat_size]; omega
    have MX := Lib.hid (fun W => mss_call (A ++ C ++ Z) W (by unfold maxLen; omega))
    unfold MssEnd at MX
    rw [FO.2] at MX
    simp only [mN, mA, Option.isSome] at MX
    have RX := Lib.hid (fun W => right_call (A ++ C ++ Z) W (by unfold maxLen; omega))
    rw [FO.1] at RX
    have ME := Lib.hid (fun W => mss_call E W (by unfold maxLen; omega))
    unfold MssEnd at ME
    rw [FN.out] at ME
    simp only [mN, mA, Option.isSome] at ME
    have RE := Lib.hid (fun W => right_call E W (by unfold maxLen; omega))
    rw [FP.out] at RE
    have hc1 : ¬ (9223372036854775807 < A.size + C.size) := by omega
    have hc2 : ¬ (9223372036854775807 < A.size + C.size + Z.size) := by omega
    have hcv := fun W => conv_new W [a, b] #[.int .u8 (a.toNat : Int), .int .u8 (b.toNat : Int)] rfl 2 rfl
    rw [show (⟨[a, b].toArray⟩ : ByteArray) = C from hC.symm] at hcv
    have HF := Lib.hid hf
    clear FO FP FN F hm ha hb han hbn hab hCs hC hAs hZs hEs hXs HP h7 hfit
    go_wp2_with fail
    refine wp_region_any (by kernel_rfl) ?_
    change wpAny _ _ _ _ _ _ _ (World.drew _)
    have B4 : Hid (Below w.heap.size w w3.drew) := below_drewN B3.out 1
    clear B3
    generalize w3.drew = w4 at *
    refine takeA_yes (i := 0) (d := some 72) (v := ?v1) rfl rfl (by kernel_rfl) (by kernel_rfl) (by kernel_rfl) (fun _ _ _ h => h) (by rfl) ?y1 ?_
    case y1 => (intro w; go_simp <;> with_reducible rfl)
    simp only [Act.put, List.setIfInBounds_toArray, List.set_cons_zero, List.set_cons_succ]
    refine takeA_yes (i := 1) (d := some 73) (v := ?v2) rfl rfl (by kernel_rfl) (by kernel_rfl) (by kernel_rfl) (fun _ _ _ h => h) (by rfl) ?y2 ?_
    case y2 => (intro w; go_simp <;> with_reducible rfl)
    simp only [Act.put, List.setIfInBounds_toArray, List.set_cons_zero, List.set_cons_succ]
    refine takeA_yes (i := 2) (d := some 74) (v := ?v3) rfl rfl (by kernel_rfl) (by kernel_rfl) (by kernel_rfl) (fun _ _ _ h => h) (by rfl) ?y3 ?_
    case y3 => (intro w; go_simp <;> with_reducible rfl)
    simp only [Act.put, List.setIfInBounds_toArray, List.set_cons_zero, List.set_cons_succ]
    refine takeA_yes (i := 3) (d := some 75) (v := ?v4) rfl rfl (by kernel_rfl) (by kernel_rfl) (by kernel_rfl) (fun _ _ _ h => h) (by rfl) ?y4 ?_
    case y4 => (intro w; go_simp <;> with_reducible rfl)
    simp only [Act.put, List.setIfInBounds_toArray, List.set_cons_zero, List.set_cons_succ]
    refine takeA_yes (i := 4) (d := some 76) (v := ?v5) rfl rfl (by kernel_rfl) (by kernel_rfl) (by kernel_rfl) (fun _ _ _ h => h) (by rfl) ?y5 ?_
    case y5 => (intro w; go_simp <;> with_reducible rfl)
    simp only [Act.put, List.setIfInBounds_toArray, List.set_cons_zero, List.set_cons_succ]
    refine takeA_yes (i := 5) (d := some 77) (v := .int .u8 (a.toNat : Int)) rfl rfl (by kernel_rfl) (by kernel_rfl) (by kernel_rfl) (fun _ _ _ h => h) (by rfl) ?y6 ?_
    case y6 => (intro w; go_simp <;> with_reducible rfl)
    simp only [Act.put, List.setIfInBounds_toArray, List.set_cons_zero, List.set_cons_succ]
    refine takeA_yes (i := 6) (d := some 78) (v := ?v7) rfl rfl (by kernel_rfl) (by kernel_rfl) (by kernel_rfl) (fun _ _ _ h => h) (by rfl) ?y7 ?_
    case y7 => (intro w; go_simp <;> with_reducible rfl)
    simp only [Act.put, List.setIfInBounds_toArray, List.set_cons_zero, List.set_cons_succ]
    refine takeA_yes (i := 7) (d := some 79) (v := .int .u8 (b.toNat : Int)) rfl rfl (by kernel_rfl) (by kernel_rfl) (by kernel_rfl) (fun _ _ _ h => h) (by rfl) ?y8 ?_
    case y8 => (intro w; go_simp <;> with_reducible rfl)
    simp only [Act.put, List.setIfInBounds_toArray, List.set_cons_zero, List.set_cons_succ]
    refine takeA_yes (i := 11) (d := some 83) (v := ?v9) rfl rfl (by kernel_rfl) (by kernel_rfl) (by kernel_rfl) (fun _ _ _ h => h) (by rfl) ?y9 ?_
    case y9 => (intro w; go_simp <;> with_reducible rfl)
    simp only [Act.put, List.setIfInBounds_toArray, List.set_cons_zero, List.set_cons_succ]
    refine takeA_yes (i := 12) (d := some 84) (v := ?v10) rfl rfl (by kernel_rfl) (by kernel_rfl) (by kernel_rfl) (fun _ _ _ h => h) (by rfl) ?y10 ?_
    case y10 => (intro w; go_simp <;> with_reducible rfl)
    simp only [Act.put, List.setIfInBounds_toArray, List.set_cons_zero, List.set_cons_succ]
    refine takeA_yes (i := 13) (d := some 85) (v := ?v11) rfl rfl (by kernel_rfl) (by kernel_rfl) (by kernel_rfl) (fun _ _ _ h => h) (by rfl) ?y11 ?_
    case y11 => (intro w; go_simp <;> with_reducible rfl)
    simp only [Act.put, List.setIfInBounds_toArray, List.set_cons_zero, List.set_cons_succ]
    refine takeA_yes (i := 14) (d := some 86) (v := ?v12) rfl rfl (by kernel_rfl) (by kernel_rfl) (by kernel_rfl) (fun _ _ _ h => h) (by rfl) ?y12 ?_
    case y12 => (intro w; go_simp <;> with_reducible rfl)
    simp only [Act.put, List.setIfInBounds_toArray, List.set_cons_zero, List.set_cons_succ]
    refine wpAny_ready (rs := [8]) (by kernel_rfl) (by simp) ?_
    refine AllReady.cons rfl (fun K hK => ?_) AllReady.nil
    go_simp
    refine hK _ _ ?_
    clear hK K
    try simp only [Act.put, List.setIfInBounds_toArray, List.set_cons_zero, List.set_cons_succ]
    refine wpAny_ready (rs := [9]) (by kernel_rfl) (by simp) ?_
    refine AllReady.cons rfl (fun K hK => ?_) AllReady.nil
    go_simp
    refine hK _ _ ?_
    clear hK K
    try simp only [Act.put, List.setIfInBounds_toArray, List.set_cons_zero, List.set_cons_succ]
    refine takeA_yes (i := 10) (d := some 82) (v := ?v13) rfl rfl (by kernel_rfl) (by kernel_rfl) (by kernel_rfl) (fun _ _ _ h => h) (by rfl) ?y13 ?_
    case y13 => (intro w; go_simp <;> with_reducible rfl)
    simp only [Act.put, List.setIfInBounds_toArray, List.set_cons_zero, List.set_cons_succ]
    refine takeA_yes (i := 15) (d := some 87) (v := ?v14) rfl rfl (by kernel_rfl) (by kernel_rfl) (by kernel_rfl) (fun _ _ _ h => h) (by rfl) ?y14 ?_
    case y14 => (intro w; go_simp <;> with_reducible rfl)
    simp only [Act.put, List.setIfInBounds_toArray, List.set_cons_zero, List.set_cons_succ]
    refine takeA_yes (i := 16) (d := some 8) (v := ?v15) rfl rfl (by kernel_rfl) (by kernel_rfl) (by kernel_rfl) (fun _ _ _ h => h) (by rfl) ?y15 ?_
    case y15 => (intro w; go_simp <;> with_reducible rfl)
    simp only [Act.put, List.setIfInBounds_toArray, List.set_cons_zero, List.set_cons_succ]
    refine wpAny_done (by kernel_rfl) ?_ _
    have B5 := Lib.hid (B4.out.alloc B4.out.size (.cells #[.int .u8 (a.toNat : Int), .int .u8 (b.toNat : Int)] 5))
    clear B4 hcv hc1 hc2 hva hvb hA hZ e8 g2
    generalize w4.alloc (.cells #[.int .u8 (a.toNat : Int), .int .u8 (b.toNat : Int)] 5) = w5 at *
    generalize A ++ C ++ Z = X at *
    go_wp2_with fail
    refine (MX.out _).mono ?_
    rintro e w6 ⟨rfl, hb6⟩
    have B6 := Lib.hid (B5.out.trans (hb6.mono B5.out.size))
    clear hb6 B5 MX
    go_wp2_with fail
    refine (ME.out _).mono ?_
    rintro e w7 ⟨rfl, hb7⟩
    have B7 := Lib.hid (B6.out.trans (hb7.mono B6.out.size))
    clear hb7 B6 ME
    go_wp2_with fail
    refine (RX.out _).mono ?_
    rintro e w8 ⟨rfl, hb8⟩
    have B8 := Lib.hid (B7.out.trans (hb8.mono B7.out.size))
    clear hb8 B7 RX
    go_wp2_with fail
    refine (RE.out _).mono ?_
    rintro e w9 ⟨rfl, hb9⟩
    have B9 := Lib.hid (B8.out.trans (hb9.mono B8.out.size))
    clear hb9 B8 RE
    go_wp2_with fail
    go_ret
    exact ⟨rfl, B9.out⟩

theorem mssLaw_row (o : ByteArray) (fresh : Int) (w : World) (hz : o.size ≤ 140737488355328) (hf : 0 ≤ fresh ∧ fresh ≤ 65535) :
    Calls Try.prog 6 #[.string o, .int .u16 fresh] w (AwakeEnd w) := by
  obtain ⟨n, rfl⟩ := Int.eq_ofNat_of_zero_le hf.1
  exact mssLaw_any o n w hz (by omega)

end Go.Proofs.Ythfelnocdeknaaa
