/-
  The document's Get. (Written by wip/tools/genguerefget.py.)
-/
import Derived.Test.YtbfcccfgphelhaaDoorGueSpec
import Derived.Test.YtbfcccfgphelhaaDoorUdpB
import Derived.Test.YtbfcccfgphelhaaDoorIpipRef
import Derived.Test.YtbfcccfgphelhaaDoorSums
import Derived.Deep.RegionHeld3
namespace Go.Proofs.YtbfcccfgphelhaaDoor
open Go.RowKit
set_option linter.unusedVariables false
set_option linter.unusedSimpArgs false

/-- What it answers. -/
def Ref13End (src dst b : ByteArray) (w : World) (e : Ending) (w' : World) : Prop :=
  e = .returned (.tuple #[.int .i64 (get13H src dst b).port, .bool (get13H src dst b).sum, .string (get13S src dst b), .int .i64 (get13E src dst b : Nat)]) ∧ Below w.heap.size w w'
theorem results_tmp4 {fn : Func} {t u v x : Tmp} (h : fn.results = #[.tmp t, .tmp u, .tmp v, .tmp x]) (tmps : Array Value) (P : Program) (w : World) :
    (results fn tmps).run P w = .ok (.tuple #[tmps.getD t undef, tmps.getD u undef, tmps.getD v undef, tmps.getD x undef]) w := by
  simp [results, h, go_sem]
/-- The answers beside a fault. -/
theorem stop13 {src dst b : ByteArray} {k : Nat} (he : get13E src dst b = k) (h0 : k ≠ 0) : get13H src dst b = H13.zero ∧ get13S src dst b = ⟨#[]⟩ := get13_err (by rw [he]; exact h0)
/-- A datagram's block. -/
structure Hr13 (w W : World) (N : Nat) (d : D8) : Prop where
  b : Blk W N d.cells 46
  bel : Below w.heap.size w W
theorem Hr13.below {w W W' : World} {N : Nat} {d : D8} (r : Hr13 w W N d) (hb : Below W.heap.size W W') : Hr13 w W' N d := ⟨(hb.block _ r.b.lt).trans r.b, r.bel.trans (hb.mono r.bel.size)⟩
theorem Hr13.drew {w W : World} {N : Nat} {d : D8} (r : Hr13 w W N d) : Hr13 w W.drew N d := r.below (below_drewN (Below.refl _ _) 1)
theorem keepH13 {w W W' : World} {N : Nat} {d : D8} (hb : Below W.heap.size W W') (r : Hid (Hr13 w W N d)) : Hid (Hr13 w W' N d) := Lib.hid (r.out.below hb)

set_option maxRecDepth 100000 in
set_option maxHeartbeats 4000000 in
theorem refget13_any (src dst b : ByteArray) (w : World) (hs : src.size ≤ 100000) (hd : dst.size ≤ 100000) (hz : b.size ≤ 700000) :
    Calls Tryd.prog 12 #[.string src, .string dst, .string b] w (Ref13End src dst b w) := by
  have HU := Lib.hid (fun W => refget8_any b W (by omega))
  unfold Ref8Got at HU
  unfold D8.cells at HU
  by_cases h1 : get8E b = 0
  case neg =>
    have HE : Hid (get13E src dst b = get8E b) := by
      show get13E src dst b = get8E b
      unfold get13E
      rw [if_pos h1]
    have H1 := Lib.hid (stop13 HE.out h1)
    have t1 : ((get8E b : Int) != 0) = true := by simp; omega
    clear h1 hs hd hz
    go_enter Tryd.func12, Tryd.ntmps12
    go_wp2_with fail
    refine (HU.out w).mono ?_
    rintro e w1 ⟨rfl, hb⟩
    have S1 := Lib.hid (hb.alloc hb.size (.cells #[.int .i64 (get8H b).src, .int .i64 (get8H b).dst, .string (get8H b).pay] 46))
    go_wp2_with fail
    exact ⟨rfl, _, results_tmp4 rfl _ _ _, by rw [H1.out.1, H1.out.2, HE.out]; rfl, S1.out⟩
  have HE : Hid (get13E src dst b = if numOf b 2 2 ≠ 6080 then 6 else if wrong13 src dst b = true then 5 else in13E (b.extract 8 b.size)) := by
    show get13E src dst b = _
    unfold get13E
    rw [if_neg (by omega)]
  have HSAY : Hid (say13 b = ⟨numOf b 0 2, decide (numOf b 6 2 ≠ 0)⟩) := rfl
  have HW : Hid (wrong13 src dst b = (decide (numOf b 6 2 ≠ 0) && decide (sumD (ph9 17 src dst b) ≠ 0))) := rfl
  have HOK := Lib.hid (fun h => get13_ok (src := src) (dst := dst) (b := b) h)
  have ⟨g1, g2⟩ := get8_ok h1
  rw [g1, g2, h1] at HU
  have HPS := Lib.hid (fun W => refpseudo_any src dst 17 (b.size : Nat) W (by omega) (by omega))
  have hlen := pseudo_len src dst 17 (b.size : Nat)
  have hXs : (⟨(pseudoD src.data.toList dst.data.toList 17 (b.size : Nat)).toArray⟩ : ByteArray).size ≤ 200008 := by rw [list_size]; omega
  have hph : ((⟨(pseudoD src.data.toList dst.data.toList 17 (b.size : Nat)).toArray⟩ : ByteArray) ++ b).data.toList = ph9 17 src dst b := by rw [cat_list]; rfl
  clear hlen g1 g2 h1
  generalize (⟨(pseudoD src.data.toList dst.data.toList 17 (b.size : Nat)).toArray⟩ : ByteArray) = X at *
  have HSM := Lib.hid (fun W => refsum_any (X ++ b) W (by rw [cat_size]; omega))
  rw [hph] at HSM
  unfold SumEnd at HSM
  have a1 : ¬ (9223372036854775807 < X.size + b.size) := by omega
  have HPZ : Hid ((b.extract 8 b.size).size ≤ 1000000) := by show _ ≤ _; rw [ByteArray.size_extract]; omega
  unfold dat8 at HU
  simp only at HU
  generalize sumD (ph9 17 src dst b) = sm at *
  generalize b.extract 8 b.size = P at *
  generalize numOf b 0 2 = m0 at *
  generalize numOf b 2 2 = m1 at *
  generalize numOf b 6 2 = m3 at *
  clear hs hd hz hXs hph
  go_enter Tryd.func12, Tryd.ntmps12
  go_wp2_with fail
  refine (HU.out w).mono ?_
  rintro e w1 ⟨rfl, hb⟩
  have S1 : Hid (Hr13 w (w1.alloc (.cells #[.int .i64 (m0 : Nat), .int .i64 (m1 : Nat), .string P] 46)) w1.heap.size ⟨m0, m1, P⟩) := Lib.hid ⟨Blk.new _ _ _, hb.alloc hb.size _⟩
  clear hb HU
  have ⟨c0, c1, c2⟩ := Hc8.of S1.out.b
  simp only at c0 c1 c2
  by_cases h2 : m1 = 6080
  case neg =>
    have HE2 := Lib.hid (HE.out.trans (if_pos h2))
    have H1 := Lib.hid (stop13 HE2.out (by decide))
    have t2 : ((m1 : Int) != 6080) = true := by simp; omega
    clear h2
    go_wp2_with fail
    exact ⟨rfl, _, results_tmp4 rfl _ _ _, by rw [H1.out.1, H1.out.2, HE2.out]; rfl, S1.out.bel⟩
  have HE2 := Lib.hid (HE.out.trans (if_neg (fun h => h h2)))
  have t2 : ((m1 : Int) != 6080) = false := by simp; omega
  clear h2 HE
  by_cases h3 : m3 = 0
  · have t3 : ((m3 : Int) != 0) = false := by simp; omega
    have HC : Hid (decide (m3 ≠ 0) = false) := by show decide (m3 ≠ 0) = false; simp [h3]
    have HE3 : Hid (get13E src dst b = in13E P) := by
      show get13E src dst b = in13E P
      rw [HE2.out, HW.out, h3]; rfl
    have S := S1
    clear h3 HE2 HW S1 HPS HSM a1
    by_cases p4 : P.size < 4
    · have HE4 : Hid (get13E src dst b = 2) := HE3.out.trans (by unfold in13E; rw [if_pos p4])
      have H1 := Lib.hid (stop13 HE4.out (by decide))
      have t4 : decide ((P.size : Int) < 4) = true := by simp; omega
      clear p4
      go_wp2_with fail
      exact ⟨rfl, _, results_tmp4 rfl _ _ _, by rw [H1.out.1, H1.out.2, HE4.out]; rfl, S.out.bel⟩
    have t4 : decide ((P.size : Int) < 4) = false := by simp; omega
    have HE4 : Hid (get13E src dst b = if 64 ≤ numOf P 0 1 then 3 else if numOf P 0 1 ≠ 0 ∨ numOf P 2 2 ≠ 0 then 9 else pk13 (numOf P 1 1) (v11 (P.extract 4 P.size))) := HE3.out.trans (by unfold in13E; rw [if_neg p4])
    have HG : Hid (pk13 (numOf P 1 1) (v11 (P.extract 4 P.size)) = 0 → get11S (numOf P 1 1 : Nat) (P.extract 4 P.size) = P.extract 4 P.size) := by
      intro h
      unfold get11S
      rw [get11_pk, h]
      exact if_pos rfl
    have HF := Lib.hid (fun W => refget11_any (numOf P 1 1 : Nat) (P.extract 4 P.size) W)
    unfold Tells at HF
    rw [get11_pk] at HF
    have HI : Hid (in13 P = P.extract 4 P.size) := rfl
    have b0 : (4 : Int) ≤ (P.size : Int) := by omega
    have b1 : 0 < P.size := by omega
    have b2 : 1 < P.size := by omega
    have b3 : 2 < P.size := by omega
    have b4 : 3 < P.size := by omega
    have i0 := (num_1 P 0 b1).symm
    have i1 := (num_1 P 1 b2).symm
    have e2 := num_2 P 2 (by omega)
    obtain ⟨n2, i2⟩ : ∃ n, (P[2]'b3).toNat = n := ⟨_, rfl⟩
    obtain ⟨n3, i3⟩ : ∃ n, (P[3]'b4).toNat = n := ⟨_, rfl⟩
    have l0 := numOf_lt P 0 1 (by omega)
    have l1 := numOf_lt P 1 1 (by omega)
    simp only [show 2 + 1 = 3 from rfl] at e2
    rw [i2, i3] at e2
    rw [e2] at HE4
    clear e2 HE3
    generalize numOf P 0 1 = n0 at *
    generalize numOf P 1 1 = n1 at *
    generalize get11S (n1 : Nat) (P.extract 4 P.size) = G at *
    generalize pk13 n1 (v11 (P.extract 4 P.size)) = Q at *
    have x1 : IntKind.i64.wrap (n1 : Int) = (n1 : Nat) := by rw [IntWalk.i64_in _ (by omega)]
    by_cases q0 : 64 ≤ n0
    · have HE5 := Lib.hid (HE4.out.trans (if_pos q0))
      have H1 := Lib.hid (stop13 HE5.out (by decide))
      have t5 : decide ((64 : Int) ≤ (n0 : Int)) = true := by simp; omega
      clear q0 l0 l1
      go_wp2_with fail
      exact ⟨rfl, _, results_tmp4 rfl _ _ _, by rw [H1.out.1, H1.out.2, HE5.out]; rfl, S.out.bel⟩
    have HE5 := Lib.hid (HE4.out.trans (if_neg q0))
    have t5 : decide ((64 : Int) ≤ (n0 : Int)) = false := by simp; omega
    clear q0 HE4
    by_cases q1 : n0 = 0
    case neg =>
      have HE6 := Lib.hid (HE5.out.trans (if_pos (Or.inl q1)))
      have H1 := Lib.hid (stop13 HE6.out (by decide))
      have t6 : ((n0 : Int) != 0) = true := by simp; omega
      clear q1 l0 l1
      go_wp2_with fail
      exact ⟨rfl, _, results_tmp4 rfl _ _ _, by rw [H1.out.1, H1.out.2, HE6.out]; rfl, S.out.bel⟩
    have t6 : ((n0 : Int) != 0) = false := by simp; omega
    by_cases q2 : n2 = 0
    case neg =>
      have HE6 := Lib.hid (HE5.out.trans (if_pos (Or.inr (by omega))))
      have H1 := Lib.hid (stop13 HE6.out (by decide))
      have t7 : ((n2 : Int) != 0) = true := by simp; omega
      clear q1 q2 l0 l1
      go_wp2_with fail
      exact ⟨rfl, _, results_tmp4 rfl _ _ _, by rw [H1.out.1, H1.out.2, HE6.out]; rfl, S.out.bel⟩
    have t7 : ((n2 : Int) != 0) = false := by simp; omega
    by_cases q3 : n3 = 0
    case neg =>
      have HE6 := Lib.hid (HE5.out.trans (if_pos (Or.inr (by omega))))
      have H1 := Lib.hid (stop13 HE6.out (by decide))
      have t8 : ((n3 : Int) != 0) = true := by simp; omega
      clear q1 q2 q3 l0 l1
      go_wp2_with fail
      exact ⟨rfl, _, results_tmp4 rfl _ _ _, by rw [H1.out.1, H1.out.2, HE6.out]; rfl, S.out.bel⟩
    have t8 : ((n3 : Int) != 0) = false := by simp; omega
    have HE6 := Lib.hid (HE5.out.trans (if_neg (by omega)))
    clear q1 q2 q3 l0 l1 HE5 p4
    obtain ⟨I, hI⟩ : ∃ I, P.extract 4 P.size = I := ⟨_, rfl⟩
    rw [hI] at HG HF HI
    go_wp2_with fail
    go_region_held3 (fun W => Hid (Hr13 w W w1.heap.size ⟨m0, m1, P⟩))
      (first | exact Lib.hid S.out.drew | exact keepH13 (by assumption) (by assumption))
      (first
        | (go_at_call 30; ((with_reducible refine (HF.out _).mono ?_); rintro e w' ⟨rfl, hb⟩)))
    rename_i held
    have S9 := Lib.hid held.out
    have ⟨d0, d1, d2⟩ := Hc8.of S9.out.b
    simp only at d0 d1 d2
    clear held HF c0 c1 c2 S
    by_cases q4 : Q = 0
    case neg =>
      have H1 := Lib.hid (stop13 HE6.out q4)
      have t9 : ((Q : Int) != 0) = true := by simp; omega
      clear q4
      go_wp2_with fail
      exact ⟨rfl, _, results_tmp4 rfl _ _ _, by rw [H1.out.1, H1.out.2, HE6.out]; rfl, S9.out.bel⟩
    have HE7 := Lib.hid (HE6.out.trans q4)
    have hg := HG.out q4
    subst hg
    have t9 : ((Q : Int) != 0) = false := by simp; omega
    have HH := Lib.hid (HOK.out HE7.out)
    clear q4 HOK HG
    go_wp2_with fail
    exact ⟨rfl, _, results_tmp4 rfl _ _ _, by rw [HH.out.1, HH.out.2, HE7.out, HSAY.out, HI.out, HC.out]; rfl, S9.out.bel⟩
  have t3 : ((m3 : Int) != 0) = true := by simp; omega
  have HC : Hid (decide (m3 ≠ 0) = true) := by show decide (m3 ≠ 0) = true; simp [h3]
  have HW2 : Hid (wrong13 src dst b = decide (sm ≠ 0)) := by
    show wrong13 src dst b = _
    rw [HW.out]; simp [h3]
  clear HW h3
  go_wp2_with fail
  refine (HPS.out _).mono ?_
  rintro e w2 ⟨rfl, hb⟩
  have S2 := Lib.hid (S1.out.below hb)
  clear hb S1 HPS c0 c1 c2
  go_wp2_with fail
  refine (HSM.out _).mono ?_
  rintro e w3 ⟨rfl, hb⟩
  have S := Lib.hid (S2.out.below hb)
  clear hb S2 HSM a1
  have ⟨c0, c1, c2⟩ := Hc8.of S.out.b
  simp only at c0 c1 c2
  by_cases h4 : sm = 0
  case neg =>
    have HE3 : Hid (get13E src dst b = 5) := by
      show get13E src dst b = 5
      rw [HE2.out, HW2.out]; simp [h4]
    have H1 := Lib.hid (stop13 HE3.out (by decide))
    have t4 : ((sm : Int) != 0) = true := by simp; omega
    clear h4
    go_wp2_with fail
    exact ⟨rfl, _, results_tmp4 rfl _ _ _, by rw [H1.out.1, H1.out.2, HE3.out]; rfl, S.out.bel⟩
  have HE3 : Hid (get13E src dst b = in13E P) := by
    show get13E src dst b = in13E P
    rw [HE2.out, HW2.out]; simp [h4]
  have t4' : ((sm : Int) != 0) = false := by simp; omega
  clear h4 HW2 HE2
  by_cases p4 : P.size < 4
  · have HE4 : Hid (get13E src dst b = 2) := HE3.out.trans (by unfold in13E; rw [if_pos p4])
    have H1 := Lib.hid (stop13 HE4.out (by decide))
    have t4 : decide ((P.size : Int) < 4) = true := by simp; omega
    clear p4
    go_wp2_with fail
    exact ⟨rfl, _, results_tmp4 rfl _ _ _, by rw [H1.out.1, H1.out.2, HE4.out]; rfl, S.out.bel⟩
  have t4 : decide ((P.size : Int) < 4) = false := by simp; omega
  have HE4 : Hid (get13E src dst b = if 64 ≤ numOf P 0 1 then 3 else if numOf P 0 1 ≠ 0 ∨ numOf P 2 2 ≠ 0 then 9 else pk13 (numOf P 1 1) (v11 (P.extract 4 P.size))) := HE3.out.trans (by unfold in13E; rw [if_neg p4])
  have HG : Hid (pk13 (numOf P 1 1) (v11 (P.extract 4 P.size)) = 0 → get11S (numOf P 1 1 : Nat) (P.extract 4 P.size) = P.extract 4 P.size) := by
    intro h
    unfold get11S
    rw [get11_pk, h]
    exact if_pos rfl
  have HF := Lib.hid (fun W => refget11_any (numOf P 1 1 : Nat) (P.extract 4 P.size) W)
  unfold Tells at HF
  rw [get11_pk] at HF
  have HI : Hid (in13 P = P.extract 4 P.size) := rfl
  have b0 : (4 : Int) ≤ (P.size : Int) := by omega
  have b1 : 0 < P.size := by omega
  have b2 : 1 < P.size := by omega
  have b3 : 2 < P.size := by omega
  have b4 : 3 < P.size := by omega
  have i0 := (num_1 P 0 b1).symm
  have i1 := (num_1 P 1 b2).symm
  have e2 := num_2 P 2 (by omega)
  obtain ⟨n2, i2⟩ : ∃ n, (P[2]'b3).toNat = n := ⟨_, rfl⟩
  obtain ⟨n3, i3⟩ : ∃ n, (P[3]'b4).toNat = n := ⟨_, rfl⟩
  have l0 := numOf_lt P 0 1 (by omega)
  have l1 := numOf_lt P 1 1 (by omega)
  simp only [show 2 + 1 = 3 from rfl] at e2
  rw [i2, i3] at e2
  rw [e2] at HE4
  clear e2 HE3
  generalize numOf P 0 1 = n0 at *
  generalize numOf P 1 1 = n1 at *
  generalize get11S (n1 : Nat) (P.extract 4 P.size) = G at *
  generalize pk13 n1 (v11 (P.extract 4 P.size)) = Q at *
  have x1 : IntKind.i64.wrap (n1 : Int) = (n1 : Nat) := by rw [IntWalk.i64_in _ (by omega)]
  by_cases q0 : 64 ≤ n0
  · have HE5 := Lib.hid (HE4.out.trans (if_pos q0))
    have H1 := Lib.hid (stop13 HE5.out (by decide))
    have t5 : decide ((64 : Int) ≤ (n0 : Int)) = true := by simp; omega
    clear q0 l0 l1
    go_wp2_with fail
    exact ⟨rfl, _, results_tmp4 rfl _ _ _, by rw [H1.out.1, H1.out.2, HE5.out]; rfl, S.out.bel⟩
  have HE5 := Lib.hid (HE4.out.trans (if_neg q0))
  have t5 : decide ((64 : Int) ≤ (n0 : Int)) = false := by simp; omega
  clear q0 HE4
  by_cases q1 : n0 = 0
  case neg =>
    have HE6 := Lib.hid (HE5.out.trans (if_pos (Or.inl q1)))
    have H1 := Lib.hid (stop13 HE6.out (by decide))
    have t6 : ((n0 : Int) != 0) = true := by simp; omega
    clear q1 l0 l1
    go_wp2_with fail
    exact ⟨rfl, _, results_tmp4 rfl _ _ _, by rw [H1.out.1, H1.out.2, HE6.out]; rfl, S.out.bel⟩
  have t6 : ((n0 : Int) != 0) = false := by simp; omega
  by_cases q2 : n2 = 0
  case neg =>
    have HE6 := Lib.hid (HE5.out.trans (if_pos (Or.inr (by omega))))
    have H1 := Lib.hid (stop13 HE6.out (by decide))
    have t7 : ((n2 : Int) != 0) = true := by simp; omega
    clear q1 q2 l0 l1
    go_wp2_with fail
    exact ⟨rfl, _, results_tmp4 rfl _ _ _, by rw [H1.out.1, H1.out.2, HE6.out]; rfl, S.out.bel⟩
  have t7 : ((n2 : Int) != 0) = false := by simp; omega
  by_cases q3 : n3 = 0
  case neg =>
    have HE6 := Lib.hid (HE5.out.trans (if_pos (Or.inr (by omega))))
    have H1 := Lib.hid (stop13 HE6.out (by decide))
    have t8 : ((n3 : Int) != 0) = true := by simp; omega
    clear q1 q2 q3 l0 l1
    go_wp2_with fail
    exact ⟨rfl, _, results_tmp4 rfl _ _ _, by rw [H1.out.1, H1.out.2, HE6.out]; rfl, S.out.bel⟩
  have t8 : ((n3 : Int) != 0) = false := by simp; omega
  have HE6 := Lib.hid (HE5.out.trans (if_neg (by omega)))
  clear q1 q2 q3 l0 l1 HE5 p4
  obtain ⟨I, hI⟩ : ∃ I, P.extract 4 P.size = I := ⟨_, rfl⟩
  rw [hI] at HG HF HI
  go_wp2_with fail
  go_region_held3 (fun W => Hid (Hr13 w W w1.heap.size ⟨m0, m1, P⟩))
    (first | exact Lib.hid S.out.drew | exact keepH13 (by assumption) (by assumption))
    (first
      | (go_at_call 30; ((with_reducible refine (HF.out _).mono ?_); rintro e w' ⟨rfl, hb⟩)))
  rename_i held
  have S9 := Lib.hid held.out
  have ⟨d0, d1, d2⟩ := Hc8.of S9.out.b
  simp only at d0 d1 d2
  clear held HF c0 c1 c2 S
  by_cases q4 : Q = 0
  case neg =>
    have H1 := Lib.hid (stop13 HE6.out q4)
    have t9 : ((Q : Int) != 0) = true := by simp; omega
    clear q4
    go_wp2_with fail
    exact ⟨rfl, _, results_tmp4 rfl _ _ _, by rw [H1.out.1, H1.out.2, HE6.out]; rfl, S9.out.bel⟩
  have HE7 := Lib.hid (HE6.out.trans q4)
  have hg := HG.out q4
  subst hg
  have t9 : ((Q : Int) != 0) = false := by simp; omega
  have HH := Lib.hid (HOK.out HE7.out)
  clear q4 HOK HG
  go_wp2_with fail
  exact ⟨rfl, _, results_tmp4 rfl _ _ _, by rw [HH.out.1, HH.out.2, HE7.out, HSAY.out, HI.out, HC.out]; rfl, S9.out.bel⟩

end Go.Proofs.YtbfcccfgphelhaaDoor
