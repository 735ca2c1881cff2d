/-
  What each Mode puts; mayBe; Wrap. (Written by wip/tools/genwrap.py.)
-/
import Derived.Test.YtmghdgkdnacinaaDoorTunnelCheck
import Derived.Test.YtmghdgkdnacinaaDoorGrePut
import Derived.Test.YtmghdgkdnacinaaDoorGueA
import Derived.Test.YtmghdgkdnacinaaDoorGuePlain
import Derived.Test.YtmghdgkdnacinaaDoorIp4W
namespace Go.Proofs.YtmghdgkdnacinaaDoor
open Go.RowKit
set_option linter.unusedVariables false
set_option linter.unusedSimpArgs false

/-- The two arguments' blocks, and the tables. -/
structure Wr14 (w W : World) (t : T14) (y : W14) : Prop where
  tb : Blk W w.heap.size t.cells 24
  yb : Blk W (w.heap.size + 1) y.cells 32
  gl : Gl13 w W
theorem Wr14.below {w W W' : World} {t : T14} {y : W14} (r : Wr14 w W t y) (hb : Below W.heap.size W W') : Wr14 w W' t y :=
  ⟨(hb.block _ r.tb.lt).trans r.tb, (hb.block _ r.yb.lt).trans r.yb, r.gl.below hb⟩
theorem Wr14.new (w : World) (t : T14) (y : W14) (hv : Vers w) (hp : Places w) : Wr14 w ((w.alloc (.cells t.cells 24)).alloc (.cells y.cells 32)) t y :=
  ⟨(Blk.new _ _ _).alloc _, bare14 _ _ _ _ _, ((Gl13.new hv hp).alloc _).alloc _⟩
theorem Wr14.alloc {w W : World} {t : T14} {y : W14} (r : Wr14 w W t y) (o : Obj) : Wr14 w (W.alloc o) t y := r.below ((Below.refl _ _).alloc (Nat.le_refl _) o)
theorem Wr14.drew {w W : World} {t : T14} {y : W14} (r : Wr14 w W t y) : Wr14 w W.drew t y := r.below (below_drewN (Below.refl _ _) 1)

set_option maxHeartbeats 1000000 in
theorem may14_any (y : W14) (w : World) : Calls Tryd.prog 13 #[.agg y.cells] w (Tells (.bool (may14 y)) w) := by
  have L := Lib.hid ((Below.refl w.heap.size w).alloc (Nat.le_refl _) (.cells y.cells 32))
  have HM : Hid (may14 y = (decide (y.src.size = 4) && decide (y.dst.size = 4) && within14 y.id 65535 && within14 y.port 65535)) := rfl
  have HW1 := Lib.hid (fun W => within14_any y.id 65535 W)
  have HW2 := Lib.hid (fun W => within14_any y.port 65535 W)
  generalize may14 y = R at *
  obtain ⟨src, dst, id, port⟩ := y
  unfold Tells
  unfold W14.cells at L ⊢
  simp only at L HM HW1 HW2 ⊢
  obtain ⟨a, ha⟩ : ∃ a, a = ((src.size : Int) == 4) := ⟨_, rfl⟩
  obtain ⟨b, hb⟩ : ∃ b, b = ((dst.size : Int) == 4) := ⟨_, rfl⟩
  have ea : decide (src.size = 4) = a := by rw [ha]; by_cases h : src.size = 4 <;> simp [h]; omega
  have eb : decide (dst.size = 4) = b := by rw [hb]; by_cases h : dst.size = 4 <;> simp [h]; omega
  rw [ea, eb] at HM
  clear ea eb
  have ta := ha.symm
  have tb := hb.symm
  clear ha hb
  generalize within14 id 65535 = c at *
  generalize within14 port 65535 = d at *
  cases a with
  | false =>
    go_enter Tryd.func13, Tryd.ntmps13
    go_wp2_with fail
    go_ret
    exact ⟨by rw [HM.out]; rfl, L.out⟩
  | true =>
  cases b with
  | false =>
    go_enter Tryd.func13, Tryd.ntmps13
    go_wp2_with fail
    go_ret
    exact ⟨by rw [HM.out]; rfl, L.out⟩
  | true =>
  cases c with
  | false =>
    go_enter Tryd.func13, Tryd.ntmps13
    go_wp2_with fail
    refine (HW1.out _).mono ?_
    rintro e w5 ⟨rfl, rfl⟩
    go_wp2_with fail
    go_ret
    exact ⟨by rw [HM.out]; rfl, L.out⟩
  | true =>
    go_enter Tryd.func13, Tryd.ntmps13
    go_wp2_with fail
    refine (HW1.out _).mono ?_
    rintro e w5 ⟨rfl, rfl⟩
    go_wp2_with fail
    refine (HW2.out _).mono ?_
    rintro e w6 ⟨rfl, rfl⟩
    go_wp2_with fail
    go_ret
    exact ⟨by rw [HM.out]; rfl, L.out⟩

set_option maxHeartbeats 1000000 in
theorem put14_ipip (t : T14) (y : W14) (s : ByteArray) (w : World) (hv : Vers w) (hp : Places w) :
    Calls Tryd.prog 20 #[.agg t.cells, .agg y.cells, .string s] w (Tells (.tuple #[.int .i64 (v11 s).pn, .string (put11S s), .int .i64 (v11 s).en]) w) := by
  have S0 := Lib.hid (Wr14.new w t y hv hp)
  have HP := Lib.hid (fun W h => put11_any s W h)
  unfold Tells at HP ⊢
  rw [V11.proto_pn, V11.err_en] at HP
  clear hv hp
  generalize put11S s = S at *
  generalize (v11 s).pn = p at *
  generalize (v11 s).en = E at *
  obtain ⟨n, sum, key, v, df, ttl, tos⟩ := t
  obtain ⟨src, dst, id, port⟩ := y
  unfold T14.cells W14.cells at S0 ⊢
  simp only at S0 ⊢
  go_enter Tryd.func20, Tryd.ntmps20
  go_wp2_with fail
  refine (HP.out _ S0.out.gl.vs).mono ?_
  rintro e w1 ⟨rfl, hb⟩
  have S1 := Lib.hid (S0.out.below hb)
  clear hb S0 HP
  go_wp2_with fail
  exact ⟨rfl, _, results_tmp3 rfl _ _ _, rfl, S1.out.gl.bel⟩

set_option maxHeartbeats 1000000 in
theorem put14_gre (t : T14) (y : W14) (s : ByteArray) (w : World) (hv : Vers w) (hp : Places w) (hk : t.v < 4294967296) (hs : s.size ≤ 1000000) :
    Calls Tryd.prog 27 #[.agg t.cells, .agg y.cells, .string s] w (Tells (.tuple #[.int .i64 47, .string (put12S t.head s), .int .i64 (v11 s).en]) w) := by
  have S0 := Lib.hid (Wr14.new w t y hv hp)
  have HH := Lib.hid (fun W => headGRE14_any t W)
  have HP := Lib.hid (fun W h => put12_any t.head s W h hk hs)
  unfold Tells at HP HH ⊢
  clear hv hp hk hs
  generalize put12S t.head s = S at *
  generalize (v11 s).en = E at *
  obtain ⟨n, sum, key, v, df, ttl, tos⟩ := t
  obtain ⟨src, dst, id, port⟩ := y
  unfold T14.head H12.cells at HP HH
  unfold T14.cells W14.cells at S0 ⊢
  unfold T14.cells at HH
  simp only at S0 HP HH ⊢
  go_enter Tryd.func27, Tryd.ntmps27
  go_wp2_with fail
  refine (HH.out _).mono ?_
  rintro e w1 ⟨rfl, hb⟩
  have S1 := Lib.hid (S0.out.below hb)
  clear hb S0 HH
  go_wp2_with fail
  refine (HP.out _ S1.out.gl.vs).mono ?_
  rintro e w2 ⟨rfl, hb⟩
  have S2 := Lib.hid (S1.out.below hb)
  clear hb S1 HP
  go_wp2_with fail
  exact ⟨rfl, _, results_tmp3 rfl _ _ _, rfl, S2.out.gl.bel⟩

set_option maxHeartbeats 1000000 in
theorem put14_gue (t : T14) (y : W14) (s : ByteArray) (w : World) (hv : Vers w) (hp : Places w) (h1 : y.src.size ≤ 100000) (h2 : y.dst.size ≤ 100000) (hs : s.size ≤ 1000000) :
    Calls Tryd.prog 32 #[.agg t.cells, .agg y.cells, .string s] w (Tells (.tuple #[.int .i64 17, .string (put13S ⟨y.port, t.sum⟩ y.src y.dst s), .int .i64 (put13E y.port s : Nat)]) w) := by
  have S0 := Lib.hid (Wr14.new w t y hv hp)
  have HP := Lib.hid (fun W hv hp => put13_any ⟨y.port, t.sum⟩ y.src y.dst s W hv hp h1 h2 hs)
  unfold Tells at HP ⊢
  unfold H13.cells at HP
  simp only at HP
  clear hv hp h1 h2 hs
  generalize put13S ⟨y.port, t.sum⟩ y.src y.dst s = S at *
  generalize put13E y.port s = E at *
  obtain ⟨n, sum, key, v, df, ttl, tos⟩ := t
  obtain ⟨src, dst, id, port⟩ := y
  unfold T14.cells W14.cells at S0 ⊢
  simp only at S0 HP ⊢
  go_enter Tryd.func32, Tryd.ntmps32
  go_wp2_with fail
  refine (HP.out _ S0.out.gl.vs S0.out.gl.ps).mono ?_
  rintro e w1 ⟨rfl, hb⟩
  have S1 := Lib.hid (S0.out.below hb)
  clear hb S0 HP
  go_wp2_with fail
  exact ⟨rfl, _, results_tmp3 rfl _ _ _, rfl, S1.out.gl.bel⟩

theorem putM14_any (m : M14) (hm : m.is = true) (t : T14) (y : W14) (s : ByteArray) (w : World) (hv : Vers w) (hp : Places w) (hk : t.v < 4294967296) (h1 : y.src.size ≤ 100000) (h2 : y.dst.size ≤ 100000) (hs : s.size ≤ 1000000) :
    Calls Tryd.prog m.nP #[.agg t.cells, .agg y.cells, .string s] w (Tells (.tuple #[.int .i64 (m.proto s), .string (m.putS t y s), .int .i64 (m.putE y s : Nat)]) w) := by
  cases m with
  | none => exact absurd hm (by decide)
  | ipip => exact put14_ipip t y s w hv hp
  | gre => exact put14_gre t y s w hv hp hk hs
  | gue => exact put14_gue t y s w hv hp h1 h2 hs
theorem fieldP14 (ms mk : Bool) (nS nP nG : FuncId) (u : World) : (Instr.field 48 (.agg #[.bool ms, .bool mk, .func (.func nS) #[] #[], .func (.func nP) #[] #[], .func (.func nG) #[] #[]]) 3).run Tryd.prog u = .ok (.func (.func nP) #[] #[]) u := by kernel_rfl
theorem put11S_size (s : ByteArray) : (put11S s).size ≤ s.size := by 
  unfold put11S
  split
  · exact Nat.le_refl _
  · exact Nat.zero_le _
theorem putM14_size (m : M14) (t : T14) (y : W14) (s : ByteArray) : (m.putS t y s).size ≤ s.size + 12 := by
  have h11 := put11S_size s
  cases m with
  | none => exact Nat.le_trans h11 (by omega)
  | ipip => exact Nat.le_trans h11 (by omega)
  | gre =>
    show (put12S t.head s).size ≤ _
    unfold put12S put12L
    split
    · rw [list_size, List.length_append, head12_length, size_list]
      have := (size12_le t.head.sum t.head.key).1
      omega
    · exact Nat.zero_le _
  | gue =>
    show (put13S ⟨y.port, t.sum⟩ y.src y.dst s).size ≤ _
    unfold put13S
    split
    · rename_i h
      have hz := (sent13_bare h).1.size
      unfold full13
      split
      · have e : ∀ a b K, K.size = 12 + s.size → (seal9 17 a b K).size = K.size := by
          intro a b K hK
          have hp : pl9 17 K.size = 6 := by unfold pl9; rw [if_neg (by omega), if_pos (by omega)]
          unfold seal9
          rw [hp, if_neg (by decide)]
          exact with9_size _ 6 _ (by omega)
        rw [e _ _ _ hz]
        simp only at hz ⊢
        omega
      · simp only at hz ⊢
        omega
    · exact Nat.zero_le _

theorem keepW14 {w W : World} {n : Int} {sum key : Bool} {v : Nat} {df : Bool} {ttl tos : Int} {src dst : ByteArray} {id port : Int} (r : Wr14 w W ⟨n, sum, key, v, df, ttl, tos⟩ ⟨src, dst, id, port⟩) : W.cell? ⟨w.heap.size, 0, none⟩ = some (.int .i64 n) ∧ W.cell? ⟨w.heap.size, 1, none⟩ = some (.bool sum) ∧ W.cell? ⟨w.heap.size, 2, none⟩ = some (.bool key) ∧ W.cell? ⟨w.heap.size, 3, none⟩ = some (.int .u32 (v : Nat)) ∧ W.cell? ⟨w.heap.size, 4, none⟩ = some (.bool df) ∧ W.cell? ⟨w.heap.size, 5, none⟩ = some (.int .i64 ttl) ∧ W.cell? ⟨w.heap.size, 6, none⟩ = some (.int .i64 tos) ∧ W.cell? ⟨w.heap.size + 1, 0, none⟩ = some (.string src) ∧ W.cell? ⟨w.heap.size + 1, 1, none⟩ = some (.string dst) ∧ W.cell? ⟨w.heap.size + 1, 2, none⟩ = some (.int .i64 id) ∧ W.cell? ⟨w.heap.size + 1, 3, none⟩ = some (.int .i64 port) :=
  ⟨r.tb.cell 0, r.tb.cell 1, r.tb.cell 2, r.tb.cell 3, r.tb.cell 4, r.tb.cell 5, r.tb.cell 6, r.yb.cell 0, r.yb.cell 1, r.yb.cell 2, r.yb.cell 3⟩

set_option maxRecDepth 100000 in
set_option maxHeartbeats 4000000 in
theorem wrap14_any (t : T14) (y : W14) (s : ByteArray) (w : World) (hv : Vers w) (hp : Places w) (hk : t.v < 4294967296) (hs : s.size ≤ 900000) :
    Calls Tryd.prog 8 #[.agg t.cells, .agg y.cells, .string s] w (Tells (.tuple #[.string (wrap14S t y s), .int .i64 (wrap14E t y s : Nat)]) w) := by
  have S0 := Lib.hid (Wr14.new w t y hv hp)
  have HC := Lib.hid (fun W => check14_any t W)
  have HM := Lib.hid (fun W => may14_any y W)
  unfold Tells at HC HM ⊢
  have HE : Hid (wrap14E t y s = if err14 t ≠ 0 then err14 t else if may14 y = false then 1 else if (m14 t.mode).putE y s ≠ 0 then (m14 t.mode).putE y s
    else putE (outer14 t y ((m14 t.mode).proto s)) ((m14 t.mode).putS t y s)) := rfl
  have HS : Hid (wrap14S t y s = if err14 t ≠ 0 then ⟨#[]⟩ else if may14 y = false then ⟨#[]⟩ else if (m14 t.mode).putE y s ≠ 0 then ⟨#[]⟩
    else putS (outer14 t y ((m14 t.mode).proto s)) ((m14 t.mode).putS t y s)) := rfl
  generalize wrap14E t y s = RE at *
  generalize wrap14S t y s = RS at *
  have HIS : Hid (err14 t = 0 → (m14 t.mode).is = true) := by
    show err14 t = 0 → _
    intro h
    unfold err14 at h
    cases hh : (m14 t.mode).is with
    | true => rfl
    | false => rw [hh] at h; simp only at h; omega
  have HAD : Hid (may14 y = true → y.src.size ≤ 100000 ∧ y.dst.size ≤ 100000) := by
    show may14 y = true → _
    intro h
    unfold may14 at h
    simp only [Bool.and_eq_true, decide_eq_true_eq] at h
    omega
  have HPM := Lib.hid (fun hm W hv hp h1 h2 => putM14_any (m14 t.mode) hm t y s W hv hp hk h1 h2 (by omega))
  have HPZ := Lib.hid (Nat.le_trans (putM14_size (m14 t.mode) t y s) (by omega : s.size + 12 ≤ 140737488355328))
  have HPU := Lib.hid (fun W => put_any (outer14 t y ((m14 t.mode).proto s)) ((m14 t.mode).putS t y s) W HPZ.out)
  have HEN := enterP (m14 t.mode)
  clear hv hp hk hs
  generalize err14 t = E0 at *
  generalize may14 y = b0 at *
  unfold Tells at HPM
  unfold PutEnd at HPU
  unfold outer14 H4.cells at HPU
  simp only at HPU
  have HOE : Hid (putE (outer14 t y ((m14 t.mode).proto s)) ((m14 t.mode).putS t y s) = putE (outer14 t y ((m14 t.mode).proto s)) ((m14 t.mode).putS t y s)) := rfl
  clear HOE
  unfold outer14 at HE HS
  generalize hq : (m14 t.mode).putE y s = E1 at *
  generalize hS1 : (m14 t.mode).putS t y s = S1 at *
  generalize (m14 t.mode).proto s = q at *
  clear hq hS1
  obtain ⟨n, sum, key, v, df, ttl, tos⟩ := t
  obtain ⟨src, dst, id, port⟩ := y
  unfold T14.cells W14.cells at S0 HPM ⊢
  unfold T14.cells at HC
  unfold W14.cells at HM
  simp only at S0 HC HM HE HS HPM HPU HEN HIS ⊢
  by_cases h0 : E0 = 0
  case neg =>
    have t0 : ((E0 : Int) != 0) = true := by simp; omega
    have e1 := Lib.hid (HE.out.trans (if_pos h0))
    have e2 := Lib.hid (HS.out.trans (if_pos h0))
    clear HE HS h0 HPM HPU HEN HIS HAD HPZ
    go_enter Tryd.func8, Tryd.ntmps8
    go_wp2_with fail
    refine (HC.out _).mono ?_
    rintro e w1 ⟨rfl, hb⟩
    have S1 := Lib.hid (S0.out.below hb)
    clear hb S0 HC
    go_wp2_with fail
    rw [e1.out, e2.out]
    exact ⟨rfl, _, results_tmp2 rfl _ _ _, rfl, S1.out.gl.bel⟩
  have HE1 := Lib.hid (HE.out.trans (if_neg (fun h => h h0)))
  have HS1 := Lib.hid (HS.out.trans (if_neg (fun h => h h0)))
  have his := HIS.out h0
  have HPM1 := Lib.hid (HPM.out his)
  subst h0
  clear HE HS HIS HPM
  simp only [show ((0 : Nat) : Int) = 0 from rfl] at HC
  cases b0 with
  | false =>
    have e1 := Lib.hid (HE1.out.trans (if_pos rfl))
    have e2 := Lib.hid (HS1.out.trans (if_pos rfl))
    clear HE1 HS1 HPM1 HPU HEN HAD HPZ his
    go_enter Tryd.func8, Tryd.ntmps8
    go_wp2_with fail
    refine (HC.out _).mono ?_
    rintro e w1 ⟨rfl, hb⟩
    have S1 := Lib.hid (S0.out.below hb)
    clear hb S0 HC
    have ⟨k0, k1, k2, k3, k4, k5, k6⟩ := Tc.of S1.out.tb
    have ⟨y0, y1, y2, y3⟩ := Wc.of S1.out.yb
    simp only at k0 k1 k2 k3 k4 k5 k6 y0 y1 y2 y3
    go_wp2_with fail
    refine (HM.out _).mono ?_
    rintro e w2 ⟨rfl, hb⟩
    have S2 := Lib.hid (S1.out.below hb)
    clear hb S1 HM k0 k1 k2 k3 k4 k5 k6 y0 y1 y2 y3
    go_wp2_with fail
    rw [e1.out, e2.out]
    exact ⟨rfl, _, results_tmp2 rfl _ _ _, rfl, S2.out.gl.bel⟩
  | true =>
  have HE2 := Lib.hid (HE1.out.trans (if_neg (by decide)))
  have HS2 := Lib.hid (HS1.out.trans (if_neg (by decide)))
  have ⟨a1, a2⟩ := HAD.out rfl
  have HPM2 := Lib.hid (fun W hv hp => HPM1.out W hv hp a1 a2)
  clear HE1 HS1 HAD HPM1 a1 a2
  have hval : (m14 n).val = .agg #[.bool (m14 n).s, .bool (m14 n).k, .func (.func (m14 n).nS) #[] #[], .func (.func (m14 n).nP) #[] #[], .func (.func (m14 n).nG) #[] #[]] := by unfold M14.val; rw [his]; rfl
  generalize (m14 n).nS = nS at *
  generalize (m14 n).nP = nP at *
  generalize (m14 n).nG = nG at *
  generalize (m14 n).s = ms at *
  generalize (m14 n).k = mk at *
  have hfd := fieldP14 ms mk nS nP nG
  go_enter Tryd.func8, Tryd.ntmps8
  go_wp2_with fail
  refine (HC.out _).mono ?_
  rintro e w1 ⟨rfl, hb⟩
  have S1 := Lib.hid (S0.out.below hb)
  clear hb S0 HC
  have ⟨k0, k1, k2, k3, k4, k5, k6⟩ := Tc.of S1.out.tb
  have ⟨y0, y1, y2, y3⟩ := Wc.of S1.out.yb
  simp only at k0 k1 k2 k3 k4 k5 k6 y0 y1 y2 y3
  go_wp2_with fail
  refine (HM.out _).mono ?_
  rintro e w2 ⟨rfl, hb⟩
  have S2 := Lib.hid (S1.out.below hb)
  clear hb S1 HM k0 k1 k2 k3 k4 k5 k6 y0 y1 y2 y3
  go_wp2_with fail
  have S3 := Lib.hid S2.out.drew
  refine wp_region_held_drew (S := (fun W => W.cell? ⟨w.heap.size, 0, none⟩ = some (.int .i64 n) ∧ W.cell? ⟨w.heap.size, 1, none⟩ = some (.bool sum) ∧ W.cell? ⟨w.heap.size, 2, none⟩ = some (.bool key) ∧ W.cell? ⟨w.heap.size, 3, none⟩ = some (.int .u32 (v : Nat)) ∧ W.cell? ⟨w.heap.size, 4, none⟩ = some (.bool df) ∧ W.cell? ⟨w.heap.size, 5, none⟩ = some (.int .i64 ttl) ∧ W.cell? ⟨w.heap.size, 6, none⟩ = some (.int .i64 tos) ∧ W.cell? ⟨w.heap.size + 1, 0, none⟩ = some (.string src) ∧ W.cell? ⟨w.heap.size + 1, 1, none⟩ = some (.string dst) ∧ W.cell? ⟨w.heap.size + 1, 2, none⟩ = some (.int .i64 id) ∧ W.cell? ⟨w.heap.size + 1, 3, none⟩ = some (.int .i64 port))) (by kernel_rfl) ?_ (fun hHeld => ?_)
  · exact keepW14 S3.out
  clear S2
  generalize w2.drew = v2 at *
  refine takeH_yes (i := 1) (d := some 23) (v := ?v1) rfl rfl (by kernel_rfl) (by kernel_rfl) (by kernel_rfl) (fun _ _ _ h => h) (by rfl) ?y1 (by assumption) ?_
  case y1 => (intro w hSw; (try dsimp only at hSw); go_simp <;> with_reducible rfl)
  simp only [Act.put, List.setIfInBounds_toArray, List.set_cons_zero, List.set_cons_succ]
  refine takeH_yes (i := 2) (d := some 24) (v := ?v2) rfl rfl (by kernel_rfl) (by kernel_rfl) (by kernel_rfl) (fun _ _ _ h => h) (by rfl) ?y2 (by assumption) ?_
  case y2 => (intro w hSw; (try dsimp only at hSw); go_simp <;> with_reducible rfl)
  simp only [Act.put, List.setIfInBounds_toArray, List.set_cons_zero, List.set_cons_succ]
  refine takeH_yes (i := 5) (d := some 27) (v := ?v3) rfl rfl (by kernel_rfl) (by kernel_rfl) (by kernel_rfl) (fun _ _ _ h => h) (by rfl) ?y3 (by assumption) ?_
  case y3 => (intro w hSw; (try dsimp only at hSw); go_simp <;> with_reducible rfl)
  simp only [Act.put, List.setIfInBounds_toArray, List.set_cons_zero, List.set_cons_succ]
  refine takeH_yes (i := 6) (d := some 28) (v := ?v4) rfl rfl (by kernel_rfl) (by kernel_rfl) (by kernel_rfl) (fun _ _ _ h => h) (by rfl) ?y4 (by assumption) ?_
  case y4 => (intro w hSw; (try dsimp only at hSw); go_simp <;> with_reducible rfl)
  simp only [Act.put, List.setIfInBounds_toArray, List.set_cons_zero, List.set_cons_succ]
  refine takeH_yes (i := 7) (d := some 29) (v := ?v5) rfl rfl (by kernel_rfl) (by kernel_rfl) (by kernel_rfl) (fun _ _ _ h => h) (by rfl) ?y5 (by assumption) ?_
  case y5 => (intro w hSw; (try dsimp only at hSw); go_simp <;> with_reducible rfl)
  simp only [Act.put, List.setIfInBounds_toArray, List.set_cons_zero, List.set_cons_succ]
  refine wpAnyH_ready (rs := [0]) (by kernel_rfl) (by simp) ?_
  refine AllReadyH.cons rfl (fun K hK => ?_) AllReadyH.nil
  go_simp
  refine (modes14_any _).mono ?_
  rintro e v3 ⟨rfl, hb, hm⟩
  have S4 := Lib.hid (S3.out.below hb)
  have hk := look14 n false hm
  rw [hval] at hk
  clear hb hm S3
  dsimp only
  refine hK.out _ _ ?_ (fun held0 => ?_)
  · exact keepW14 S4.out
  clear hK K
  try simp only [Act.put, List.setIfInBounds_toArray, List.set_cons_zero, List.set_cons_succ]
  refine wpAnyH_ready (rs := [3]) (by kernel_rfl) (by simp) ?_
  refine AllReadyH.cons rfl (fun K hK => ?_) AllReadyH.nil
  go_simp
  refine hK.out _ _ ?_ (fun held3 => ?_)
  · exact keepW14 S4.out
  clear hK K
  try simp only [Act.put, List.setIfInBounds_toArray, List.set_cons_zero, List.set_cons_succ]
  clear hk
  refine takeH_yes (i := 4) (d := some 26) (v := ?v6) rfl rfl (by kernel_rfl) (by kernel_rfl) (by kernel_rfl) (fun _ _ _ h => h) (by rfl) ?y6 (by assumption) ?_
  case y6 => (intro w hSw; (try dsimp only at hSw); go_simp <;> with_reducible rfl)
  simp only [Act.put, List.setIfInBounds_toArray, List.set_cons_zero, List.set_cons_succ]
  refine wpAnyH_ready (rs := [8]) (by kernel_rfl) (by simp) ?_
  refine AllReadyH.cons rfl (fun K hK => ?_) AllReadyH.nil
  go_simp
  refine (HPM2.out _ S4.out.gl.vs S4.out.gl.ps).mono ?_
  rintro e v4 ⟨rfl, hb⟩
  have S5 := Lib.hid (S4.out.below hb)
  clear hb S4
  dsimp only
  refine hK.out _ _ ?_ (fun held8 => ?_)
  · exact keepW14 S5.out
  clear hK K
  try simp only [Act.put, List.setIfInBounds_toArray, List.set_cons_zero, List.set_cons_succ]
  refine takeH_yes (i := 9) (d := some 21) (v := ?v7) rfl rfl (by kernel_rfl) (by kernel_rfl) (by kernel_rfl) (fun _ _ _ h => h) (by rfl) ?y7 (by assumption) ?_
  case y7 => (intro w hSw; (try dsimp only at hSw); go_simp <;> with_reducible rfl)
  simp only [Act.put, List.setIfInBounds_toArray, List.set_cons_zero, List.set_cons_succ]
  refine takeH_yes (i := 10) (d := some 31) (v := ?v8) rfl rfl (by kernel_rfl) (by kernel_rfl) (by kernel_rfl) (fun _ _ _ h => h) (by rfl) ?y8 (by assumption) ?_
  case y8 => (intro w hSw; (try dsimp only at hSw); go_simp <;> with_reducible rfl)
  simp only [Act.put, List.setIfInBounds_toArray, List.set_cons_zero, List.set_cons_succ]
  refine takeH_yes (i := 11) (d := some 32) (v := ?v9) rfl rfl (by kernel_rfl) (by kernel_rfl) (by kernel_rfl) (fun _ _ _ h => h) (by rfl) ?y9 (by assumption) ?_
  case y9 => (intro w hSw; (try dsimp only at hSw); go_simp <;> with_reducible rfl)
  simp only [Act.put, List.setIfInBounds_toArray, List.set_cons_zero, List.set_cons_succ]
  refine takeH_yes (i := 12) (d := some 33) (v := ?v10) rfl rfl (by kernel_rfl) (by kernel_rfl) (by kernel_rfl) (fun _ _ _ h => h) (by rfl) ?y10 (by assumption) ?_
  case y10 => (intro w hSw; (try dsimp only at hSw); go_simp <;> with_reducible rfl)
  simp only [Act.put, List.setIfInBounds_toArray, List.set_cons_zero, List.set_cons_succ]
  refine takeH_yes (i := 13) (d := some 9) (v := ?v11) rfl rfl (by kernel_rfl) (by kernel_rfl) (by kernel_rfl) (fun _ _ _ h => h) (by rfl) ?y11 (by assumption) ?_
  case y11 => (intro w hSw; (try dsimp only at hSw); go_simp <;> with_reducible rfl)
  simp only [Act.put, List.setIfInBounds_toArray, List.set_cons_zero, List.set_cons_succ]
  refine takeH_yes (i := 14) (d := some 10) (v := ?v12) rfl rfl (by kernel_rfl) (by kernel_rfl) (by kernel_rfl) (fun _ _ _ h => h) (by rfl) ?y12 (by assumption) ?_
  case y12 => (intro w hSw; (try dsimp only at hSw); go_simp <;> with_reducible rfl)
  simp only [Act.put, List.setIfInBounds_toArray, List.set_cons_zero, List.set_cons_succ]
  refine takeH_yes (i := 15) (d := some 11) (v := ?v13) rfl rfl (by kernel_rfl) (by kernel_rfl) (by kernel_rfl) (fun _ _ _ h => h) (by rfl) ?y13 (by assumption) ?_
  case y13 => (intro w hSw; (try dsimp only at hSw); go_simp <;> with_reducible rfl)
  simp only [Act.put, List.setIfInBounds_toArray, List.set_cons_zero, List.set_cons_succ]
  refine wpAnyH_done (by kernel_rfl) ?_ _
  clear hfd HPM2 HEN hval
  by_cases h1 : E1 = 0
  case neg =>
    have t1 : ((E1 : Int) != 0) = true := by simp; omega
    have e1 := Lib.hid (HE2.out.trans (if_pos h1))
    have e2 := Lib.hid (HS2.out.trans (if_pos h1))
    clear HE2 HS2 HPU h1
    go_wp2_with fail
    rw [e1.out, e2.out]
    exact ⟨rfl, _, results_tmp2 rfl _ _ _, rfl, S5.out.gl.bel⟩
  have e1 := Lib.hid (HE2.out.trans (if_neg (fun h => h h1)))
  have e2 := Lib.hid (HS2.out.trans (if_neg (fun h => h h1)))
  have t1 : ((E1 : Int) != 0) = false := by simp; omega
  clear HE2 HS2 h1
  generalize putE (⟨tos, id, 0, ttl, q, df, false, src, dst, ⟨#[]⟩⟩ : H4) S1 = FE at *
  generalize putS (⟨tos, id, 0, ttl, q, df, false, src, dst, ⟨#[]⟩⟩ : H4) S1 = FS at *
  have ⟨k0, k1, k2, k3, k4, k5, k6⟩ := Tc.of S5.out.tb
  have ⟨y0, y1, y2, y3⟩ := Wc.of S5.out.yb
  simp only at k0 k1 k2 k3 k4 k5 k6 y0 y1 y2 y3
  go_wp2_with fail
  refine (HPU.out _).mono ?_
  rintro e w5 ⟨rfl, hb⟩
  have S6 := Lib.hid ((S5.out.alloc _).below hb)
  clear hb S5 HPU k0 k1 k2 k3 k4 k5 k6 y0 y1 y2 y3
  go_wp2_with fail
  rw [e1.out, e2.out]
  exact ⟨rfl, _, results_tmp2 rfl _ _ _, rfl, S6.out.gl.bel⟩

end Go.Proofs.YtmghdgkdnacinaaDoor
