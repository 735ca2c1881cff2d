/-
  The reading of WireReads: what any calls tell till they are stopped, gathered.
-/
import Derived.Test.YtgpknkfdchiidaaRead4
import Derived.Test.YtgpknkfdchiidaaNeeds1
import Derived.Deep.DeepCutAuto
import Derived.Deep.CutRange
import Derived.Deep.CutBlock
import Derived.Deep.LoopGhost
import Derived.Deep.AppendLies
import Derived.RegionDies
namespace Go.Proofs.Ytgpknkfdchiidaa
open Go.RowKit
set_option linter.unusedVariables false

theorem Try.info46 : (Try.prog.info? 46).map (fun i => (i.zero, i.size, i.bytes)) = some (some (.agg #[.int .u64 0, .string ⟨#[]⟩, .int .i64 0, .int .i64 0]), 4, 40) := by kernel_rfl

/-- What a reading leaves. -/
def ReadQ (O B0 : Nat) (t : St) (k : Int) (u : World) : Prop := k = errOf t ∧ ∃ v, Blk u O #[v] 25 ∧ u.ownsRow B0 46 4 v t.ans.length (ansCells t.ans)

/-- At a round's head. -/
structure RInv (u w : World) (R L O : Nat) (s : ByteArray) (lv v : Value) (C : Nat → CallD) (k : Nat) : Prop where
  go : (st s C k).err = none
  rd : Rd w R s (st s C k).pos
  l : Blk w L #[lv] 22
  o : Blk w O #[v] 25
  own : w.ownsRow u.heap.size 46 4 v (st s C k).ans.length (ansCells (st s C k).ans)
  kb : Kb (fun j => j = O ∨ j = R) u w

theorem step_num (s : ByteArray) (c : CallD) (i z : Nat) (h0 : 0 ≤ c.kind) (h3 : c.kind ≤ 3) (hz : sizeOf' c.kind = z) (hi : i + z ≤ s.size) : step s c i = .ans ⟨numOf s i z, ⟨#[]⟩, i + z, s.size - (i + z)⟩ := by
  unfold step; rw [if_pos ⟨h0, h3⟩, hz, if_neg (by omega)]
theorem step_num_no (s : ByteArray) (c : CallD) (i z : Nat) (h0 : 0 ≤ c.kind) (h3 : c.kind ≤ 3) (hz : sizeOf' c.kind = z) (hi : s.size < i + z) : step s c i = .stop 2 := by
  unfold step; rw [if_pos ⟨h0, h3⟩, hz, if_pos hi]
theorem step_take (s : ByteArray) (c : CallD) (i : Nat) (h4 : c.kind = 4) (h0 : 0 ≤ c.k) (hi : c.k ≤ (s.size : Int) - i) : step s c i = .ans ⟨0, s.extract i (i + c.k.toNat), i + c.k.toNat, s.size - (i + c.k.toNat)⟩ := by
  unfold step; rw [if_neg (by omega), if_pos h4, if_neg (by omega)]
theorem step_take_no (s : ByteArray) (c : CallD) (i : Nat) (h4 : c.kind = 4) (hi : c.k < 0 ∨ (s.size : Int) - i < c.k) : step s c i = .stop 2 := by
  unfold step; rw [if_neg (by omega), if_pos h4, if_pos hi]
theorem step_rest (s : ByteArray) (c : CallD) (i : Nat) (h5 : c.kind = 5) : step s c i = .ans ⟨0, s.extract i s.size, s.size, 0⟩ := by
  unfold step; rw [if_neg (by omega), if_neg (by omega), if_pos h5]
theorem step_need (s : ByteArray) (c : CallD) (i : Nat) (h : c.kind < 0 ∨ 5 < c.kind) (hn : c.n % 2 ≠ 1) : step s c i = .ans ⟨0, ⟨#[]⟩, i, s.size - i⟩ := by
  unfold step; rw [if_neg (by omega), if_neg (by omega), if_neg (by omega), if_neg hn]
theorem step_need_no (s : ByteArray) (c : CallD) (i : Nat) (h : c.kind < 0 ∨ 5 < c.kind) (hn : c.n % 2 = 1) : step s c i = .stop c.k := by
  unfold step; rw [if_neg (by omega), if_neg (by omega), if_neg (by omega), if_pos hn]
theorem size_0 (kd : Int) (h : kd = 0) : sizeOf' kd = 1 := if_pos h
theorem size_1 (kd : Int) (h : kd = 1) : sizeOf' kd = 2 := by unfold sizeOf'; rw [if_neg (by omega), if_pos h]
theorem size_2 (kd : Int) (h : kd = 2) : sizeOf' kd = 4 := by unfold sizeOf'; rw [if_neg (by omega), if_neg (by omega), if_pos h]
theorem size_3 (kd : Int) (h : kd = 3) : sizeOf' kd = 8 := by unfold sizeOf'; rw [if_neg (by omega), if_neg (by omega), if_neg (by omega)]

/-- Stopped. -/
theorem stop_end {u w : World} {R L O A : Nat} {s : ByteArray} {pos len k : Nat} {lv v : Value} {C : Nat → CallD} {xs : Array Value} {e : Int} (h : Mid u w R L O A s pos lv v (st s C k).ans xs)
    (hg : (st s C k).err = none) (hs : step s (C k) (st s C k).pos = .stop e) (hk : k < len) (m : Nat) : DoKb (· = O) R u (ReadQ O u.heap.size (st s C len)) (.panicked (stopped e)) (w.drewN m) := by
  refine ⟨Or.inr ⟨e, rfl, ?_⟩, h.kb.drewN m⟩
  rw [st_end hg hs hk]
  exact ⟨rfl, v, h.o.drewN m, h.own⟩

/-- Answered: a number. -/
theorem ans_num {u w : World} {R L O A : Nat} {s : ByteArray} {pos : Nat} {lv v : Value} {ans : List AnsD} (h : Mid u w R L O A s pos lv v ans #[.int .u64 0, .string ⟨#[]⟩, .int .i64 0, .int .i64 0]) (n : Nat) :
    Mid u (w.setCell ⟨A, 0, none⟩ (.int .u64 n)) R L O A s pos lv v ans #[.int .u64 n, .string ⟨#[]⟩, .int .i64 0, .int .i64 0] := by
  simpa using h.set 0 (.int .u64 n)
/-- Answered: a text. -/
theorem ans_str {u w : World} {R L O A : Nat} {s : ByteArray} {pos : Nat} {lv v : Value} {ans : List AnsD} (h : Mid u w R L O A s pos lv v ans #[.int .u64 0, .string ⟨#[]⟩, .int .i64 0, .int .i64 0]) (x : ByteArray) :
    Mid u (w.setCell ⟨A, 1, none⟩ (.string x)) R L O A s pos lv v ans #[.int .u64 0, .string x, .int .i64 0, .int .i64 0] := by
  simpa using h.set 1 (.string x)

theorem Mid.far {u w w5 : World} {R L O A : Nat} {s : ByteArray} {pos : Nat} {lv v : Value} {ans : List AnsD} {xs : Array Value} {o : Obj} (h : Mid u w R L O A s pos lv v ans xs) (hg : (w.alloc o).grownBy w5 v.ownBlock)
    (b : Nat) (hb : b < u.heap.size) : w5.heap[b]? = w.heap[b]? := by
  have hs := h.kb.size
  have hne : some b ≠ v.ownBlock := fun e => by have := (h.own.lt b e.symm).1; omega
  rw [hg.block b (by simp; omega) hne]
  exact Below.heap_alloc w o b (by omega)

/-- One answer more. -/
theorem Mid.next {u w w5 : World} {R L O A : Nat} {s : ByteArray} {pos n : Nat} {lv v x : Value} {ans : List AnsD} {xs : Array Value} {ys : List Value} {o : Obj} (h : Mid u w R L O A s pos lv v ans xs) (hg : (w.alloc o).grownBy w5 v.ownBlock)
    (hown : w5.ownsRow u.heap.size 46 4 x n ys) :
    Rd (w5.setCell ⟨O, 0, none⟩ x) R s pos ∧ Blk (w5.setCell ⟨O, 0, none⟩ x) L #[lv] 22 ∧ Blk (w5.setCell ⟨O, 0, none⟩ x) O #[x] 25 ∧ (w5.setCell ⟨O, 0, none⟩ x).ownsRow u.heap.size 46 4 x n ys ∧
      Kb (fun j => j = O ∨ j = R) u (w5.setCell ⟨O, 0, none⟩ x) := by
  have r1 : Rd w5 R s pos := (h.far hg R h.lR).trans h.rd
  have r2 : Blk w5 L #[lv] 22 := (h.far hg L h.lL).trans h.l
  have r3 : Blk w5 O #[v] 25 := (h.far hg O h.lO).trans h.o
  refine ⟨Blk.set_other r1 (p := ⟨O, 0, none⟩) (Ne.symm h.nRO) x, r2.set_other (p := ⟨O, 0, none⟩) h.nLO x, by simpa using r3.set 0 x, ownsRow_setCell_below hown (a := ⟨O, 0, none⟩) h.lO x, ?_⟩
  refine Kb.setCell (S := fun j => j = O ∨ j = R) ⟨hg.os.trans h.kb.os, hg.tape.trans h.kb.tape, hg.output.trans h.kb.output, ?_, fun b hb hS => (h.far hg b hb).trans (h.kb.block b hb hS)⟩ (p := ⟨O, 0, none⟩) (fun _ => Or.inl rfl) x
  have h1 := hg.size
  have h2 := h.kb.size
  simp at h1
  omega

theorem rinv_next {u w6 : World} {R L O : Nat} {s : ByteArray} {lv x : Value} {C : Nat → CallD} {k : Nat} {ad : AnsD} (hg : (st s C k).err = none) (hs : step s (C k) (st s C k).pos = .ans ad)
    (h : Rd w6 R s ad.pos ∧ Blk w6 L #[lv] 22 ∧ Blk w6 O #[x] 25 ∧ w6.ownsRow u.heap.size 46 4 x ((st s C k).ans.length + 1) (ansCells (st s C k).ans ++ ansCell ad) ∧ Kb (fun j => j = O ∨ j = R) u w6) :
    RInv u w6 R L O s lv x C (k + 1) := by
  have e := st_ans hg hs
  refine ⟨by rw [e], by rw [e]; exact h.1, h.2.1, h.2.2.1, ?_, h.2.2.2.2⟩
  rw [e, ansCells_snoc, List.length_append, List.length_singleton]
  exact h.2.2.2.1

set_option maxRecDepth 100000 in
set_option maxHeartbeats 4000000 in
theorem read_do (R L O B : Nat) (s : ByteArray) (a : Option Addr) (len cap : Nat) (C : Nat → CallD) (u : World) (hR : Rd u R s 0) (hL : Blk u L #[.slice a len cap] 22) (hO : Blk u O #[.slice none 0 0] 25) (hC : CallsAt u B a len C)
    (hBO : B ≤ O) (hBR : B ≤ R) (nRL : L ≠ R) (nRO : O ≠ R) (nLO : L ≠ O) (hs : s.size ≤ maxLen) (hl : len ≤ 1000) :
    Calls Try.prog 32 #[.pointer (some ⟨R, 0, none⟩), .pointer (some ⟨L, 0, none⟩), .pointer (some ⟨O, 0, none⟩)] u (DoKb (· = O) R u (ReadQ O u.heap.size (st s C len))) := by
  obtain ⟨i0, hi0, hz0, hz1, hz2⟩ := info_parts Try.info46
  have lR := Blk.lt hR
  have lL := hL.lt
  have lO := hO.lt
  have HC := Lib.hid hC
  have H0 : Hid (RInv u u R L O s (.slice a len cap) (.slice none 0 0) C 0) := ⟨rfl, hR, hL, hO, World.ownsRow_nil _ _ _ _, Kb.refl _ _⟩
  have hs' := hs
  unfold maxLen at hs'
  clear hC hR hL hO
  go_enter Try.func32, Try.ntmps32
  go_wp2_with fail
  go_loopg [4] len (fun g i wr => ∃ (k : Nat) (v : Value), k ≤ len ∧ g = len - k ∧ i = .int .i64 k ∧ Hid (RInv u wr R L O s (.slice a len cap) v C k))
  case atStart => exact ⟨0, _, Nat.zero_le _, rfl, rfl, H0⟩
  case round =>
    obtain ⟨k, v, hk, rfl, rfl, HI⟩ := hrel
    have cL := HI.out.l.cell 0
    simp at cL
    by_cases hlt : k < len
    · obtain h0 | ⟨cb, off, rfl, hcb, hc⟩ := HC.out
      · omega
      have hcw : CallAt wr cb (off + k * 4) (C k) := (hc k hlt).block (HI.out.kb.block cb (by omega) (by omega))
      have HM := Lib.hid (Mid.new HI.out.rd HI.out.l HI.out.o HI.out.own HI.out.kb lR lL lO nRL nRO nLO #[.int .u64 0, .string ⟨#[]⟩, .int .i64 0, .int .i64 0])
      have HG := Lib.hid HI.out.go
      have hcw0 : CallAt (wr.alloc (.cells #[.int .u64 0, .string ⟨#[]⟩, .int .i64 0, .int .i64 0] 46)) cb (off + k * 4) (C k) := hcw.block (Below.heap_alloc _ _ _ (by have := HI.out.kb.size; omega))
      have cL2 := HM.out.l.cell 0
      simp at cL2
      have c0 := hcw0.c0
      have hpos := st_pos s C k
      have hps := HI.out.kb.size
      have HW := Lib.hid hcw0
      clear hc hcw hcw0 HI H0
      obtain ⟨kd, hkd⟩ : ∃ kd, (C k).kind = kd := ⟨_, rfl⟩
      rw [hkd] at c0
      have HKD := Lib.hid hkd
      clear hkd
      go_upto_block 2 with (fail)
      clear cL
      generalize wr.alloc (.cells #[.int .u64 0, .string ⟨#[]⟩, .int .i64 0, .int .i64 0] 46) = w0 at *
      generalize wr.heap.size = A at *
      go_cut [4] (fun i wx => i = .int .i64 k ∧ ∃ ad : AnsD, Hid (step s (C k) (st s C k).pos = .ans ad) ∧ Hid (ad.left = s.size - ad.pos) ∧ Hid (Mid u wx R L O A s ad.pos (.slice (some ⟨cb, off, none⟩) len cap) v (st s C k).ans #[.int .u64 ad.n, .string ad.s, .int .i64 0, .int .i64 0]))
      case first =>

        by_cases q0 : kd = 0
        · have tk : (kd == 0) = true := by simp [q0]
          have HK0 := Lib.hid (show 0 ≤ (C k).kind by rw [HKD.out, q0]; omega)
          have HK3 := Lib.hid (show (C k).kind ≤ 3 by rw [HKD.out, q0]; omega)
          have HZ := Lib.hid (show sizeOf' (C k).kind = 1 from size_0 _ (HKD.out.trans q0))
          clear q0
          by_cases hq : (st s C k).pos + 1 ≤ s.size
          · have HS := Lib.hid (step_num s (C k) (st s C k).pos 1 HK0.out HK3.out HZ.out hq)
            have hnl := numOf_lt s (st s C k).pos 1 hq
            simp only [show 256 ^ 1 = 256 from rfl] at hnl
            go_wp2_with fail
            refine (u8_yes R s (st s C k).pos _ HM.out.rd hq hs).mono ?_
            rintro e w1 ⟨rfl, hr1, hk1⟩
            have HM1 := Lib.hid (HM.out.move hk1 hr1)
            have cA := HM1.out.a.cell 0
            have fA := HM1.out.a.frozen 0
            simp at cA
            have HM2 := Lib.hid (ans_num HM1.out (numOf s (st s C k).pos 1))
            clear hk1 hr1 cL2 c0
            go_wp2_with fail
            go_meet
            exact ⟨rfl, _, HS.out, rfl, HM2.out⟩
          · have HS := Lib.hid (step_num_no s (C k) (st s C k).pos 1 HK0.out HK3.out HZ.out (by omega))
            go_wp2_with fail
            refine (u8_no R s (st s C k).pos _ HM.out.rd hpos (by omega) hs).mono ?_
            rintro e w1 ⟨rfl, m1, rfl⟩
            exact ⟨rfl, stop_end HM.out HG.out HS.out hlt m1⟩
        have t0 : (kd == 0) = false := by simp [q0]

        by_cases q1 : kd = 1
        · have tk : (kd == 1) = true := by simp [q1]
          have HK0 := Lib.hid (show 0 ≤ (C k).kind by rw [HKD.out, q1]; omega)
          have HK3 := Lib.hid (show (C k).kind ≤ 3 by rw [HKD.out, q1]; omega)
          have HZ := Lib.hid (show sizeOf' (C k).kind = 2 from size_1 _ (HKD.out.trans q1))
          clear q1
          by_cases hq : (st s C k).pos + 2 ≤ s.size
          · have HS := Lib.hid (step_num s (C k) (st s C k).pos 2 HK0.out HK3.out HZ.out hq)
            have hnl := numOf_lt s (st s C k).pos 2 hq
            simp only [show 256 ^ 2 = 65536 from rfl] at hnl
            go_wp2_with fail
            refine (u16_yes R s (st s C k).pos _ HM.out.rd hq hs).mono ?_
            rintro e w1 ⟨rfl, hr1, hk1⟩
            have HM1 := Lib.hid (HM.out.move hk1 hr1)
            have cA := HM1.out.a.cell 0
            have fA := HM1.out.a.frozen 0
            simp at cA
            have HM2 := Lib.hid (ans_num HM1.out (numOf s (st s C k).pos 2))
            clear hk1 hr1 cL2 c0
            go_wp2_with fail
            go_meet
            exact ⟨rfl, _, HS.out, rfl, HM2.out⟩
          · have HS := Lib.hid (step_num_no s (C k) (st s C k).pos 2 HK0.out HK3.out HZ.out (by omega))
            go_wp2_with fail
            refine (u16_no R s (st s C k).pos _ HM.out.rd hpos (by omega) hs).mono ?_
            rintro e w1 ⟨rfl, m1, rfl⟩
            exact ⟨rfl, stop_end HM.out HG.out HS.out hlt m1⟩
        have t1 : (kd == 1) = false := by simp [q1]

        by_cases q2 : kd = 2
        · have tk : (kd == 2) = true := by simp [q2]
          have HK0 := Lib.hid (show 0 ≤ (C k).kind by rw [HKD.out, q2]; omega)
          have HK3 := Lib.hid (show (C k).kind ≤ 3 by rw [HKD.out, q2]; omega)
          have HZ := Lib.hid (show sizeOf' (C k).kind = 4 from size_2 _ (HKD.out.trans q2))
          clear q2
          by_cases hq : (st s C k).pos + 4 ≤ s.size
          · have HS := Lib.hid (step_num s (C k) (st s C k).pos 4 HK0.out HK3.out HZ.out hq)
            have hnl := numOf_lt s (st s C k).pos 4 hq
            simp only [show 256 ^ 4 = 4294967296 from rfl] at hnl
            go_wp2_with fail
            refine (u32_yes R s (st s C k).pos _ HM.out.rd hq hs).mono ?_
            rintro e w1 ⟨rfl, hr1, hk1⟩
            have HM1 := Lib.hid (HM.out.move hk1 hr1)
            have cA := HM1.out.a.cell 0
            have fA := HM1.out.a.frozen 0
            simp at cA
            have HM2 := Lib.hid (ans_num HM1.out (numOf s (st s C k).pos 4))
            clear hk1 hr1 cL2 c0
            go_wp2_with fail
            go_meet
            exact ⟨rfl, _, HS.out, rfl, HM2.out⟩
          · have HS := Lib.hid (step_num_no s (C k) (st s C k).pos 4 HK0.out HK3.out HZ.out (by omega))
            go_wp2_with fail
            refine (u32_no R s (st s C k).pos _ HM.out.rd hpos (by omega) hs).mono ?_
            rintro e w1 ⟨rfl, m1, rfl⟩
            exact ⟨rfl, stop_end HM.out HG.out HS.out hlt m1⟩
        have t2 : (kd == 2) = false := by simp [q2]

        by_cases q3 : kd = 3
        · have tk : (kd == 3) = true := by simp [q3]
          have HK0 := Lib.hid (show 0 ≤ (C k).kind by rw [HKD.out, q3]; omega)
          have HK3 := Lib.hid (show (C k).kind ≤ 3 by rw [HKD.out, q3]; omega)
          have HZ := Lib.hid (show sizeOf' (C k).kind = 8 from size_3 _ (HKD.out.trans q3))
          clear q3
          by_cases hq : (st s C k).pos + 8 ≤ s.size
          · have HS := Lib.hid (step_num s (C k) (st s C k).pos 8 HK0.out HK3.out HZ.out hq)
            have hnl := numOf_lt s (st s C k).pos 8 hq
            simp only [show 256 ^ 8 = 18446744073709551616 from rfl] at hnl
            go_wp2_with fail
            refine (u64_yes R s (st s C k).pos _ HM.out.rd hq hs).mono ?_
            rintro e w1 ⟨rfl, hr1, hk1⟩
            have HM1 := Lib.hid (HM.out.move hk1 hr1)
            have cA := HM1.out.a.cell 0
            have fA := HM1.out.a.frozen 0
            simp at cA
            have HM2 := Lib.hid (ans_num HM1.out (numOf s (st s C k).pos 8))
            clear hk1 hr1 cL2 c0
            go_wp2_with fail
            go_meet
            exact ⟨rfl, _, HS.out, rfl, HM2.out⟩
          · have HS := Lib.hid (step_num_no s (C k) (st s C k).pos 8 HK0.out HK3.out HZ.out (by omega))
            go_wp2_with fail
            refine (u64_no R s (st s C k).pos _ HM.out.rd hpos (by omega) hs).mono ?_
            rintro e w1 ⟨rfl, m1, rfl⟩
            exact ⟨rfl, stop_end HM.out HG.out HS.out hlt m1⟩
        have t3 : (kd == 3) = false := by simp [q3]

        by_cases q4 : kd = 4
        · have tk : (kd == 4) = true := by simp [q4]
          have HK4 := Lib.hid (show (C k).kind = 4 from HKD.out.trans q4)
          clear q0 q1 q2 q3 q4
          have c1 := HW.out.c1
          by_cases hq : (C k).k < 0 ∨ (s.size : Int) - (st s C k).pos < (C k).k
          · have HS := Lib.hid (step_take_no s (C k) (st s C k).pos HK4.out hq)
            go_wp2_with fail
            refine (take_no R s (st s C k).pos (C k).k _ HM.out.rd hpos hq hs).mono ?_
            rintro e w1 ⟨rfl, m1, rfl⟩
            exact ⟨rfl, stop_end HM.out HG.out HS.out hlt m1⟩
          · have HS := Lib.hid (step_take s (C k) (st s C k).pos HK4.out (by omega) (by omega))
            go_wp2_with fail
            refine (take_yes R s (st s C k).pos (C k).k _ HM.out.rd (by omega) hpos (by omega) hs).mono ?_
            rintro e w1 ⟨rfl, m1, rfl⟩
            have HM1 := Lib.hid (HM.out.move (Kb.setCell (S := (· = R)) ((Kb.refl _ _).drewN m1) (p := ⟨R, 1, none⟩) (fun _ => rfl) (.int .i64 (((st s C k).pos + (C k).k.toNat : Nat) : Int))) ((Blk.drewN HM.out.rd m1).set 1 _))
            generalize (w0.drewN m1).setCell ⟨R, 1, none⟩ (.int .i64 (((st s C k).pos + (C k).k.toNat : Nat) : Int)) = w1 at *
            have cA := HM1.out.a.cell 1
            have fA := HM1.out.a.frozen 1
            simp at cA
            have HM2 := Lib.hid (ans_str HM1.out (s.extract (st s C k).pos ((st s C k).pos + (C k).k.toNat)))
            clear cL2 c0 c1 hq
            generalize s.extract (st s C k).pos ((st s C k).pos + (C k).k.toNat) = sx at *
            go_wp2_with fail
            go_meet
            exact ⟨rfl, _, HS.out, rfl, HM2.out⟩
        have t4 : (kd == 4) = false := by simp [q4]
        by_cases q5 : kd = 5
        · have tk : (kd == 5) = true := by simp [q5]
          have HK5 := Lib.hid (show (C k).kind = 5 from HKD.out.trans q5)
          clear q0 q1 q2 q3 q4 q5
          have HS := Lib.hid (step_rest s (C k) (st s C k).pos HK5.out)
          go_wp2_with fail
          refine (rest_any R s (st s C k).pos _ HM.out.rd hpos hs).mono ?_
          rintro e w1 ⟨rfl, m1, rfl⟩
          have HM1 := Lib.hid (HM.out.move (pos' := s.size) (Kb.setCell (S := (· = R)) ((Kb.refl _ _).drewN m1) (p := ⟨R, 1, none⟩) (fun _ => rfl) (.int .i64 (s.size : Int))) ((Blk.drewN HM.out.rd m1).set 1 _))
          generalize (w0.drewN m1).setCell ⟨R, 1, none⟩ (.int .i64 (s.size : Int)) = w1 at *
          have cA := HM1.out.a.cell 1
          have fA := HM1.out.a.frozen 1
          simp at cA
          have HM2 := Lib.hid (ans_str HM1.out (s.extract (st s C k).pos s.size))
          clear cL2 c0
          generalize s.extract (st s C k).pos s.size = sx at *
          go_wp2_with fail
          go_meet
          exact ⟨rfl, _, HS.out, (by simp [Hid]), HM2.out⟩
        have t5 : (kd == 5) = false := by simp [q5]
        have HK6 := Lib.hid (show (C k).kind < 0 ∨ 5 < (C k).kind by rw [HKD.out]; omega)
        clear q0 q1 q2 q3 q4 q5
        have c1 := HW.out.c1
        have c2 := HW.out.c2
        by_cases hq : (C k).n % 2 = 1
        · have HS := Lib.hid (step_need_no s (C k) (st s C k).pos HK6.out hq)
          have hb : (((C k).n : Int) % 2 == 0) = false := by simp; omega
          go_wp2_with fail
          go_region_dies
          all_goals
            refine (need_no _ _ _ _ (by first | rfl | exact hb)).mono ?_
            rintro e w1 ⟨rfl, rfl⟩
            exact ⟨rfl, stop_end HM.out HG.out HS.out hlt 1⟩
        · have HS := Lib.hid (step_need s (C k) (st s C k).pos HK6.out hq)
          have hb : (((C k).n : Int) % 2 == 0) = true := by simp; omega
          go_wp2_with fail
          go_quiet ((go_at_call 23; exact Calls.quiet_of_same (need_y _ _ _ _ rfl)))
          have HM1 := Lib.hid (HM.out.move (pos' := (st s C k).pos) ((Kb.refl (· = R) _).drewN nq) (Blk.drewN HM.out.rd nq))
          go_wp2_with fail
          go_meet
          exact ⟨rfl, _, HS.out, rfl, HM1.out⟩
      case rest =>
        obtain ⟨rfl, ad, HS, HLF, HM2⟩ := hcut
        clear HM HW c0 cL2 HKD hps
        have hap := step_pos hpos HS.out
        have hal := Lib.hid (show (ad.left : Int) = (s.size : Int) - ad.pos by rw [HLF.out]; omega)
        have hlen := st_length s C k
        go_wp2_with fail
        refine (at_any R s ad.pos _ HM2.out.rd).mono ?_
        rintro e w1 ⟨rfl, rfl⟩
        go_wp2_with fail
        refine (left_v R s ad.pos ad.left _ HM2.out.rd hap hs hal.out).mono ?_
        rintro e w2 ⟨rfl, n1, rfl⟩
        have HM3 := Lib.hid (HM2.out.move (pos' := ad.pos) ((Kb.refl (· = R) _).drewN n1) (Blk.drewN HM2.out.rd n1))
        clear HM2
        generalize w1.drewN n1 = w2 at *
        have cA2 := HM3.out.a.cell 2
        have fA2 := HM3.out.a.frozen 2
        have cA3 := (HM3.out.set 2 (.int .i64 ad.pos)).a.cell 3
        have fA3 := (HM3.out.set 2 (.int .i64 ad.pos)).a.frozen 3
        simp at cA2 cA3
        have HM4 := Lib.hid ((HM3.out.set 2 (.int .i64 ad.pos)).set 3 (.int .i64 ad.left))
        simp at HM4
        clear HM3 HLF hal
        go_upto_region 19 with (fail)
        generalize (w2.setCell ⟨A, 2, none⟩ (.int .i64 ad.pos)).setCell ⟨A, 3, none⟩ (.int .i64 ad.left) = w4 at *
        clear cA2 cA3 fA2 fA3
        have cO := HM4.out.o.cell 0
        have fO := HM4.out.o.frozen 0
        have cA0 := HM4.out.a.cell 0
        have cA1 := HM4.out.a.cell 1
        have cA2 := HM4.out.a.cell 2
        have cA3 := HM4.out.a.cell 3
        simp at cO cA0 cA1 cA2 cA3
        have hsz := HM4.out.kb.size
        go_wp2_with (at_builtin; refine wpList_append_lies _ rfl _ _ _ rfl u.heap.size 46 i0 _ 4 40 Try.underlying25 hi0 hz0 hz1 hz2 rfl (by omega) v (st s C k).ans.length (ansCells (st s C k).ans) rfl (HM4.out.own.alloc _) ⟨w4.heap.size, 0, none⟩ 1 1 (ansCell ad) rfl rfl (World.news_of_block (cs := #[.int .u64 ad.n, .string ad.s, .int .i64 ad.pos, .int .i64 ad.left]) (t := 46) (fr := (0, 0)) (heap_alloc_new w4 _)) (by simp [ansCell, Value.oneCell']) (by omega) (by unfold maxLen; omega) (by omega) (by simp; omega) (w4.heap.size + 1) (by simp) ?_; intro g cp w5 hown1 hgrow hat hlt1; have HN := Lib.hid (HM4.out.next hgrow hown1); have cO5 := (World.cell?_of_block (a := ⟨O, 0, none⟩) (HM4.out.far hgrow O lO)).trans (HM4.out.o.cell 0); have fO5 := (World.frozen?_of_block (a := ⟨O, 0, none⟩) (HM4.out.far hgrow O lO)).trans (HM4.out.o.frozen 0); simp at cO5; clear hown1 hgrow)
        go_roundg (len - (k + 1))
        case measure => omega
        case rel => exact ⟨k + 1, _, by omega, rfl, by go_num, rinv_next HG.out HS.out HN.out⟩
    · have hkl := Lib.hid (show k = len by omega)
      go_wp2_with fail
      go_end0
      refine ⟨Or.inl ⟨rfl, ?_⟩, HI.out.kb⟩
      have := hkl.out
      subst this
      exact ⟨by unfold errOf; rw [HI.out.go]; rfl, v, HI.out.o, HI.out.own⟩

end Go.Proofs.Ytgpknkfdchiidaa
