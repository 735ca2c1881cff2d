/-
  WireNeeds, walked: true at every input, and what was there is there.
-/
import Derived.Test.YtgpknkfdchiidaaNeeds1
namespace Go.Proofs.Ytgpknkfdchiidaa
open Go.RowKit
set_option linter.unusedVariables false

set_option maxHeartbeats 400000 in
theorem needs2_do (R Ab Eb Nb : Nat) (s : ByteArray) (a : Nat) (k : Int) (w : World) (hR : Rd w R s 0) (hA : Blk w Ab #[.int .i64 a] 3) (hE : Blk w Eb #[.int .i64 k] 3) (hne : Eb ≠ R) (ha : a ≤ s.size) (hs : s.size ≤ maxLen) :
    Calls Try.prog 28 #[.pointer (some ⟨R, 0, none⟩), .pointer (some ⟨Ab, 0, none⟩), .pointer (some ⟨Eb, 0, none⟩), .pointer (some ⟨Nb, 0, none⟩)] w fun e w' => e = .panicked (stopped k) ∧ Kb (· = R) w w' := by
  have cA := hA.cell 0
  simp at cA
  go_enter Try.func28, Try.ntmps28
  go_wp2_with fail
  refine (take_nat R s 0 a _ hR (by omega) hs).mono ?_
  rintro e w' ⟨rfl, n1, rfl⟩
  have hk : Kb (· = R) w ((w.drewN n1).setCell ⟨R, 1, none⟩ (.int .i64 ((0 + a : Nat) : Int))) := Kb.setCell (S := (· = R)) ((Kb.refl _ _).drewN n1) (p := ⟨R, 1, none⟩) (fun _ => rfl) _
  generalize (w.drewN n1).setCell ⟨R, 1, none⟩ (.int .i64 ((0 + a : Nat) : Int)) = w1 at *
  have cE := (hE.kb hk hne).cell 0
  simp at cE
  have HK := Lib.hid hk
  clear hk
  go_wp2_with fail
  refine (need_no _ _ _ _ rfl).mono ?_
  rintro e w' ⟨rfl, rfl⟩
  exact ⟨rfl, rfl, HK.out⟩

def Needs1Read (Rb Nb : Nat) (tr : ByteArray) (w : World) (e : Ending) (w' : World) : Prop :=
  e = .returned (.int .i64 0) ∧ Blk w' Rb #[.string tr] 9 ∧ Blk w' Nb #[.int .i64 1] 3 ∧ Kb (fun j => j = Rb ∨ j = Nb) w w'

theorem needs1_read (Sb Eb Ab Rb Nb : Nat) (s tr : ByteArray) (a : Nat) (k : Int) (r0 n0 : Value) (w : World) (hS : Blk w Sb #[.string s] 9) (hE : Blk w Eb #[.int .i64 k] 3) (hA : Blk w Ab #[.int .i64 a] 3)
    (hRb : Blk w Rb #[r0] 9) (hNb : Blk w Nb #[n0] 3) (ha : a ≤ s.size) (hs : s.size ≤ maxLen) (h6 : Rb ≠ Nb) (h7 : Rb ≠ Eb) (h8 : Nb ≠ Eb) (htr : s.extract a s.size = tr) :
    Calls Try.prog 19 #[.string s, .func (Fn.func 25) #[] #[.pointer (some ⟨Sb, 0, none⟩), .pointer (some ⟨Eb, 0, none⟩), .pointer (some ⟨Ab, 0, none⟩), .pointer (some ⟨Rb, 0, none⟩), .pointer (some ⟨Nb, 0, none⟩)]] w (Needs1Read Rb Nb tr w) := by
  have l1 := hS.lt
  have l2 := hE.lt
  have l3 := hA.lt
  have l4 := hRb.lt
  have l5 := hNb.lt
  refine (read_kb s 25 _ w (fun j => j = Rb ∨ j = Nb) (fun j u => j = 0 ∧ Blk u Rb #[.string tr] 9 ∧ Blk u Nb #[.int .i64 1] 3) (fun _ h => by omega) (fun args u => by kernel_rfl) ?_).mono ?_
  · intro R u hR hge hk
    refine (needs1_do R Sb Eb Ab Rb Nb s tr a k r0 n0 u hR (hS.kb hk (fun f => f)) (hE.kb hk (fun f => f)) (hA.kb hk (fun f => f)) (hRb.kb hk (fun f => f)) (hNb.kb hk (fun f => f)) ha hs (by omega) (by omega) (by omega) (by omega) (by omega) h6 h7 h8 htr).mono ?_
    rintro e w' ⟨rfl, x, y, hk'⟩
    exact ⟨Or.inl ⟨rfl, rfl, x, y⟩, hk'⟩
  · rintro e w' ⟨j, w1, rfl, ⟨rfl, x, y⟩, hk1, hk2⟩
    exact ⟨rfl, x.kb hk2 (by omega), y.kb hk2 (by omega), hk2.os.trans hk1.os, hk2.tape.trans hk1.tape, hk2.output.trans hk1.output, Nat.le_trans hk1.size hk2.size, fun i hi h =>
      (hk2.block i (Nat.lt_of_lt_of_le hi hk1.size) (by omega)).trans (hk1.block i hi h)⟩

theorem needs2_read (Ab Eb Nb : Nat) (s : ByteArray) (a : Nat) (k : Int) (w : World) (hA : Blk w Ab #[.int .i64 a] 3) (hE : Blk w Eb #[.int .i64 k] 3) (ha : a ≤ s.size) (hs : s.size ≤ maxLen) :
    Calls Try.prog 19 #[.string s, .func (Fn.func 28) #[] #[.pointer (some ⟨Ab, 0, none⟩), .pointer (some ⟨Eb, 0, none⟩), .pointer (some ⟨Nb, 0, none⟩)]] w fun e w' => e = .returned (.int .i64 k) ∧ Kb (fun _ => False) w w' := by
  have l2 := hE.lt
  refine (read_kb s 28 _ w (fun _ => False) (fun j u => j = k) (fun _ h => h.elim) (fun args u => by kernel_rfl) ?_).mono ?_
  · intro R u hR hge hk
    refine (needs2_do R Ab Eb Nb s a k u hR (hA.kb hk (fun f => f)) (hE.kb hk (fun f => f)) (by omega) ha hs).mono ?_
    rintro e w' ⟨rfl, hk'⟩
    exact ⟨Or.inr ⟨_, rfl, rfl⟩, hk'.mono fun _ _ h => Or.inr h⟩
  · rintro e w' ⟨j, w1, rfl, rfl, hk1, hk2⟩
    exact ⟨rfl, ⟨hk2.os.trans hk1.os, hk2.tape.trans hk1.tape, hk2.output.trans hk1.output, Nat.le_trans hk1.size hk2.size, fun i hi h =>
      (hk2.block i (Nat.lt_of_lt_of_le hi hk1.size) (by omega)).trans (hk1.block i hi h)⟩⟩

set_option maxHeartbeats 1000000 in
theorem needs_any (s : ByteArray) (n k : Int) (w : World) (hs : s.size ≤ maxLen) :
    Calls Try.prog 7 #[.string s, .int .i64 n, .int .i64 k] w fun e w' => e = .returned (.bool true) ∧ Below w.heap.size w w' := by
  have hmf : ∀ (fn : Fn) (first cap : Array Value) (w : World), (Instr.makeFunc fn first cap).run Try.prog w = .ok (.func fn first cap) w := fun _ _ _ _ => rfl
  have hT : Blk (((w.alloc (.cells #[.string s] 9)).alloc (.cells #[.int .i64 n] 3)).alloc (.cells #[.int .i64 k] 3)) w.heap.size #[.string s] 9 := ((Blk.new w _ _).alloc _).alloc _
  have hN : Blk (((w.alloc (.cells #[.string s] 9)).alloc (.cells #[.int .i64 n] 3)).alloc (.cells #[.int .i64 k] 3)) (w.heap.size + 1) #[.int .i64 n] 3 := by
    have := Blk.new (w.alloc (.cells #[.string s] 9)) #[.int .i64 n] 3
    rw [show (w.alloc (.cells #[.string s] 9)).heap.size = w.heap.size + 1 from by simp] at this
    exact this.alloc _
  have hE : Blk (((w.alloc (.cells #[.string s] 9)).alloc (.cells #[.int .i64 n] 3)).alloc (.cells #[.int .i64 k] 3)) (w.heap.size + 2) #[.int .i64 k] 3 := by
    have := Blk.new ((w.alloc (.cells #[.string s] 9)).alloc (.cells #[.int .i64 n] 3)) #[.int .i64 k] 3
    rw [show ((w.alloc (.cells #[.string s] 9)).alloc (.cells #[.int .i64 n] 3)).heap.size = w.heap.size + 2 from by simp] at this
    exact this
  have hb0 : Below w.heap.size w (((w.alloc (.cells #[.string s] 9)).alloc (.cells #[.int .i64 n] 3)).alloc (.cells #[.int .i64 k] 3)) := (((Below.refl _ _).alloc (Nat.le_refl _) _).alloc (by simp) _).alloc (by simp; omega) _
  have HT := Lib.hid hT
  have HN := Lib.hid hN
  have HE := Lib.hid hE
  have HB := Lib.hid hb0
  clear hT hN hE hb0
  go_enter Try.func7, Try.ntmps7
  go_wp2_with fail
  generalize ((w.alloc (.cells #[.string s] 9)).alloc (.cells #[.int .i64 n] 3)).alloc (.cells #[.int .i64 k] 3) = w0 at *
  refine (awake_any w0).mono ?_
  rintro e w1 ⟨rfl, hb1⟩
  have hT := Lib.hid ((hb1.block _ HT.out.lt).trans HT.out)
  have hN := Lib.hid ((hb1.block _ HN.out.lt).trans HN.out)
  have hE := Lib.hid ((hb1.block _ HE.out.lt).trans HE.out)
  have hB := Lib.hid (HB.out.trans (hb1.mono HB.out.size))
  clear HT HN HE HB hb1
  have cT : w1.cell? ⟨w.heap.size, 0, none⟩ = some (.string s) := Blk.cell hT.out 0
  have cN : w1.cell? ⟨w.heap.size + 1, 0, none⟩ = some (.int .i64 n) := Blk.cell hN.out 0
  have cE : w1.cell? ⟨w.heap.size + 2, 0, none⟩ = some (.int .i64 k) := Blk.cell hE.out 0
  by_cases h5 : 5000 < s.size
  · go_wp2_with fail
    go_ret
    exact ⟨rfl, hB.out⟩
  by_cases h6 : n < 0
  · go_wp2_with fail
    go_ret
    exact ⟨rfl, hB.out⟩
  by_cases h66 : (s.size : Int) < n
  · go_wp2_with fail
    go_ret
    exact ⟨rfl, hB.out⟩
  by_cases h7 : k = 0
  · have h8 : (k == 0) = true := by simp [h7]
    clear h7
    go_wp2_with fail
    go_ret
    exact ⟨rfl, hB.out⟩
  have h8 : (k == 0) = false := by simp [h7]
  clear h7
  obtain ⟨a, rfl⟩ := Int.eq_ofNat_of_zero_le (show 0 ≤ n by omega)
  have hR2 : Blk ((w1.alloc (.cells #[.int .i64 0] 3)).alloc (.cells #[.string ⟨#[]⟩] 9)) (w1.heap.size + 1) #[.string ⟨#[]⟩] 9 := by
    have := Blk.new (w1.alloc (.cells #[.int .i64 0] 3)) #[.string ⟨#[]⟩] 9
    rw [show (w1.alloc (.cells #[.int .i64 0] 3)).heap.size = w1.heap.size + 1 from by simp] at this
    exact this
  have hS2 : Blk ((w1.alloc (.cells #[.int .i64 0] 3)).alloc (.cells #[.string ⟨#[]⟩] 9)) w1.heap.size #[.int .i64 0] 3 := (Blk.new w1 _ _).alloc _
  have hT2 := Blk.alloc (Blk.alloc (show Blk w1 _ _ _ from hT.out) (.cells #[.int .i64 0] 3)) (.cells #[.string ⟨#[]⟩] 9)
  have hN2 := Blk.alloc (Blk.alloc (show Blk w1 _ _ _ from hN.out) (.cells #[.int .i64 0] 3)) (.cells #[.string ⟨#[]⟩] 9)
  have hE2 := Blk.alloc (Blk.alloc (show Blk w1 _ _ _ from hE.out) (.cells #[.int .i64 0] 3)) (.cells #[.string ⟨#[]⟩] 9)
  have lT := Blk.lt hT.out
  have lN := Blk.lt hN.out
  have lE := Blk.lt hE.out
  have hB2 : Below w.heap.size w ((w1.alloc (.cells #[.int .i64 0] 3)).alloc (.cells #[.string ⟨#[]⟩] 9)) := (hB.out.alloc (by omega) _).alloc (by simp; omega) _
  have hz : ((w1.alloc (.cells #[.int .i64 0] 3)).alloc (.cells #[.string ⟨#[]⟩] 9)).heap.size = w1.heap.size + 2 := by simp
  have cT2 : ((w1.alloc (.cells #[.int .i64 0] 3)).alloc (.cells #[.string ⟨#[]⟩] 9)).cell? ⟨w.heap.size, 0, none⟩ = some (.string s) := hT2.cell 0
  have HT := Lib.hid hT2
  have HN := Lib.hid hN2
  have HE := Lib.hid hE2
  have HR := Lib.hid hR2
  have HS := Lib.hid hS2
  have HB := Lib.hid hB2
  have HZ := Lib.hid hz
  clear hT2 hN2 hE2 hR2 hS2 hB2 hz hT hN hE hB
  go_wp2_with fail
  clear cT cN cE
  generalize (w1.alloc (.cells #[.int .i64 0] 3)).alloc (.cells #[.string ⟨#[]⟩] 9) = w2 at *
  refine (needs1_read w.heap.size (w.heap.size + 1 + 1) (w.heap.size + 1) (w1.heap.size + 1) w1.heap.size s (s.extract a s.size) a k _ _ w2 HT.out HE.out HN.out HR.out HS.out (by omega) hs (by omega) (by omega) (by omega) rfl).mono ?_
  rintro e w3 ⟨rfl, hR, hS, hk⟩
  have hT3 := HT.out.kb hk (by omega)
  have hN3 := HN.out.kb hk (by omega)
  have hE3 := HE.out.kb hk (by omega)
  have hB3 : Below w.heap.size w w3 := HB.out.trans ((hk.mono (T := fun j => w.heap.size ≤ j) fun j _ h => by omega).below HB.out.size)
  have cT3 := hT3.cell 0
  simp at cT3
  have GT := Lib.hid hT3
  have GN := Lib.hid hN3
  have GE := Lib.hid hE3
  have GB := Lib.hid hB3
  have GR := Lib.hid hR
  have GS := Lib.hid hS
  clear hT3 hN3 hE3 hB3 hk hR hS HT HN HE HR HS HB HZ cT2
  go_wp2_with fail
  refine (needs2_read (w.heap.size + 1) (w.heap.size + 1 + 1) w1.heap.size s a k w3 GN.out GE.out (by omega) hs).mono ?_
  rintro e w4 ⟨rfl, hk4⟩
  have hB4 := Lib.hid (GB.out.trans ((hk4.mono (T := fun j => w.heap.size ≤ j) fun j _ h => h.elim).below GB.out.size))
  have cT4 := (GT.out.kb hk4 (fun f => f)).cell 0
  have cN4 := (GN.out.kb hk4 (fun f => f)).cell 0
  have cE4 := (GE.out.kb hk4 (fun f => f)).cell 0
  have cR4 := (GR.out.kb hk4 (fun f => f)).cell 0
  have cS4 := (GS.out.kb hk4 (fun f => f)).cell 0
  simp at cT4 cN4 cE4 cR4 cS4
  clear GT GN GE GB GR GS hk4 cT3
  go_wp2_with fail
  go_quiet (fail)
  go_wp2_with fail
  go_ret
  exact ⟨rfl, hB4.out.trans ⟨rfl, rfl, rfl, Nat.le_refl _, fun _ _ => rfl⟩⟩

end Go.Proofs.Ytgpknkfdchiidaa
