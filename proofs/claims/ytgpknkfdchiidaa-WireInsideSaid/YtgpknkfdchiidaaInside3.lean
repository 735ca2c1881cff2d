/-
  WireInside, walked: true at every input, and what was there is there.
-/
import Derived.Test.YtgpknkfdchiidaaInside2
namespace Go.Proofs.Ytgpknkfdchiidaa
open Go.RowKit
set_option linter.unusedVariables false

def OuterRead (I S : Nat) (s t : ByteArray) (n k : Int) (w : World) (e : Ending) (w' : World) : Prop :=
  e = .returned (.int .i64 0) ∧ Blk w' I #[.int .i64 (wantOf n t k)] 26 ∧ Blk w' S #[.string s] 9 ∧ Kb (fun j => j = I ∨ j = S) w w'

theorem outer_read (T Nb Eb I S : Nat) (s t : ByteArray) (n k : Int) (i0 : Value) (s0 : Value) (w : World) (hT : Blk w T #[.string t] 9) (hN : Blk w Nb #[.int .i64 n] 3) (hE : Blk w Eb #[.int .i64 k] 3)
    (hI : Blk w I #[i0] 26) (hS : Blk w S #[s0] 9) (h3 : I ≠ S) (hs : s.size ≤ maxLen) (ht : t.size ≤ maxLen) :
    Calls Try.prog 19 #[.string s, .func (Fn.func 20) #[] #[.pointer (some ⟨T, 0, none⟩), .pointer (some ⟨Nb, 0, none⟩), .pointer (some ⟨Eb, 0, none⟩), .pointer (some ⟨I, 0, none⟩), .pointer (some ⟨S, 0, none⟩)]] w (OuterRead I S s t n k w) := by
  have lI := hI.lt
  have lS := hS.lt
  refine (read_kb s 20 _ w (fun j => j = I ∨ j = S) (fun j u => j = 0 ∧ Blk u I #[.int .i64 (wantOf n t k)] 26 ∧ Blk u S #[.string s] 9) (fun _ h => by omega) (fun args u => by kernel_rfl) ?_).mono ?_
  · intro R u hR hge hk
    refine (outer_do R T Nb Eb I S s t n k i0 s0 u hR (hT.kb hk (fun f => f)) (hN.kb hk (fun f => f)) (hE.kb hk (fun f => f)) (hI.kb hk (fun f => f)) (hS.kb hk (fun f => f)) (by omega) (by omega) h3 hs ht).mono ?_
    rintro e w' ⟨rfl, a, b, hk'⟩
    exact ⟨Or.inl ⟨rfl, rfl, a, b⟩, hk'⟩
  · rintro e w' ⟨j, w1, rfl, ⟨rfl, a, b⟩, hk1, hk2⟩
    exact ⟨rfl, a.kb hk2 (by omega), b.kb hk2 (by omega), hk2.os.trans hk1.os, hk2.tape.trans hk1.tape, hk2.output.trans hk1.output, Nat.le_trans hk1.size hk2.size, fun i hi h =>
      (hk2.block i (Nat.lt_of_lt_of_le hi hk1.size) (by omega)).trans (hk1.block i hi h)⟩

set_option maxHeartbeats 1000000 in
theorem inside_any (s t : ByteArray) (n k : Int) (w : World) (hs : s.size ≤ maxLen) (ht : t.size ≤ maxLen) :
    Calls Try.prog 6 #[.string s, .string t, .int .i64 n, .int .i64 k] w fun e w' => e = .returned (.bool true) ∧ Below w.heap.size w w' := by
  have hmf : ∀ (fn : Fn) (first cap : Array Value) (w : World), (Instr.makeFunc fn first cap).run Try.prog w = .ok (.func fn first cap) w := fun _ _ _ _ => rfl
  have hT : Blk (((w.alloc (.cells #[.string t] 9)).alloc (.cells #[.int .i64 n] 3)).alloc (.cells #[.int .i64 k] 3)) w.heap.size #[.string t] 9 := ((Blk.new w _ _).alloc _).alloc _
  have hN : Blk (((w.alloc (.cells #[.string t] 9)).alloc (.cells #[.int .i64 n] 3)).alloc (.cells #[.int .i64 k] 3)) (w.heap.size + 1) #[.int .i64 n] 3 := by
    have := Blk.new (w.alloc (.cells #[.string t] 9)) #[.int .i64 n] 3
    rw [show (w.alloc (.cells #[.string t] 9)).heap.size = w.heap.size + 1 from by simp] at this
    exact this.alloc _
  have hE : Blk (((w.alloc (.cells #[.string t] 9)).alloc (.cells #[.int .i64 n] 3)).alloc (.cells #[.int .i64 k] 3)) (w.heap.size + 2) #[.int .i64 k] 3 := by
    have := Blk.new ((w.alloc (.cells #[.string t] 9)).alloc (.cells #[.int .i64 n] 3)) #[.int .i64 k] 3
    rw [show ((w.alloc (.cells #[.string t] 9)).alloc (.cells #[.int .i64 n] 3)).heap.size = w.heap.size + 2 from by simp] at this
    exact this
  have hb0 : Below w.heap.size w (((w.alloc (.cells #[.string t] 9)).alloc (.cells #[.int .i64 n] 3)).alloc (.cells #[.int .i64 k] 3)) := (((Below.refl _ _).alloc (Nat.le_refl _) _).alloc (by simp) _).alloc (by simp; omega) _
  have hz0 : (((w.alloc (.cells #[.string t] 9)).alloc (.cells #[.int .i64 n] 3)).alloc (.cells #[.int .i64 k] 3)).heap.size = w.heap.size + 3 := by simp
  have HT := Lib.hid hT
  have HN := Lib.hid hN
  have HE := Lib.hid hE
  have HB := Lib.hid hb0
  have HZ := Lib.hid hz0
  clear hT hN hE hb0 hz0
  go_enter Try.func6, Try.ntmps6
  go_wp2_with fail
  generalize ((w.alloc (.cells #[.string t] 9)).alloc (.cells #[.int .i64 n] 3)).alloc (.cells #[.int .i64 k] 3) = w0 at *
  refine (awake_any w0).mono ?_
  rintro e w1 ⟨rfl, hb1⟩
  have hT := Lib.hid ((hb1.block _ HT.out.lt).trans HT.out)
  have hN := Lib.hid ((hb1.block _ HN.out.lt).trans HN.out)
  have hE := Lib.hid ((hb1.block _ HE.out.lt).trans HE.out)
  have hB := Lib.hid (HB.out.trans (hb1.mono HB.out.size))
  clear HT HN HE HB HZ hb1
  have cT : w1.cell? ⟨w.heap.size, 0, none⟩ = some (.string t) := Blk.cell hT.out 0
  have cN : w1.cell? ⟨w.heap.size + 1, 0, none⟩ = some (.int .i64 n) := Blk.cell hN.out 0
  have cE : w1.cell? ⟨w.heap.size + 2, 0, none⟩ = some (.int .i64 k) := Blk.cell hE.out 0
  by_cases h5 : 5000 < s.size
  · go_wp2_with fail
    go_ret
    exact ⟨rfl, hB.out⟩
  by_cases h6 : 5000 < t.size
  · go_wp2_with fail
    go_ret
    exact ⟨rfl, hB.out⟩
  by_cases h7 : k = 0
  · have h8 : (k == 0) = true := by simp [h7]
    clear h7
    go_wp2_with fail
    go_ret
    exact ⟨rfl, hB.out⟩
  have h8 : (k == 0) = false := by simp [h7]
  clear h7
  go_wp2_with fail
  have hI2 : Blk ((w1.alloc (.cells #[.int .i64 0] 26)).alloc (.cells #[.string ⟨#[]⟩] 9)) w1.heap.size #[.int .i64 0] 26 := (Blk.new w1 _ _).alloc _
  have hS2 : Blk ((w1.alloc (.cells #[.int .i64 0] 26)).alloc (.cells #[.string ⟨#[]⟩] 9)) (w1.heap.size + 1) #[.string ⟨#[]⟩] 9 := by
    have := Blk.new (w1.alloc (.cells #[.int .i64 0] 26)) #[.string ⟨#[]⟩] 9
    rw [show (w1.alloc (.cells #[.int .i64 0] 26)).heap.size = w1.heap.size + 1 from by simp] at this
    exact this
  have hT2 := Blk.alloc (Blk.alloc (show Blk w1 _ _ _ from hT.out) (.cells #[.int .i64 0] 26)) (.cells #[.string ⟨#[]⟩] 9)
  have hN2 := Blk.alloc (Blk.alloc (show Blk w1 _ _ _ from hN.out) (.cells #[.int .i64 0] 26)) (.cells #[.string ⟨#[]⟩] 9)
  have hE2 := Blk.alloc (Blk.alloc (show Blk w1 _ _ _ from hE.out) (.cells #[.int .i64 0] 26)) (.cells #[.string ⟨#[]⟩] 9)
  have lT := Blk.lt hT.out
  have lN := Blk.lt hN.out
  have lE := Blk.lt hE.out
  have hB2 : Below w.heap.size w ((w1.alloc (.cells #[.int .i64 0] 26)).alloc (.cells #[.string ⟨#[]⟩] 9)) := (hB.out.alloc (by omega) _).alloc (by simp; omega) _
  have hz : ((w1.alloc (.cells #[.int .i64 0] 26)).alloc (.cells #[.string ⟨#[]⟩] 9)).heap.size = w1.heap.size + 2 := by simp
  clear cT cN cE hT hN hE hB
  generalize (w1.alloc (.cells #[.int .i64 0] 26)).alloc (.cells #[.string ⟨#[]⟩] 9) = w2 at *
  refine (outer_read w.heap.size (w.heap.size + 1) (w.heap.size + 1 + 1) w1.heap.size (w1.heap.size + 1) s t n k _ _ w2 hT2 hN2 hE2 hI2 hS2 (by omega) hs ht).mono ?_
  rintro e w3 ⟨rfl, hI, hS, hk⟩
  have hbl : Below w.heap.size w w3 := hB2.trans ((hk.mono (T := fun j => w.heap.size ≤ j) fun j _ h => by omega).below (by omega))
  have cT := (hT2.kb hk (by omega)).cell 0
  have cN := (hN2.kb hk (by omega)).cell 0
  have cE := (hE2.kb hk (by omega)).cell 0
  have cI := hI.cell 0
  have cS := hS.cell 0
  simp at cT cN cE cI cS
  have HB := Lib.hid hbl
  clear hbl hk hI hS hz hB2 hT2 hN2 hE2 hI2 hS2
  by_cases hn : n < 0 ∨ (t.size : Int) < n
  · have hw : wantOf n t k = 2 := if_pos hn
    rw [hw] at cI
    clear hw
    by_cases hn0 : n < 0
    · clear hn
      go_wp2_with fail
      go_ret
      exact ⟨rfl, HB.out⟩
    · have hn1 : (t.size : Int) < n := by omega
      clear hn
      go_wp2_with fail
      go_ret
      exact ⟨rfl, HB.out⟩
  · have hw : wantOf n t k = k := if_neg hn
    rw [hw] at cI
    clear hw
    have hn0 : ¬ n < 0 := by omega
    have hn1 : ¬ (t.size : Int) < n := by omega
    clear hn
    go_wp2_with fail
    go_ret
    exact ⟨rfl, HB.out⟩

end Go.Proofs.Ytgpknkfdchiidaa
