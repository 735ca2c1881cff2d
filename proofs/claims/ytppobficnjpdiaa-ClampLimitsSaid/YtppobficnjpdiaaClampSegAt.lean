/-
  Where a packet's segment begins, as the code reads it.
-/
import Derived.Test.YtppobficnjpdiaaClampSpec
import Derived.Test.YtppobficnjpdiaaFlowRead
namespace Go.Proofs.Ytppobficnjpdiaa
open Go.RowKit
set_option linter.unusedVariables false

def SegAt (p : ByteArray) (V : Nat) (k : Int) (u : World) : Prop := Blk u V #[.int .i64 (fr9 p : Nat)] 3

set_option maxRecDepth 100000 in
set_option maxHeartbeats 1000000 in
theorem segAt1_any (R V : Nat) (p : ByteArray) (u : World) (hs : p.size ≤ 1000000) (h0 : p.size ≠ 0) (hr : Rd u R p 0) (hV : Blk u V #[.int .i64 40] 3) (hne : R ≠ V) :
    Calls Try.prog 75 #[.pointer (some ⟨R, 0, none⟩), .pointer (some ⟨V, 0, none⟩)] u (DoKb (· = V) R u (SegAt p V)) := by
  have N1 := Lib.hid hne
  have HV := Lib.hid hV
  have HR := Lib.hid hr
  clear hne hV hr
  go_enter Try.func75, Try.ntmps75
  go_wp2_with fail
  refine (u8_yes R p 0 _ HR.out (by omega) (by unfold maxLen; omega)).mono ?_
  rintro e u1 ⟨rfl, hr1, hk1⟩
  have V1 := Lib.hid (HV.out.kb hk1 (fun e => N1.out e.symm))
  have K1 : Hid (Kb (fun k => k = V ∨ k = R) u u1) := hk1.mono (fun k _ e => Or.inr e)
  have cV := V1.out.cell 0
  have fV := V1.out.frozen 0
  simp at cV
  have hl := numOf_lt p 0 1 (by omega)
  have HF : Hid (fr9 p = if numOf p 0 1 / 16 = 4 then 4 * (numOf p 0 1 % 16) else 40) := rfl
  clear hr1 hk1 HR HV
  generalize hf0 : fr9 p = f at *
  have HE := Lib.hid hf0
  clear hf0
  generalize numOf p 0 1 = n at *
  have hn2 : n < 256 := hl
  have em : bits .and .i64 (n : Int) 15 = (n : Int) % 16 := i64_mask 4 (by decide) n
  by_cases h4 : n / 16 = 4
  · have t1 : ((n : Int) / 16 == 4) = true := by simp; omega
    have hf := HF.out.trans (if_pos h4)
    have ef : 4 * ((n : Int) % 16) = (f : Int) := by omega
    have e4 : IntKind.i64.wrap (4 * ((n : Int) % 16)) = (f : Int) := by rw [IntWalk.i64_in _ (by omega)]; exact ef
    have V2 := Lib.hid (V1.out.set 0 (.int .i64 (f : Int)))
    have K2 := Lib.hid (Kb.setCell (S := fun k => k = V ∨ k = R) K1.out (p := ⟨V, 0, none⟩) (fun _ => Or.inl rfl) (.int .i64 (f : Int)))
    clear HF hf h4
    go_wp2_with fail
    go_end0
    exact ⟨Or.inl ⟨rfl, by unfold SegAt; rw [HE.out]; exact V2.out⟩, K2.out⟩
  · have t1 : ((n : Int) / 16 == 4) = false := by simp; omega
    have hf := HF.out.trans (if_neg h4)
    subst hf
    clear HF h4
    go_wp2_with fail
    go_end0
    exact ⟨Or.inl ⟨rfl, by unfold SegAt; rw [HE.out]; exact V1.out⟩, K1.out⟩

theorem callSegAt (args : Array Value) (u : World) : (callFunc 75 args).run Try.prog u = .ok (.enter 75 args) u := by kernel_rfl

set_option maxRecDepth 100000 in
set_option maxHeartbeats 1000000 in
theorem segmentAt_any (p : ByteArray) (w : World) (hs : p.size ≤ 1000000) (h0 : p.size ≠ 0) :
    Calls Try.prog 51 #[.string p] w (Tells (.int .i64 (fr9 p : Nat)) w) := by
  have hmf : ∀ (fn : Fn) (first cap : Array Value) (w : World), (Instr.makeFunc fn first cap).run Try.prog w = .ok (.func fn first cap) w := fun _ _ _ _ => rfl
  have G := Lib.hid (Blk.new w #[.int .i64 40] 3)
  have L := Lib.hid ((Below.refl w.heap.size w).alloc (Nat.le_refl _) (.cells #[.int .i64 40] 3))
  have hz : (w.alloc (.cells #[.int .i64 40] 3)).heap.size = w.heap.size + 1 := by simp
  unfold Tells
  go_enter Try.func51, Try.ntmps51
  go_wp2_with fail
  generalize w.alloc (.cells #[.int .i64 40] 3) = u0 at *
  have RD := read_kb p 75 #[.pointer (some ⟨w.heap.size, 0, none⟩)] u0 (· = w.heap.size) (SegAt p w.heap.size)
    (fun k hk => by omega) (fun args u => callSegAt args u) (fun R u hr hR hk => segAt1_any R w.heap.size p u hs h0 hr (G.out.kb hk (fun f => f)) (by omega))
  refine RD.mono ?_
  rintro e w2 ⟨k, w1, rfl, hb1, hk1, hk2⟩
  have HZ := hk1.size
  have B2 := Lib.hid (Blk.kb (show Blk w1 w.heap.size #[.int .i64 (fr9 p : Nat)] 3 from hb1) hk2 (by omega))
  have L2 : Hid (Below w.heap.size w w2) := by
    show Below w.heap.size w w2
    have hb := L.out
    exact ⟨hk2.os.trans (hk1.os.trans hb.os), hk2.tape.trans (hk1.tape.trans hb.tape), hk2.output.trans (hk1.output.trans hb.output), Nat.le_trans hb.size (Nat.le_trans hk1.size hk2.size), fun k hk =>
      (hk2.block k (by omega) (by omega)).trans ((hk1.block k (by omega) (by omega)).trans (hb.block k hk))⟩
  have cV := B2.out.cell 0
  simp at cV
  clear hb1 hk1 hk2
  go_wp2_with fail
  go_ret
  exact ⟨rfl, L2.out⟩

end Go.Proofs.Ytppobficnjpdiaa
