/-
  The version, the packet and the payload, read.
-/
import Derived.Test.YtppobficnjpdiaaFlowHead
import Derived.Test.YtppobficnjpdiaaReading
import Derived.Test.YtppobficnjpdiaaIp4A
import Derived.Test.YtppobficnjpdiaaIp6A
import Derived.Test.YtppobficnjpdiaaTcpC
import Derived.Test.YtppobficnjpdiaaUdpA
import Derived.BigQuiet
namespace Go.Proofs.Ytppobficnjpdiaa
open Go.RowKit
set_option linter.unusedVariables false

/-- What the closure leaves. -/
def VerAt (p : ByteArray) (V : Nat) (k : Int) (u : World) : Prop := k = (verE p : Nat) ∧ Blk u V #[.int .i64 (ver9 p : Nat)] 3

set_option maxRecDepth 100000 in
set_option maxHeartbeats 1000000 in
theorem ver1_any (R V : Nat) (p : ByteArray) (u : World) (hs : p.size ≤ 1000000) (hr : Rd u R p 0) (hV : Blk u V #[.int .i64 0] 3) (hne : R ≠ V) :
    Calls Try.prog 59 #[.pointer (some ⟨R, 0, none⟩), .pointer (some ⟨V, 0, none⟩)] u (DoKb (· = V) R u (VerAt p V)) := by
  have N1 := Lib.hid hne
  have HV := Lib.hid hV
  have HR := Lib.hid hr
  clear hne hV hr
  go_enter Try.func59, Try.ntmps59
  go_wp2_with fail
  by_cases h0 : p.size = 0
  · refine (u8_no R p 0 _ HR.out (by omega) (by omega) (by unfold maxLen; omega)).mono ?_
    rintro e u1 ⟨rfl, n, rfl⟩
    refine ⟨rfl, Or.inr ⟨2, rfl, by rw [verE_empty h0]; rfl, ?_⟩, (Kb.refl _ _).drewN n⟩
    have : ver9 p = 0 := by unfold ver9; rw [numOf_empty h0]
    rw [this]
    exact HV.out.drewN n
  refine (u8_yes R p 0 _ HR.out (by omega) (by unfold maxLen; omega)).mono ?_
  rintro e u1 ⟨rfl, hr1, hk1⟩
  have V1 := Lib.hid (HV.out.kb hk1 (fun e => N1.out e.symm))
  have K1 : Hid (Kb (fun k => k = V ∨ k = R) u u1) := hk1.mono (fun k _ e => Or.inr e)
  have cV := V1.out.cell 0
  have fV := V1.out.frozen 0
  simp at cV
  have hl := numOf_lt p 0 1 (by omega)
  have HE0 := Lib.hid (verE_yes (p := p) h0)
  have HE3 := Lib.hid (verE_no (p := p) h0)
  have HVV : Hid ((ver9 p : Nat) = numOf p 0 1 / 16) := rfl
  clear hr1 hk1 HR HV
  generalize hvv : ver9 p = v at *
  have HN := Lib.hid hvv
  clear hvv
  generalize numOf p 0 1 = n at *
  have hn2 : n < 256 := hl
  have e1 : (n : Int) / 16 = (v : Int) := by have := HVV.out; omega
  have V2 := Lib.hid (V1.out.set 0 (.int .i64 (v : Int)))
  have K2 := Lib.hid (Kb.setCell (S := fun k => k = V ∨ k = R) K1.out (p := ⟨V, 0, none⟩) (fun _ => Or.inl rfl) (.int .i64 (v : Int)))
  by_cases h4 : v = 4
  · have t1 : ((v : Int) == 4) = true := by simp; omega
    have HF := Lib.hid (HE0.out (Or.inl h4))
    clear HE0 HE3 h4
    go_wp2_with fail
    refine (need_yes _ _ _ _ (by first | rfl | simp)).mono ?_
    rintro e w' ⟨rfl, rfl⟩
    go_wp2_with fail
    go_end0
    exact ⟨Or.inl ⟨rfl, by rw [HF.out]; rfl, by rw [HN.out]; exact V2.out⟩, K2.out⟩
  · have t1 : ((v : Int) == 4) = false := by simp; omega
    by_cases h6 : v = 6
    · have t2 : ((v : Int) == 6) = true := by simp; omega
      have HF := Lib.hid (HE0.out (Or.inr h6))
      clear HE0 HE3 h4 h6
      go_wp2_with fail
      refine (need_yes _ _ _ _ (by first | rfl | simp)).mono ?_
      rintro e w' ⟨rfl, rfl⟩
      go_wp2_with fail
      go_end0
      exact ⟨Or.inl ⟨rfl, by rw [HF.out]; rfl, by rw [HN.out]; exact V2.out⟩, K2.out⟩
    · have t2 : ((v : Int) == 6) = false := by simp; omega
      have HF := Lib.hid (HE3.out (by omega))
      clear HE0 HE3 h4 h6
      go_wp2_with fail
      refine (need_no _ _ _ _ (by first | rfl | simp)).mono ?_
      rintro e w' ⟨rfl, rfl⟩
      exact ⟨rfl, Or.inr ⟨_, rfl, by rw [HF.out]; rfl, by rw [HN.out]; exact V2.out⟩, K2.out⟩

theorem call9ver (args : Array Value) (u : World) : (callFunc 59 args).run Try.prog u = .ok (.enter 59 args) u := by kernel_rfl

set_option maxRecDepth 100000 in
set_option maxHeartbeats 1000000 in
theorem readVersion_any (p : ByteArray) (w : World) (hs : p.size ≤ 1000000) :
    Calls Try.prog 28 #[.string p] w (Tells (.tuple #[.int .i64 (ver9 p : Nat), .int .i64 (verE p : Nat)]) w) := by
  have hmf : ∀ (fn : Fn) (first cap : Array Value) (w : World), (Instr.makeFunc fn first cap).run Try.prog w = .ok (.func fn first cap) w := fun _ _ _ _ => rfl
  have G := Lib.hid (Blk.new w #[.int .i64 0] 3)
  have L := Lib.hid ((Below.refl w.heap.size w).alloc (Nat.le_refl _) (.cells #[.int .i64 0] 3))
  have hz : (w.alloc (.cells #[.int .i64 0] 3)).heap.size = w.heap.size + 1 := by simp
  unfold Tells
  go_enter Try.func28, Try.ntmps28
  go_wp2_with fail
  generalize w.alloc (.cells #[.int .i64 0] 3) = u0 at *
  have RD := read_kb p 59 #[.pointer (some ⟨w.heap.size, 0, none⟩)] u0 (· = w.heap.size) (VerAt p w.heap.size)
    (fun k hk => by omega) (fun args u => call9ver args u) (fun R u hr hR hk => ver1_any R w.heap.size p u hs hr (G.out.kb hk (fun f => f)) (by omega))
  refine RD.mono ?_
  rintro e w2 ⟨k, w1, rfl, ⟨rfl, hb1⟩, hk1, hk2⟩
  have HZ := hk1.size
  have B2 := Lib.hid (hb1.kb hk2 (by omega))
  have L2 : Hid (Below w.heap.size w w2) := by
    show Below w.heap.size w w2
    have hb := L.out
    exact ⟨hk2.os.trans (hk1.os.trans hb.os), hk2.tape.trans (hk1.tape.trans hb.tape), hk2.output.trans (hk1.output.trans hb.output), Nat.le_trans hb.size (Nat.le_trans hk1.size hk2.size), fun k hk =>
      (hk2.block k (by omega) (by omega)).trans ((hk1.block k (by omega) (by omega)).trans (hb.block k hk))⟩
  have cV := B2.out.cell 0
  simp at cV
  clear hb1 hk1 hk2 RD G HZ hz L
  go_wp2_with fail
  go_returns
  exact ⟨rfl, L2.out⟩

/-- readPacket's and readPayload's blocks. -/
theorem got_made (w w' : World) (hb : Below w.heap.size w w') (cs : Array Value) (T : TypeId) : Blk (w'.alloc (.cells cs T)) w'.heap.size cs T ∧ Below w.heap.size w (w'.alloc (.cells cs T)) :=
  ⟨Blk.new _ _ _, hb.alloc hb.size _⟩

set_option maxRecDepth 100000 in
set_option maxHeartbeats 1000000 in
theorem readPacket_any (p : ByteArray) (w : World) (hs : p.size ≤ 1000000) :
    Calls Try.prog 30 #[.int .i64 (ver9 p : Nat), .string p] w (Tells (.tuple #[(any9 p).value, .string (pay9 p), .int .i64 (pktE p : Nat)]) w) := by
  have Q4 := Lib.hid (get_any p w hs)
  have Q6 := Lib.hid (get6_any p w hs)
  have HA : Hid (any9 p = if ver9 p = 4 then .four (getH p) else .six (get6H p)) := rfl
  have HP : Hid (pay9 p = if ver9 p = 4 then getS p else get6S p) := rfl
  have HE : Hid (pktE p = if ver9 p = 4 then getE p else get6E p) := rfl
  generalize any9 p = a at *
  generalize pay9 p = y at *
  generalize pktE p = k at *
  generalize ver9 p = v at *
  clear hs
  unfold Tells
  by_cases h4 : v = 4
  · have t1 : ((v : Int) == 4) = true := by simp; omega
    have EA := Lib.hid (HA.out.trans (if_pos h4))
    have EP := Lib.hid (HP.out.trans (if_pos h4))
    have EE := Lib.hid (HE.out.trans (if_pos h4))
    clear HA HP HE Q6 h4
    go_enter Try.func30, Try.ntmps30
    go_wp2_with fail
    refine Q4.out.mono ?_
    rintro e w' ⟨rfl, hb⟩
    generalize getH p = h at *
    have ⟨B, L⟩ := got_made w w' hb h.cells 52
    have HB := Lib.hid L
    have ⟨c0, c1, c2, c3, c4, c5, c6, c7, c8, c9⟩ := Hc.of B
    unfold H4.cells at HB c0 c1 c2 c3 c4 c5 c6 c7 c8 c9 ⊢
    clear B L hb Q4
    go_wp2_with fail
    go_returns
    exact ⟨by rw [EA.out, EP.out, EE.out]; rfl, HB.out⟩
  · have t1 : ((v : Int) == 4) = false := by simp; omega
    have EA := Lib.hid (HA.out.trans (if_neg h4))
    have EP := Lib.hid (HP.out.trans (if_neg h4))
    have EE := Lib.hid (HE.out.trans (if_neg h4))
    clear HA HP HE Q4 h4
    go_enter Try.func30, Try.ntmps30
    go_wp2_with fail
    refine Q6.out.mono ?_
    rintro e w' ⟨rfl, hb⟩
    generalize get6H p = h at *
    have ⟨B, L⟩ := got_made w w' hb h.cells 109
    have HB := Lib.hid L
    have ⟨c0, c1, c2, c3, c4, c5⟩ := Hc6.of B
    unfold H6.cells at HB c0 c1 c2 c3 c4 c5 ⊢
    clear B L hb Q6
    go_wp2_with fail
    go_returns
    exact ⟨by rw [EA.out, EP.out, EE.out]; rfl, HB.out⟩

set_option maxRecDepth 100000 in
set_option maxHeartbeats 1000000 in
theorem readPayload_any (proto : Int) (b : ByteArray) (w : World) (hs : b.size ≤ 1000000) :
    Calls Try.prog 36 #[.int .i64 proto, .string b] w (Tells (.tuple #[.int .i64 (sp9 proto b), .int .i64 (dp9 proto b), .int .i64 (own9 proto b : Nat), .int .i64 (loadE proto b : Nat)]) w) := by
  have Q7 := Lib.hid (get7_any b w hs)
  have Q8 := Lib.hid (get8_any b w hs)
  have HA : Hid (sp9 proto b = if proto = 6 then (get7H b).src else (get8H b).src) := rfl
  have HB : Hid (dp9 proto b = if proto = 6 then (get7H b).dst else (get8H b).dst) := rfl
  have HC : Hid (own9 proto b = if proto = 6 then get7N b else get8N b) := rfl
  have HD : Hid (loadE proto b = if proto = 6 then get7E b else get8E b) := rfl
  generalize sp9 proto b = xa at *
  generalize dp9 proto b = xb at *
  generalize own9 proto b = xc at *
  generalize loadE proto b = xd at *
  clear hs
  unfold Tells
  by_cases h6 : proto = 6
  · have t1 : (proto == 6) = true := by simp; omega
    have EA := Lib.hid (HA.out.trans (if_pos h6))
    have EB := Lib.hid (HB.out.trans (if_pos h6))
    have EC := Lib.hid (HC.out.trans (if_pos h6))
    have ED := Lib.hid (HD.out.trans (if_pos h6))
    clear HA HB HC HD Q8 h6
    go_enter Try.func36, Try.ntmps36
    go_wp2_with fail
    refine Q7.out.mono ?_
    rintro e w' ⟨rfl, hb⟩
    generalize get7H b = h at *
    have ⟨B, L⟩ := got_made w w' hb h.cells 49
    have HB := Lib.hid L
    have ⟨c0, c1, c2, c3, c4, c5, c6, c7, c8⟩ := Hc7.of B
    unfold S7.cells at HB c0 c1 c2 c3 c4 c5 c6 c7 c8 ⊢
    clear B L hb Q7
    go_wp2_with fail
    go_quiet (fail)
    go_wp2_with fail
    go_returns
    exact ⟨by rw [EA.out, EB.out, EC.out, ED.out], below_drewN HB.out _⟩
  · have t1 : (proto == 6) = false := by simp; omega
    have EA := Lib.hid (HA.out.trans (if_neg h6))
    have EB := Lib.hid (HB.out.trans (if_neg h6))
    have EC := Lib.hid (HC.out.trans (if_neg h6))
    have ED := Lib.hid (HD.out.trans (if_neg h6))
    clear HA HB HC HD Q7 h6
    go_enter Try.func36, Try.ntmps36
    go_wp2_with fail
    refine Q8.out.mono ?_
    rintro e w' ⟨rfl, hb⟩
    generalize get8H b = h at *
    have ⟨B, L⟩ := got_made w w' hb h.cells 83
    have HB := Lib.hid L
    have ⟨c0, c1, c2⟩ := Hc8.of B
    unfold D8.cells at HB c0 c1 c2 ⊢
    clear B L hb Q8
    go_wp2_with fail
    go_quiet (fail)
    go_wp2_with fail
    go_returns
    exact ⟨by rw [EA.out, EB.out, EC.out, ED.out], below_drewN HB.out _⟩

end Go.Proofs.Ytppobficnjpdiaa
