/-
  Get: a packet's flow.
-/
import Derived.Test.YtppobficnjpdiaaFlowVs
import Derived.LoopN
namespace Go.Proofs.Ytppobficnjpdiaa
open Go.RowKit
set_option linter.unusedVariables false

theorem any9_sizes (p : ByteArray) : (any9 p).src.size ≤ 16 ∧ (any9 p).dst.size ≤ 16 := by
  unfold any9
  split
  · unfold getH
    split
    · show (p.extract 12 16).size ≤ 16 ∧ (p.extract 16 20).size ≤ 16
      rw [ByteArray.size_extract, ByteArray.size_extract]; omega
    · show (0 : Nat) ≤ 16 ∧ (0 : Nat) ≤ 16
      omega
  · unfold get6H
    split
    · show (p.extract 8 24).size ≤ 16 ∧ (p.extract 24 40).size ≤ 16
      rw [ByteArray.size_extract, ByteArray.size_extract]; omega
    · show (0 : Nat) ≤ 16 ∧ (0 : Nat) ≤ 16
      omega
theorem pay9_size (p : ByteArray) : (pay9 p).size ≤ p.size := by
  unfold pay9
  split
  · unfold getS
    split
    · rw [ByteArray.size_extract]; omega
    · exact Nat.zero_le _
  · unfold get6S
    split
    · rw [ByteArray.size_extract]; omega
    · exact Nat.zero_le _

set_option maxRecDepth 100000 in
set_option maxHeartbeats 4000000 in
theorem get9_any (p : ByteArray) (w : World) (hs : p.size ≤ 900000) :
    Calls Try.prog 15 #[.string p] w (Tells (.tuple #[.agg (flowH p).cells, .int .i64 (flowE p : Nat)]) w) := by
  have hmf : ∀ (fn : Fn) (first cap : Array Value) (w : World), (Instr.makeFunc fn first cap).run Try.prog w = .ok (.func fn first cap) w := fun _ _ _ _ => rfl
  have HP : Hid (p.size ≤ 900000) := hs
  have HY0 := Lib.hid (pay9_size p)
  clear hs
  have V0 := Lib.hid (Vs.new w p _ _ _ _ _ _ _ _ rfl rfl rfl rfl rfl rfl rfl rfl)
  go_enter Try.func15, Try.ntmps15
  go_wp2_with fail
  clear hmf
  unfold asks9 F9.cells F9.zero at V0
  simp only at V0
  generalize w.heap.size + 1 + 1 + 1 + 1 + 1 + 1 + 1 = S at *
  generalize w.heap.size + 1 + 1 + 1 + 1 + 1 + 1 = F at *
  generalize w.heap.size + 1 + 1 + 1 + 1 + 1 = Y at *
  generalize w.heap.size + 1 + 1 + 1 + 1 = H at *
  generalize w.heap.size + 1 + 1 + 1 = O at *
  generalize w.heap.size + 1 + 1 = V at *
  generalize w.heap.size + 1 = R at *
  generalize ((((((((w.alloc (Obj.cells #[Value.string p] 9)).alloc (Obj.cells #[Value.int IntKind.i64 0, Value.string { data := #[] }, Value.string { data := #[] }, Value.int IntKind.i64 0, Value.int IntKind.i64 0] 30)).alloc (Obj.cells #[Value.int IntKind.i64 0] 3)).alloc (Obj.cells #[Value.int IntKind.i64 0] 3)).alloc (Obj.cells #[Value.nilIface] 63)).alloc (Obj.cells #[Value.string { data := #[] }] 9)).alloc (Obj.cells #[Value.int IntKind.i64 0, Value.string { data := #[] }, Value.string { data := #[] }, Value.int IntKind.i64 0, Value.int IntKind.i64 0] 30)).alloc (Obj.cells _ 66)) = u0 at *
  have HLE := Lib.hid V0.out.le
  have s0 := V0.out.cells 0
  simp [asks9] at s0
  refine wp_loop_rounds 7 ?_
  rw [rounds_succ]
  go_wp2_with fail
  clear s0
  refine (ask1_any w.heap.size V p 0 _ (by have := HP.out; omega) V0.out.p V0.out.v).mono ?_
  rintro e u1 ⟨rfl, k1, b1⟩
  have V1 := Lib.hid (V0.out.put_v _ k1 b1)
  clear k1 b1 V0
  by_cases h1 : verE p = 0
  case neg =>
    have t1 : ((verE p : Int) != 0) = true := by simp; omega
    have E1 := flowE_ver h1
    have ⟨z0, z1, z2, z3, z4⟩ := Hc9.of V1.out.r
    have f0 := V1.out.r.frozen 0
    have f1 := V1.out.r.frozen 1
    have f2 := V1.out.r.frozen 2
    have f3 := V1.out.r.frozen 3
    have f4 := V1.out.r.frozen 4
    simp only [F9.zero] at z0 z1 z2 z3 z4
    go_wp2_with fail
    exact get9_end F9.zero _ V1.out E1 (flowH_err (by rw [E1]; exact h1)) rfl rfl
  have t1 : ((verE p : Int) != 0) = false := by simp; omega
  have s1 := V1.out.cells 1
  simp [asks9] at s1
  go_wp2_with fail
  rw [rounds_succ]
  go_wp2_with fail
  clear s1
  refine (ask2_any V w.heap.size H Y p _ _ _ (by have := HP.out; omega) V1.out.v V1.out.p V1.out.h V1.out.y (by have := HLE.out; omega)).mono ?_
  rintro e u2 ⟨rfl, k2, b2, c2⟩
  have V2 := Lib.hid (V1.out.put_hy _ _ k2 b2 c2)
  clear k2
  clear t1 V1 b2 c2
  by_cases h2 : pktE p = 0
  case neg =>
    have t2 : ((pktE p : Int) != 0) = true := by simp; omega
    have E2 := flowE_pkt h1 h2
    have ⟨z0, z1, z2, z3, z4⟩ := Hc9.of V2.out.r
    have f0 := V2.out.r.frozen 0
    have f1 := V2.out.r.frozen 1
    have f2 := V2.out.r.frozen 2
    have f3 := V2.out.r.frozen 3
    have f4 := V2.out.r.frozen 4
    simp only [F9.zero] at z0 z1 z2 z3 z4
    go_wp2_with fail
    exact get9_end F9.zero _ V2.out E2 (flowH_err (by rw [E2]; exact h2)) rfl rfl
  have t2 : ((pktE p : Int) != 0) = false := by simp; omega
  have s2 := V2.out.cells 2
  simp [asks9] at s2
  go_wp2_with fail
  rw [rounds_succ]
  go_wp2_with fail
  clear s2
  refine (ask3_any H (any9 p) _ V2.out.h).mono ?_
  rintro e u3 ⟨rfl, k3, -⟩
  have V3 := Lib.hid (V2.out.none k3)
  clear k3
  clear t2 V2
  cases h3 : (any9 p).piece with
  | true =>
    have t3 : (((kU (!true) 14 : Nat) : Int) != 0) = true := rfl
    have E3 : flowE p = kU (!true) 14 := flowE_piece h1 h2 h3
    have ⟨z0, z1, z2, z3, z4⟩ := Hc9.of V3.out.r
    have f0 := V3.out.r.frozen 0
    have f1 := V3.out.r.frozen 1
    have f2 := V3.out.r.frozen 2
    have f3 := V3.out.r.frozen 3
    have f4 := V3.out.r.frozen 4
    simp only [F9.zero] at z0 z1 z2 z3 z4
    go_wp2_with fail
    exact get9_end F9.zero _ V3.out E3 (flowH_err (by rw [E3]; exact by decide)) rfl rfl
  | false =>
  have t3 : (((kU (!false) 14 : Nat) : Int) != 0) = false := rfl
  have s3 := V3.out.cells 3
  simp [asks9] at s3
  go_wp2_with fail
  rw [rounds_succ]
  go_wp2_with fail
  clear s3
  refine (ask4_any H F (any9 p) _ _ V3.out.h V3.out.f).mono ?_
  rintro e u4 ⟨rfl, k4, b4⟩
  have V4 := Lib.hid (V3.out.put_f _ k4 b4)
  clear k4
  clear t3 V3 b4
  cases h4 : isK (any9 p).proto with
  | false =>
    have t4 : (((kU false 6 : Nat) : Int) != 0) = true := rfl
    have E4 : flowE p = kU false 6 := flowE_proto h1 h2 h3 h4
    have ⟨z0, z1, z2, z3, z4⟩ := Hc9.of V4.out.r
    have f0 := V4.out.r.frozen 0
    have f1 := V4.out.r.frozen 1
    have f2 := V4.out.r.frozen 2
    have f3 := V4.out.r.frozen 3
    have f4 := V4.out.r.frozen 4
    simp only [F9.zero] at z0 z1 z2 z3 z4
    go_wp2_with fail
    exact get9_end F9.zero _ V4.out E4 (flowH_err (by rw [E4]; exact by decide)) rfl rfl
  | true =>
  have t4 : (((kU true 6 : Nat) : Int) != 0) = false := rfl
  have A5 := fun u hF hY hO => ask5_any F Y O (any9 p).bare (pay9 p) 0 u (by have := HP.out; have := HY0.out; omega) hF hY hO (by have := HLE.out; omega)
  simp only [A9.bare] at A5
  have V4b := V4.out
  simp only [A9.bare] at V4b
  have V4 := Lib.hid V4b
  have HA5 := Lib.hid A5
  clear A5 V4b
  have s4 := V4.out.cells 4
  simp [asks9] at s4
  go_wp2_with fail
  rw [rounds_succ]
  go_wp2_with fail
  clear s4
  refine (HA5.out _ V4.out.f V4.out.y V4.out.o).mono ?_
  rintro e u5 ⟨rfl, k5, b5, c5⟩
  have V5 := Lib.hid (V4.out.put_fo _ _ k5 b5 c5)
  clear k5
  clear t4 V4 b5 c5 HA5
  by_cases h5 : loadE (any9 p).proto (pay9 p) = 0
  case neg =>
    have t5 : ((loadE (any9 p).proto (pay9 p) : Int) != 0) = true := by simp; omega
    have E5 := flowE_load h1 h2 h3 h4 h5
    have ⟨z0, z1, z2, z3, z4⟩ := Hc9.of V5.out.r
    have f0 := V5.out.r.frozen 0
    have f1 := V5.out.r.frozen 1
    have f2 := V5.out.r.frozen 2
    have f3 := V5.out.r.frozen 3
    have f4 := V5.out.r.frozen 4
    simp only [F9.zero] at z0 z1 z2 z3 z4
    go_wp2_with fail
    exact get9_end F9.zero _ V5.out E5 (flowH_err (by rw [E5]; exact h5)) rfl rfl
  have t5 : ((loadE (any9 p).proto (pay9 p) : Int) != 0) = false := by simp; omega
  have s5 := V5.out.cells 5
  simp [asks9] at s5
  go_wp2_with fail
  rw [rounds_succ]
  go_wp2_with fail
  clear s5
  refine (ask6_any H O Y (any9 p) _ (pay9 p) _ (by have := HP.out; have := HY0.out; omega) (by have := any9_sizes p; omega) (by have := any9_sizes p; omega) V5.out.h V5.out.o V5.out.y).mono ?_
  rintro e u6 ⟨rfl, k6, -⟩
  have V6 := Lib.hid (V5.out.none k6)
  clear k6
  clear t5 V5
  cases h6 : (any9 p).holds (own9 (any9 p).proto (pay9 p)) (pay9 p) with
  | false =>
    have t6 : (((kU false 5 : Nat) : Int) != 0) = true := rfl
    have E6 : flowE p = kU false 5 := flowE_sum h1 h2 h3 h4 h5 h6
    have ⟨z0, z1, z2, z3, z4⟩ := Hc9.of V6.out.r
    have f0 := V6.out.r.frozen 0
    have f1 := V6.out.r.frozen 1
    have f2 := V6.out.r.frozen 2
    have f3 := V6.out.r.frozen 3
    have f4 := V6.out.r.frozen 4
    simp only [F9.zero] at z0 z1 z2 z3 z4
    go_wp2_with fail
    exact get9_end F9.zero _ V6.out E6 (flowH_err (by rw [E6]; exact by decide)) rfl rfl
  | true =>
  have t6 : (((kU true 5 : Nat) : Int) != 0) = false := rfl
  have E0 := flowE_ok h1 h2 h3 h4 h5 h6
  have EH := Lib.hid (flowH_ok E0)
  have HE0 := Lib.hid E0
  have HF9 : Hid (flow9 p = ⟨(any9 p).proto, (any9 p).src, (any9 p).dst, sp9 (any9 p).proto (pay9 p), dp9 (any9 p).proto (pay9 p)⟩) := rfl
  clear h1 h2 h3 h4 h5 h6 E0
  generalize (any9 p).proto = x0 at *
  generalize (any9 p).src = x1 at *
  generalize (any9 p).dst = x2 at *
  generalize sp9 x0 (pay9 p) = x3 at *
  generalize dp9 x0 (pay9 p) = x4 at *
  go_wp2_with fail
  rw [rounds_succ]
  have ⟨y0, y1, y2, y3, y4⟩ := Hc9.of V6.out.f
  have ⟨z0, z1, z2, z3, z4⟩ := Hc9.of V6.out.r
  have f0 := V6.out.r.frozen 0
  have f1 := V6.out.r.frozen 1
  have f2 := V6.out.r.frozen 2
  have f3 := V6.out.r.frozen 3
  have f4 := V6.out.r.frozen 4
  simp only [F9.zero] at z0 z1 z2 z3 z4 y0 y1 y2 y3 y4
  go_wp2_with fail
  exact get9_end ⟨x0, x1, x2, x3, x4⟩ 0 V6.out HE0.out (EH.out.trans HF9.out) rfl rfl

end Go.Proofs.Ytppobficnjpdiaa
