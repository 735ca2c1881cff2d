/-
  The document's own answers: Right, and its Put.
-/
import Derived.Test.YtppobficnjpdiaaIp6A
import Derived.Test.YtppobficnjpdiaaGround
import Derived.Test.YtppobficnjpdiaaReading
import Derived.IntWalk
import Derived.Deep.RegionHeld3
import Derived.Deep.CutBlock
import Derived.Deep.DeepCutAuto
namespace Go.Proofs.Ytppobficnjpdiaa
open Go.RowKit
set_option linter.unusedVariables false

end Go.Proofs.Ytppobficnjpdiaa

/-
  The document's own Put.
-/
namespace Go.Proofs.Ytppobficnjpdiaa
open Go.RowKit
set_option linter.unusedVariables false

/-- A number's bytes, under a name. -/
theorem bytes_x (m : Int) (n k : Nat) (kk : Int) (x : ByteArray) (hkk : kk = (k : Nat)) (hm : m = (n : Nat)) (hn : n < 9223372036854775808) (hk : k ≤ 8) (hx : x = ⟨(be n k).toArray⟩) (w : World) :
    Calls Try.prog 26 #[.int .u64 m, .int .i64 kk] w fun e w' => e = .returned (.string x) ∧ Below w.heap.size w w' := by
  subst hm hx hkk
  exact bytes_any n k w (by omega) hk

end Go.Proofs.Ytppobficnjpdiaa

/-
  The document's own Get.
-/
namespace Go.Proofs.Ytppobficnjpdiaa
open Go.RowKit
set_option linter.unusedVariables false

/-- The document's Get's end. -/
def Ref6Got (p : ByteArray) (w : World) (e : Ending) (w' : World) : Prop := e = .returned (.tuple #[.agg (get6H p).cells, .string (get6S p), .int .i64 (get6E p : Nat)]) ∧ Below w.heap.size w w'

theorem refget6_ret {W : World} {tmps : Array Value} {k : Int} {s : ByteArray} {h : H6} {N : Nat} (hB : Blk W N h.cells 109) (t2 : tmps.getD 2 undef = .pointer (some ⟨N, 0, none⟩)) (t3 : tmps.getD 3 undef = .string s) (t4 : tmps.getD 4 undef = .int .i64 k) :
    (results Try.f70 tmps).run Try.prog W = .ok (.tuple #[.agg h.cells, .string s, .int .i64 k]) W := by
  have ⟨c0, c1, c2, c3, c4, c5⟩ := Hc6.of hB
  unfold H6.cells
  simp at t2 t3 t4
  simp [results, Try.results70, go_sem, t2, t3, t4, c0, c1, c2, c3, c4, c5]
theorem refget6_stop {w : World} {p : ByteArray} {tmps : Array Value} {k : Nat} (he : get6E p = k) (h0 : k ≠ 0) (t2 : tmps.getD 2 undef = .pointer (some ⟨w.heap.size, 0, none⟩)) (t3 : tmps.getD 3 undef = .string ⟨#[]⟩) (t4 : tmps.getD 4 undef = .int .i64 (k : Nat)) :
    bodyPost Try.prog Try.f70 (Ref6Got p w) Exit.ret { tmps := tmps, defers := [] } (w.alloc (.cells #[.int .i64 0, .int .i64 0, .int .i64 0, .int .i64 0, .string ⟨#[]⟩, .string ⟨#[]⟩] 109)) := by
  have hg := get6_err (p := p) (by omega)
  refine ⟨rfl, _, refget6_ret (h := H6.zero) (Blk.new w H6.zero.cells _) t2 t3 t4, ?_, (Below.refl _ _).alloc (Nat.le_refl _) _⟩
  rw [hg.1, hg.2, he]

theorem refget6_done {w : World} {p : ByteArray} {tmps : Array Value} {a0 a1 a2 a3 : Int} {a4 a5 : ByteArray} (he : get6E p = 0) (hh : (⟨a0, a1, a2, a3, a4, a5⟩ : H6) = hdr6 p) (t2 : tmps.getD 2 undef = .pointer (some ⟨w.heap.size, 0, none⟩)) (t3 : tmps.getD 3 undef = .string (p.extract 40 p.size)) (t4 : tmps.getD 4 undef = .int .i64 0) :
    bodyPost Try.prog Try.f70 (Ref6Got p w) Exit.ret { tmps := tmps, defers := [] } (w.alloc (.cells #[.int .i64 a0, .int .i64 a1, .int .i64 a2, .int .i64 a3, .string a4, .string a5] 109)).drew := by
  have HGH : get6H p = hdr6 p := by unfold get6H; rw [if_pos he]
  have HGS : get6S p = p.extract 40 p.size := by unfold get6S; rw [if_pos he]
  refine ⟨rfl, _, refget6_ret (h := ⟨a0, a1, a2, a3, a4, a5⟩) (Blk.new w _ _).drew t2 t3 t4, ?_, below_drewN ((Below.refl _ _).alloc (Nat.le_refl _) _) 1⟩
  rw [HGH, HGS, he, ← hh]
  rfl
theorem made_hdr6 (p : ByteArray) (h6 : 6 < p.size) (h7 : 7 < p.size) (n : Nat) (hn : n = numOf p 0 4) :
    (⟨((n : Int) / 1048576).tmod 256, (n : Int).tmod 1048576, IntKind.i64.wrap (p[6].toNat : Int), IntKind.i64.wrap (p[7].toNat : Int), p.extract 8 24, p.extract 24 40⟩ : H6) = hdr6 p := by
  have l6 := p[6].toNat_lt
  have l7 := p[7].toNat_lt
  unfold hdr6
  rw [numOf_one p 6 h6, numOf_one p 7 h7, IntWalk.i64_in _ (by omega), IntWalk.i64_in _ (by omega), ← hn]
  have e1 : ((n : Int) / 1048576).tmod 256 = ((n / 1048576 % 256 : Nat) : Int) := by rw [Int.tmod_eq_emod_of_nonneg (by omega)]; omega
  have e2 : (n : Int).tmod 1048576 = ((n % 1048576 : Nat) : Int) := by rw [Int.tmod_eq_emod_of_nonneg (by omega)]; omega
  rw [e1, e2]

set_option maxRecDepth 100000 in
set_option maxHeartbeats 1000000 in
theorem refget6_any (p : ByteArray) (w : World) (hs : p.size ≤ 1000000) :
    Calls Try.prog 70 #[.string p] w (Ref6Got p w) := by
  go_enter Try.func70, Try.ntmps70
  by_cases hp : 40 ≤ p.size
  case neg =>
    have t0 : decide ((p.size : Int) < 40) = true := by simp; omega
    go_wp2_with fail
    exact refget6_stop (k := 2) (get6E_short hp) (by decide) rfl rfl rfl
  have t0 : decide ((p.size : Int) < 40) = false := by simp; omega
  have b4 : (4 : Int) ≤ (p.size : Int) := by omega
  have b6 : (6 : Int) ≤ (p.size : Int) := by omega
  have E3 := Lib.hid (get6E_ver hp)
  have E4 := Lib.hid (get6E_len hp)
  have E0 := Lib.hid (get6E_ok hp)
  have V0 := Lib.hid (fun W => value_num p 0 4 W (by omega) (by omega))
  have V4 := Lib.hid (fun W => value_num p 4 2 W (by omega) (by omega))
  have l0 := numOf_lt p 0 4 (by omega)
  have l4 := numOf_lt p 4 2 (by omega)
  simp only [Nat.reduceAdd] at V0 V4
  have HM := Lib.hid (made_hdr6 p (by omega) (by omega) (numOf p 0 4) rfl)
  generalize numOf p 0 4 = n at *
  generalize numOf p 4 2 = z at *
  have l0' : n < 4294967296 := l0
  have l4' : z < 65536 := l4
  clear l0 l4
  go_wp2_with fail
  refine (V0.out _).mono ?_
  rintro e w' ⟨rfl, rfl⟩
  by_cases hv : n / 268435456 = 6
  case neg =>
    have tv : ((n : Int) / 1048576 / 256 != 6) = true := by simp; omega
    go_wp2_with fail
    exact refget6_stop (k := 3) (E3.out hv) (by decide) rfl rfl rfl
  have tv : ((n : Int) / 1048576 / 256 != 6) = false := by simp; omega
  go_wp2_with fail
  refine (V4.out _).mono ?_
  rintro e w' ⟨rfl, rfl⟩
  have HV := Lib.hid hv
  clear hv E3
  by_cases hl : z + 40 = p.size
  case neg =>
    have tl : ((z : Int) + 40 != (p.size : Int)) = true := by simp; omega
    go_wp2_with fail
    exact refget6_stop (k := 4) (E4.out HV.out hl) (by decide) rfl rfl rfl
  have tl : ((z : Int) + 40 != (p.size : Int)) = false := by simp; omega
  have G0 := Lib.hid (E0.out HV.out hl)
  clear hl E4 E0 HV
  go_wp2_with fail
  have m1 : IntKind.i64.wrap ((n : Int) / 1048576) = (n : Int) / 1048576 := IntWalk.i64_in _ (by omega)
  have c6 : (6 : Int) < (p.size : Int) := by omega
  have c7 : (7 : Int) < (p.size : Int) := by omega
  have c24 : (24 : Int) ≤ (p.size : Int) := by omega
  have c40 : (40 : Int) ≤ (p.size : Int) := by omega
  clear t0 b4 b6 tv tl
  refine wp_region_any (by kernel_rfl) ?_
  change wpAny _ _ _ _ _ _ _ (World.drew _)
  refine takeA_yes (i := 0) (d := some 28) (v := ?v1) rfl rfl (by kernel_rfl) (by kernel_rfl) (by kernel_rfl) (fun _ _ _ h => h) (by rfl) ?y1 ?_
  case y1 => (intro w; go_simp <;> with_reducible rfl)
  simp only [Act.put, List.setIfInBounds_toArray, List.set_cons_zero, List.set_cons_succ]
  refine takeA_yes (i := 1) (d := some 29) (v := ?v2) rfl rfl (by kernel_rfl) (by kernel_rfl) (by kernel_rfl) (fun _ _ _ h => h) (by rfl) ?y2 ?_
  case y2 => (intro w; go_simp <;> with_reducible rfl)
  simp only [Act.put, List.setIfInBounds_toArray, List.set_cons_zero, List.set_cons_succ]
  refine takeA_yes (i := 2) (d := some 30) (v := ?v3) rfl rfl (by kernel_rfl) (by kernel_rfl) (by kernel_rfl) (fun _ _ _ h => h) (by rfl) ?y3 ?_
  case y3 => (intro w; go_simp <;> with_reducible rfl)
  simp only [Act.put, List.setIfInBounds_toArray, List.set_cons_zero, List.set_cons_succ]
  refine takeA_yes (i := 3) (d := some 31) (v := ?v4) rfl rfl (by kernel_rfl) (by kernel_rfl) (by kernel_rfl) (fun _ _ _ h => h) (by rfl) ?y4 ?_
  case y4 => (intro w; go_simp <;> with_reducible rfl)
  simp only [Act.put, List.setIfInBounds_toArray, List.set_cons_zero, List.set_cons_succ]
  refine takeA_yes (i := 4) (d := some 32) (v := ?v5) rfl rfl (by kernel_rfl) (by kernel_rfl) (by kernel_rfl) (fun _ _ _ h => h) (by rfl) ?y5 ?_
  case y5 => (intro w; go_simp <;> with_reducible rfl)
  simp only [Act.put, List.setIfInBounds_toArray, List.set_cons_zero, List.set_cons_succ]
  refine takeA_yes (i := 5) (d := some 33) (v := ?v6) rfl rfl (by kernel_rfl) (by kernel_rfl) (by kernel_rfl) (fun _ _ _ h => h) (by rfl) ?y6 ?_
  case y6 => (intro w; go_simp <;> with_reducible rfl)
  simp only [Act.put, List.setIfInBounds_toArray, List.set_cons_zero, List.set_cons_succ]
  refine takeA_yes (i := 6) (d := some 34) (v := ?v7) rfl rfl (by kernel_rfl) (by kernel_rfl) (by kernel_rfl) (fun _ _ _ h => h) (by rfl) ?y7 ?_
  case y7 => (intro w; go_simp <;> with_reducible rfl)
  simp only [Act.put, List.setIfInBounds_toArray, List.set_cons_zero, List.set_cons_succ]
  refine takeA_yes (i := 7) (d := some 35) (v := ?v8) rfl rfl (by kernel_rfl) (by kernel_rfl) (by kernel_rfl) (fun _ _ _ h => h) (by rfl) ?y8 ?_
  case y8 => (intro w; go_simp <;> with_reducible rfl)
  simp only [Act.put, List.setIfInBounds_toArray, List.set_cons_zero, List.set_cons_succ]
  refine takeA_yes (i := 8) (d := some 36) (v := ?v9) rfl rfl (by kernel_rfl) (by kernel_rfl) (by kernel_rfl) (fun _ _ _ h => h) (by rfl) ?y9 ?_
  case y9 => (intro w; go_simp <;> with_reducible rfl)
  simp only [Act.put, List.setIfInBounds_toArray, List.set_cons_zero, List.set_cons_succ]
  refine takeA_yes (i := 9) (d := some 37) (v := ?v10) rfl rfl (by kernel_rfl) (by kernel_rfl) (by kernel_rfl) (fun _ _ _ h => h) (by rfl) ?y10 ?_
  case y10 => (intro w; go_simp <;> with_reducible rfl)
  simp only [Act.put, List.setIfInBounds_toArray, List.set_cons_zero, List.set_cons_succ]
  refine takeA_yes (i := 10) (d := some 38) (v := ?v11) rfl rfl (by kernel_rfl) (by kernel_rfl) (by kernel_rfl) (fun _ _ _ h => h) (by rfl) ?y11 ?_
  case y11 => (intro w; go_simp <;> with_reducible rfl)
  simp only [Act.put, List.setIfInBounds_toArray, List.set_cons_zero, List.set_cons_succ]
  refine takeA_yes (i := 11) (d := some 39) (v := ?v12) rfl rfl (by kernel_rfl) (by kernel_rfl) (by kernel_rfl) (fun _ _ _ h => h) (by rfl) ?y12 ?_
  case y12 => (intro w; go_simp <;> with_reducible rfl)
  simp only [Act.put, List.setIfInBounds_toArray, List.set_cons_zero, List.set_cons_succ]
  refine takeA_yes (i := 12) (d := some 40) (v := ?v13) rfl rfl (by kernel_rfl) (by kernel_rfl) (by kernel_rfl) (fun _ _ _ h => h) (by rfl) ?y13 ?_
  case y13 => (intro w; go_simp <;> with_reducible rfl)
  simp only [Act.put, List.setIfInBounds_toArray, List.set_cons_zero, List.set_cons_succ]
  refine takeA_yes (i := 13) (d := some 41) (v := ?v14) rfl rfl (by kernel_rfl) (by kernel_rfl) (by kernel_rfl) (fun _ _ _ h => h) (by rfl) ?y14 ?_
  case y14 => (intro w; go_simp <;> with_reducible rfl)
  simp only [Act.put, List.setIfInBounds_toArray, List.set_cons_zero, List.set_cons_succ]
  refine takeA_yes (i := 14) (d := some 42) (v := ?v15) rfl rfl (by kernel_rfl) (by kernel_rfl) (by kernel_rfl) (fun _ _ _ h => h) (by rfl) ?y15 ?_
  case y15 => (intro w; go_simp <;> with_reducible rfl)
  simp only [Act.put, List.setIfInBounds_toArray, List.set_cons_zero, List.set_cons_succ]
  refine takeA_yes (i := 15) (d := some 43) (v := ?v16) rfl rfl (by kernel_rfl) (by kernel_rfl) (by kernel_rfl) (fun _ _ _ h => h) (by rfl) ?y16 ?_
  case y16 => (intro w; go_simp <;> with_reducible rfl)
  simp only [Act.put, List.setIfInBounds_toArray, List.set_cons_zero, List.set_cons_succ]
  refine takeA_yes (i := 16) (d := some 44) (v := ?v17) rfl rfl (by kernel_rfl) (by kernel_rfl) (by kernel_rfl) (fun _ _ _ h => h) (by rfl) ?y17 ?_
  case y17 => (intro w; go_simp <;> with_reducible rfl)
  simp only [Act.put, List.setIfInBounds_toArray, List.set_cons_zero, List.set_cons_succ]
  refine takeA_yes (i := 17) (d := some 45) (v := ?v18) rfl rfl (by kernel_rfl) (by kernel_rfl) (by kernel_rfl) (fun _ _ _ h => h) (by rfl) ?y18 ?_
  case y18 => (intro w; go_simp <;> with_reducible rfl)
  simp only [Act.put, List.setIfInBounds_toArray, List.set_cons_zero, List.set_cons_succ]
  refine wpAny_ready (rs := [18]) (by kernel_rfl) (by simp) ?_
  refine AllReady.cons rfl (fun K hK => ?_) AllReady.nil
  go_simp
  refine hK _ _ ?_
  clear hK K
  try simp only [Act.put, List.setIfInBounds_toArray, List.set_cons_zero, List.set_cons_succ]
  refine takeA_yes (i := 19) (d := some 3) (v := ?v19) rfl rfl (by kernel_rfl) (by kernel_rfl) (by kernel_rfl) (fun _ _ _ h => h) (by rfl) ?y19 ?_
  case y19 => (intro w; go_simp <;> with_reducible rfl)
  simp only [Act.put, List.setIfInBounds_toArray, List.set_cons_zero, List.set_cons_succ]
  refine takeA_yes (i := 20) (d := some 4) (v := ?v20) rfl rfl (by kernel_rfl) (by kernel_rfl) (by kernel_rfl) (fun _ _ _ h => h) (by rfl) ?y20 ?_
  case y20 => (intro w; go_simp <;> with_reducible rfl)
  simp only [Act.put, List.setIfInBounds_toArray, List.set_cons_zero, List.set_cons_succ]
  refine wpAny_done (by kernel_rfl) ?_ _
  go_wp2_with fail
  refine refget6_done G0.out HM.out ?_ ?_ ?_
  · rfl
  · rfl
  · rfl

end Go.Proofs.Ytppobficnjpdiaa
