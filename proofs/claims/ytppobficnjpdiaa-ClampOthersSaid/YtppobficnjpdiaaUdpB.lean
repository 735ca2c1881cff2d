/-
  The document's own answers: Check, two, and its Put.
-/
import Derived.Test.YtppobficnjpdiaaUdpA
import Derived.Test.YtppobficnjpdiaaGround
import Derived.Test.YtppobficnjpdiaaReading
import Derived.IntWalk
import Derived.Deep.RegionWith
namespace Go.Proofs.Ytppobficnjpdiaa
open Go.RowKit
set_option linter.unusedVariables false

def RefCheck8End (h : D8) (w : World) (e : Ending) (w' : World) : Prop := e = .returned (.int .i64 (h.err : Nat)) ∧ Below w.heap.size w w'

/-- What the region holds while it draws its order. -/
theorem keep8r {w u u' : World} {h : D8} (k : u.cell? ⟨w.heap.size, 0, none⟩ = some (.int .i64 h.src) ∧ u.cell? ⟨w.heap.size, 1, none⟩ = some (.int .i64 h.dst) ∧ u.cell? ⟨w.heap.size, 2, none⟩ = some (.string h.pay) ∧ Hid (Held8 w u h)) (hb : Below u.heap.size u u') :
    u'.cell? ⟨w.heap.size, 0, none⟩ = some (.int .i64 h.src) ∧ u'.cell? ⟨w.heap.size, 1, none⟩ = some (.int .i64 h.dst) ∧ u'.cell? ⟨w.heap.size, 2, none⟩ = some (.string h.pay) ∧ Hid (Held8 w u' h) := by
  have s := k.2.2.2.out.below hb
  have ⟨c0, c1, c2⟩ := Hc8.of s.b
  exact ⟨c0, c1, c2, Lib.hid s⟩

end Go.Proofs.Ytppobficnjpdiaa

/-
  The document's own Get.
-/
namespace Go.Proofs.Ytppobficnjpdiaa
open Go.RowKit
set_option linter.unusedVariables false

/-- The document's Get's end. -/
def Ref8Got (p : ByteArray) (w : World) (e : Ending) (w' : World) : Prop := e = .returned (.tuple #[.agg (get8H p).cells, .int .i64 (get8N p : Nat), .int .i64 (get8E p : Nat)]) ∧ Below w.heap.size w w'

theorem refget8_ret {W : World} {tmps : Array Value} {k s : Int} {h : D8} {N : Nat} (hB : Blk W N h.cells 83) (t2 : tmps.getD 2 undef = .pointer (some ⟨N, 0, none⟩)) (t3 : tmps.getD 3 undef = .int .i64 s) (t4 : tmps.getD 4 undef = .int .i64 k) :
    (results Try.f42 tmps).run Try.prog W = .ok (.tuple #[.agg h.cells, .int .i64 s, .int .i64 k]) W := by
  have ⟨c0, c1, c2⟩ := Hc8.of hB
  unfold D8.cells
  simp at t2 t3 t4
  simp [results, Try.results42, go_sem, t2, t3, t4, c0, c1, c2]
theorem refget8_stop {w : World} {p : ByteArray} {tmps : Array Value} {k : Nat} (he : get8E p = k) (h0 : k ≠ 0) (t2 : tmps.getD 2 undef = .pointer (some ⟨w.heap.size, 0, none⟩)) (t3 : tmps.getD 3 undef = .int .i64 0) (t4 : tmps.getD 4 undef = .int .i64 (k : Nat)) :
    bodyPost Try.prog Try.f42 (Ref8Got p w) Exit.ret { tmps := tmps, defers := [] } (w.alloc (.cells #[.int .i64 0, .int .i64 0, .string ⟨#[]⟩] 83)) := by
  have hg := get8_err (b := p) (by omega)
  refine ⟨rfl, _, refget8_ret (h := D8.zero) (Blk.new w D8.zero.cells _) t2 t3 t4, ?_, (Below.refl _ _).alloc (Nat.le_refl _) _⟩
  rw [hg.1, hg.2, he]; rfl
theorem refget8_done {w : World} {p : ByteArray} {tmps : Array Value} {a0 a1 a3 : Int} {a2 : ByteArray} (he : get8E p = 0) (hh : (⟨a0, a1, a2⟩ : D8) = dat8 p) (h3 : a3 = (numOf p 6 2 : Nat)) (t2 : tmps.getD 2 undef = .pointer (some ⟨w.heap.size, 0, none⟩)) (t3 : tmps.getD 3 undef = .int .i64 a3) (t4 : tmps.getD 4 undef = .int .i64 0) :
    bodyPost Try.prog Try.f42 (Ref8Got p w) Exit.ret { tmps := tmps, defers := [] } (w.alloc (.cells #[.int .i64 a0, .int .i64 a1, .string a2] 83)).drew := by
  have hg := get8_ok he
  refine ⟨rfl, _, refget8_ret (h := ⟨a0, a1, a2⟩) (Blk.new w _ _).drew t2 t3 t4, ?_, below_drewN ((Below.refl _ _).alloc (Nat.le_refl _) _) 1⟩
  rw [hg.1, hg.2, he, ← hh, h3]
  rfl

set_option maxRecDepth 100000 in
set_option maxHeartbeats 4000000 in
theorem refget8_any (p : ByteArray) (w : World) (hs : p.size ≤ 1000000) :
    Calls Try.prog 42 #[.string p] w (Ref8Got p w) := by
  go_enter Try.func42, Try.ntmps42
  by_cases hp : 8 ≤ p.size
  case neg =>
    have t0 : decide ((p.size : Int) < 8) = true := by simp; omega
    go_wp2_with fail
    exact refget8_stop (k := 2) (get8E_short hp) (by decide) rfl rfl rfl
  have t0 : decide ((p.size : Int) < 8) = false := by simp; omega
  have b6 : (6 : Int) ≤ (p.size : Int) := by omega
  have E4 := Lib.hid (get8E_len hp)
  have E0 := Lib.hid (get8E_ok hp)
  have V0 := Lib.hid (fun W => value_num p 0 2 W (by omega) (by omega))
  have V2 := Lib.hid (fun W => value_num p 2 2 W (by omega) (by omega))
  have V4 := Lib.hid (fun W => value_num p 4 2 W (by omega) (by omega))
  have V6 := Lib.hid (fun W => value_num p 6 2 W (by omega) (by omega))
  have l0 : numOf p 0 2 < 65536 := numOf_lt p 0 2 (by omega)
  have l2 : numOf p 2 2 < 65536 := numOf_lt p 2 2 (by omega)
  have l4 : numOf p 4 2 < 65536 := numOf_lt p 4 2 (by omega)
  have l6 : numOf p 6 2 < 65536 := numOf_lt p 6 2 (by omega)
  simp only [Nat.reduceAdd] at V0 V2 V4 V6
  have HD : Hid (dat8 p = ⟨numOf p 0 2, numOf p 2 2, p.extract 8 p.size⟩) := rfl
  generalize numOf p 0 2 = n0 at *
  generalize numOf p 2 2 = n2 at *
  generalize numOf p 4 2 = n4 at *
  generalize h6 : numOf p 6 2 = n6 at *
  have H6 := Lib.hid h6
  clear h6
  go_wp2_with fail
  refine (V4.out _).mono ?_
  rintro e w' ⟨rfl, rfl⟩
  by_cases hl : n4 = p.size
  case neg =>
    have tl : ((n4 : Int) != (p.size : Int)) = true := by simp; omega
    go_wp2_with fail
    exact refget8_stop (k := 4) (E4.out hl) (by decide) rfl rfl rfl
  have tl : ((n4 : Int) != (p.size : Int)) = false := by simp; omega
  have G0 := Lib.hid (E0.out hl)
  clear hl E4 E0 V4
  go_wp2_with fail
  have b2 : (2 : Int) ≤ (p.size : Int) := by omega
  have b4 : (4 : Int) ≤ (p.size : Int) := by omega
  have b8 : (8 : Int) ≤ (p.size : Int) := by omega
  have m0 : IntKind.i64.wrap (n0 : Int) = (n0 : Int) := IntWalk.i64_in _ (by omega)
  have m2 : IntKind.i64.wrap (n2 : Int) = (n2 : Int) := IntWalk.i64_in _ (by omega)
  have m6 : IntKind.i64.wrap (n6 : Int) = (n6 : Int) := IntWalk.i64_in _ (by omega)
  clear t0 tl
  go_region_with (first
    | ((with_reducible refine (V0.out _).mono ?_); rintro e w' ⟨rfl, rfl⟩)
    | ((with_reducible refine (V2.out _).mono ?_); rintro e w' ⟨rfl, rfl⟩)
    | ((with_reducible refine (V6.out _).mono ?_); rintro e w' ⟨rfl, rfl⟩))
  all_goals
    go_wp2_with fail
    exact refget8_done G0.out (by rw [HD.out]) (by rw [H6.out]) rfl rfl rfl

end Go.Proofs.Ytppobficnjpdiaa
