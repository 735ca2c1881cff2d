/-
  What each mode does stands in a map of structs with functions: the map that the call makes; a look-up in it.
-/
import Derived.Test.YtmghdgkdnacinaaDoorGround
import Derived.MapKept
namespace Go.Proofs.YtmghdgkdnacinaaDoor
open Go.RowKit
set_option linter.unusedVariables false

/-- A block of a map, written anew. -/
def setMap (w : World) (b : Nat) (o : Obj) : World := { w with heap := w.heap.setIfInBounds b o }
theorem setMap_at {w : World} {b : Nat} {o0 : Obj} (h : w.heap[b]? = some o0) (o : Obj) : (setMap w b o).heap[b]? = some o := (MapKept.heap_set h).1
theorem setMap_below {B b : Nat} {w W : World} (h : Below B w W) (hb : B ≤ b) (o : Obj) : Below B w (setMap W b o) :=
  ⟨h.os, h.tape, h.output, by show _ ≤ (W.heap.setIfInBounds b o).size; rw [Array.size_setIfInBounds]; exact h.size, fun k hk => by
    show (W.heap.setIfInBounds b o)[k]? = _
    rw [Array.getElem?_setIfInBounds_ne (by omega)]
    exact h.block k hk⟩

theorem run_insert {w : World} {b n : Nat} {es : Array MapEntry} {T K E : TypeId} (hm : Tryd.prog.underlying T = some (.map K E)) (hk : Tryd.prog.underlying K = some (.int .i64)) (k : Int) (v : Value)
    (hb : w.heap[b]? = some (.map es n)) (hf : Instr.findNow (.int .i64) (.int .i64 k) es.toList 0 = some none) :
    (Instr.mapUpdate T (.map (some b)) (.int .i64 k) v).run Tryd.prog w = .ok () (setMap w b (.map (es.push ⟨.int .i64 k, v, n⟩) (n + 1))) := by
  have hc : (Instr.checkKey false 10000 K (.int .i64 k)).run Tryd.prog w = .ok () w := MapKept.run_checkKey (k := .int .i64 k) hk (by simp [MapKept.IsKey]) false 9999
  simp [Instr.mapUpdate, run_underlying hm, MapKept.run_getObj_map hb, hc, MapKept.run_findKey hk hf, MapKept.run_setObj_map _ hb, Result.andThen, setMap]

theorem run_find {w : World} {b n : Nat} {es : Array MapEntry} {T K E : TypeId} (hm : Tryd.prog.underlying T = some (.map K E)) (hk : Tryd.prog.underlying K = some (.int .i64)) (k : Int) (i : Nat) (v : Value) (ok : Bool)
    (hb : w.heap[b]? = some (.map es n)) (hf : Instr.findNow (.int .i64) (.int .i64 k) es.toList 0 = some (some (i, v))) :
    (Instr.lookup T (.map (some b)) (.int .i64 k) ok).run Tryd.prog w = .ok (if ok then .tuple #[v, .bool true] else v) w := by
  have hc : (Instr.checkKey es.isEmpty 10000 K (.int .i64 k)).run Tryd.prog w = .ok () w := MapKept.run_checkKey (k := .int .i64 k) hk (by simp [MapKept.IsKey]) _ 9999
  cases ok <;> simp [Instr.lookup, run_underlying hm, MapKept.run_getObj_map hb, hc, MapKept.run_findKey hk hf, Result.andThen]
theorem run_miss {w : World} {b n : Nat} {es : Array MapEntry} {T K E : TypeId} (hm : Tryd.prog.underlying T = some (.map K E)) (hk : Tryd.prog.underlying K = some (.int .i64)) (k : Int) (z : Value) (ok : Bool)
    (hz : (zeroValue E).run Tryd.prog w = .ok z w) (hb : w.heap[b]? = some (.map es n)) (hf : Instr.findNow (.int .i64) (.int .i64 k) es.toList 0 = some none) :
    (Instr.lookup T (.map (some b)) (.int .i64 k) ok).run Tryd.prog w = .ok (if ok then .tuple #[z, .bool false] else z) w := by
  have hc : (Instr.checkKey es.isEmpty 10000 K (.int .i64 k)).run Tryd.prog w = .ok () w := MapKept.run_checkKey (k := .int .i64 k) hk (by simp [MapKept.IsKey]) _ 9999
  cases ok <;> simp [Instr.lookup, run_underlying hm, MapKept.run_getObj_map hb, hc, MapKept.run_findKey hk hf, hz, Result.andThen]

/-- An entry laid at the operation. -/
theorem wpList_insert14 {ops : Array Oper} {rest : List Oper} {o : Oper} {a : Act} {w : World} {Q : Exit → Act → World → Prop} (hg : o.guard = none) (t : TypeId) (m x v : Operand) (hop : o.op = Op.insert t m x v)
    (K E : TypeId) (ht : Tryd.prog.underlying t = some (.map K E)) (hk : Tryd.prog.underlying K = some (.int .i64)) (b : Nat) (hm : a.eval m = .map (some b)) (k : Int) (hx : a.eval x = .int .i64 k) (val : Value) (hv : a.eval v = val)
    (es : Array MapEntry) (n : Nat) (hb : w.heap[b]? = some (.map es n)) (hf : Instr.findNow (.int .i64) (.int .i64 k) es.toList 0 = some none)
    (hK : ∀ w', w' = setMap w b (.map (es.push ⟨.int .i64 k, val, n⟩) (n + 1)) → wpList Tryd.prog ops Q rest (a.put o.dst undef) w') : wpList Tryd.prog ops Q (o :: rest) a w := by
  refine wpList_plain hg fun K' hK' => ?_
  have hrun := run_insert ht hk k val hb hf
  unfold Oper.wp
  simp [execOp, hop, hm, hx, hv, hrun, Result.andThen]
  exact hK' _ _ (hK _ rfl)

/-- A struct of the map. -/
def mode14 (s k : Bool) (a b c : Value) : Value := .agg #[.bool s, .bool k, a, b, c]
def fn14 (n : FuncId) : Value := .func (.func n) #[] #[]
def ipip14 : Value := mode14 false false (fn14 19) (fn14 20) (fn14 22)
def gre14 : Value := mode14 true true (fn14 24) (fn14 27) (fn14 29)
def gue14 : Value := mode14 true false (fn14 31) (fn14 32) (fn14 34)
def none14 : Value := mode14 false false .nilFunc .nilFunc .nilFunc
def modes14 : Array MapEntry := #[⟨.int .i64 1, ipip14, 0⟩, ⟨.int .i64 2, gre14, 1⟩, ⟨.int .i64 3, gue14, 2⟩]
/-- The map's block. -/
structure Modes14 (w : World) (b : Nat) : Prop where
  at_ : w.heap[b]? = some (.map modes14 3)

set_option maxRecDepth 100000 in
set_option maxHeartbeats 1000000 in
theorem modes14_any (w : World) : Calls Tryd.prog 14 #[] w (fun e w' => e = .returned (.map (some w.heap.size)) ∧ Below w.heap.size w w' ∧ Modes14 w' w.heap.size) := by
  have hmm := @run_makeMap Tryd.prog
  have B0 := Lib.hid (show (w.alloc (.map #[] 0)).heap[w.heap.size]? = some (.map #[] 0) by show (w.heap.push _)[w.heap.size]? = _; simp)
  have L0 := Lib.hid (show Below w.heap.size w (w.alloc (.map #[] 0)) from (Below.refl _ _).alloc (Nat.le_refl _) _)
  go_enter Tryd.func14, Tryd.ntmps14
  go_wp2_with (first
    | (refine wpList_insert14 rfl 49 _ _ _ rfl 3 48 Tryd.underlying49 Tryd.underlying3 w.heap.size rfl 1 rfl ipip14 rfl _ _ B0.out rfl ?_; intro w1 hw1
       have B1 : Hid (w1.heap[w.heap.size]? = some (.map #[⟨.int .i64 1, ipip14, 0⟩] 1)) := Lib.hid (by rw [hw1]; exact setMap_at B0.out _)
       have L1 : Hid (Below w.heap.size w w1) := Lib.hid (by rw [hw1]; exact setMap_below L0.out (Nat.le_refl _) _)
       clear hw1 B0 L0)
    | (refine wpList_insert14 rfl 49 _ _ _ rfl 3 48 Tryd.underlying49 Tryd.underlying3 w.heap.size rfl 2 rfl gre14 rfl _ _ B1.out rfl ?_; intro w2 hw2
       have B2 : Hid (w2.heap[w.heap.size]? = some (.map #[⟨.int .i64 1, ipip14, 0⟩, ⟨.int .i64 2, gre14, 1⟩] 2)) := Lib.hid (by rw [hw2]; exact setMap_at B1.out _)
       have L2 : Hid (Below w.heap.size w w2) := Lib.hid (by rw [hw2]; exact setMap_below L1.out (Nat.le_refl _) _)
       clear hw2 B1 L1)
    | (refine wpList_insert14 rfl 49 _ _ _ rfl 3 48 Tryd.underlying49 Tryd.underlying3 w.heap.size rfl 3 rfl gue14 rfl _ _ B2.out rfl ?_; intro w3 hw3
       have B3 : Hid (w3.heap[w.heap.size]? = some (.map #[⟨.int .i64 1, ipip14, 0⟩, ⟨.int .i64 2, gre14, 1⟩, ⟨.int .i64 3, gue14, 2⟩] 3)) := Lib.hid (by rw [hw3]; exact setMap_at B2.out _)
       have L3 : Hid (Below w.heap.size w w3) := Lib.hid (by rw [hw3]; exact setMap_below L2.out (Nat.le_refl _) _)
       clear hw3 B2 L2))
  go_ret
  exact ⟨rfl, L3.out, ⟨B3.out⟩⟩

end Go.Proofs.YtmghdgkdnacinaaDoor
