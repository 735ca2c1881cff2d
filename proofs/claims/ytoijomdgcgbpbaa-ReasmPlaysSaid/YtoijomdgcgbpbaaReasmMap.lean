/-
  A map whose keys are structs of two texts and two numbers, known whole: what is found in it, laid into it, taken out of it, and how a loop runs over it.
-/
import Derived.Test.YtoijomdgcgbpbaaReasmSpec
import Derived.MapKept
import Derived.WideKeyRuns
import Derived.Maps.RangeRun
import Derived.Maps.RangeWalk
import Derived.Laws.StructEq
namespace Go.Proofs.Ytoijomdgcgbpbaa
open Go.RowKit
set_option linter.unusedVariables false

def K16.val (k : K16) : Value := .agg #[.string k.src, .string k.dst, .int .i64 k.proto, .int .i64 k.id]

theorem bytes_dec (a b : ByteArray) : (a.toList == b.toList) = decide (a = b) := by
  rw [← beq_toListBytes, Bool.eq_iff_iff, MapKept.bytes_beq, decide_eq_true_eq]
theorem K16.dec (a b : K16) : decide (a = b) = (decide (a.src = b.src) && decide (a.dst = b.dst) && decide (a.proto = b.proto) && decide (a.id = b.id)) := by
  obtain ⟨a1, a2, a3, a4⟩ := a
  obtain ⟨b1, b2, b3, b4⟩ := b
  rw [Bool.eq_iff_iff]
  simp only [K16.mk.injEq, decide_eq_true_eq, Bool.and_eq_true, and_assoc]

theorem run_equal_key (a b : K16) (w : World) : (Op.equal 68 a.val b.val).run Try.prog w = .ok (decide (a = b)) w := by
  have hd := K16.dec a b
  unfold Op.equal Op.maxDepth K16.val
  have t1 := bytes_dec a.src b.src
  have t2 := bytes_dec a.dst b.dst
  have t3 : (a.proto == b.proto) = decide (a.proto = b.proto) := by rw [Bool.eq_iff_iff]; simp
  have t4 : (a.id == b.id) = decide (a.id = b.id) := by rw [Bool.eq_iff_iff]; simp
  rw [hd]
  rw [run_equalIn_struct w 9999 68 _ _ (by kernel_rfl) (by kernel_rfl)]
  by_cases e1 : a.src = b.src <;> by_cases e2 : a.dst = b.dst <;> by_cases e3 : a.proto = b.proto <;> by_cases e4 : a.id = b.id <;> simp [go_sem, t1, t2, t3, t4, e1, e2, e3, e4]
theorem K16.val_inj {a b : K16} (h : a.val = b.val) : a = b := by
  obtain ⟨a1, a2, a3, a4⟩ := a
  obtain ⟨b1, b2, b3, b4⟩ := b
  simpa [K16.val] using h
theorem run_check_key (em : Bool) (a : K16) (w : World) : (Instr.checkKey em 10000 68 a.val).run Try.prog w = .ok () w := by
  have h1 : ∀ s, (Instr.checkKey em 9999 9 (.string s)).run Try.prog w = .ok () w := fun s => MapKept.run_checkKey (k := .string s) Try.underlying9 (by simp [MapKept.IsKey]) em 9998
  have h2 : ∀ n, (Instr.checkKey em 9999 3 (.int .i64 n)).run Try.prog w = .ok () w := fun n => MapKept.run_checkKey (k := .int .i64 n) Try.underlying3 (by simp [MapKept.IsKey]) em 9998
  unfold K16.val
  rw [show (10000 : Nat) = 9999 + 1 from rfl]
  generalize 9999 = d at *
  simp [Instr.checkKey, h1, h2, go_sem]
/-- An entry of the map: a key, a pointer. -/
structure Me16 where
  k : K16
  eb : Nat
  born : Nat
def Me16.entry (m : Me16) : MapEntry := ⟨m.k.val, .pointer (some ⟨m.eb, 0, none⟩), m.born⟩
theorem run_ask_key (k : K16) (w : World) : ∀ (ms : List Me16) (i : Nat), (Instr.findAsking 68 k.val (ms.map Me16.entry) i).run Try.prog w =
    .ok ((ms[ms.findIdx fun m => decide (m.k = k)]?).map fun m => (i + ms.findIdx (fun m => decide (m.k = k)), Value.pointer (some ⟨m.eb, 0, none⟩))) w
  | [], i => by simp [Instr.findAsking, go_sem]
  | m :: r, i => by
    have h := run_equal_key k m.k w
    have ih := run_ask_key k w r (i + 1)
    by_cases e : m.k = k
    · have e' : decide (k = m.k) = true := by simp [e]
      rw [e', e] at h
      simp [Instr.findAsking, Me16.entry, h, Result.andThen, List.findIdx_cons, e, go_sem]
    · have e' : decide (k = m.k) = false := by simp; exact fun x => e x.symm
      rw [e'] at h
      rw [List.map_cons]
      have e2 : (decide (m.k = k)) = false := by simpa using e
      simp only [Instr.findAsking, Me16.entry, Sem.run_bind, h, Result.andThen, List.findIdx_cons, e2, cond_false, List.getElem?_cons_succ]
      simp only [Bool.false_eq_true, if_false]
      rw [ih]
      simp only [Nat.add_assoc, Nat.add_comm 1]
theorem run_find_key (k : K16) (w : World) (ms : List Me16) : (Instr.findKey 68 k.val (ms.map Me16.entry)).run Try.prog w =
    .ok ((ms[ms.findIdx fun m => decide (m.k = k)]?).map fun m => (ms.findIdx (fun m => decide (m.k = k)), Value.pointer (some ⟨m.eb, 0, none⟩))) w := by
  rw [run_findKey_eq w (by kernel_rfl) k.val _, run_ask_key k w ms 0]
  simp


/-- The place of a key's entry; as many as there are: there is none. -/
def seek16 (ms : List Me16) (k : K16) : Nat := ms.findIdx fun m => decide (m.k = k)
/-- The map's block. -/
def Map16 (w : World) (b : Nat) (ms : List Me16) (clock : Nat) : Prop := w.heap[b]? = some (.map (ms.map Me16.entry).toArray clock)

theorem run_look_key {w : World} {b clock : Nat} {ms : List Me16} (hb : Map16 w b ms clock) (k : K16) :
    (Instr.lookup 63 (.map (some b)) k.val true).run Try.prog w = .ok (match ms[seek16 ms k]? with
      | some m => .tuple #[.pointer (some ⟨m.eb, 0, none⟩), .bool true]
      | none => .tuple #[.pointer none, .bool false]) w := by
  have hc := fun em => run_check_key em k w
  have hf := run_find_key k w ms
  have hm := run_underlying (P := Try.prog) Try.underlying63
  have hg := MapKept.run_getObj_map (P := Try.prog) hb
  unfold seek16
  cases hx : ms[ms.findIdx fun m => decide (m.k = k)]? with
  | none =>
    rw [hx] at hf
    simp [Instr.lookup, hm, hg, hc, hf, Result.andThen, go_sem]
  | some m =>
    rw [hx] at hf
    simp [Instr.lookup, hm, hg, hc, hf, Result.andThen, go_sem]

/-- A block of a map, written anew. -/
def setMap (w : World) (b : Nat) (o : Obj) : World := { w with heap := w.heap.setIfInBounds b o }
theorem setMap_at {w : World} {b : Nat} {o0 : Obj} (h : w.heap[b]? = some o0) (o : Obj) : (setMap w b o).heap[b]? = some o := (MapKept.heap_set h).1
theorem setMap_kb (w : World) (b : Nat) (o : Obj) : Kb (· = b) w (setMap w b o) :=
  ⟨rfl, rfl, rfl, by show _ ≤ (w.heap.setIfInBounds b o).size; rw [Array.size_setIfInBounds]; exact Nat.le_refl _, fun k hk hs => by
    show (w.heap.setIfInBounds b o)[k]? = _
    rw [Array.getElem?_setIfInBounds_ne (fun e => hs e.symm)]⟩
theorem setMap_size (w : World) (b : Nat) (o : Obj) : (setMap w b o).heap.size = w.heap.size := Array.size_setIfInBounds

theorem run_lay_key {w : World} {b clock : Nat} {ms : List Me16} (hb : Map16 w b ms clock) (k : K16) (eb : Nat) (hn : seek16 ms k = ms.length) :
    (Instr.mapUpdate 63 (.map (some b)) k.val (.pointer (some ⟨eb, 0, none⟩))).run Try.prog w =
      .ok () (setMap w b (.map ((ms ++ [(⟨k, eb, clock⟩ : Me16)]).map Me16.entry).toArray (clock + 1))) := by
  have hc := fun em => run_check_key em k w
  have hf := run_find_key k w ms
  have hm := run_underlying (P := Try.prog) Try.underlying63
  have hg := MapKept.run_getObj_map (P := Try.prog) hb
  have hs := fun o => MapKept.run_setObj_map (P := Try.prog) o hb
  unfold seek16 at hn
  have hx : ms[ms.findIdx fun m => decide (m.k = k)]? = none := by rw [hn]; simp
  rw [hx] at hf
  simp [Instr.mapUpdate, hm, hg, hc, hf, hs, Result.andThen, go_sem, setMap, Me16.entry]

theorem erase_map {α β : Type} (f : α → β) : ∀ (l : List α) (i : Nat), (l.map f).eraseIdx i = (l.eraseIdx i).map f
  | [], _ => rfl
  | x :: l, 0 => rfl
  | x :: l, i + 1 => by simp [erase_map f l i]
theorem run_drop_key {w : World} {b clock : Nat} {ms : List Me16} (hb : Map16 w b ms clock) (k : K16) (ty : TypeId) (hn : seek16 ms k < ms.length) :
    (Builtin.delete_ #[63, 68] ty #[.map (some b), k.val]).run Try.prog w =
      .ok (.tuple #[]) (setMap w b (.map ((ms.eraseIdx (seek16 ms k)).map Me16.entry).toArray clock)) := by
  have hc := fun em => run_check_key em k w
  have hf := run_find_key k w ms
  have hm := run_underlying (P := Try.prog) Try.underlying63
  have hg := MapKept.run_getObj_map (P := Try.prog) hb
  have hs := fun o => MapKept.run_setObj_map (P := Try.prog) o hb
  unfold seek16 at *
  generalize ms.findIdx (fun m => decide (m.k = k)) = i at *
  rw [List.getElem?_eq_getElem hn] at hf
  have e := erase_map Me16.entry ms i
  simp [Builtin.delete_, hm, hg, hc, hf, hs, Result.andThen, go_sem, setMap, e]

end Go.Proofs.Ytoijomdgcgbpbaa
