/-
  What a wrapped packet's first four bits tell, plainly; the program's table of versions.
-/
import Derived.Test.YtmghdgkdnacinaaDoorGround
import Derived.LoopN
import Derived.BigQuiet
namespace Go.Proofs.YtmghdgkdnacinaaDoor
open Go.RowKit
set_option linter.unusedVariables false

/-- A text's first byte (0: it has none). -/
def first11 (s : ByteArray) : Nat := (s.data.toList.headD 0).toNat
/-- What it begins with. -/
inductive V11 | short | other | four | six
def v11 (s : ByteArray) : V11 := if s.size = 0 then .short else if first11 s / 16 = 4 then .four else if first11 s / 16 = 6 then .six else .other
def V11.bits : V11 → Int | .four => 4 | .six => 6 | _ => 0
def V11.proto : V11 → Int | .four => 4 | .six => 41 | _ => 0
def V11.kind : V11 → Int | .four => 2048 | .six => 34525 | _ => 0
def V11.err : V11 → Int | .short => 2 | .other => 3 | _ => 0
def V11.cells (v : V11) : Array Value := #[.int .i64 v.bits, .int .i64 v.proto, .int .i64 v.kind]

/-- The same as numbers of N. -/
def V11.kn : V11 → Nat | .four => 2048 | .six => 34525 | _ => 0
def V11.en : V11 → Nat | .short => 2 | .other => 3 | _ => 0
theorem V11.kind_kn (v : V11) : v.kind = (v.kn : Nat) := by cases v <;> rfl
theorem V11.err_en (v : V11) : v.err = (v.en : Nat) := by cases v <;> rfl
def V11.pn : V11 → Nat | .four => 4 | .six => 41 | _ => 0
theorem V11.proto_pn (v : V11) : v.proto = (v.pn : Nat) := by cases v <;> rfl

theorem first11_at (s : ByteArray) (h : 0 < s.size) : (s[0]'h).toNat = first11 s := by
  unfold first11
  obtain ⟨⟨l⟩⟩ := s
  cases l with
  | nil => exact absurd h (by simp [ByteArray.size])
  | cons a l => rfl
theorem first11_lt (s : ByteArray) : first11 s < 256 := by unfold first11; exact UInt8.toNat_lt _
theorem first11_cat (c : UInt8) (t : ByteArray) : first11 ((⟨#[c]⟩ : ByteArray) ++ t) = c.toNat := by
  unfold first11
  rw [ByteArray.data_append]
  simp
theorem v11_short {s : ByteArray} (h : s.size = 0) : v11 s = .short := by unfold v11; rw [if_pos h]
theorem v11_four {s : ByteArray} (h : ¬ s.size = 0) (k : first11 s / 16 = 4) : v11 s = .four := by unfold v11; rw [if_neg h, if_pos k]
theorem v11_six {s : ByteArray} (h : ¬ s.size = 0) (k : first11 s / 16 = 6) : v11 s = .six := by unfold v11; rw [if_neg h, if_neg (by omega), if_pos k]
theorem v11_other {s : ByteArray} (h : ¬ s.size = 0) (k4 : ¬ first11 s / 16 = 4) (k6 : ¬ first11 s / 16 = 6) : v11 s = .other := by unfold v11; rw [if_neg h, if_neg k4, if_neg k6]
/-- The first four bits alone tell. -/
theorem v11_like {s t : ByteArray} (hs : ¬ s.size = 0) (ht : ¬ t.size = 0) (h : first11 s / 16 = first11 t / 16) : v11 s = v11 t := by
  unfold v11
  rw [if_neg hs, if_neg ht, h]
theorem v11_ways (s : ByteArray) : (s.size = 0 ∧ v11 s = .short) ∨ (¬ s.size = 0 ∧ (v11 s = .four ∧ first11 s / 16 = 4 ∨ v11 s = .six ∧ first11 s / 16 = 6 ∨ v11 s = .other ∧ ¬ first11 s / 16 = 4 ∧ ¬ first11 s / 16 = 6)) := by
  unfold v11
  split
  · exact Or.inl ⟨by assumption, rfl⟩
  · refine Or.inr ⟨by assumption, ?_⟩
    split
    · exact Or.inl ⟨rfl, by assumption⟩
    · split
      · exact Or.inr (Or.inl ⟨rfl, by assumption⟩)
      · exact Or.inr (Or.inr ⟨rfl, by assumption, by assumption⟩)

/-- The program's table of versions. -/
def versions6 : Array Value := #[.int .i64 4, .int .i64 4, .int .i64 2048, .int .i64 6, .int .i64 41, .int .i64 34525]
structure Vers (w : World) : Prop where
  at0 : ∃ T fr, w.heap[0]? = some (.cells versions6 T fr)
theorem Vers.lt {w : World} (h : Vers w) : 0 < w.heap.size := by
  obtain ⟨T, fr, h⟩ := h.at0
  exact (Array.getElem?_eq_some_iff.1 h).1
theorem Vers.below {B : Nat} {w w' : World} (h : Vers w) (hb : Below B w w') (hB : 0 < B) : Vers w' := by
  obtain ⟨T, fr, h0⟩ := h.at0
  exact ⟨T, fr, (hb.block _ hB).trans h0⟩
theorem Vers.on {w w' : World} (h : Vers w) (hb : Below w.heap.size w w') : Vers w' := h.below hb h.lt
theorem Vers.alloc {w : World} (h : Vers w) (o : Obj) : Vers (w.alloc o) := h.on ((Below.refl _ _).alloc (Nat.le_refl _) o)
theorem Vers.drewN {w : World} (h : Vers w) (n : Nat) : Vers (w.drewN n) := h.on (below_drewN (Below.refl _ _) n)
theorem Vers.kb {S : Nat → Prop} {w w' : World} (h : Vers w) (k : Kb S w w') (hs : ¬ S 0) : Vers w' := by
  have hlt := h.lt
  obtain ⟨T, fr, h0⟩ := h.at0
  exact ⟨T, fr, (k.block _ hlt hs).trans h0⟩
theorem idxV_0 (u : World) : (Instr.index 128 (.agg versions6) (.int .i64 0)).run Tryd.prog u = .ok (.agg #[.int .i64 4, .int .i64 4, .int .i64 2048]) u := by kernel_rfl
theorem idxV_1 (u : World) : (Instr.index 128 (.agg versions6) (.int .i64 1)).run Tryd.prog u = .ok (.agg #[.int .i64 6, .int .i64 41, .int .i64 34525]) u := by kernel_rfl

end Go.Proofs.YtmghdgkdnacinaaDoor

/-
  find: the row of the table that a text's first four bits tell; isKnown.
-/
namespace Go.Proofs.YtmghdgkdnacinaaDoor
open Go.RowKit
set_option linter.unusedVariables false

/-- The answer's block, and what was there. -/
structure F11 (w u : World) (xs : Array Value) : Prop where
  z : Blk u w.heap.size xs 125
  bel : Below w.heap.size w u
theorem F11.new (w : World) (xs : Array Value) : F11 w (w.alloc (.cells xs 125)) xs := ⟨Blk.new _ _ _, (Below.refl _ _).alloc (Nat.le_refl _) _⟩
theorem F11.alloc {w u : World} {xs : Array Value} (h : F11 w u xs) (o : Obj) : F11 w (u.alloc o) xs := ⟨h.z.alloc o, h.bel.alloc h.bel.size o⟩
theorem F11.drewN {w u : World} {xs : Array Value} (h : F11 w u xs) (n : Nat) : F11 w (u.drewN n) xs := ⟨h.z.drewN n, below_drewN h.bel n⟩
theorem F11.put {w u : World} {xs : Array Value} (h : F11 w u xs) (k : Nat) (x : Value) (ys : Array Value) (e : xs.setIfInBounds k x = ys) : F11 w (u.setCell ⟨w.heap.size, k, none⟩ x) ys := by
  subst e
  exact ⟨h.z.set k x, h.bel.setCell (p := ⟨w.heap.size, k, none⟩) (Nat.le_refl _) _⟩
theorem F11.put3 {w u : World} {a b c : Value} (h : F11 w u #[a, b, c]) (x y z : Value) : F11 w (((u.setCell ⟨w.heap.size, 0, none⟩ x).setCell ⟨w.heap.size, 1, none⟩ y).setCell ⟨w.heap.size, 2, none⟩ z) #[x, y, z] :=
  ((h.put 0 x #[x, b, c] rfl).put 1 y #[x, y, c] rfl).put 2 z #[x, y, z] rfl
theorem F11.cells {w u : World} {a b c : Value} (h : F11 w u #[a, b, c]) : u.cell? ⟨w.heap.size, 0, none⟩ = some a ∧ u.cell? ⟨w.heap.size, 1, none⟩ = some b ∧ u.cell? ⟨w.heap.size, 2, none⟩ = some c :=
  ⟨by simpa using h.z.cell 0, by simpa using h.z.cell 1, by simpa using h.z.cell 2⟩

set_option maxRecDepth 100000 in
set_option maxHeartbeats 1000000 in
theorem find11_any (s : ByteArray) (w : World) (hg : Vers w) :
    Calls Tryd.prog 71 #[.string s] w (Tells (.tuple #[.agg (v11 s).cells, .int .i64 (v11 s).err]) w) := by
  have hi : (Tryd.prog.info? 128).map (·.size) = some versions6.size := by kernel_rfl
  obtain ⟨T0, fr0, hg0⟩ := (hg.alloc (.cells #[.int .i64 0, .int .i64 0, .int .i64 0] 125)).at0
  have i0 := idxV_0
  have i1 := idxV_1
  unfold Tells
  rcases v11_ways s with ⟨h0, hv⟩ | ⟨h0, hv⟩
  · rw [hv]
    have te : s.toList.isEmpty = true := by
      have : s.data.toList.length = 0 := by simpa using h0
      rw [ByteArray.toList_eq, List.length_eq_zero_iff.1 this]
      rfl
    clear hv
    go_enter Tryd.func71, Tryd.ntmps71
    go_wp2_with fail
    have Z := F11.new w #[.int .i64 0, .int .i64 0, .int .i64 0]
    have ⟨r0, r1, r2⟩ := Z.cells
    refine ⟨rfl, .tuple #[.agg V11.short.cells, .int .i64 V11.short.err], ?_, rfl, Z.bel⟩
    simp [results, Tryd.results71, go_sem, r0, r1, r2, V11.cells, V11.bits, V11.proto, V11.kind, V11.err]
  have te : s.toList.isEmpty = false := by
    rw [ByteArray.toList_eq]
    cases hl : s.data.toList with
    | nil => exact absurd (by simpa using congrArg List.length hl) h0
    | cons a l => rfl
  have hz : 0 < s.size := by omega
  have b0 : (0 : Int) < (s.size : Int) := by omega
  have hb := first11_at s hz
  have hl := first11_lt s
  rcases hv with ⟨hv, hk⟩ | ⟨hv, hk⟩ | ⟨hv, h4, h6⟩
  · rw [hv]
    generalize first11 s = n at *
    have e1 : (n : Int) / 16 = 4 := by omega
    clear hv hk h0
    go_enter Tryd.func71, Tryd.ntmps71
    go_wp2_with (refine wpList_load_row rfl 128 (.global 0) rfl 0 rfl T0 versions6 fr0 _ hg0 Tryd.underlying128 rfl hi ?_)
    clear hg0 hi hg
    refine wp_loop_rounds 3 ?_
    rw [rounds_succ]
    go_wp2_with fail
    go_quiet (fail)
    have Z := Lib.hid (((F11.new w #[.int .i64 0, .int .i64 0, .int .i64 0]).alloc (.cells #[.int .i64 4, .int .i64 4, .int .i64 2048] 125)).drewN nq)
    go_wp2_with fail
    have Z9 := Z.out.put3 (.int .i64 4) (.int .i64 4) (.int .i64 2048)
    have ⟨r0, r1, r2⟩ := Z9.cells
    refine ⟨rfl, .tuple #[.agg V11.four.cells, .int .i64 V11.four.err], ?_, rfl, Z9.bel⟩
    simp [results, Tryd.results71, go_sem, r0, r1, r2, V11.cells, V11.bits, V11.proto, V11.kind, V11.err]
  · rw [hv]
    generalize first11 s = n at *
    have e1 : (n : Int) / 16 = 6 := by omega
    clear hv hk h0
    go_enter Tryd.func71, Tryd.ntmps71
    go_wp2_with (refine wpList_load_row rfl 128 (.global 0) rfl 0 rfl T0 versions6 fr0 _ hg0 Tryd.underlying128 rfl hi ?_)
    clear hg0 hi hg
    refine wp_loop_rounds 3 ?_
    rw [rounds_succ]
    go_wp2_with fail
    go_quiet (fail)
    have ZA := Lib.hid (((F11.new w #[.int .i64 0, .int .i64 0, .int .i64 0]).alloc (.cells #[.int .i64 4, .int .i64 4, .int .i64 2048] 125)).drewN nq)
    have hzs : ((w.alloc (.cells #[.int .i64 0, .int .i64 0, .int .i64 0] 125)).alloc (.cells #[.int .i64 4, .int .i64 4, .int .i64 2048] 125)).heap.size = w.heap.size + 2 := by simp
    go_wp2_with fail
    rw [rounds_succ]
    go_wp2_with fail
    go_quiet (fail)
    have Z := Lib.hid ((ZA.out.alloc (.cells #[.int .i64 6, .int .i64 41, .int .i64 34525] 125)).drewN nq)
    go_wp2_with fail
    have Z9 := Z.out.put3 (.int .i64 6) (.int .i64 41) (.int .i64 34525)
    have ⟨r0, r1, r2⟩ := Z9.cells
    refine ⟨rfl, .tuple #[.agg V11.six.cells, .int .i64 V11.six.err], ?_, rfl, Z9.bel⟩
    simp [results, Tryd.results71, go_sem, r0, r1, r2, V11.cells, V11.bits, V11.proto, V11.kind, V11.err]
  · rw [hv]
    generalize first11 s = n at *
    obtain ⟨m, e1, hm⟩ : ∃ m : Nat, (n : Int) / 16 = (m : Int) ∧ m < 16 ∧ ¬ m = 4 ∧ ¬ m = 6 := ⟨n / 16, by omega, by omega, h4, h6⟩
    have t1 : ((4 : Int) == (m : Int)) = false := by simp; omega
    have t2 : ((6 : Int) == (m : Int)) = false := by simp; omega
    have hw1 : IntKind.u8.wrap (m : Int) = (m : Int) := by rw [IntKind.wrap_u8]; omega
    have hw2 : IntKind.i64.wrap (m : Int) = (m : Int) := by rw [IntKind.wrap_i64]; omega
    clear hv h4 h6 h0 hm
    go_enter Tryd.func71, Tryd.ntmps71
    go_wp2_with (refine wpList_load_row rfl 128 (.global 0) rfl 0 rfl T0 versions6 fr0 _ hg0 Tryd.underlying128 rfl hi ?_)
    clear hg0 hi hg
    refine wp_loop_rounds 3 ?_
    rw [rounds_succ]
    go_wp2_with fail
    go_quiet (fail)
    have ZA := Lib.hid (((F11.new w #[.int .i64 0, .int .i64 0, .int .i64 0]).alloc (.cells #[.int .i64 4, .int .i64 4, .int .i64 2048] 125)).drewN nq)
    have hzs : ((w.alloc (.cells #[.int .i64 0, .int .i64 0, .int .i64 0] 125)).alloc (.cells #[.int .i64 4, .int .i64 4, .int .i64 2048] 125)).heap.size = w.heap.size + 2 := by simp
    go_wp2_with fail
    rw [rounds_succ]
    go_wp2_with fail
    go_quiet (fail)
    have Z := Lib.hid ((ZA.out.alloc (.cells #[.int .i64 6, .int .i64 41, .int .i64 34525] 125)).drewN nq)
    go_wp2_with fail
    rw [rounds_succ]
    go_wp2_with fail
    trace_state
    have Z9 := Z.out.put3 (.int .i64 0) (.int .i64 0) (.int .i64 0)
    have ⟨r0, r1, r2⟩ := Z9.cells
    refine ⟨rfl, .tuple #[.agg V11.other.cells, .int .i64 V11.other.err], ?_, rfl, Z9.bel⟩
    simp [results, Tryd.results71, go_sem, r0, r1, r2, V11.cells, V11.bits, V11.proto, V11.kind, V11.err]

set_option maxRecDepth 100000 in
set_option maxHeartbeats 1000000 in
theorem known11_any (proto : Int) (w : World) (hg : Vers w) :
    Calls Tryd.prog 48 #[.int .i64 proto] w (Tells (.bool (decide (proto = 4) || decide (proto = 41))) w) := by
  have hi : (Tryd.prog.info? 128).map (·.size) = some versions6.size := by kernel_rfl
  obtain ⟨T0, fr0, hg0⟩ := hg.at0
  have i0 := idxV_0
  have i1 := idxV_1
  have Z1 := Lib.hid ((Below.refl w.heap.size w).alloc (Nat.le_refl _) (.cells #[.int .i64 4, .int .i64 4, .int .i64 2048] 125))
  have Z2 := Lib.hid (Z1.out.alloc (by simp) (.cells #[.int .i64 6, .int .i64 41, .int .i64 34525] 125))
  unfold Tells
  have ways : (((4 : Int) == proto) = true ∧ (decide (proto = 4) || decide (proto = 41)) = true) ∨ (((4 : Int) == proto) = false ∧ ((41 : Int) == proto) = true ∧ (decide (proto = 4) || decide (proto = 41)) = true) ∨ (((4 : Int) == proto) = false ∧ ((41 : Int) == proto) = false ∧ (decide (proto = 4) || decide (proto = 41)) = false) := by
    simp only [Bool.or_eq_true, Bool.or_eq_false_iff, decide_eq_true_eq, decide_eq_false_iff_not, beq_iff_eq, beq_eq_false_iff_ne]
    omega
  generalize (decide (proto = 4) || decide (proto = 41)) = b at *
  rcases ways with ⟨t1, rfl⟩ | ⟨t1, t2, rfl⟩ | ⟨t1, t2, rfl⟩
  all_goals
    go_enter Tryd.func48, Tryd.ntmps48
    go_wp2_with (refine wpList_load_row rfl 128 (.global 0) rfl 0 rfl T0 versions6 fr0 _ hg0 Tryd.underlying128 rfl hi ?_)
    clear hg0 hi hg
    refine wp_loop_rounds 3 ?_
    rw [rounds_succ]
    go_wp2_with fail
  · go_ret
    exact ⟨rfl, Z1.out⟩
  · rw [rounds_succ]
    go_wp2_with fail
    go_ret
    exact ⟨rfl, Z2.out⟩
  · rw [rounds_succ]
    go_wp2_with fail
    rw [rounds_succ]
    go_wp2_with fail
    go_ret
    exact ⟨rfl, Z2.out⟩

end Go.Proofs.YtmghdgkdnacinaaDoor

/-
  Proto, Kind, Put, Get; the document's; the laws' 'awake'.
-/
namespace Go.Proofs.YtmghdgkdnacinaaDoor
open Go.RowKit
set_option linter.unusedVariables false

/-- What Get answers. -/
def get11E (proto : Int) (s : ByteArray) : Int := if proto ≠ 4 ∧ proto ≠ 41 then 6 else if (v11 s).err ≠ 0 then (v11 s).err else if (v11 s).proto ≠ proto then 3 else 0
def get11S (proto : Int) (s : ByteArray) : ByteArray := if get11E proto s = 0 then s else ⟨#[]⟩
/-- What Put answers beside the protocol and the error. -/
def put11S (s : ByteArray) : ByteArray := if (v11 s).err = 0 then s else ⟨#[]⟩

theorem V11.ne (v : V11) : ((v.err : Int) != 0) = true ∧ v.err ≠ 0 ∧ v.proto = 0 ∧ v.kind = 0 ∨ ((v.err : Int) != 0) = false ∧ v.err = 0 := by
  cases v <;> simp [V11.err, V11.proto, V11.kind]

set_option maxRecDepth 100000 in
set_option maxHeartbeats 1000000 in
theorem proto11_any (s : ByteArray) (w : World) (hg : Vers w) :
    Calls Tryd.prog 47 #[.string s] w (Tells (.tuple #[.int .i64 (v11 s).proto, .int .i64 (v11 s).err]) w) := by
  have HF := Lib.hid (find11_any s w hg)
  unfold Tells at HF ⊢
  unfold V11.cells at HF
  generalize v11 s = v at *
  go_enter Tryd.func47, Tryd.ntmps47
  go_wp2_with fail
  refine HF.out.mono ?_
  rintro e w1 ⟨rfl, hb⟩
  go_wp2_with fail
  exact ⟨rfl, _, results_tmp2 rfl _ _ _, rfl, hb.alloc hb.size _⟩

set_option maxRecDepth 100000 in
set_option maxHeartbeats 1000000 in
theorem kind11_any (s : ByteArray) (w : World) (hg : Vers w) :
    Calls Tryd.prog 50 #[.string s] w (Tells (.tuple #[.int .i64 (v11 s).kind, .int .i64 (v11 s).err]) w) := by
  have HF := Lib.hid (find11_any s w hg)
  unfold Tells at HF ⊢
  unfold V11.cells at HF
  generalize v11 s = v at *
  go_enter Tryd.func50, Tryd.ntmps50
  go_wp2_with fail
  refine HF.out.mono ?_
  rintro e w1 ⟨rfl, hb⟩
  go_wp2_with fail
  exact ⟨rfl, _, results_tmp2 rfl _ _ _, rfl, hb.alloc hb.size _⟩

set_option maxRecDepth 100000 in
set_option maxHeartbeats 1000000 in
theorem put11_any (s : ByteArray) (w : World) (hg : Vers w) :
    Calls Tryd.prog 21 #[.string s] w (Tells (.tuple #[.int .i64 (v11 s).proto, .string (put11S s), .int .i64 (v11 s).err]) w) := by
  have HF := Lib.hid (proto11_any s w hg)
  have HP : Hid (put11S s = if (v11 s).err = 0 then s else ⟨#[]⟩) := rfl
  unfold Tells at HF ⊢
  generalize v11 s = v at *
  generalize put11S s = P at *
  rcases v.ne with ⟨t1, e1, e2, -⟩ | ⟨t1, e1⟩
  · rw [e2] at HF ⊢
    have hp := HP.out
    rw [if_neg e1] at hp
    subst hp
    clear HP e1
    generalize v.err = E at *
    go_enter Tryd.func21, Tryd.ntmps21
    go_wp2_with fail
    refine HF.out.mono ?_
    rintro e w1 ⟨rfl, hb⟩
    go_wp2_with fail
    exact ⟨rfl, _, results_tmp3 rfl _ _ _, rfl, hb⟩
  · have hp := HP.out
    rw [if_pos e1] at hp
    subst hp
    rw [e1] at HF ⊢
    clear HP t1 e1
    generalize v.proto = p at *
    go_enter Tryd.func21, Tryd.ntmps21
    go_wp2_with fail
    refine HF.out.mono ?_
    rintro e w1 ⟨rfl, hb⟩
    go_wp2_with fail
    exact ⟨rfl, _, results_tmp3 rfl _ _ _, rfl, hb⟩

set_option maxRecDepth 100000 in
set_option maxHeartbeats 1000000 in
theorem get11_any (proto : Int) (s : ByteArray) (w : World) (hg : Vers w) :
    Calls Tryd.prog 23 #[.int .i64 proto, .string s] w (Tells (.tuple #[.string (get11S proto s), .int .i64 (get11E proto s)]) w) := by
  have HK := Lib.hid (known11_any proto w hg)
  have HF := Lib.hid (fun W h => proto11_any s W h)
  have HS : Hid (get11S proto s = if get11E proto s = 0 then s else ⟨#[]⟩) := rfl
  have HE : Hid (get11E proto s = if proto ≠ 4 ∧ proto ≠ 41 then 6 else if (v11 s).err ≠ 0 then (v11 s).err else if (v11 s).proto ≠ proto then 3 else 0) := rfl
  unfold Tells at HK HF ⊢
  generalize v11 s = v at *
  generalize get11S proto s = S at *
  generalize get11E proto s = E at *
  by_cases h1 : proto ≠ 4 ∧ proto ≠ 41
  · have hb1 : (decide (proto = 4) || decide (proto = 41)) = false := by simp [h1]
    have he := HE.out
    rw [if_pos h1] at he
    subst he
    have hs := HS.out
    rw [if_neg (by decide)] at hs
    subst hs
    rw [hb1] at HK
    clear hb1 h1 HE HS HF
    go_enter Tryd.func23, Tryd.ntmps23
    go_wp2_with fail
    refine HK.out.mono ?_
    rintro e w1 ⟨rfl, hb⟩
    go_wp2_with fail
    exact ⟨rfl, _, results_tmp2 rfl _ _ _, rfl, hb⟩
  have hb1 : (decide (proto = 4) || decide (proto = 41)) = true := by
    simp only [Bool.or_eq_true, decide_eq_true_eq]
    omega
  have he := HE.out
  rw [if_neg h1] at he
  rw [hb1] at HK
  clear HE hb1 h1
  have hs := HS.out
  clear HS
  rcases v.ne with ⟨t1, e1, e2, -⟩ | ⟨t1, e1⟩
  · rw [if_pos e1] at he
    subst he
    rw [if_neg e1] at hs
    subst hs
    clear e1 e2
    generalize v.proto = p at *
    generalize v.err = E at *
    go_enter Tryd.func23, Tryd.ntmps23
    go_wp2_with fail
    refine HK.out.mono ?_
    rintro e w1 ⟨rfl, hb⟩
    go_wp2_with fail
    refine (HF.out w1 (hg.on hb)).mono ?_
    rintro e w2 ⟨rfl, hb2⟩
    have B2 := hb.trans (hb2.mono hb.size)
    go_wp2_with fail
    exact ⟨rfl, _, results_tmp2 rfl _ _ _, rfl, B2⟩
  rw [if_neg (by simpa using e1)] at he
  rw [e1] at HF
  clear t1 e1
  generalize v.proto = p at *
  by_cases h2 : p ≠ proto
  · rw [if_pos h2] at he
    subst he
    rw [if_neg (by decide)] at hs
    subst hs
    have t2 : (p != proto) = true := by simp [h2]
    clear h2
    go_enter Tryd.func23, Tryd.ntmps23
    go_wp2_with fail
    refine HK.out.mono ?_
    rintro e w1 ⟨rfl, hb⟩
    go_wp2_with fail
    refine (HF.out w1 (hg.on hb)).mono ?_
    rintro e w2 ⟨rfl, hb2⟩
    have B2 := hb.trans (hb2.mono hb.size)
    go_wp2_with fail
    exact ⟨rfl, _, results_tmp2 rfl _ _ _, rfl, B2⟩
  · rw [if_neg h2] at he
    subst he
    rw [if_pos rfl] at hs
    subst hs
    have t2 : (p != proto) = false := by simpa using h2
    clear h2
    go_enter Tryd.func23, Tryd.ntmps23
    go_wp2_with fail
    refine HK.out.mono ?_
    rintro e w1 ⟨rfl, hb⟩
    go_wp2_with fail
    refine (HF.out w1 (hg.on hb)).mono ?_
    rintro e w2 ⟨rfl, hb2⟩
    have B2 := hb.trans (hb2.mono hb.size)
    go_wp2_with fail
    exact ⟨rfl, _, results_tmp2 rfl _ _ _, rfl, B2⟩

theorem ex45 : v11 ⟨#[69]⟩ = .four := v11_four (by decide) (by decide +kernel)
theorem ex60 : v11 ⟨#[96]⟩ = .six := v11_six (by decide) (by decide +kernel)

end Go.Proofs.YtmghdgkdnacinaaDoor
