/-
  What a wrapped packet's first four bits tell, plainly; the program's table of versions.
-/
import Derived.Test.YtbfcccfgphelhaaDoorGround
namespace Go.Proofs.YtbfcccfgphelhaaDoor
open Go.RowKit
set_option linter.unusedVariables false

/-- A text's first byte (0: it has none). -/
def first11 (s : ByteArray) : Nat := (s.data.toList.headD 0).toNat
/-- What it begins with. -/
inductive V11 | short | other | four | six
def v11 (s : ByteArray) : V11 := if s.size = 0 then .short else if first11 s / 16 = 4 then .four else if first11 s / 16 = 6 then .six else .other
def V11.bits : V11 → Int | .four => 4 | .six => 6 | _ => 0
def V11.proto : V11 → Int | .four => 4 | .six => 41 | _ => 0
def V11.kind : V11 → Int | .four => 2048 | .six => 34525 | _ => 0
def V11.err : V11 → Int | .short => 2 | .other => 3 | _ => 0
def V11.cells (v : V11) : Array Value := #[.int .i64 v.bits, .int .i64 v.proto, .int .i64 v.kind]

/-- The same as numbers of N. -/
def V11.kn : V11 → Nat | .four => 2048 | .six => 34525 | _ => 0
def V11.en : V11 → Nat | .short => 2 | .other => 3 | _ => 0
theorem V11.kind_kn (v : V11) : v.kind = (v.kn : Nat) := by cases v <;> rfl
theorem V11.err_en (v : V11) : v.err = (v.en : Nat) := by cases v <;> rfl
def V11.pn : V11 → Nat | .four => 4 | .six => 41 | _ => 0
theorem V11.proto_pn (v : V11) : v.proto = (v.pn : Nat) := by cases v <;> rfl

theorem first11_at (s : ByteArray) (h : 0 < s.size) : (s[0]'h).toNat = first11 s := by
  unfold first11
  obtain ⟨⟨l⟩⟩ := s
  cases l with
  | nil => exact absurd h (by simp [ByteArray.size])
  | cons a l => rfl
theorem first11_lt (s : ByteArray) : first11 s < 256 := by unfold first11; exact UInt8.toNat_lt _
theorem first11_cat (c : UInt8) (t : ByteArray) : first11 ((⟨#[c]⟩ : ByteArray) ++ t) = c.toNat := by
  unfold first11
  rw [ByteArray.data_append]
  simp
theorem v11_short {s : ByteArray} (h : s.size = 0) : v11 s = .short := by unfold v11; rw [if_pos h]
theorem v11_four {s : ByteArray} (h : ¬ s.size = 0) (k : first11 s / 16 = 4) : v11 s = .four := by unfold v11; rw [if_neg h, if_pos k]
theorem v11_six {s : ByteArray} (h : ¬ s.size = 0) (k : first11 s / 16 = 6) : v11 s = .six := by unfold v11; rw [if_neg h, if_neg (by omega), if_pos k]
theorem v11_other {s : ByteArray} (h : ¬ s.size = 0) (k4 : ¬ first11 s / 16 = 4) (k6 : ¬ first11 s / 16 = 6) : v11 s = .other := by unfold v11; rw [if_neg h, if_neg k4, if_neg k6]
/-- The first four bits alone tell. -/
theorem v11_like {s t : ByteArray} (hs : ¬ s.size = 0) (ht : ¬ t.size = 0) (h : first11 s / 16 = first11 t / 16) : v11 s = v11 t := by
  unfold v11
  rw [if_neg hs, if_neg ht, h]
theorem v11_ways (s : ByteArray) : (s.size = 0 ∧ v11 s = .short) ∨ (¬ s.size = 0 ∧ (v11 s = .four ∧ first11 s / 16 = 4 ∨ v11 s = .six ∧ first11 s / 16 = 6 ∨ v11 s = .other ∧ ¬ first11 s / 16 = 4 ∧ ¬ first11 s / 16 = 6)) := by
  unfold v11
  split
  · exact Or.inl ⟨by assumption, rfl⟩
  · refine Or.inr ⟨by assumption, ?_⟩
    split
    · exact Or.inl ⟨rfl, by assumption⟩
    · split
      · exact Or.inr (Or.inl ⟨rfl, by assumption⟩)
      · exact Or.inr (Or.inr ⟨rfl, by assumption, by assumption⟩)

/-- The program's table of versions. -/
def versions6 : Array Value := #[.int .i64 4, .int .i64 4, .int .i64 2048, .int .i64 6, .int .i64 41, .int .i64 34525]
structure Vers (w : World) : Prop where
  at0 : ∃ T fr, w.heap[1]? = some (.cells versions6 T fr)
theorem Vers.lt {w : World} (h : Vers w) : 1 < w.heap.size := by
  obtain ⟨T, fr, h⟩ := h.at0
  exact (Array.getElem?_eq_some_iff.1 h).1
theorem Vers.below {B : Nat} {w w' : World} (h : Vers w) (hb : Below B w w') (hB : 1 < B) : Vers w' := by
  obtain ⟨T, fr, h0⟩ := h.at0
  exact ⟨T, fr, (hb.block _ hB).trans h0⟩
theorem Vers.on {w w' : World} (h : Vers w) (hb : Below w.heap.size w w') : Vers w' := h.below hb h.lt
theorem Vers.alloc {w : World} (h : Vers w) (o : Obj) : Vers (w.alloc o) := h.on ((Below.refl _ _).alloc (Nat.le_refl _) o)
theorem Vers.drewN {w : World} (h : Vers w) (n : Nat) : Vers (w.drewN n) := h.on (below_drewN (Below.refl _ _) n)
theorem Vers.kb {S : Nat → Prop} {w w' : World} (h : Vers w) (k : Kb S w w') (hs : ¬ S 1) : Vers w' := by
  have hlt := h.lt
  obtain ⟨T, fr, h0⟩ := h.at0
  exact ⟨T, fr, (k.block _ hlt hs).trans h0⟩
theorem idxV_0 (u : World) : (Instr.index 96 (.agg versions6) (.int .i64 0)).run Tryd.prog u = .ok (.agg #[.int .i64 4, .int .i64 4, .int .i64 2048]) u := by kernel_rfl
theorem idxV_1 (u : World) : (Instr.index 96 (.agg versions6) (.int .i64 1)).run Tryd.prog u = .ok (.agg #[.int .i64 6, .int .i64 41, .int .i64 34525]) u := by kernel_rfl

end Go.Proofs.YtbfcccfgphelhaaDoor
