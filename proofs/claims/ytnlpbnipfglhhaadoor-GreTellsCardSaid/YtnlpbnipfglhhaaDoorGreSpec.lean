/-
  GRE's header, plainly: its bytes; what bytes say as one.
-/
import Derived.Test.YtnlpbnipfglhhaaDoorReading
import Derived.Test.YtnlpbnipfglhhaaDoorSums
import Derived.Test.YtnlpbnipfglhhaaDoorIpipSpec
namespace Go.Proofs.YtnlpbnipfglhhaaDoor
open Go.RowKit
set_option linter.unusedVariables false

/-- What a header says. -/
structure H12 where
  sum : Bool
  key : Bool
  v : Nat
def H12.cells (h : H12) : Array Value := #[.bool h.sum, .bool h.key, .int .u32 (h.v : Nat)]
def H12.zero : H12 := ⟨false, false, 0⟩
/-- A number, where it is asked. -/
def p12 (b : Bool) (n : Nat) : Nat := match b with | true => n | false => 0
/-- Bytes, where they are asked. -/
def q12 (b : Bool) (l : List UInt8) : List UInt8 := match b with | true => l | false => []
/-- How many bytes it has; the bits of its first two. -/
def size12 (s k : Bool) : Nat := 4 + p12 s 4 + p12 k 4
def bits12 (s k : Bool) : Nat := p12 s 32768 + p12 k 8192
/-- A layer's Kind, as a number of N. -/
def V11.kn : V11 → Nat | .four => 2048 | .six => 34525 | _ => 0
def V11.en : V11 → Nat | .short => 2 | .other => 3 | _ => 0
theorem V11.kind_kn (v : V11) : v.kind = (v.kn : Nat) := by cases v <;> rfl
theorem V11.err_en (v : V11) : v.err = (v.en : Nat) := by cases v <;> rfl
/-- Behind the kind. -/
def behind12 (h : H12) (own : Nat) : List UInt8 := q12 h.sum (be own 2 ++ be 0 2) ++ q12 h.key (be h.v 4)
def head12 (h : H12) (kind own : Nat) : List UInt8 := be (bits12 h.sum h.key) 2 ++ be kind 2 ++ behind12 h own
/-- Its sum. -/
def own12 (h : H12) (inner : ByteArray) : Nat := match h.sum with | true => sumD (head12 h (v11 inner).kn 0 ++ inner.data.toList) | false => 0
/-- What Put answers. -/
def put12L (h : H12) (inner : ByteArray) : List UInt8 := head12 h (v11 inner).kn (own12 h inner) ++ inner.data.toList
def put12S (h : H12) (inner : ByteArray) : ByteArray := if (v11 inner).en = 0 then ⟨(put12L h inner).toArray⟩ else ⟨#[]⟩

/-- What a header's first four bytes say. -/
inductive F12 | stop (n : Nat) | ok (s k : Bool)
def f12 (b : ByteArray) : F12 :=
  if b.size < 4 then .stop 2 else if numOf b 0 2 % 8 ≠ 0 then .stop 3
  else if numOf b 0 2 = 0 then .ok false false else if numOf b 0 2 = 8192 then .ok false true else if numOf b 0 2 = 32768 then .ok true false else if numOf b 0 2 = 40960 then .ok true true else .stop 9
/-- The packet's fault, by what the header says that it is. -/
def pk12 (kind : Nat) (v : V11) : Nat := if kind ≠ 2048 ∧ kind ≠ 34525 then 6 else if v.en ≠ 0 then v.en else if v.kn ≠ kind then 3 else 0
/-- The sum's fault. -/
def sm12 (s : Bool) (b : ByteArray) : Nat := match s with | false => 0 | true => if numOf b 6 2 ≠ 0 then 9 else if sumD b.data.toList ≠ 0 then 5 else 0
/-- The fault behind the first four bytes. -/
def rest12 (s k : Bool) (b : ByteArray) : Nat :=
  if b.size < size12 s k then 2 else if sm12 s b ≠ 0 then sm12 s b else pk12 (numOf b 2 2) (v11 (b.extract (size12 s k) b.size))
def get12E (b : ByteArray) : Nat := match f12 b with | .stop n => n | .ok s k => rest12 s k b
/-- The key. -/
def key12 (s k : Bool) (b : ByteArray) : Nat := match k with | false => 0 | true => numOf b (size12 s k - 4) 4
def hd12 (b : ByteArray) : H12 := match f12 b with | .stop n => .zero | .ok s k => ⟨s, k, key12 s k b⟩
def in12 (b : ByteArray) : ByteArray := match f12 b with | .stop n => ⟨#[]⟩ | .ok s k => b.extract (size12 s k) b.size
def get12H (b : ByteArray) : H12 := if get12E b = 0 then hd12 b else .zero
def get12S (b : ByteArray) : ByteArray := if get12E b = 0 then in12 b else ⟨#[]⟩

theorem f12_stop_pos {b : ByteArray} {n : Nat} (h : f12 b = .stop n) : n = 2 ∧ b.size < 4 ∨ n = 3 ∧ 4 ≤ b.size ∧ numOf b 0 2 % 8 ≠ 0 ∨ n = 9 ∧ 4 ≤ b.size ∧ numOf b 0 2 % 8 = 0 ∧ numOf b 0 2 ≠ 0 ∧ numOf b 0 2 ≠ 8192 ∧ numOf b 0 2 ≠ 32768 ∧ numOf b 0 2 ≠ 40960 := by
  unfold f12 at h
  by_cases h1 : b.size < 4
  · rw [if_pos h1] at h; injection h with h; exact Or.inl ⟨h.symm, h1⟩
  rw [if_neg h1] at h
  by_cases h2 : numOf b 0 2 % 8 ≠ 0
  · rw [if_pos h2] at h; injection h with h; exact Or.inr (Or.inl ⟨h.symm, by omega, h2⟩)
  rw [if_neg h2] at h
  by_cases h3 : numOf b 0 2 = 0
  · rw [if_pos h3] at h; exact absurd h (by simp)
  rw [if_neg h3] at h
  by_cases h4 : numOf b 0 2 = 8192
  · rw [if_pos h4] at h; exact absurd h (by simp)
  rw [if_neg h4] at h
  by_cases h5 : numOf b 0 2 = 32768
  · rw [if_pos h5] at h; exact absurd h (by simp)
  rw [if_neg h5] at h
  by_cases h6 : numOf b 0 2 = 40960
  · rw [if_pos h6] at h; exact absurd h (by simp)
  rw [if_neg h6] at h
  injection h with h
  exact Or.inr (Or.inr ⟨h.symm, by omega, by omega, h3, h4, h5, h6⟩)
theorem f12_ok_bits {b : ByteArray} {s k : Bool} (h : f12 b = .ok s k) : 4 ≤ b.size ∧ numOf b 0 2 = bits12 s k := by
  unfold f12 at h
  by_cases h1 : b.size < 4
  · rw [if_pos h1] at h; exact absurd h (by simp)
  rw [if_neg h1] at h
  refine ⟨by omega, ?_⟩
  by_cases h2 : numOf b 0 2 % 8 ≠ 0
  · rw [if_pos h2] at h; exact absurd h (by simp)
  rw [if_neg h2] at h
  by_cases h3 : numOf b 0 2 = 0
  · rw [if_pos h3] at h; injection h with e1 e2; subst e1 e2; exact h3
  rw [if_neg h3] at h
  by_cases h4 : numOf b 0 2 = 8192
  · rw [if_pos h4] at h; injection h with e1 e2; subst e1 e2; exact h4
  rw [if_neg h4] at h
  by_cases h5 : numOf b 0 2 = 32768
  · rw [if_pos h5] at h; injection h with e1 e2; subst e1 e2; exact h5
  rw [if_neg h5] at h
  by_cases h6 : numOf b 0 2 = 40960
  · rw [if_pos h6] at h; injection h with e1 e2; subst e1 e2; exact h6
  rw [if_neg h6] at h
  exact absurd h (by simp)
theorem behind12_length (h : H12) (own : Nat) : (behind12 h own).length = p12 h.sum 4 + p12 h.key 4 := by
  obtain ⟨s, k, v⟩ := h
  cases s <;> cases k <;> simp [behind12, q12, p12, be_length]
theorem head12_length (h : H12) (kind own : Nat) : (head12 h kind own).length = size12 h.sum h.key := by
  unfold head12 size12
  rw [List.length_append, List.length_append, be_length, be_length, behind12_length]
  omega
theorem size12_le (s k : Bool) : size12 s k ≤ 12 ∧ 4 ≤ size12 s k := by cases s <;> cases k <;> decide

end Go.Proofs.YtnlpbnipfglhhaaDoor
