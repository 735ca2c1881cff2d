/-
  The reader's small calls: how many bytes are left, how many were read, what must be, and the next n bytes.
-/
import Derived.Test.YtoijomdgcgbpbaaGround
import Derived.Lib.ConvBytes
import Derived.Defers
import Derived.Recover
namespace Go.Proofs.Ytoijomdgcgbpbaa
open Go.RowKit
set_option linter.unusedVariables false

/-- The reader's block: what it reads, how many bytes were read. -/
def Rd (w : World) (b : Nat) (s : ByteArray) (i : Nat) : Prop := Blk w b #[.string s, .int .i64 i] 127

set_option maxHeartbeats 400000 in
/-- Left. -/
theorem left_any (b : Nat) (s : ByteArray) (i : Nat) (w : World) (hr : Rd w b s i) (hi : i ≤ s.size) (hs : s.size ≤ maxLen) :
    Calls Try.prog 74 #[.pointer (some ⟨b, 0, none⟩)] w fun e w' => e = .returned (.int .i64 ((s.size : Int) - i)) ∧ ∃ n, w' = w.drewN n := by
  have c0 := hr.cell 0
  have c1 := hr.cell 1
  simp at c0 c1
  unfold maxLen at hs
  clear hr
  go_enter Try.func74, Try.ntmps74
  go_wp2
  go_quiet (fail)
  go_wp2
  go_ret
  exact ⟨rfl, _, rfl⟩

set_option maxHeartbeats 400000 in
/-- Need, of what is. -/
theorem need_yes (r : Value) (x : Bool) (k : Int) (w : World) (hx : x = true) :
    Calls Try.prog 69 #[r, .bool x, .int .i64 k] w fun e w' => e = .returned (.tuple #[]) ∧ w = w' := by
  subst hx
  go_enter Try.func69, Try.ntmps69
  go_wp2
  go_end0
  exact ⟨rfl, rfl⟩

/-- What a stopped reading's panic carries. -/
def stopped (k : Int) : List PanicEntry := [{ v := .iface 124 (.agg #[.int .i64 k]), recovered := false }]

set_option maxHeartbeats 400000 in
/-- Need, of what isn't. -/
theorem need_no (r : Value) (x : Bool) (k : Int) (w : World) (hx : x = false) :
    Calls Try.prog 69 #[r, .bool x, .int .i64 k] w fun e w' => e = .panicked (stopped k) ∧ w = w' := by
  subst hx
  go_enter Try.func69, Try.ntmps69
  go_wp2
  exact ⟨rfl, rfl, rfl⟩

set_option maxHeartbeats 400000 in
/-- Take, where the bytes are there. -/
theorem take_nat (b : Nat) (s : ByteArray) (i k : Nat) (w : World) (hr : Rd w b s i) (hi : i + k ≤ s.size) (hs : s.size ≤ maxLen) :
    Calls Try.prog 73 #[.pointer (some ⟨b, 0, none⟩), .int .i64 k] w fun e w' => e = .returned (.string (s.extract i (i + k))) ∧ ∃ n, w' = (w.drewN n).setCell ⟨b, 1, none⟩ (.int .i64 ((i + k : Nat) : Int)) := by
  have c0 := hr.cell 0
  have c1 := hr.cell 1
  have f1 := hr.frozen 1
  simp at c0 c1
  have hs' := hs
  unfold maxLen at hs'
  go_enter Try.func73, Try.ntmps73
  go_wp2_with fail
  refine (left_any b s i _ hr (by omega) hs).mono ?_
  rintro e w' ⟨rfl, n1, rfl⟩
  go_wp2_with fail
  refine (need_yes _ _ _ _ (by simp; omega)).mono ?_
  rintro e w' ⟨rfl, rfl⟩
  go_wp2_with fail
  go_quiet (fail)
  go_wp2
  go_ret
  exact ⟨rfl, _, rfl⟩

/-- Take, where the bytes are there, of a number as it comes. -/
theorem take_yes (b : Nat) (s : ByteArray) (i : Nat) (n : Int) (w : World) (hr : Rd w b s i) (h0 : 0 ≤ n) (hi : i ≤ s.size) (hn : n ≤ (s.size : Int) - i) (hs : s.size ≤ maxLen) :
    Calls Try.prog 73 #[.pointer (some ⟨b, 0, none⟩), .int .i64 n] w fun e w' => e = .returned (.string (s.extract i (i + n.toNat))) ∧ ∃ m, w' = (w.drewN m).setCell ⟨b, 1, none⟩ (.int .i64 ((i + n.toNat : Nat) : Int)) := by
  obtain ⟨k, rfl⟩ := Int.eq_ofNat_of_zero_le h0
  rw [Int.toNat_natCast]
  exact take_nat b s i k w hr (by omega) hs

set_option maxHeartbeats 400000 in
/-- Take, of a number below 0. -/
theorem take_neg (b : Nat) (n : Int) (w : World) (hn : n < 0) :
    Calls Try.prog 73 #[.pointer (some ⟨b, 0, none⟩), .int .i64 n] w fun e w' => e = .panicked (stopped 2) ∧ ∃ m, w' = w.drewN m := by
  go_enter Try.func73, Try.ntmps73
  go_wp2_with fail
  refine (need_no _ _ _ _ (by simp)).mono ?_
  rintro e w' ⟨rfl, rfl⟩
  exact ⟨rfl, rfl, 0, rfl⟩

set_option maxHeartbeats 400000 in
/-- Take, where the bytes aren't there. -/
theorem take_short (b : Nat) (s : ByteArray) (i : Nat) (n : Int) (w : World) (hr : Rd w b s i) (h0 : 0 ≤ n) (hi : i ≤ s.size) (hn : (s.size : Int) - i < n) (hs : s.size ≤ maxLen) :
    Calls Try.prog 73 #[.pointer (some ⟨b, 0, none⟩), .int .i64 n] w fun e w' => e = .panicked (stopped 2) ∧ ∃ m, w' = w.drewN m := by
  go_enter Try.func73, Try.ntmps73
  go_wp2_with fail
  refine (left_any b s i _ hr (by omega) hs).mono ?_
  rintro e w' ⟨rfl, n1, rfl⟩
  go_wp2_with fail
  refine (need_no _ _ _ _ (by simp; omega)).mono ?_
  rintro e w' ⟨rfl, rfl⟩
  exact ⟨rfl, rfl, n1, rfl⟩

/-- Take, where it stops. -/
theorem take_no (b : Nat) (s : ByteArray) (i : Nat) (n : Int) (w : World) (hr : Rd w b s i) (hi : i ≤ s.size) (hn : n < 0 ∨ (s.size : Int) - i < n) (hs : s.size ≤ maxLen) :
    Calls Try.prog 73 #[.pointer (some ⟨b, 0, none⟩), .int .i64 n] w fun e w' => e = .panicked (stopped 2) ∧ ∃ m, w' = w.drewN m := by
  by_cases h0 : n < 0
  · exact take_neg b n w h0
  · exact take_short b s i n w hr (by omega) hi (by omega) hs

set_option maxHeartbeats 400000 in
/-- Rest. -/
theorem rest_any (b : Nat) (s : ByteArray) (i : Nat) (w : World) (hr : Rd w b s i) (hi : i ≤ s.size) (hs : s.size ≤ maxLen) :
    Calls Try.prog 51 #[.pointer (some ⟨b, 0, none⟩)] w fun e w' => e = .returned (.string (s.extract i s.size)) ∧ ∃ m, w' = (w.drewN m).setCell ⟨b, 1, none⟩ (.int .i64 (s.size : Int)) := by
  go_enter Try.func51, Try.ntmps51
  go_wp2_with fail
  refine (left_any b s i _ hr hi hs).mono ?_
  rintro e w' ⟨rfl, n1, rfl⟩
  go_wp2_with fail
  refine (take_yes b s i ((s.size : Int) - i) (w.drewN n1) (hr.drewN n1) (by omega) hi (by omega) hs).mono ?_
  rintro e w' ⟨rfl, n2, rfl⟩
  rw [show i + ((s.size : Int) - i).toNat = s.size from by omega]
  go_wp2_with fail
  go_ret
  exact ⟨rfl, n1 + n2, rfl⟩

end Go.Proofs.Ytoijomdgcgbpbaa

/-
  The reader's numbers: of one, two, four and eight bytes.
-/
namespace Go.Proofs.Ytoijomdgcgbpbaa
open Go.RowKit
set_option linter.unusedVariables false

/-- A number of bytes, its highest one first. -/
def val (l : List UInt8) : Nat := l.foldl (fun n c => n * 256 + c.toNat) 0
theorem val_nil : val [] = 0 := rfl
theorem val_snoc (l : List UInt8) (c : UInt8) : val (l ++ [c]) = val l * 256 + c.toNat := by simp [val]
theorem val_lt : ∀ (n : Nat) (l : List UInt8), l.length = n → val l < 256 ^ n := by
  intro n
  induction n with
  | zero => intro l h; rw [List.length_eq_zero_iff.1 h]; simp [val_nil]
  | succ n ih =>
    intro l h
    have hne : l ≠ [] := by intro e; simp [e] at h
    rw [← List.dropLast_concat_getLast hne, val_snoc, Nat.pow_succ]
    have h1 := ih l.dropLast (by simp [h])
    have h2 := (l.getLast hne).toNat_lt
    omega

theorem wrap_u64 (n : Int) (h0 : 0 ≤ n) (h : n < 18446744073709551616) : IntKind.u64.wrap n = n := by
  have e : n % (2 ^ IntKind.u64.bits : Int) = n := Int.emod_eq_of_lt h0 (by show n < (2 : Int) ^ 64; omega)
  simp [IntKind.wrap, e, IntKind.signed]
theorem or_step (v c : Nat) (hv : v < 72057594037927936) (hc : c < 256) :
    bits .or .u64 (IntKind.u64.wrap ((v : Int) * 256)) (IntKind.u64.wrap (c : Int)) = ((v * 256 + c : Nat) : Int) := by
  rw [wrap_u64 _ (by omega) (by omega), wrap_u64 _ (by omega) (by omega)]
  rw [show ((v : Int) * 256) = ((v * 256 : Nat) : Int) from by omega, u64_or_nat _ _ (by omega) (by omega)]
  congr 1
  have := Nat.shiftLeft_add_eq_or_of_lt (i := 8) (b := c) (by omega) v
  rw [Nat.shiftLeft_eq] at this
  exact this.symm

theorem pow256 (n : Nat) (h : n < 8) : 256 ^ n ≤ 72057594037927936 := by
  have := Nat.pow_le_pow_right (n := 256) (by omega) (show n ≤ 7 by omega)
  exact this

/-- One round: one byte more. -/
theorem val_round (t : ByteArray) (q : Nat) (hq : q < t.size) (h8 : t.size ≤ 8) :
    bits .or .u64 (IntKind.u64.wrap (((val (t.data.toList.take q) : Nat) : Int) * 256)) (IntKind.u64.wrap (t.data[q].toNat : Int)) = ((val (t.data.toList.take (q + 1)) : Nat) : Int) := by
  have h1 := val_lt q (t.data.toList.take q) (by simp; omega)
  have h2 := pow256 q (by omega)
  rw [or_step _ _ (by omega) t.data[q].toNat_lt, List.take_succ_eq_append_getElem (by simpa using hq), val_snoc]
  simp

/-- The number of k bytes that stands at i. -/
def numOf (s : ByteArray) (i k : Nat) : Nat := val (s.extract i (i + k)).data.toList
theorem ret_u64 {a b : Nat} (h : a = b) : Ending.returned (.int .u64 (a : Int)) = .returned (.int .u64 (b : Int)) := by rw [h]

set_option maxHeartbeats 400000 in
theorem number_yes (b : Nat) (s : ByteArray) (i k : Nat) (w : World) (hr : Rd w b s i) (hk : k ≤ 8) (hi : i + k ≤ s.size) (hs : s.size ≤ maxLen) :
    Calls Try.prog 92 #[.pointer (some ⟨b, 0, none⟩), .int .i64 k] w fun e w' => e = .returned (.int .u64 (numOf s i k)) ∧ Rd w' b s (i + k) ∧ Kb (· = b) w w' := by
  have hcv := fun (W : World) (t : ByteArray) => Lib.run_convert_string_bytes (P := Try.prog) W 9 57 5 t Try.underlying9 Try.underlying57 Try.underlying5
  go_enter Try.func92, Try.ntmps92
  go_wp2_with fail
  refine (take_nat b s i k _ hr (by omega) hs).mono ?_
  rintro e w' ⟨rfl, n1, rfl⟩
  have hlt := hr.lt
  have hr1 : Rd ((w.drewN n1).setCell ⟨b, 1, none⟩ (.int .i64 ((i + k : Nat) : Int))) b s (i + k) := (hr.drewN n1).set 1 _
  have hk1 : Kb (· = b) w ((w.drewN n1).setCell ⟨b, 1, none⟩ (.int .i64 ((i + k : Nat) : Int))) := Kb.setCell (S := (· = b)) ((Kb.refl _ _).drewN n1) (p := ⟨b, 1, none⟩) (fun _ => rfl) _
  generalize (w.drewN n1).setCell ⟨b, 1, none⟩ (.int .i64 ((i + k : Nat) : Int)) = w1 at hr1 hk1 ⊢
  have hno : numOf s i k = val (s.extract i (i + k)).data.toList := rfl
  have hsz : (s.extract i (i + k)).size = k := by rw [ByteArray.size_extract]; omega
  generalize s.extract i (i + k) = t at hsz hno ⊢
  have HT := Lib.hid hno
  clear hno
  subst hsz
  have hcell := fun (j : Nat) (hj : j < t.size) => Lib.bytesWorld_cell w1 5 t j hj
  have hr2 : Rd (Lib.bytesWorld w1 5 t) b s (i + t.size) := (Lib.bytesWorld_at_old w1 5 t b hr1.lt).trans hr1
  have hk2 : Kb (· = b) w (Lib.bytesWorld w1 5 t) := hk1.trans ⟨rfl, rfl, rfl, by rw [Lib.bytesWorld_size]; omega, fun k hk _ => Lib.bytesWorld_at_old w1 5 t k hk⟩
  have HR := Lib.hid hr2
  have HK := Lib.hid hk2
  have HC := Lib.hid hcell
  clear hr2 hk2 hcell hr1 hk1 hr
  go_wp2_with fail
  generalize Lib.bytesWorld w1 5 t = W2 at *
  have ht : t.size ≤ 8 := hk
  go_loop [5, 13] (fun n j => ∃ q : Nat, q ≤ t.size ∧ j = .int .i64 q ∧ n = .int .u64 (val (t.data.toList.take q))) (fun _ j => t.size - (intOf j).toNat)
  case atStart => exact ⟨0, Nat.zero_le _, rfl, rfl⟩
  case round =>
    obtain ⟨q, hq, rfl, rfl⟩ := hrel
    by_cases hlt : q < t.size
    · have hc := HC.out q hlt
      have hv := Lib.hid (val_round t q hlt ht)
      go_wp2
      exact ⟨⟨q + 1, by omega, by go_num, by rw [hv.out]⟩, by simp [intOf]; omega⟩
    · go_wp2
      go_ret
      refine ⟨?_, HR.out, HK.out⟩
      exact ret_u64 (by rw [HT.out, List.take_of_length_le (by simp; exact Nat.le_of_not_lt hlt)])

set_option maxHeartbeats 400000 in
theorem number_no (b : Nat) (s : ByteArray) (i k : Nat) (w : World) (hr : Rd w b s i) (hi : i ≤ s.size) (hk : s.size < i + k) (hs : s.size ≤ maxLen) :
    Calls Try.prog 92 #[.pointer (some ⟨b, 0, none⟩), .int .i64 k] w fun e w' => e = .panicked (stopped 2) ∧ ∃ m, w' = w.drewN m := by
  go_enter Try.func92, Try.ntmps92
  go_wp2_with fail
  refine (take_no b s i k _ hr hi (by omega) hs).mono ?_
  rintro e w' ⟨rfl, n1, rfl⟩
  exact ⟨rfl, rfl, n1, rfl⟩

theorem numOf_lt (s : ByteArray) (i k : Nat) (h : i + k ≤ s.size) : numOf s i k < 256 ^ k :=
  val_lt k _ (by rw [Array.length_toList, ByteArray.size_data, ByteArray.size_extract]; omega)

set_option maxHeartbeats 400000 in
theorem u8_yes (b : Nat) (s : ByteArray) (i : Nat) (w : World) (hr : Rd w b s i) (hi : i + 1 ≤ s.size) (hs : s.size ≤ maxLen) :
    Calls Try.prog 70 #[.pointer (some ⟨b, 0, none⟩)] w fun e w' => e = .returned (.int .i64 (numOf s i 1)) ∧ Rd w' b s (i + 1) ∧ Kb (· = b) w w' := by
  have hlt := numOf_lt s i 1 hi
  go_enter Try.func70, Try.ntmps70
  go_wp2_with fail
  refine (number_yes b s i 1 _ hr (by omega) hi hs).mono ?_
  rintro e w' ⟨rfl, hr', hk'⟩
  go_wp2_with fail
  go_ret
  exact ⟨rfl, hr', hk'⟩
set_option maxHeartbeats 400000 in
theorem u8_no (b : Nat) (s : ByteArray) (i : Nat) (w : World) (hr : Rd w b s i) (hi : i ≤ s.size) (hk : s.size < i + 1) (hs : s.size ≤ maxLen) :
    Calls Try.prog 70 #[.pointer (some ⟨b, 0, none⟩)] w fun e w' => e = .panicked (stopped 2) ∧ ∃ m, w' = w.drewN m := by
  go_enter Try.func70, Try.ntmps70
  go_wp2_with fail
  refine (number_no b s i 1 _ hr hi hk hs).mono ?_
  rintro e w' ⟨rfl, n1, rfl⟩
  exact ⟨rfl, rfl, n1, rfl⟩
set_option maxHeartbeats 400000 in
theorem u16_yes (b : Nat) (s : ByteArray) (i : Nat) (w : World) (hr : Rd w b s i) (hi : i + 2 ≤ s.size) (hs : s.size ≤ maxLen) :
    Calls Try.prog 71 #[.pointer (some ⟨b, 0, none⟩)] w fun e w' => e = .returned (.int .i64 (numOf s i 2)) ∧ Rd w' b s (i + 2) ∧ Kb (· = b) w w' := by
  have hlt := numOf_lt s i 2 hi
  go_enter Try.func71, Try.ntmps71
  go_wp2_with fail
  refine (number_yes b s i 2 _ hr (by omega) hi hs).mono ?_
  rintro e w' ⟨rfl, hr', hk'⟩
  go_wp2_with fail
  go_ret
  exact ⟨rfl, hr', hk'⟩
set_option maxHeartbeats 400000 in
theorem u16_no (b : Nat) (s : ByteArray) (i : Nat) (w : World) (hr : Rd w b s i) (hi : i ≤ s.size) (hk : s.size < i + 2) (hs : s.size ≤ maxLen) :
    Calls Try.prog 71 #[.pointer (some ⟨b, 0, none⟩)] w fun e w' => e = .panicked (stopped 2) ∧ ∃ m, w' = w.drewN m := by
  go_enter Try.func71, Try.ntmps71
  go_wp2_with fail
  refine (number_no b s i 2 _ hr hi hk hs).mono ?_
  rintro e w' ⟨rfl, n1, rfl⟩
  exact ⟨rfl, rfl, n1, rfl⟩
theorem wrap_u32 (n : Nat) : IntKind.u32.wrap (n : Int) = ((n % 4294967296 : Nat) : Int) := by
  simp [IntKind.wrap, IntKind.signed, IntKind.bits]

end Go.Proofs.Ytoijomdgcgbpbaa

/-
  Read: whatever the function that it calls does with the reader, Read answers with what it was stopped, or OK.
-/
namespace Go.Proofs.Ytoijomdgcgbpbaa
open Go.RowKit
set_option linter.unusedVariables false

/-- How what is called ends: at its end, or stopped; Q tells of the error and the world. -/
def DoEnd (N : Nat) (Q : Int → World → Prop) (e : Ending) (w' : World) : Prop :=
  Blk w' N #[.int .i64 0] 28 ∧ ((e = .returned (.tuple #[]) ∧ Q 0 w') ∨ ∃ k, e = .panicked (stopped k) ∧ Q k w')

/-- Read's end. -/
def ReadEnd (N : Nat) (Q : Int → World → Prop) (e : Ending) (w' : World) : Prop :=
  ∃ k w1, e = .returned (.int .i64 k) ∧ Q k w1 ∧ Kb (· = N) w1 w'

theorem assert65 (W : World) (v : Value) : (Instr.typeAssert (.iface 124 v) 20 124 true).run Try.prog W = .ok (.tuple #[v, .bool true]) W := by kernel_rfl

theorem frame42 (p V : Value) : (#[p] ++ ((Array.replicate 16 undef).setIfInBounds 3 V).setIfInBounds 0 V) = #[p, V, undef, undef, V, undef, undef, undef, undef, undef, undef, undef, undef, undef, undef, undef, undef] := rfl

theorem catch_stopped (b : Nat) (k : Int) (w : World) (hb : Blk w b #[.int .i64 0] 28) :
    CallsD Try.prog 68 #[.pointer (some ⟨b, 0, none⟩)] (.panicking (stopped k)) w fun e u' w' =>
      e = .returned (.tuple #[]) ∧ u' = .panicking [{ v := .iface 124 (.agg #[.int .i64 k]), recovered := true }] ∧ w' = (w.setCell ⟨b, 0, none⟩ (.int .i64 k)).alloc (.cells #[.int .i64 k] 124) := by
  have c0 := (hb.alloc (.cells #[.int .i64 k] 124)).cell 0
  have f0 := (hb.alloc (.cells #[.int .i64 k] 124)).frozen 0
  have hlt := hb.lt
  have has := assert65
  simp at c0
  clear hb
  refine callsD_of_wpS Try.func68 rfl fun c₀ cs hu => ?_
  unfold stopped at hu
  apply wpS_seq
  apply wpS_region
  simp [wpOpsS, go_sem, recoverD, hu, Try.ntmps68, Exit.thenS]
  refine wpS_of_wp ?_
  rw [frame42]
  go_wp2
  exact ⟨rfl, _, rfl, _, results_none rfl _ _ _, rfl, rfl, rfl⟩

theorem catch_none (p : Addr) (w : World) :
    CallsD Try.prog 68 #[.pointer (some p)] .returning w fun e u' w' => e = .returned (.tuple #[]) ∧ u' = .returning ∧ w' = w := by
  refine callsD_of_wpS Try.func68 rfl fun c₀ cs hu => ?_
  apply wpS_seq
  apply wpS_region
  simp [wpOpsS, go_sem, recoverD, hu, Try.ntmps68, Exit.thenS]
  refine wpS_of_wp ?_
  rw [frame42]
  go_wp2
  exact ⟨rfl, .returning, by cases c₀; simp_all, _, results_none rfl _ _ _, rfl, rfl, rfl⟩

set_option maxHeartbeats 400000 in
theorem read_any (s : ByteArray) (F : Nat) (cap : Array Value) (w : World) (Q : Int → World → Prop)
    (hF : ∀ args u, (callFunc F args).run Try.prog u = .ok (.enter F args) u)
    (h : Calls Try.prog F (#[.pointer (some ⟨w.heap.size + 1, 0, none⟩)] ++ cap) ((w.alloc (.cells #[.int .i64 0] 28)).alloc (.cells #[.string s, .int .i64 0] 127)) (DoEnd w.heap.size Q)) :
    Calls Try.prog 48 #[.string s, .func (Fn.func F) #[] cap] w (ReadEnd w.heap.size Q) := by
  have hmf : ∀ (fn : Fn) (first cap : Array Value) (w : World), (Instr.makeFunc fn first cap).run Try.prog w = .ok (.func fn first cap) w := fun _ _ _ _ => rfl
  have H := Lib.hid h
  clear h
  go_enter_defers Try.func48, Try.ntmps48
  go_wp2_with fail
  refine H.out.mono ?_
  rintro e w' ⟨hb, ⟨rfl, hq⟩ | ⟨k, rfl, hq⟩⟩
  · have f0 := hb.frozen 0
    have c0 := hb.cell 0
    simp at c0
    have HB := Lib.hid hb
    clear hb
    go_wp2
    refine leaves_cons (f := 68) (args := #[.pointer (some ⟨w.heap.size, 0, none⟩)]) (by simp) (by simp [go_sem]) ?_
    refine (catch_none _ _).mono ?_
    rintro e u' w'' ⟨rfl, rfl, rfl⟩
    have c1 := (HB.out.set 0 (.int .i64 0)).cell 0
    simp at c1
    have hr : (results Try.f48 #[Value.string s, Value.func (Fn.func F) #[] cap, undef, undef, Value.pointer (some { block := w.heap.size, off := 0 }), Value.func (Fn.func 68) #[] #[Value.pointer (some { block := w.heap.size, off := 0 })], Value.func (Fn.func F) #[] cap, Value.string s, Value.agg #[Value.string s, Value.int IntKind.i64 0], Value.pointer (some { block := w.heap.size + 1, off := 0 }), Value.tuple #[]]).run Try.prog (w'.setCell ⟨w.heap.size, 0, none⟩ (.int .i64 0)) = .ok (.int .i64 0) (w'.setCell ⟨w.heap.size, 0, none⟩ (.int .i64 0)) := by
      simp [results, Try.results48, go_sem, c1]
    exact ⟨_, hr, 0, w', rfl, hq, Kb.setCell (S := (· = w.heap.size)) (Kb.refl _ _) (p := ⟨w.heap.size, 0, none⟩) (fun _ => rfl) _⟩
  · have f0 := hb.frozen 0
    have c0 := hb.cell 0
    simp at c0
    refine leaves_cons (f := 68) (args := #[.pointer (some ⟨w.heap.size, 0, none⟩)]) (by simp) (by simp [go_sem]) ?_
    refine (catch_stopped _ k _ hb).mono ?_
    rintro e u' w'' ⟨rfl, rfl, rfl⟩
    have c1 := ((hb.set 0 (.int .i64 k)).alloc (.cells #[.int .i64 k] 124)).cell 0
    simp at c1
    have hr : (results Try.f48 #[Value.string s, Value.func (Fn.func F) #[] cap, undef, undef, Value.pointer (some { block := w.heap.size, off := 0 }), Value.func (Fn.func 68) #[] #[Value.pointer (some { block := w.heap.size, off := 0 })], Value.func (Fn.func F) #[] cap, Value.string s, Value.agg #[Value.string s, Value.int IntKind.i64 0], Value.pointer (some { block := w.heap.size + 1, off := 0 }), undef]).run Try.prog ((w'.setCell ⟨w.heap.size, 0, none⟩ (.int .i64 k)).alloc (.cells #[.int .i64 k] 124)) = .ok (.int .i64 k) ((w'.setCell ⟨w.heap.size, 0, none⟩ (.int .i64 k)).alloc (.cells #[.int .i64 k] 124)) := by
      simp [results, Try.results48, go_sem, c1]
    exact ⟨_, hr, k, w', rfl, hq, (Kb.setCell (S := (· = w.heap.size)) (Kb.refl _ _) (p := ⟨w.heap.size, 0, none⟩) (fun _ => rfl) _).alloc _⟩

/-- How what is called ends, and which blocks it writes: those of S, and the reader's. -/
def DoKb (S : Nat → Prop) (R : Nat) (u : World) (Q : Int → World → Prop) (e : Ending) (u' : World) : Prop :=
  ((e = .returned (.tuple #[]) ∧ Q 0 u') ∨ ∃ k, e = .panicked (stopped k) ∧ Q k u') ∧ Kb (fun k => S k ∨ k = R) u u'
def ReadKb (S : Nat → Prop) (w : World) (Q : Int → World → Prop) (e : Ending) (w' : World) : Prop :=
  ∃ k w1, e = .returned (.int .i64 k) ∧ Q k w1 ∧ Kb S w w1 ∧ Kb (· = w.heap.size) w1 w'

theorem read_kb (s : ByteArray) (F : Nat) (cap : Array Value) (w : World) (S : Nat → Prop) (Q : Int → World → Prop) (hS : ∀ k, S k → k < w.heap.size)
    (hF : ∀ args u, (callFunc F args).run Try.prog u = .ok (.enter F args) u)
    (h : ∀ R u, Rd u R s 0 → w.heap.size ≤ R → Kb (fun _ => False) w u → Calls Try.prog F (#[.pointer (some ⟨R, 0, none⟩)] ++ cap) u (DoKb S R u Q)) :
    Calls Try.prog 48 #[.string s, .func (Fn.func F) #[] cap] w (ReadKb S w Q) := by
  refine (read_any s F cap w (fun k u => Q k u ∧ Kb S w u) hF ?_).mono ?_
  · have hR : Rd ((w.alloc (.cells #[.int .i64 0] 28)).alloc (.cells #[.string s, .int .i64 0] 127)) (w.heap.size + 1) s 0 := by
      have := Blk.new (w.alloc (.cells #[.int .i64 0] 28)) #[.string s, .int .i64 0] 127
      rw [show (w.alloc (.cells #[.int .i64 0] 28)).heap.size = w.heap.size + 1 from by simp] at this; exact this
    have hE : Blk ((w.alloc (.cells #[.int .i64 0] 28)).alloc (.cells #[.string s, .int .i64 0] 127)) w.heap.size #[.int .i64 0] 28 := (Blk.new w #[.int .i64 0] 28).alloc _
    have hk : Kb (fun _ => False) w ((w.alloc (.cells #[.int .i64 0] 28)).alloc (.cells #[.string s, .int .i64 0] 127)) := ((Kb.refl _ _).alloc _).alloc _
    have hsz : ((w.alloc (.cells #[.int .i64 0] 28)).alloc (.cells #[.string s, .int .i64 0] 127)).heap.size = w.heap.size + 2 := by simp
    generalize (w.alloc (.cells #[.int .i64 0] 28)).alloc (.cells #[.string s, .int .i64 0] 127) = u at *
    refine (h (w.heap.size + 1) u hR (by omega) hk).mono ?_
    rintro e u' ⟨hq, hk'⟩
    have hE' : Blk u' w.heap.size #[.int .i64 0] 28 := hE.kb hk' (by
      rintro (hs | hs)
      · have := hS _ hs; omega
      · omega)
    have hkw : Kb S w u' := ⟨hk'.os.trans hk.os, hk'.tape.trans hk.tape, hk'.output.trans hk.output, Nat.le_trans hk.size hk'.size, fun k hk1 hs =>
      (hk'.block k (by omega) (by rintro (h1 | h1); exact hs h1; omega)).trans (hk.block k hk1 (fun f => f))⟩
    rcases hq with ⟨rfl, hq⟩ | ⟨k, rfl, hq⟩
    · exact ⟨hE', Or.inl ⟨rfl, hq, hkw⟩⟩
    · exact ⟨hE', Or.inr ⟨k, rfl, hq, hkw⟩⟩
  · rintro e w' ⟨k, w1, rfl, ⟨hq, hkw⟩, hk⟩
    exact ⟨k, w1, rfl, hq, hkw, hk⟩

end Go.Proofs.Ytoijomdgcgbpbaa

/-
  Numbers and pieces of texts, there and back. Plain: no Go function is walked here.
-/
namespace Go.Proofs.Ytoijomdgcgbpbaa
open Go.RowKit
set_option linter.unusedVariables false

theorem be_snoc (n z : Nat) : be n (z + 1) = be (n / 256) z ++ [UInt8.ofNat (n % 256)] := by
  unfold be
  rw [List.range_succ, List.map_append]
  congr 1
  · apply List.map_congr_left
    intro i hi
    have hi' : i < z := List.mem_range.1 hi
    have : z + 1 - 1 - i = (z - 1 - i) + 1 := by omega
    rw [this, Nat.pow_succ, Nat.mul_comm, ← Nat.div_div_eq_div_mul]
  · simp
theorem val_be (n : Nat) : ∀ z, val (be n z) = n % 256 ^ z := by
  intro z
  induction z generalizing n with
  | zero => simp [be, val, Nat.mod_one]
  | succ z ih =>
    have h2 : n % 256 ^ (z + 1) = 256 * (n / 256 % 256 ^ z) + n % 256 := by
      rw [Nat.pow_succ, Nat.mul_comm (256 ^ z) 256, Nat.mod_mul]
      omega
    rw [be_snoc, val_snoc, ih, UInt8.toNat_ofNat', h2]
    omega
theorem be_val : ∀ (k : Nat) (l : List UInt8), l.length = k → be (val l) k = l := by
  intro k
  induction k with
  | zero => intro l h; rw [List.length_eq_zero_iff.1 h]; rfl
  | succ k ih =>
    intro l h
    have hne : l ≠ [] := by intro e; simp [e] at h
    have hl := List.dropLast_concat_getLast hne
    have hd : l.dropLast.length = k := by simp [h]
    have hlt := (l.getLast hne).toNat_lt
    have hv : val l = val l.dropLast * 256 + (l.getLast hne).toNat := by rw [← val_snoc, hl]
    rw [be_snoc, hv, show (val l.dropLast * 256 + (l.getLast hne).toNat) / 256 = val l.dropLast by omega, show (val l.dropLast * 256 + (l.getLast hne).toNat) % 256 = (l.getLast hne).toNat by omega, ih _ hd, UInt8.ofNat_toNat]
    exact hl
/-- A piece of a text. -/
theorem seg {L a b c : List UInt8} {i j : Nat} (h : L = a ++ (b ++ c)) (ha : a.length = i) (hb : i + b.length = j) : (L.take j).drop i = b := by
  subst h ha hb
  rw [← List.append_assoc, List.take_left' (by simp), List.drop_left' rfl]
theorem num_seg {p : ByteArray} {a b c : List UInt8} {i k n : Nat} (h : p.data.toList = a ++ (b ++ c)) (ha : a.length = i) (hb : b = be n k) (hn : n < 256 ^ k) : numOf p i k = n := by
  unfold numOf
  rw [extract_list, seg h ha (by rw [hb, be_length]), hb, val_be, Nat.mod_eq_of_lt hn]
theorem text_seg {p s : ByteArray} {a c : List UInt8} {i j : Nat} (h : p.data.toList = a ++ (s.data.toList ++ c)) (ha : a.length = i) (hb : i + s.size = j) : p.extract i j = s := by
  apply text_ext
  rw [extract_list]
  exact seg h ha (by simpa using hb)
theorem list_text (l : List UInt8) : (⟨l.toArray⟩ : ByteArray).data.toList = l := rfl
theorem be_size (n k : Nat) : (⟨(be n k).toArray⟩ : ByteArray).size = k := by rw [list_size, be_length]
theorem numOf_one (p : ByteArray) (i : Nat) (h : i < p.size) : numOf p i 1 = p[i].toNat := by
  unfold numOf
  have e : (p.extract i (i + 1)).data.toList = [p[i]] := by
    rw [extract_list, List.take_succ_eq_append_getElem (by simpa using h), List.drop_left' (by simp; omega)]
    rfl
  rw [e]
  simp [val]
/-- A text from one place to another one. -/
def sl (p : ByteArray) (i j : Nat) : List UInt8 := (p.data.toList.take j).drop i
theorem sl_ext (p : ByteArray) (i j : Nat) : (p.extract i j).data.toList = sl p i j := extract_list p i j
theorem sl_length (p : ByteArray) (i j : Nat) (h : i ≤ j) (hj : j ≤ p.size) : (sl p i j).length = j - i := by
  unfold sl
  simp only [List.length_drop, List.length_take, Array.length_toList, ByteArray.size_data]
  omega
theorem sl_join (p : ByteArray) (i j k : Nat) (h : i ≤ j) (hk : j ≤ k) : sl p i j ++ sl p j k = sl p i k := by
  unfold sl
  have e : (p.data.toList.take j) = (p.data.toList.take k).take j := by rw [List.take_take, Nat.min_eq_left hk]
  rw [e]
  generalize p.data.toList.take k = M
  have : M.drop i = (M.take j).drop i ++ M.drop j := by
    have h1 : M = M.take j ++ M.drop j := (List.take_append_drop j M).symm
    by_cases hl : j ≤ M.length
    · conv => lhs; rw [h1]
      rw [List.drop_append_of_le_length (by simp; omega)]
    · rw [List.take_of_length_le (by omega), List.drop_of_length_le (i := j) (by omega), List.append_nil]
  rw [this]
theorem sl_all (p : ByteArray) (i : Nat) : sl p i p.size = p.data.toList.drop i := by
  unfold sl; rw [List.take_of_length_le (by simp)]
theorem be_num (p : ByteArray) (i k : Nat) (h : i + k ≤ p.size) : be (numOf p i k) k = sl p i (i + k) := by
  unfold numOf
  rw [sl_ext]
  exact be_val k _ (by rw [sl_length p i (i + k) (by omega) h]; omega)
theorem one_sl (p : ByteArray) (i : Nat) (h : i < p.size) : sl p i (i + 1) = [p[i]] := by
  unfold sl
  rw [List.take_succ_eq_append_getElem (by simpa using h), List.drop_left' (by simp; omega)]
  rfl
theorem num_1 (p : ByteArray) (i : Nat) (h : i < p.size) : numOf p i 1 = p[i].toNat := by
  unfold numOf
  rw [sl_ext, one_sl p i h]
  simp [val]
theorem num_2 (p : ByteArray) (i : Nat) (h : i + 1 < p.size) : numOf p i 2 = p[i].toNat * 256 + p[i + 1].toNat := by
  unfold numOf
  rw [sl_ext, ← sl_join p i (i + 1) (i + 2) (by omega) (by omega), one_sl p i (by omega), one_sl p (i + 1) h]
  simp [val]
theorem val_append (a b : List UInt8) : val (a ++ b) = val a * 256 ^ b.length + val b := by
  have key : ∀ n (b : List UInt8), b.length = n → val (a ++ b) = val a * 256 ^ b.length + val b := by
    intro n
    induction n with
    | zero => intro b h; rw [List.length_eq_zero_iff.1 h]; simp [val_nil]
    | succ n ih =>
      intro b h
      have hne : b ≠ [] := by intro e; simp [e] at h
      have hd : b.dropLast.length = n := by simp [h]
      have hl := List.dropLast_concat_getLast hne
      have e := ih b.dropLast hd
      rw [← hl, ← List.append_assoc, val_snoc, val_snoc, e, List.length_append, List.length_singleton, Nat.pow_succ, Nat.add_mul, Nat.mul_assoc]
      omega
  exact key b.length b rfl
/-- Texts whose first bytes are the same. -/
theorem same_sl {p q : ByteArray} {n i j : Nat} (h : q.data.toList.take n = p.data.toList.take n) (hj : j ≤ n) : sl q i j = sl p i j := by
  unfold sl
  have e1 : q.data.toList.take j = (q.data.toList.take n).take j := by rw [List.take_take, Nat.min_eq_left hj]
  have e2 : p.data.toList.take j = (p.data.toList.take n).take j := by rw [List.take_take, Nat.min_eq_left hj]
  rw [e1, e2, h]
theorem same_num {p q : ByteArray} {n i k : Nat} (h : q.data.toList.take n = p.data.toList.take n) (hj : i + k ≤ n) : numOf q i k = numOf p i k := by
  unfold numOf
  rw [sl_ext, sl_ext, same_sl h hj]
theorem same_ext {p q : ByteArray} {n i j : Nat} (h : q.data.toList.take n = p.data.toList.take n) (hj : j ≤ n) : q.extract i j = p.extract i j := by
  apply text_ext
  rw [sl_ext, sl_ext, same_sl h hj]
/-- A number's first byte, and the others. -/
theorem num_first (p : ByteArray) (k : Nat) (h : k < p.size) : numOf p 0 (k + 1) = (p[0]'(by omega)).toNat * 256 ^ k + numOf p 1 k := by
  have e : numOf p 0 (k + 1) = val (sl p 0 (k + 1)) := by unfold numOf; rw [sl_ext, Nat.zero_add]
  have e1 : numOf p 1 k = val (sl p 1 (1 + k)) := by unfold numOf; rw [sl_ext]
  have hl := sl_length p 1 (1 + k) (by omega) (by omega)
  have ho := one_sl p 0 (by omega)
  rw [Nat.zero_add] at ho
  rw [e, e1, ← sl_join p 0 1 (k + 1) (by omega) (by omega), ho, Nat.add_comm k 1, val_append, hl]
  simp [val]
/-- Equal behind a place. -/
theorem tail_ext {p q : ByteArray} {m i : Nat} (hz : q.size = p.size) (h : q.data.toList.drop m = p.data.toList.drop m) (hi : m ≤ i) (j : Nat) : q.extract i j = p.extract i j := by
  apply text_ext
  rw [sl_ext, sl_ext]
  unfold sl
  have e : ∀ (l : List UInt8), (l.take j).drop i = ((l.drop m).take (j - m)).drop (i - m) := by
    intro l
    rw [List.take_drop, List.drop_drop]
    by_cases hj : m ≤ j
    · rw [show m + (j - m) = j by omega, show m + (i - m) = i by omega]
    · rw [List.drop_eq_nil_of_le (by rw [List.length_take]; omega), List.drop_eq_nil_of_le (by rw [List.length_take]; omega)]
  rw [e, e, h]

end Go.Proofs.Ytoijomdgcgbpbaa

/-
  The document's number of bytes: palanquinref01.Value.
-/
namespace Go.Proofs.Ytoijomdgcgbpbaa
open Go.RowKit
set_option linter.unusedVariables false

theorem val_step (t : ByteArray) (q : Nat) (hq : q < t.size) (h8 : t.size ≤ 8) :
    IntKind.u64.wrap (IntKind.u64.wrap (((val (t.data.toList.take q) : Nat) : Int) * 256) + IntKind.u64.wrap ((t[q]'hq).toNat : Int)) = ((val (t.data.toList.take (q + 1)) : Nat) : Int) := by
  have h1 := val_lt q (t.data.toList.take q) (by simp; omega)
  have h2 := pow256 q (by omega)
  have h3 := (t[q]'hq).toNat_lt
  have e : val (t.data.toList.take (q + 1)) = val (t.data.toList.take q) * 256 + (t[q]'hq).toNat := by
    rw [List.take_succ_eq_append_getElem (by simpa using hq), val_snoc]; rfl
  rw [e, wrap_u64 ((t[q]'hq).toNat : Int) (by omega) (by omega), wrap_u64 (((val (t.data.toList.take q) : Nat) : Int) * 256) (by omega) (by omega), wrap_u64 _ (by omega) (by omega)]
  omega
set_option maxHeartbeats 400000 in
theorem value_any (t : ByteArray) (w : World) (ht : t.size ≤ 8) :
    Calls Try.prog 67 #[.string t] w fun e w' => e = .returned (.int .u64 (val t.data.toList)) ∧ w = w' := by
  go_enter Try.func67, Try.ntmps67
  go_wp2_with fail
  go_loop [3, 4] (fun n i => ∃ q : Nat, q ≤ t.size ∧ i = .int .i64 q ∧ n = .int .u64 (val (t.data.toList.take q))) (fun _ i => t.size - (intOf i).toNat)
  case atStart => exact ⟨0, Nat.zero_le _, rfl, rfl⟩
  case round =>
    obtain ⟨q, hq, rfl, rfl⟩ := hrel
    by_cases hlt : q < t.size
    · have HV := Lib.hid (val_step t q hlt ht)
      go_wp2
      exact ⟨⟨q + 1, by omega, by go_num, by rw [HV.out]⟩, by simp [intOf]; omega⟩
    · have hkl := Lib.hid (show t.data.toList.take q = t.data.toList from List.take_of_length_le (by simp; exact Nat.le_of_not_lt hlt))
      go_wp2
      go_ret
      exact ⟨by rw [hkl.out]; rfl, rfl⟩
theorem value_num (s : ByteArray) (i z : Nat) (w : World) (hi : i + z ≤ s.size) (hz : z ≤ 8) :
    Calls Try.prog 67 #[.string (s.extract i (i + z))] w fun e w' => e = .returned (.int .u64 (numOf s i z)) ∧ w = w' :=
  value_any (s.extract i (i + z)) w (by rw [ByteArray.size_extract]; omega)

end Go.Proofs.Ytoijomdgcgbpbaa
