/-
  The reader's numbers: of one, two, four and eight bytes.
-/
import Derived.Test.YtcalpkdgpiebmaaRd
import Derived.Lib.ConvBytes
namespace Go.Proofs.Ytcalpkdgpiebmaa
open Go.RowKit
set_option linter.unusedVariables false

/-- A number of bytes, its highest one first. -/
def val (l : List UInt8) : Nat := l.foldl (fun n c => n * 256 + c.toNat) 0
theorem val_nil : val [] = 0 := rfl
theorem val_snoc (l : List UInt8) (c : UInt8) : val (l ++ [c]) = val l * 256 + c.toNat := by simp [val]
theorem val_lt : ∀ (n : Nat) (l : List UInt8), l.length = n → val l < 256 ^ n := by
  intro n
  induction n with
  | zero => intro l h; rw [List.length_eq_zero_iff.1 h]; simp [val_nil]
  | succ n ih =>
    intro l h
    have hne : l ≠ [] := by intro e; simp [e] at h
    rw [← List.dropLast_concat_getLast hne, val_snoc, Nat.pow_succ]
    have h1 := ih l.dropLast (by simp [h])
    have h2 := (l.getLast hne).toNat_lt
    omega

theorem wrap_u64 (n : Int) (h0 : 0 ≤ n) (h : n < 18446744073709551616) : IntKind.u64.wrap n = n := by
  have e : n % (2 ^ IntKind.u64.bits : Int) = n := Int.emod_eq_of_lt h0 (by show n < (2 : Int) ^ 64; omega)
  simp [IntKind.wrap, e, IntKind.signed]
theorem or_step (v c : Nat) (hv : v < 72057594037927936) (hc : c < 256) :
    bits .or .u64 (IntKind.u64.wrap ((v : Int) * 256)) (IntKind.u64.wrap (c : Int)) = ((v * 256 + c : Nat) : Int) := by
  rw [wrap_u64 _ (by omega) (by omega), wrap_u64 _ (by omega) (by omega)]
  rw [show ((v : Int) * 256) = ((v * 256 : Nat) : Int) from by omega, u64_or_nat _ _ (by omega) (by omega)]
  congr 1
  have := Nat.shiftLeft_add_eq_or_of_lt (i := 8) (b := c) (by omega) v
  rw [Nat.shiftLeft_eq] at this
  exact this.symm

theorem pow256 (n : Nat) (h : n < 8) : 256 ^ n ≤ 72057594037927936 := by
  have := Nat.pow_le_pow_right (n := 256) (by omega) (show n ≤ 7 by omega)
  exact this

/-- One round: one byte more. -/
theorem val_round (t : ByteArray) (q : Nat) (hq : q < t.size) (h8 : t.size ≤ 8) :
    bits .or .u64 (IntKind.u64.wrap (((val (t.data.toList.take q) : Nat) : Int) * 256)) (IntKind.u64.wrap (t.data[q].toNat : Int)) = ((val (t.data.toList.take (q + 1)) : Nat) : Int) := by
  have h1 := val_lt q (t.data.toList.take q) (by simp; omega)
  have h2 := pow256 q (by omega)
  rw [or_step _ _ (by omega) t.data[q].toNat_lt, List.take_succ_eq_append_getElem (by simpa using hq), val_snoc]
  simp

/-- The number of k bytes that stands at i. -/
def numOf (s : ByteArray) (i k : Nat) : Nat := val (s.extract i (i + k)).data.toList
theorem ret_u64 {a b : Nat} (h : a = b) : Ending.returned (.int .u64 (a : Int)) = .returned (.int .u64 (b : Int)) := by rw [h]

set_option maxHeartbeats 400000 in
theorem number_yes (b : Nat) (s : ByteArray) (i k : Nat) (w : World) (hr : Rd w b s i) (hk : k ≤ 8) (hi : i + k ≤ s.size) (hs : s.size ≤ maxLen) :
    Calls Try.prog 31 #[.pointer (some ⟨b, 0, none⟩), .int .i64 k] w fun e w' => e = .returned (.int .u64 (numOf s i k)) ∧ Rd w' b s (i + k) ∧ Kb (· = b) w w' := by
  have hcv := fun (W : World) (t : ByteArray) => Lib.run_convert_string_bytes (P := Try.prog) W 9 40 5 t Try.underlying9 Try.underlying40 Try.underlying5
  go_enter Try.func31, Try.ntmps31
  go_wp2_with fail
  refine (take_nat b s i k _ hr (by omega) hs).mono ?_
  rintro e w' ⟨rfl, n1, rfl⟩
  have hlt := hr.lt
  have hr1 : Rd ((w.drewN n1).setCell ⟨b, 1, none⟩ (.int .i64 ((i + k : Nat) : Int))) b s (i + k) := (hr.drewN n1).set 1 _
  have hk1 : Kb (· = b) w ((w.drewN n1).setCell ⟨b, 1, none⟩ (.int .i64 ((i + k : Nat) : Int))) := Kb.setCell (S := (· = b)) ((Kb.refl _ _).drewN n1) (p := ⟨b, 1, none⟩) (fun _ => rfl) _
  generalize (w.drewN n1).setCell ⟨b, 1, none⟩ (.int .i64 ((i + k : Nat) : Int)) = w1 at hr1 hk1 ⊢
  have hno : numOf s i k = val (s.extract i (i + k)).data.toList := rfl
  have hsz : (s.extract i (i + k)).size = k := by rw [ByteArray.size_extract]; omega
  generalize s.extract i (i + k) = t at hsz hno ⊢
  have HT := Lib.hid hno
  clear hno
  subst hsz
  have hcell := fun (j : Nat) (hj : j < t.size) => Lib.bytesWorld_cell w1 5 t j hj
  have hr2 : Rd (Lib.bytesWorld w1 5 t) b s (i + t.size) := (Lib.bytesWorld_at_old w1 5 t b hr1.lt).trans hr1
  have hk2 : Kb (· = b) w (Lib.bytesWorld w1 5 t) := hk1.trans ⟨rfl, rfl, rfl, by rw [Lib.bytesWorld_size]; omega, fun k hk _ => Lib.bytesWorld_at_old w1 5 t k hk⟩
  have HR := Lib.hid hr2
  have HK := Lib.hid hk2
  have HC := Lib.hid hcell
  clear hr2 hk2 hcell hr1 hk1 hr
  go_wp2_with fail
  generalize Lib.bytesWorld w1 5 t = W2 at *
  have ht : t.size ≤ 8 := hk
  go_loop [5, 13] (fun n j => ∃ q : Nat, q ≤ t.size ∧ j = .int .i64 q ∧ n = .int .u64 (val (t.data.toList.take q))) (fun _ j => t.size - (intOf j).toNat)
  case atStart => exact ⟨0, Nat.zero_le _, rfl, rfl⟩
  case round =>
    obtain ⟨q, hq, rfl, rfl⟩ := hrel
    by_cases hlt : q < t.size
    · have hc := HC.out q hlt
      have hv := Lib.hid (val_round t q hlt ht)
      go_wp2
      exact ⟨⟨q + 1, by omega, by go_num, by rw [hv.out]⟩, by simp [intOf]; omega⟩
    · go_wp2
      go_ret
      refine ⟨?_, HR.out, HK.out⟩
      exact ret_u64 (by rw [HT.out, List.take_of_length_le (by simp; exact Nat.le_of_not_lt hlt)])

set_option maxHeartbeats 400000 in
theorem number_no (b : Nat) (s : ByteArray) (i k : Nat) (w : World) (hr : Rd w b s i) (hi : i ≤ s.size) (hk : s.size < i + k) (hs : s.size ≤ maxLen) :
    Calls Try.prog 31 #[.pointer (some ⟨b, 0, none⟩), .int .i64 k] w fun e w' => e = .panicked (stopped 2) ∧ ∃ m, w' = w.drewN m := by
  go_enter Try.func31, Try.ntmps31
  go_wp2_with fail
  refine (take_no b s i k _ hr hi (by omega) hs).mono ?_
  rintro e w' ⟨rfl, n1, rfl⟩
  exact ⟨rfl, rfl, n1, rfl⟩

theorem numOf_lt (s : ByteArray) (i k : Nat) (h : i + k ≤ s.size) : numOf s i k < 256 ^ k :=
  val_lt k _ (by rw [Array.length_toList, ByteArray.size_data, ByteArray.size_extract]; omega)

set_option maxHeartbeats 400000 in
theorem u16_yes (b : Nat) (s : ByteArray) (i : Nat) (w : World) (hr : Rd w b s i) (hi : i + 2 ≤ s.size) (hs : s.size ≤ maxLen) :
    Calls Try.prog 28 #[.pointer (some ⟨b, 0, none⟩)] w fun e w' => e = .returned (.int .i64 (numOf s i 2)) ∧ Rd w' b s (i + 2) ∧ Kb (· = b) w w' := by
  have hlt := numOf_lt s i 2 hi
  go_enter Try.func28, Try.ntmps28
  go_wp2_with fail
  refine (number_yes b s i 2 _ hr (by omega) hi hs).mono ?_
  rintro e w' ⟨rfl, hr', hk'⟩
  go_wp2_with fail
  go_ret
  exact ⟨rfl, hr', hk'⟩
set_option maxHeartbeats 400000 in
theorem u16_no (b : Nat) (s : ByteArray) (i : Nat) (w : World) (hr : Rd w b s i) (hi : i ≤ s.size) (hk : s.size < i + 2) (hs : s.size ≤ maxLen) :
    Calls Try.prog 28 #[.pointer (some ⟨b, 0, none⟩)] w fun e w' => e = .panicked (stopped 2) ∧ ∃ m, w' = w.drewN m := by
  go_enter Try.func28, Try.ntmps28
  go_wp2_with fail
  refine (number_no b s i 2 _ hr hi hk hs).mono ?_
  rintro e w' ⟨rfl, n1, rfl⟩
  exact ⟨rfl, rfl, n1, rfl⟩
theorem wrap_u32 (n : Nat) : IntKind.u32.wrap (n : Int) = ((n % 4294967296 : Nat) : Int) := by
  simp [IntKind.wrap, IntKind.signed, IntKind.bits]

end Go.Proofs.Ytcalpkdgpiebmaa
