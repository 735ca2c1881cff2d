/-
  The document's own answers: Right, numbers by bytes, numbers of bytes.
-/
import Derived.Test.YtdljioacbpabbaaIp4Check
import Derived.Test.YtdljioacbpabbaaBytes
import Derived.Test.YtdljioacbpabbaaSumRef
import Derived.Test.YtdljioacbpabbaaRdNum
namespace Go.Proofs.Ytdljioacbpabbaa
open Go.RowKit
set_option linter.unusedVariables false

theorem in_b (n lo hi : Int) (b : Bool) (w : World) (hb : (decide (lo ≤ n) && decide (n ≤ hi)) = b) :
    Calls Try.prog 24 #[.int .i64 n, .int .i64 lo, .int .i64 hi] w fun e w' => e = .returned (.bool b) ∧ w = w' := by
  have HB := Lib.hid hb
  clear hb
  by_cases h1 : lo ≤ n
  · go_enter Try.func24, Try.ntmps24
    go_wp2_with fail
    go_ret
    exact ⟨by rw [← HB.out, decide_eq_true h1]; rfl, rfl⟩
  · go_enter Try.func24, Try.ntmps24
    go_wp2_with fail
    go_ret
    exact ⟨by rw [← HB.out, decide_eq_false (show ¬ lo ≤ n by omega)]; rfl, rfl⟩

set_option maxHeartbeats 400000 in
theorem num_any (n k : Nat) (w : World) (hn : n < 9223372036854775808) (hk : k ≤ 8) :
    Calls Try.prog 22 #[.int .i64 n, .int .i64 k] w fun e w' => e = .returned (.string ⟨(be n k).toArray⟩) ∧ Below w.heap.size w w' := by
  have hw : IntKind.u64.wrap (n : Int) = (n : Int) := wrap_u64 _ (by omega) (by omega)
  go_enter Try.func22, Try.ntmps22
  go_wp2_with fail
  refine (bytes_any n k w (by omega) hk).mono ?_
  rintro e w' ⟨rfl, hb⟩
  have HB := Lib.hid hb
  clear hb hw
  go_wp2_with fail
  go_ret
  exact ⟨rfl, HB.out⟩

theorem val_step (t : ByteArray) (q : Nat) (hq : q < t.size) (h8 : t.size ≤ 8) :
    IntKind.u64.wrap (IntKind.u64.wrap (((val (t.data.toList.take q) : Nat) : Int) * 256) + IntKind.u64.wrap ((t[q]'hq).toNat : Int)) = ((val (t.data.toList.take (q + 1)) : Nat) : Int) := by
  have h1 := val_lt q (t.data.toList.take q) (by simp; omega)
  have h2 := pow256 q (by omega)
  have h3 := (t[q]'hq).toNat_lt
  have e : val (t.data.toList.take (q + 1)) = val (t.data.toList.take q) * 256 + (t[q]'hq).toNat := by
    rw [List.take_succ_eq_append_getElem (by simpa using hq), val_snoc]; rfl
  rw [e, wrap_u64 ((t[q]'hq).toNat : Int) (by omega) (by omega), wrap_u64 (((val (t.data.toList.take q) : Nat) : Int) * 256) (by omega) (by omega), wrap_u64 _ (by omega) (by omega)]
  omega

set_option maxHeartbeats 400000 in
theorem value_any (t : ByteArray) (w : World) (ht : t.size ≤ 8) :
    Calls Try.prog 42 #[.string t] w fun e w' => e = .returned (.int .u64 (val t.data.toList)) ∧ w = w' := by
  go_enter Try.func42, Try.ntmps42
  go_wp2_with fail
  go_loop [3, 4] (fun n i => ∃ q : Nat, q ≤ t.size ∧ i = .int .i64 q ∧ n = .int .u64 (val (t.data.toList.take q))) (fun _ i => t.size - (intOf i).toNat)
  case atStart => exact ⟨0, Nat.zero_le _, rfl, rfl⟩
  case round =>
    obtain ⟨q, hq, rfl, rfl⟩ := hrel
    by_cases hlt : q < t.size
    · have HV := Lib.hid (val_step t q hlt ht)
      go_wp2
      exact ⟨⟨q + 1, by omega, by go_num, by rw [HV.out]⟩, by simp [intOf]; omega⟩
    · have hkl := Lib.hid (show t.data.toList.take q = t.data.toList from List.take_of_length_le (by simp; exact Nat.le_of_not_lt hlt))
      go_wp2
      go_ret
      exact ⟨by rw [hkl.out]; rfl, rfl⟩
theorem value_num (s : ByteArray) (i z : Nat) (w : World) (hi : i + z ≤ s.size) (hz : z ≤ 8) :
    Calls Try.prog 42 #[.string (s.extract i (i + z))] w fun e w' => e = .returned (.int .u64 (numOf s i z)) ∧ w = w' :=
  value_any (s.extract i (i + z)) w (by rw [ByteArray.size_extract]; omega)

set_option maxHeartbeats 400000 in
theorem at_num (s : ByteArray) (i : Nat) (w : World) (hi : i + 2 ≤ s.size) (hi2 : i ≤ 100) (hs : s.size ≤ 1000000) :
    Calls Try.prog 29 #[.string s, .int .i64 i, .int .i64 2] w fun e w' => e = .returned (.int .i64 (numOf s i 2 : Nat)) ∧ w = w' := by
  have hl := numOf_lt s i 2 hi
  go_enter Try.func29, Try.ntmps29
  go_wp2_with fail
  refine (value_num s i 2 w hi (by omega)).mono ?_
  rintro e w' ⟨rfl, rfl⟩
  go_wp2_with fail
  go_ret
  exact ⟨rfl, rfl⟩

theorem at_x (s : ByteArray) (m : Int) (i : Nat) (hm : m = (i : Nat)) (w : World) (hi : i + 2 ≤ s.size) (hi2 : i ≤ 100) (hs : s.size ≤ 1000000) :
    Calls Try.prog 29 #[.string s, .int .i64 m, .int .i64 2] w fun e w' => e = .returned (.int .i64 (numOf s i 2 : Nat)) ∧ w = w' := by
  subst hm; exact at_num s i w hi hi2 hs

set_option maxHeartbeats 1000000 in
theorem refright_any (h : H4) (w : World) :
    Calls Try.prog 13 #[.agg h.cells] w fun e w' => e = .returned (.bool h.ok) ∧ Below w.heap.size w w' := by
  have HL := Lib.hid ((Below.refl w.heap.size w).alloc (Nat.le_refl _) (.cells h.cells 23))
  have F0 := Lib.hid (h.ok_step 0 (by decide))
  have F1 := Lib.hid (h.ok_step 1 (by decide))
  have F2 := Lib.hid (h.ok_step 2 (by decide))
  have F3 := Lib.hid (h.ok_step 3 (by decide))
  have F4 := Lib.hid (h.ok_step 4 (by decide))
  have F5 := Lib.hid (h.ok_step 5 (by decide))
  have F6 := Lib.hid (h.ok_step 6 (by decide))
  have F7 := Lib.hid (h.ok_step 7 (by decide))
  have F8 := Lib.hid (h.ok_step 8 (by decide))
  have I0 := Lib.hid (fun b W (e : h.fine 0 = b) => in_b h.tos 0 255 b W e)
  have I1 := Lib.hid (fun b W (e : h.fine 1 = b) => in_b h.ttl 0 255 b W e)
  have I2 := Lib.hid (fun b W (e : h.fine 2 = b) => in_b h.proto 0 255 b W e)
  have I3 := Lib.hid (fun b W (e : h.fine 3 = b) => in_b h.id 0 65535 b W e)
  have I4 := Lib.hid (fun b W (e : h.fine 4 = b) => in_b h.off 0 8191 b W e)
  have E5 : Hid (((h.src.size : Int) == 4) = h.fine 5) := by
    show ((h.src.size : Int) == 4) = h.fine 5
    unfold H4.fine H4.row; simp only; rw [Bool.eq_iff_iff]; simp; try omega
  have E6 : Hid (((h.dst.size : Int) == 4) = h.fine 6) := by
    show ((h.dst.size : Int) == 4) = h.fine 6
    unfold H4.fine H4.row; simp only; rw [Bool.eq_iff_iff]; simp; try omega
  have E7 : Hid (decide ((h.opt.size : Int) ≤ 40) = h.fine 7) := by
    show decide ((h.opt.size : Int) ≤ 40) = h.fine 7
    unfold H4.fine H4.row; simp only; rw [Bool.eq_iff_iff]; simp; try omega
  have E8 : Hid (((h.opt.size : Int) % 4 == 0) = h.fine 8) := by
    show ((h.opt.size : Int) % 4 == 0) = h.fine 8
    unfold H4.fine H4.row; simp only; rw [Bool.eq_iff_iff]; simp; try omega
  have FA : Hid (h.ok = (h.fine 0 && h.fine 1 && h.fine 2 && h.fine 3 && h.fine 4 && h.fine 5 && h.fine 6 && h.fine 7 && h.fine 8)) := rfl
  generalize h.ok = ok at *
  generalize h.fine 0 = b0 at *
  generalize h.fine 1 = b1 at *
  generalize h.fine 2 = b2 at *
  generalize h.fine 3 = b3 at *
  generalize h.fine 4 = b4 at *
  generalize h.fine 5 = b5 at *
  generalize h.fine 6 = b6 at *
  generalize h.fine 7 = b7 at *
  generalize h.fine 8 = b8 at *
  unfold H4.cells at HL ⊢
  go_enter Try.func13, Try.ntmps13
  go_wp2_with fail
  refine (I0.out b0 _ rfl).mono ?_
  rintro e w' ⟨rfl, rfl⟩
  cases b0
  · have e1 := Lib.hid (F0.out rfl)
    go_wp2_with fail
    go_ret
    exact ⟨by rw [e1.out]; rfl, HL.out⟩
  go_wp2_with fail
  refine (I1.out b1 _ rfl).mono ?_
  rintro e w' ⟨rfl, rfl⟩
  cases b1
  · have e1 := Lib.hid (F1.out rfl)
    go_wp2_with fail
    go_ret
    exact ⟨by rw [e1.out]; rfl, HL.out⟩
  go_wp2_with fail
  refine (I2.out b2 _ rfl).mono ?_
  rintro e w' ⟨rfl, rfl⟩
  cases b2
  · have e1 := Lib.hid (F2.out rfl)
    go_wp2_with fail
    go_ret
    exact ⟨by rw [e1.out]; rfl, HL.out⟩
  go_wp2_with fail
  refine (I3.out b3 _ rfl).mono ?_
  rintro e w' ⟨rfl, rfl⟩
  cases b3
  · have e1 := Lib.hid (F3.out rfl)
    go_wp2_with fail
    go_ret
    exact ⟨by rw [e1.out]; rfl, HL.out⟩
  go_wp2_with fail
  refine (I4.out b4 _ rfl).mono ?_
  rintro e w' ⟨rfl, rfl⟩
  cases b4
  · have e1 := Lib.hid (F4.out rfl)
    go_wp2_with fail
    go_ret
    exact ⟨by rw [e1.out]; rfl, HL.out⟩
  have e5 := E5.out
  cases b5
  · have e1 := Lib.hid (F5.out rfl)
    go_wp2_with fail
    go_ret
    exact ⟨by rw [e1.out]; rfl, HL.out⟩
  have e6 := E6.out
  cases b6
  · have e1 := Lib.hid (F6.out rfl)
    go_wp2_with fail
    go_ret
    exact ⟨by rw [e1.out]; rfl, HL.out⟩
  have e7 := E7.out
  cases b7
  · have e1 := Lib.hid (F7.out rfl)
    go_wp2_with fail
    go_ret
    exact ⟨by rw [e1.out]; rfl, HL.out⟩
  have e8 := E8.out
  have e1 := FA
  go_wp2_with fail
  go_ret
  exact ⟨by rw [e1.out]; rfl, HL.out⟩

end Go.Proofs.Ytdljioacbpabbaa
