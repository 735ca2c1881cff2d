/-
  sizeOfFirst: how many bytes the first option has.
-/
import Derived.Test.YthfelnocdeknaaaTcpOpts
namespace Go.Proofs.Ythfelnocdeknaaa
open Go.RowKit
set_option linter.unusedVariables false

theorem szT_one {t : ByteArray} (h : 0 < t.size) (hc : (t[0]'h).toNat = 1) : sz1 t.data.toList = 1 := by
  obtain ⟨⟨l⟩⟩ := t
  match l with
  | [] => exact absurd h (by simp [ByteArray.size])
  | [c] =>
    obtain rfl : c = 1 := UInt8.toNat_inj.1 hc
    rfl
  | c :: n :: r =>
    obtain rfl : c = 1 := UInt8.toNat_inj.1 hc
    rfl
theorem szT_short {t : ByteArray} (h : 0 < t.size) (hc : (t[0]'h).toNat ≠ 1) (h2 : t.size < 2) : sz1 t.data.toList = 0 := by
  obtain ⟨⟨l⟩⟩ := t
  match l with
  | [] => rfl
  | [c] =>
    have hc' : c ≠ 1 := by rintro rfl; exact hc rfl
    simp [sz1, hc']
  | c :: n :: r => exact absurd h2 (by simp [ByteArray.size])
theorem szT_bad {t : ByteArray} (h : 1 < t.size) (hc : (t[0]'(by omega)).toNat ≠ 1) (hb : (t[1]'h).toNat < 2 ∨ t.size < (t[1]'h).toNat) : sz1 t.data.toList = 0 := by
  obtain ⟨⟨l⟩⟩ := t
  match l with
  | [] => rfl
  | [c] => exact absurd h (by simp [ByteArray.size])
  | c :: n :: r =>
    have hc' : c ≠ 1 := by rintro rfl; exact hc rfl
    have hb' : n.toNat < 2 ∨ r.length + 2 < n.toNat := hb
    simp only [sz1, if_neg hc', if_pos hb']
theorem szT_ok {t : ByteArray} (h : 1 < t.size) (hc : (t[0]'(by omega)).toNat ≠ 1) (hb : ¬ (t[1]'h).toNat < 2) (hb2 : ¬ t.size < (t[1]'h).toNat) : sz1 t.data.toList = (t[1]'h).toNat := by
  obtain ⟨⟨l⟩⟩ := t
  match l with
  | [] => exact absurd h (by simp [ByteArray.size])
  | [c] => exact absurd h (by simp [ByteArray.size])
  | c :: n :: r =>
    have hc' : c ≠ 1 := by rintro rfl; exact hc rfl
    have h1 : ¬ n.toNat < 2 := hb
    have h2 : ¬ r.length + 2 < n.toNat := hb2
    have hb' : ¬ (n.toNat < 2 ∨ r.length + 2 < n.toNat) := by omega
    simp only [sz1, if_neg hc', if_neg hb']
    rfl

theorem ret_i64 {a b : Nat} (h : a = b) : Ending.returned (.int .i64 (a : Int)) = .returned (.int .i64 (b : Int)) := by rw [h]

set_option maxHeartbeats 400000 in
theorem size_any (t : ByteArray) (w : World) (h : 0 < t.size) :
    Calls Try.prog 43 #[.string t] w fun e w' => e = .returned (.int .i64 (sz1 t.data.toList : Nat)) ∧ w' = w := by
  by_cases hc : (t[0]'h).toNat = 1
  · have HZ := Lib.hid (szT_one h hc)
    have t1 : ((((t[0]'h).toNat : Nat) : Int) == 1) = true := by simp; omega
    clear hc
    go_enter Try.func43, Try.ntmps43
    go_wp2_with fail
    go_ret
    exact ⟨by rw [HZ.out]; rfl, rfl⟩
  have t1 : ((((t[0]'h).toNat : Nat) : Int) == 1) = false := by simp; omega
  by_cases h2 : 1 < t.size
  case neg =>
    have HZ := Lib.hid (szT_short h hc (by omega))
    clear hc
    have t2 : decide ((t.size : Int) < 2) = true := by simp; omega
    go_enter Try.func43, Try.ntmps43
    go_wp2_with fail
    go_ret
    exact ⟨by rw [HZ.out]; rfl, rfl⟩
  have t2 : decide ((t.size : Int) < 2) = false := by simp; omega
  have hlt : (t[1]'h2).toNat < 256 := (t[1]'h2).toNat_lt
  by_cases hb : (t[1]'h2).toNat < 2
  · have HZ := Lib.hid (szT_bad h2 hc (Or.inl hb))
    have t3 : decide ((((t[1]'h2).toNat : Nat) : Int) < 2) = true := by simp; omega
    clear hc hb
    go_enter Try.func43, Try.ntmps43
    go_wp2_with fail
    go_ret
    exact ⟨by rw [HZ.out]; rfl, rfl⟩
  have t3 : decide ((((t[1]'h2).toNat : Nat) : Int) < 2) = false := by simp; omega
  by_cases hb2 : t.size < (t[1]'h2).toNat
  · have HZ := Lib.hid (szT_bad h2 hc (Or.inr hb2))
    have t4 : decide (t.size < (t[1]'h2).toNat) = true := by simp; omega
    clear hc hb hb2
    go_enter Try.func43, Try.ntmps43
    go_wp2_with fail
    go_ret
    exact ⟨by rw [HZ.out]; rfl, rfl⟩
  · have HZ := Lib.hid (szT_ok h2 hc hb hb2)
    have t4 : decide (t.size < (t[1]'h2).toNat) = false := by simp; omega
    clear hc hb hb2
    go_enter Try.func43, Try.ntmps43
    go_wp2_with fail
    go_ret
    exact ⟨by rw [HZ.out]; rfl, rfl⟩

end Go.Proofs.Ythfelnocdeknaaa
