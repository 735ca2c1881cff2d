/-
  TcpWalks returns true at every input.
-/
import Derived.Test.YthfelnocdeknaaaTcpAwake
namespace Go.Proofs.Ythfelnocdeknaaa
open Go.RowKit
set_option linter.unusedVariables false

theorem mN_map {A B : Option (Nat × Nat)} (h : A.map (·.1) = B.map (·.1)) : mN A = mN B ∧ A.isSome = B.isSome := by
  cases A <;> cases B <;> simp_all [mN]
theorem mN_moved (A : Option (Nat × Nat)) (k : Nat) : mN (A.map (movedM k)) = mN A ∧ (A.map (movedM k)).isSome = A.isSome := by
  cases A <;> simp [mN, movedM]
theorem mss_le {l : List UInt8} {n q : Nat} (hm : mssL l = some (n, q)) : q ≤ l.length := by
  have hr : rightL l = true := by
    cases h : rightL l with
    | true => rfl
    | false => rw [mssL_none h] at hm; cases hm
  rw [mssL_right hr] at hm
  obtain ⟨pre, x, y, post, e, hq, _⟩ := (stands _ hr 0 n q hm).at_
  rw [e]
  simp only [List.length_append, List.length_cons]
  omega
/-- Has a text a byte 0 among its first? -/
def ends (a : ByteArray) (i : Nat) : Bool := (a.data.toList.take i).any (· == 0)
theorem ends_zero (a : ByteArray) : ends a 0 = false := by simp [ends]
theorem ends_succ {a : ByteArray} {i : Nat} (h : i < a.size) : ends a (i + 1) = (ends a i || ((a[i]'h).toNat == 0)) := by
  unfold ends
  rw [List.take_succ_eq_append_getElem (by simpa using h), List.any_append]
  congr 1
  simp only [List.any_cons, List.any_nil, Bool.or_false]
  show ((a[i]'h) == 0) = ((a[i]'h).toNat == 0)
  rw [Bool.eq_iff_iff]
  simp only [beq_iff_eq]
  exact ⟨fun e => by rw [e]; rfl, fun e => UInt8.toNat_inj.1 e⟩
theorem ends_not {a : ByteArray} (h : ends a a.size = false) : ∀ c ∈ a.data.toList, c ≠ 0 := by
  intro c hc e
  unfold ends at h
  rw [List.take_of_length_le (by simp)] at h
  have := List.any_eq_false.1 h c hc
  subst e
  exact this rfl

/-- What the three texts tell, by what the two do. -/
structure Walked (a b junk : ByteArray) : Prop where
  right1 : rightL ((⟨#[1]⟩ : ByteArray) ++ a).data.toList = true
  mss1 : mssL ((⟨#[1]⟩ : ByteArray) ++ a).data.toList = (mssL a.data.toList).map (movedM 1)
  right2 : rightL (a ++ ⟨#[0]⟩ ++ junk).data.toList = true
  mss2 : mssL (a ++ ⟨#[0]⟩ ++ junk).data.toList = mssL a.data.toList
  both : ends a a.size = false → rightL (a ++ b).data.toList = true ∧ (mssL (a ++ b).data.toList).map (·.1) = ((mssL a.data.toList).or (mssL b.data.toList)).map (·.1)
theorem walked {a b : ByteArray} (junk : ByteArray) (ha : rightL a.data.toList = true) (hb : rightL b.data.toList = true) : Walked a b junk := by
  have e1 : ((⟨#[1]⟩ : ByteArray) ++ a).data.toList = 1 :: a.data.toList := by rw [cat_list]; rfl
  have e2 : (a ++ ⟨#[0]⟩ ++ junk).data.toList = a.data.toList ++ 0 :: junk.data.toList := by rw [cat_list, cat_list]; simp
  refine ⟨?_, ?_, ?_, ?_, fun h => ?_⟩
  · rw [e1, (one_ahead _).1]; exact ha
  · rw [e1, (one_ahead _).2]
  · rw [e2]; exact (ended_behind ha _).1
  · rw [e2]; exact (ended_behind ha _).2
  · rw [cat_list]; exact joined ha hb (ends_not h)

set_option maxRecDepth 100000 in
set_option maxHeartbeats 4000000 in
theorem walks_any (a b junk : ByteArray) (w : World) (h1 : a.size ≤ 140737488355328) (h2 : b.size ≤ 140737488355328) (h3 : junk.size ≤ 140737488355328) :
    Calls Try.prog 7 #[.string a, .string b, .string junk] w (AwakeEnd w) := by
  have HA := Lib.hid (awake7_any w)
  have RA := Lib.hid (fun W => right_call a W (by unfold maxLen; omega))
  have RB := Lib.hid (fun W => right_call b W (by unfold maxLen; omega))
  go_enter Try.func7, Try.ntmps7
  go_wp2_with fail
  refine HA.out.mono ?_
  rintro e w1 ⟨rfl, hb1⟩
  have B1 := Lib.hid hb1
  clear hb1 HA
  by_cases k1 : a.size ≤ 500
  case neg =>
    have t1 : decide ((500 : Int) < (a.size : Int)) = true := by simp; omega
    go_wp2_with fail
    go_ret
    exact ⟨rfl, B1.out⟩
  have t1 : decide ((500 : Int) < (a.size : Int)) = false := by simp; omega
  by_cases k2 : b.size ≤ 500
  case neg =>
    have t2 : decide ((500 : Int) < (b.size : Int)) = true := by simp; omega
    go_wp2_with fail
    go_ret
    exact ⟨rfl, B1.out⟩
  have t2 : decide ((500 : Int) < (b.size : Int)) = false := by simp; omega
  by_cases k3 : junk.size ≤ 500
  case neg =>
    have t3 : decide ((500 : Int) < (junk.size : Int)) = true := by simp; omega
    go_wp2_with fail
    go_ret
    exact ⟨rfl, B1.out⟩
  have t3 : decide ((500 : Int) < (junk.size : Int)) = false := by simp; omega
  go_wp2_with fail
  refine (RA.out _).mono ?_
  rintro e w2 ⟨rfl, hb2⟩
  have B2 := Lib.hid (B1.out.trans (hb2.mono B1.out.size))
  clear hb2 B1 RA
  cases hra : rightL a.data.toList with
  | false =>
    go_wp2_with fail
    go_ret
    exact ⟨rfl, B2.out⟩
  | true =>
    go_wp2_with fail
    refine (RB.out _).mono ?_
    rintro e w3 ⟨rfl, hb3⟩
    have B3 := Lib.hid (B2.out.trans (hb3.mono B2.out.size))
    clear hb3 B2 RB
    cases hrb : rightL b.data.toList with
    | false =>
      go_wp2_with fail
      go_ret
      exact ⟨rfl, B3.out⟩
    | true =>
      have WK := Lib.hid (walked junk hra hrb)
      have MA := Lib.hid (fun W => mss_call a W (by unfold maxLen; omega))
      unfold MssEnd at MA
      obtain ⟨X1, hX1⟩ : ∃ X, (⟨#[1]⟩ : ByteArray) ++ a = X := ⟨_, rfl⟩
      have hX1s : X1.size ≤ 600 := by rw [← hX1, cat_size]; show 1 + a.size ≤ 600; omega
      obtain ⟨X2, hX2⟩ : ∃ X, a ++ ⟨#[0]⟩ ++ junk = X := ⟨_, rfl⟩
      have hX2s : X2.size ≤ 1600 := by rw [← hX2, cat_size, cat_size]; show a.size + 1 + junk.size ≤ 1600; omega
      obtain ⟨X3, hX3⟩ : ∃ X, a ++ b = X := ⟨_, rfl⟩
      have hX3s : X3.size ≤ 1000 := by rw [← hX3, cat_size]; omega
      have M1 := Lib.hid (fun W => mss_call X1 W (by unfold maxLen; omega))
      have M2 := Lib.hid (fun W => mss_call X2 W (by unfold maxLen; omega))
      have M3 := Lib.hid (fun W => mss_call X3 W (by unfold maxLen; omega))
      have MB := Lib.hid (fun W => mss_call b W (by unfold maxLen; omega))
      have R1 := Lib.hid (fun W => right_call X1 W (by unfold maxLen; omega))
      have R2 := Lib.hid (fun W => right_call X2 W (by unfold maxLen; omega))
      have R3 := Lib.hid (fun W => right_call X3 W (by unfold maxLen; omega))
      unfold MssEnd at M1 M2 M3 MB
      have q1 := WK.out.right1
      have q2 := WK.out.mss1
      have q3 := WK.out.right2
      have q4 := WK.out.mss2
      have q5 := Lib.hid WK.out.both
      rw [hX1] at q1 q2
      rw [hX2] at q3 q4
      rw [hX3] at q5
      rw [q2] at M1
      rw [q1] at R1
      rw [q3] at R2
      rw [q4] at M2
      clear q1 q2 q3 q4 WK hra hrb
      have hle := Lib.hid (fun n q (h : mssL a.data.toList = some (n, q)) => mss_le h)
      generalize mssL a.data.toList = A at *
      generalize mssL b.data.toList = B at *
      have hc1 : ¬ (9223372036854775807 < (⟨#[1]⟩ : ByteArray).size + a.size) := by show ¬ (9223372036854775807 < 1 + a.size); omega
      cases A with
      | none =>
        simp only [mN, mA, Option.isSome, Option.map, Option.none_or] at MA M1 M2 q5
        go_wp2_with fail
        refine (MA.out _).mono ?_
        rintro e w4 ⟨rfl, hb4⟩
        have B4 := Lib.hid (B3.out.trans (hb4.mono B3.out.size))
        clear hb4 B3 MA
        go_wp2_with fail
        refine (M1.out _).mono ?_
        rintro e w5 ⟨rfl, hb5⟩
        have B5 := Lib.hid (B4.out.trans (hb5.mono B4.out.size))
        clear hb5 B4 M1
        go_wp2_with fail
        refine (R1.out _).mono ?_
        rintro e w6 ⟨rfl, hb6⟩
        have B6 := Lib.hid (B5.out.trans (hb6.mono B5.out.size))
        clear hb6 B5 R1
        go_wp2_with fail
        refine (M2.out _).mono ?_
        rintro e w7 ⟨rfl, hb7⟩
        have B7 := Lib.hid (B6.out.trans (hb7.mono B6.out.size))
        clear hb7 B6 M2
        go_wp2_with fail
        refine (R2.out _).mono ?_
        rintro e w8 ⟨rfl, hb8⟩
        have B8 := Lib.hid (B7.out.trans (hb8.mono B7.out.size))
        clear hb8 B7 R2
        go_wp2_with fail
        go_loop [16, 17] (fun x i => ∃ q : Nat, q ≤ a.size ∧ i = .int .i64 q ∧ x = .bool (ends a q)) (fun _ i => a.size - (intOf i).toNat)
        case atStart => exact ⟨0, Nat.zero_le _, rfl, by rw [ends_zero]⟩
        case round =>
          obtain ⟨q, hq, rfl, rfl⟩ := hrel
          by_cases hlt : q < a.size
          · have HE := Lib.hid (ends_succ hlt)
            cases hz : ((a[q]'hlt).toNat == 0) with
            | true =>
              rw [hz, Bool.or_true] at HE
              have tz : ((((a[q]'hlt).toNat : Nat) : Int) == 0) = true := by simp; simpa using hz
              clear hz
              go_wp2
              exact ⟨⟨q + 1, by omega, by go_num, by rw [HE.out]⟩, by simp [intOf]; omega⟩
            | false =>
              rw [hz, Bool.or_false] at HE
              have tz : ((((a[q]'hlt).toNat : Nat) : Int) == 0) = false := by simp; simpa using hz
              clear hz
              go_wp2
              exact ⟨⟨q + 1, by omega, by go_num, by rw [HE.out]⟩, by simp [intOf]; omega⟩
          · obtain rfl : q = a.size := by omega
            cases he : ends a a.size with
            | true =>
              go_wp2_with fail
              go_ret
              exact ⟨rfl, B8.out⟩
            | false =>
              have q6 := q5.out he
              have q7 := mN_map q6.2
              rw [q7.1, q7.2] at M3
              rw [q6.1] at R3
              skip
              clear q5 q6 q7
              go_wp2_with fail
              refine (M3.out _).mono ?_
              rintro e w9 ⟨rfl, hb9⟩
              have B9 := Lib.hid (B8.out.trans (hb9.mono B8.out.size))
              clear hb9 M3
              go_wp2_with fail
              refine (MB.out _).mono ?_
              rintro e w10 ⟨rfl, hb10⟩
              have B10 := Lib.hid (B9.out.trans (hb10.mono B9.out.size))
              clear hb10 B9 MB
              skip
              go_wp2_with fail
              refine (R3.out _).mono ?_
              rintro e w11 ⟨rfl, hb11⟩
              have B11 := Lib.hid (B10.out.trans (hb11.mono B10.out.size))
              clear hb11 B10 R3
              go_wp2_with fail
              go_ret
              exact ⟨by simp, B11.out⟩
      | some v =>
        obtain ⟨n, q0⟩ := v
        have hq0 : q0 ≤ 500 := by have := hle.out n q0 rfl; simp at this; omega
        clear hle
        simp only [mN, mA, Option.isSome, Option.map, movedM] at MA M1 M2
        go_wp2_with fail
        refine (MA.out _).mono ?_
        rintro e w4 ⟨rfl, hb4⟩
        have B4 := Lib.hid (B3.out.trans (hb4.mono B3.out.size))
        clear hb4 B3 MA
        go_wp2_with fail
        refine (M1.out _).mono ?_
        rintro e w5 ⟨rfl, hb5⟩
        have B5 := Lib.hid (B4.out.trans (hb5.mono B4.out.size))
        clear hb5 B4 M1
        go_wp2_with fail
        refine (R1.out _).mono ?_
        rintro e w6 ⟨rfl, hb6⟩
        have B6 := Lib.hid (B5.out.trans (hb6.mono B5.out.size))
        clear hb6 B5 R1
        go_wp2_with fail
        refine (M2.out _).mono ?_
        rintro e w7 ⟨rfl, hb7⟩
        have B7 := Lib.hid (B6.out.trans (hb7.mono B6.out.size))
        clear hb7 B6 M2
        go_wp2_with fail
        refine (R2.out _).mono ?_
        rintro e w8 ⟨rfl, hb8⟩
        have B8 := Lib.hid (B7.out.trans (hb8.mono B7.out.size))
        clear hb8 B7 R2
        go_wp2_with fail
        go_loop [16, 17] (fun x i => ∃ q : Nat, q ≤ a.size ∧ i = .int .i64 q ∧ x = .bool (ends a q)) (fun _ i => a.size - (intOf i).toNat)
        case atStart => exact ⟨0, Nat.zero_le _, rfl, by rw [ends_zero]⟩
        case round =>
          obtain ⟨q, hq, rfl, rfl⟩ := hrel
          by_cases hlt : q < a.size
          · have HE := Lib.hid (ends_succ hlt)
            cases hz : ((a[q]'hlt).toNat == 0) with
            | true =>
              rw [hz, Bool.or_true] at HE
              have tz : ((((a[q]'hlt).toNat : Nat) : Int) == 0) = true := by simp; simpa using hz
              clear hz
              go_wp2
              exact ⟨⟨q + 1, by omega, by go_num, by rw [HE.out]⟩, by simp [intOf]; omega⟩
            | false =>
              rw [hz, Bool.or_false] at HE
              have tz : ((((a[q]'hlt).toNat : Nat) : Int) == 0) = false := by simp; simpa using hz
              clear hz
              go_wp2
              exact ⟨⟨q + 1, by omega, by go_num, by rw [HE.out]⟩, by simp [intOf]; omega⟩
          · obtain rfl : q = a.size := by omega
            cases he : ends a a.size with
            | true =>
              go_wp2_with fail
              go_ret
              exact ⟨rfl, B8.out⟩
            | false =>
              have q6 := q5.out he
              have q7 := mN_map q6.2
              rw [q7.1, q7.2] at M3
              rw [q6.1] at R3
              simp only [Option.some_or, mN, Option.isSome] at M3
              clear q5 q6 q7
              go_wp2_with fail
              refine (M3.out _).mono ?_
              rintro e w9 ⟨rfl, hb9⟩
              have B9 := Lib.hid (B8.out.trans (hb9.mono B8.out.size))
              clear hb9 M3
              go_wp2_with fail
              refine (MB.out _).mono ?_
              rintro e w10 ⟨rfl, hb10⟩
              have B10 := Lib.hid (B9.out.trans (hb10.mono B9.out.size))
              clear hb10 B9 MB
              skip
              go_wp2_with fail
              refine (R3.out _).mono ?_
              rintro e w11 ⟨rfl, hb11⟩
              have B11 := Lib.hid (B10.out.trans (hb11.mono B10.out.size))
              clear hb11 B10 R3
              go_wp2_with fail
              go_ret
              exact ⟨by simp, B11.out⟩

end Go.Proofs.Ythfelnocdeknaaa
