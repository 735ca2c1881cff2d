/-
  Print, Number and Port: an address's text, and a text's number.
-/
import Derived.Test.YtpappmbnblaccaaDoorAddrPrint16
import Derived.OwnWalk
namespace Go.Proofs.YtpappmbnblaccaaDoor
open Go.RowKit
set_option linter.unusedVariables false

theorem print_any (a : ByteArray) (ha : IsA a.data.toList) (w : World) (hg : G17 w) : Calls Tryd.prog 18 #[.string a] w (Tells (.tuple #[.string ⟨(text a.data.toList).toArray⟩, .int .i64 0]) w) := by
  rcases ha with h | h
  · have h4 : a.size = 4 := by rw [Array.length_toList] at h; exact h
    have J := text4_any a h4 w hg
    rw [← text_4 h] at J
    go_enter Tryd.func18, Tryd.ntmps18
    go_wp2_with fail
    refine J.mono ?_
    rintro e w1 ⟨rfl, hb⟩
    go_wp2_with fail
    go_ret2
    exact ⟨rfl, hb⟩
  · have h16 : a.size = 16 := by rw [Array.length_toList] at h; exact h
    have J := text16_any a h16 w hg
    rw [← text_16 h] at J
    go_enter Tryd.func18, Tryd.ntmps18
    go_wp2_with fail
    refine J.mono ?_
    rintro e w1 ⟨rfl, hb⟩
    go_wp2_with fail
    go_ret2
    exact ⟨rfl, hb⟩
theorem print_no (a : ByteArray) (h4 : a.size ≠ 4) (h16 : a.size ≠ 16) (w : World) : Calls Tryd.prog 18 #[.string a] w (Tells (.tuple #[.string ⟨#[]⟩, .int .i64 1]) w) := by
  have t1 : ((a.size : Int) == 4) = false := by simp; omega
  have t2 : ((a.size : Int) == 16) = false := by simp; omega
  go_enter Tryd.func18, Tryd.ntmps18
  go_wp2_with fail
  go_ret2
  exact ⟨rfl, Below.refl _ _⟩

theorem decFrom_snoc : ∀ (l : List UInt8) (acc : Nat) (c : UInt8), Lib.decFrom acc (l ++ [c]) = (Lib.decFrom acc l).bind fun x => Lib.decFrom x [c]
  | [], acc, c => by simp [Lib.decFrom]
  | a :: l, acc, c => by
    rw [List.cons_append, Lib.decFrom, Lib.decFrom]
    split
    · exact decFrom_snoc l _ c
    · rfl
theorem digitVal_sg : ∀ d : Fin 10, Lib.digitVal (sg d.val) = some d.val := by decide +kernel
theorem decFrom_digs : ∀ n, Lib.decFrom 0 (digs 10 n) = some n := by
  intro n
  induction n using Nat.strongRecOn with
  | _ n ih =>
    have one : ∀ x d, d < 10 → Lib.decFrom x [sg d] = some (x * 10 + d) := by
      intro x d hd
      rw [Lib.decFrom, show Lib.digitVal (sg d) = some d from digitVal_sg ⟨d, hd⟩]
      rfl
    by_cases h : n < 10
    · rw [digs_small h]
      simpa using one 0 n h
    · rw [digs_big (by omega) (by omega), decFrom_snoc, ih _ (by omega), Option.bind_some, one _ _ (by omega)]
      congr 1; omega
theorem atoi_digs (n : Nat) (hn : n ≤ 65535) : Lib.atoiAll (digs 10 n) = .ok (n : Int) := by
  have hl := digs_length (b := 10) (by omega) 4 n (by omega)
  rw [Lib.atoiAll_short _ (by omega)]
  have hne := @digs_ne 10 n
  have hr := fun c (hc : c ∈ digs 10 n) => digs_range (by omega : 2 ≤ 10) (by omega) hc
  have hd := decFrom_digs n
  cases h : digs 10 n with
  | nil => exact absurd h hne
  | cons b r =>
    rw [h] at hr hd
    have hb := hr b (by simp)
    have e1 : (b == 45) = false := by
      rw [beq_eq_false_iff_ne]; rintro rfl; simp at hb
    have e2 : (b == 43) = false := by
      rw [beq_eq_false_iff_ne]; rintro rfl; simp at hb
    unfold Lib.atoi
    simp only [e1, e2]
    unfold Lib.decNat
    simp [hd, Lib.NumEnd.ofOption]
theorem numOf_bad {most : Nat} {s : List UInt8} (hm : most ≤ 65535) (h : ∀ n, n ≤ most → s ≠ digs 10 n) : numOf most s = none := by
  cases hs : numOf most s with
  | none => rfl
  | some n => exact absurd (numOf_some hs).2 (h n (numOf_some hs).1)

/-- What Number answers. -/
def numV (o : Option Nat) : Value := match o with
  | some n => .tuple #[.int .i64 (n : Int), .int .i64 0]
  | none => .tuple #[.int .i64 0, .int .i64 9]

theorem number_any (s : ByteArray) (most : Nat) (hm : most ≤ 65535) (hs : s.size ≤ 100000) (w : World) (hg : G17 w) : Calls Tryd.prog 48 #[.string s, .int .i64 (most : Int)] w (Tells (numV (numOf most s.data.toList)) w) := by
  go_enter Tryd.func48, Tryd.ntmps48
  go_wp2_with fail
  refine (atoi_any s hs w hg).mono ?_
  rintro e w1 ⟨⟨n, v, rfl, hn0, hn1, hv⟩, hb⟩
  have hg1 := hg.on hb
  have HB := Lib.hid hb
  clear hb
  rcases hv with ⟨rfl, hok⟩ | ⟨⟨t, p, rfl⟩, hbad⟩
  · by_cases h1 : 0 ≤ n ∧ n ≤ (most : Int)
    · obtain ⟨m, rfl⟩ : ∃ m : Nat, n = (m : Int) := ⟨n.toNat, by omega⟩
      have hmm : m ≤ most := by omega
      by_cases heq : s.data.toList = digs 10 m
      · have HN : Hid (numOf most s.data.toList = some m) := Lib.hid (by rw [heq]; exact numOf_digs hmm hm)
        have hX : (⟨(digs 10 m).toArray⟩ : ByteArray) = s := text_ext heq.symm
        have J := itoa_any m (by omega) w1 hg1
        rw [hX] at J
        clear hok heq hX
        go_wp2_with fail
        refine J.mono ?_
        rintro e w2 ⟨rfl, hb2⟩
        go_wp2_with fail
        go_ret2
        exact ⟨by rw [HN.out]; rfl, HB.out.trans (hb2.mono HB.out.size)⟩
      · have HN : Hid (numOf most s.data.toList = none) := Lib.hid (numOf_bad hm fun k hk e => by
          rw [e, atoi_digs k (by omega)] at hok
          have : (k : Int) = m := by injection hok
          obtain rfl : k = m := by omega
          exact heq e)
        obtain ⟨X, hX⟩ : ∃ X : ByteArray, X = ⟨(digs 10 m).toArray⟩ := ⟨_, rfl⟩
        have J := itoa_any m (by omega) w1 hg1
        rw [← hX] at J
        have tX : (X.toList == s.toList) = false := by
          rw [beq_eq_false_iff_ne, ByteArray.toList_eq, ByteArray.toList_eq, hX]
          exact fun e => heq e.symm
        clear hok heq hX
        go_wp2_with fail
        refine J.mono ?_
        rintro e w2 ⟨rfl, hb2⟩
        go_wp2_with fail
        go_ret2
        exact ⟨by rw [HN.out]; rfl, HB.out.trans (hb2.mono HB.out.size)⟩
    · have HN : Hid (numOf most s.data.toList = none) := Lib.hid (numOf_bad hm fun k hk e => by
        rw [e, atoi_digs k (by omega)] at hok
        have : (k : Int) = n := by injection hok
        omega)
      clear hok
      by_cases h2 : n < 0
      · clear h1
        go_wp2_with fail
        go_ret2
        exact ⟨by rw [HN.out]; rfl, HB.out⟩
      · have h3 : (most : Int) < n := by omega
        clear h1
        go_wp2_with fail
        go_ret2
        exact ⟨by rw [HN.out]; rfl, HB.out⟩
  · have HN : Hid (numOf most s.data.toList = none) := Lib.hid (numOf_bad hm fun k hk e => hbad (k : Int) (by rw [e, atoi_digs k (by omega)]))
    clear hbad
    go_wp2_with fail
    go_ret2
    exact ⟨by rw [HN.out]; rfl, HB.out⟩
theorem port_any (s : ByteArray) (hs : s.size ≤ 100000) (w : World) (hg : G17 w) : Calls Tryd.prog 36 #[.string s] w (Tells (numV (numOf 65535 s.data.toList)) w) := by
  have J := number_any s 65535 (by omega) hs w hg
  cases h : numOf 65535 s.data.toList with
  | none =>
    rw [h] at J
    unfold numV at J ⊢
    go_enter Tryd.func36, Tryd.ntmps36
    go_wp2_with fail
    refine J.mono ?_
    rintro e w2 ⟨rfl, hb2⟩
    go_wp2_with fail
    go_ret2
    exact ⟨rfl, hb2⟩
  | some n =>
    rw [h] at J
    unfold numV at J ⊢
    go_enter Tryd.func36, Tryd.ntmps36
    go_wp2_with fail
    refine J.mono ?_
    rintro e w2 ⟨rfl, hb2⟩
    go_wp2_with fail
    go_ret2
    exact ⟨rfl, hb2⟩

end Go.Proofs.YtpappmbnblaccaaDoor
