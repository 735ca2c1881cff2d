/-
  The document's example: the laws' 'awake'; and what they ask ahead.
-/
import Derived.Test.YtoijomdgcgbpbaaReasmT
import Derived.Test.YtoijomdgcgbpbaaFragC
import Derived.Test.YtoijomdgcgbpbaaGround
namespace Go.Proofs.Ytoijomdgcgbpbaa
open Go.RowKit Go.Shelf
set_option linter.unusedVariables false

def head16 : H4 := ⟨0, 0, 0, 0, 0, false, false, ⟨#[97, 98, 99, 100]⟩, ⟨#[101, 102, 103, 104]⟩, ⟨#[]⟩⟩
def load16 : ByteArray := ⟨#[48, 49, 50, 51, 52, 53, 54, 55, 56, 57, 97, 98, 99, 100, 101, 102]⟩
def packet16 : ByteArray := putS head16 load16
set_option maxRecDepth 100000 in
theorem packet16_cut : cutE packet16 28 = 0 ∧ (cutL packet16 28).map ByteArray.size = [28, 28] := by decide +kernel
set_option maxRecDepth 100000 in
theorem packet16_first : (add16 64 1048576 [] ((cutL packet16 28).getD 1 ⟨#[]⟩)).1.2 = 10 := by decide +kernel
set_option maxRecDepth 100000 in
theorem packet16_second : (add16 64 1048576 (add16 64 1048576 [] ((cutL packet16 28).getD 1 ⟨#[]⟩)).2 ((cutL packet16 28).getD 0 ⟨#[]⟩)).1 = (packet16, 0) := by decide +kernel
set_option maxRecDepth 100000 in
theorem packet16_third : (add16 64 1048576 (add16 64 1048576 (add16 64 1048576 [] ((cutL packet16 28).getD 1 ⟨#[]⟩)).2 ((cutL packet16 28).getD 0 ⟨#[]⟩)).2 ((cutL packet16 28).getD 0 ⟨#[]⟩)).1.2 = 12 := by decide +kernel

/-- The example's two pieces, as a slice tells them. -/
structure Pair16 (W : World) (v : Value) (l : List ByteArray) : Prop where
  is : ∃ (b c : Nat), v = .slice (some ⟨b, 0, none⟩) 2 c ∧ b < W.heap.size ∧ W.cell? ⟨b, 0, none⟩ = some (.string (l.getD 0 ⟨#[]⟩)) ∧ W.cell? ⟨b, 1, none⟩ = some (.string (l.getD 1 ⟨#[]⟩)) ∧ (l.getD 0 ⟨#[]⟩).size = 28 ∧ (l.getD 1 ⟨#[]⟩).size = 28
theorem pair16 {W : World} {v : Value} {l : List ByteArray} (h : TextsAt W v l) (hl : l.map ByteArray.size = [28, 28]) : Pair16 W v l := by
  obtain ⟨x, l1, rfl, hx, h1⟩ := List.map_eq_cons_iff.1 hl
  obtain ⟨y, l2, rfl, hy, h2⟩ := List.map_eq_cons_iff.1 h1
  obtain rfl := List.map_eq_nil_iff.1 h2
  obtain ⟨b, c, rfl, hb, hc⟩ := h.some (by simp)
  exact ⟨⟨b, c, rfl, hb, hc 0 (by simp), hc 1 (by simp), hx, hy⟩⟩

set_option maxHeartbeats 1000000 in
theorem roomy16_any (w : World) : Calls Try.prog 24 #[] w fun e w' => e = .returned (.agg (S16.mk 64 1048576 64).cells) ∧ Below w.heap.size w w' := by
  unfold S16.cells
  dsimp only
  go_enter Try.func24, Try.ntmps24
  go_wp2_with fail
  have hi : (Try.prog.info? 23).map (·.size) = some 3 := by kernel_rfl
  exact bodyPost_ret (v := .agg #[.int .i64 64, .int .i64 1048576, .int .i64 64]) (results_cell_row rfl _ _ w.heap.size 23 #[.int .i64 64, .int .i64 1048576, .int .i64 64] (0, 0) _ rfl (Blk.new w #[.int .i64 64, .int .i64 1048576, .int .i64 64] 23) Try.underlying23 rfl hi) rfl ⟨rfl, by (repeat (first | exact Below.refl _ _ | refine Below.alloc ?_ (by (try simp only [World.size_alloc]); omega) _))⟩
theorem roomy16_right : S16.Right ⟨64, 1048576, 64⟩ := by unfold S16.Right; dsimp only; omega

set_option maxRecDepth 100000 in
set_option maxHeartbeats 1000000 in
theorem awake16_any (w : World) : Calls Try.prog 9 #[] w (AwakeEnd w) := by
  have HP := Lib.hid (refput_any head16 load16 w (by show load16.size ≤ _; decide +kernel))
  change Hid (Calls Try.prog _ _ w fun e w' => e = .returned (.tuple #[.string packet16, _]) ∧ _) at HP
  generalize putE head16 load16 = pe at HP
  have HC := Lib.hid (fun W => refcut_any packet16 28 W (by decide +kernel))
  unfold CutEnd at HC
  rw [packet16_cut.1] at HC
  have HT := Lib.hid packet16_cut.2
  have H1 := Lib.hid packet16_first
  have H2 := Lib.hid packet16_second
  have H3 := Lib.hid packet16_third
  have HRO := Lib.hid (fun W => roomy16_any W)
  have HN := Lib.hid (fun W => newL16 ⟨64, 1048576, 64⟩ W)
  unfold head16 H4.cells load16 at HP
  unfold S16.cells at HRO HN
  dsimp only at HP HRO HN
  generalize cutL packet16 28 = l at *
  generalize packet16 = p at *
  go_enter Try.func9, Try.ntmps9
  go_wp2_with fail
  refine HP.out.mono ?_
  rintro e w1 ⟨rfl, hb1⟩
  have HB1 := Lib.hid hb1
  clear hb1 HP
  go_wp2_with fail
  refine (HC.out _).mono ?_
  rintro e w2 ⟨hb2, v, rfl, hv⟩
  have HB2 := Lib.hid (HB1.out.trans (hb2.mono HB1.out.size))
  obtain ⟨b, c, rfl, hbl, cx, cy, sx, sy⟩ := (pair16 hv HT.out).is
  have HS := Lib.hid (And.intro sx sy)
  have HBL := Lib.hid hbl
  clear hb2 HC hv HT HB1 sx sy hbl
  generalize l.getD 0 ⟨#[]⟩ = x at *
  generalize l.getD 1 ⟨#[]⟩ = y at *
  go_wp2_with fail
  refine (HRO.out _).mono ?_
  rintro e w3 ⟨rfl, hb3⟩
  have HB3 := Lib.hid (HB2.out.trans (hb3.mono HB2.out.size))
  have HX := Lib.hid (And.intro ((hb3.cell (p := ⟨b, 0, none⟩) HBL.out).trans cx) ((hb3.cell (p := ⟨b, 1, none⟩) HBL.out).trans cy))
  have HB3S : Hid (w.heap.size ≤ w3.heap.size) := HB3.out.size
  have HBL3 : Hid (b < w3.heap.size) := Nat.lt_of_lt_of_le HBL.out hb3.size
  clear hb3 cx cy HB2 HBL
  go_wp2_with fail
  refine (HN.out _).mono ?_
  rintro e w4 hn
  rcases hn with ⟨_, tb, rfl, ht, hb4⟩ | ⟨hr, _⟩
  case inr => exact absurd roomy16_right hr
  have HB4 := Lib.hid (HB3.out.trans (hb4.mono HB3.out.size))
  have HX4 := Lib.hid (And.intro ((hb4.cell (p := ⟨b, 0, none⟩) HBL3.out).trans HX.out.1) ((hb4.cell (p := ⟨b, 1, none⟩) HBL3.out).trans HX.out.2))
  have HT4 : Hid (TbL16 (fun i => w3.heap.size ≤ i) w4 tb 64 1048576 64 []) := ht
  have HS4 : Hid (w3.heap.size ≤ w4.heap.size) := hb4.size
  clear hb4 ht HX HB3 HN
  have ⟨c0, c1⟩ := HX4.out
  have HA := Lib.hid (addL16 y (by have := HS.out; omega) w4 HT4.out)
  rw [H1.out] at HA
  generalize (add16 64 1048576 [] y).1.1 = q1 at *
  go_wp2_with fail
  refine HA.out.mono ?_
  rintro e w5 ⟨rfl, ht, hk⟩
  have HB5 := Lib.hid (HB4.out.trans ((hk.below HS4.out).mono HB3S.out))
  have HT5 := Lib.hid ht
  have HL4 : Hid (b < w4.heap.size) := Nat.lt_of_lt_of_le HBL3.out HS4.out
  have HX5 := Lib.hid (show w5.cell? ⟨b, 0, none⟩ = some (.string x) from (hk.cellK (p := ⟨b, 0, none⟩) HL4.out (Nat.not_le.2 HBL3.out)).trans c0)
  have HL5 : Hid (b < w5.heap.size) := Nat.lt_of_lt_of_le HL4.out hk.size
  have HS5 : Hid (w3.heap.size ≤ w5.heap.size) := Nat.le_trans HS4.out hk.size
  clear c0 c1 ht hk HA HT4 HX4 HB4 H1
  have c0 := HX5.out
  have HA := Lib.hid (addL16 x (by have := HS.out; omega) w5 HT5.out)
  rw [H2.out] at HA
  clear H2
  generalize (add16 64 1048576 [] y).2 = l1 at *
  go_wp2_with fail
  refine HA.out.mono ?_
  rintro e w6 ⟨rfl, ht, hk⟩
  have HB6 := Lib.hid (HB5.out.trans ((hk.below HS5.out).mono HB3S.out))
  have HT6 := Lib.hid ht
  have HX6 := Lib.hid (show w6.cell? ⟨b, 0, none⟩ = some (.string x) from (hk.cellK (p := ⟨b, 0, none⟩) HL5.out (Nat.not_le.2 HBL3.out)).trans c0)
  have HS6 : Hid (w3.heap.size ≤ w6.heap.size) := Nat.le_trans HS5.out hk.size
  clear c0 ht hk HA HT5 HX5 HB5
  have c0 := HX6.out
  have HA := Lib.hid (addL16 x (by have := HS.out; omega) w6 HT6.out)
  rw [H3.out] at HA
  generalize (add16 64 1048576 (add16 64 1048576 l1 x).2 x).1.1 = q3 at *
  go_wp2_with fail
  refine HA.out.mono ?_
  rintro e w7 ⟨rfl, ht, hk⟩
  have HB7 := Lib.hid (HB6.out.trans ((hk.below HS6.out).mono HB3S.out))
  clear c0 ht hk HA HT6 HX6 HB6
  have t1 : (p.toList == p.toList) = true := by simp
  go_wp2_with fail
  go_ret
  exact ⟨rfl, HB7.out⟩

end Go.Proofs.Ytoijomdgcgbpbaa

/-
  few: what the laws ask of a slice of texts.
-/
namespace Go.Proofs.Ytoijomdgcgbpbaa
open Go.RowKit Go.Shelf
set_option linter.unusedVariables false

def FewEnd16 (n : Nat) (P : Nat → ByteArray) (w : World) (e : Ending) (w' : World) : Prop :=
  ∃ f, e = .returned (.bool f) ∧ Below w.heap.size w w' ∧ (f = true → n ≤ 81 ∧ ∀ i, i < n → (P i).size ≤ 200000)

set_option maxRecDepth 100000 in
set_option maxHeartbeats 1000000 in
theorem few16_any (a : Option Addr) (n c : Nat) (P : Nat → ByteArray) (w : World) (h : StrsAt w w.heap.size a n P) (hn : n ≤ 140737488355328) (hs : ∀ i, (P i).size ≤ 140737488355328) :
    Calls Try.prog 10 #[.slice a n c] w (FewEnd16 n P w) := by
  have H := Lib.hid h
  have HS := Lib.hid hs
  clear h hs
  go_enter Try.func10, Try.ntmps10
  go_wp2_with fail
  go_loopw [3, 4] (fun x y wr => ∃ m k : Nat, x = .int .i64 (m : Nat) ∧ y = .int .i64 (k : Nat) ∧ m ≤ 200000 ∧ k ≤ 81 ∧ k ≤ n ∧ (∀ i, i < k → (P i).size ≤ 200000) ∧ Below w.heap.size w wr) (fun _ y _ => n - (intOf y).toNat)
  case atStart => exact ⟨0, 0, rfl, rfl, by omega, by omega, by omega, fun i hi => absurd hi (by omega), Below.refl _ _⟩
  case round =>
    obtain ⟨m, k, rfl, rfl, hm, hk, hkn, hall, hb⟩ := hrel
    have HB := Lib.hid hb
    have HALL := Lib.hid hall
    clear hb hall
    by_cases hlt : k < n
    · have t1 : decide ((k : Int) < (n : Int)) = true := decide_eq_true (by omega)
      obtain ⟨b, off, rfl, hbl, hc⟩ : ∃ b off, a = some ⟨b, off, none⟩ ∧ b < w.heap.size ∧ ∀ i, i < n → w.cell? ⟨b, off + i, none⟩ = some (.string (P i)) := by
        rcases H.out with h | h
        · omega
        · exact h
      have c0 := (HB.out.cell (p := ⟨b, off + k, none⟩) hbl).trans (hc k hlt)
      have hk0 : (0 : Int) ≤ (k : Int) := by omega
      have hk1 : (k : Int) < (n : Int) := by omega
      have hps := HS.out k
      have HPK := Lib.hid (show ∀ i, i < k + 1 → (P k).size ≤ 200000 → (P i).size ≤ 200000 from fun i hi h => by
        by_cases e : i = k
        · rw [e]; exact h
        · exact HALL.out i (by omega))
      clear hc
      generalize P k = s at *
      have ew : IntKind.i64.wrap ((m : Int) + (s.size : Int)) = ((m + s.size : Nat) : Int) := by rw [IntWalk.i64_in _ (by omega)]; omega
      have ew2 : IntKind.i64.wrap ((k : Int) + 1) = ((k + 1 : Nat) : Int) := by rw [IntWalk.i64_in _ (by omega)]; omega
      by_cases h1 : 200000 < m + s.size
      · have t2 : decide ((200000 : Int) < ((m + s.size : Nat) : Int)) = true := decide_eq_true (by omega)
        go_wp2_with fail
        go_ret
        exact ⟨false, rfl, HB.out, fun h => by cases h⟩
      · have t2 : decide ((200000 : Int) < ((m + s.size : Nat) : Int)) = false := decide_eq_false (by omega)
        by_cases h2 : 80 < k
        · have t3 : decide ((80 : Int) < (k : Int)) = true := decide_eq_true (by omega)
          go_wp2_with fail
          go_ret
          exact ⟨false, rfl, HB.out, fun h => by cases h⟩
        · have t3 : decide ((80 : Int) < (k : Int)) = false := decide_eq_false (by omega)
          go_wp2_with fail
          refine ⟨⟨m + s.size, k + 1, rfl, rfl, by omega, by omega, by omega, fun i hi => HPK.out i hi (by omega), HB.out⟩, ?_⟩
          simp [intOf]
          omega
    · have t1 : decide ((k : Int) < (n : Int)) = false := decide_eq_false (by omega)
      go_wp2_with fail
      go_ret
      exact ⟨true, rfl, HB.out, fun _ => ⟨by omega, fun i hi => HALL.out i (by omega)⟩⟩

end Go.Proofs.Ytoijomdgcgbpbaa
