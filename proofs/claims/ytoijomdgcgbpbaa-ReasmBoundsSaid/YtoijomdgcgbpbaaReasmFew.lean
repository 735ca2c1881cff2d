/-
  few: what the laws ask of a slice of texts.
-/
import Derived.Test.YtoijomdgcgbpbaaReasmAwake
import Derived.Test.YtoijomdgcgbpbaaGround
namespace Go.Proofs.Ytoijomdgcgbpbaa
open Go.RowKit Go.Shelf
set_option linter.unusedVariables false

def FewEnd16 (n : Nat) (P : Nat → ByteArray) (w : World) (e : Ending) (w' : World) : Prop :=
  ∃ f, e = .returned (.bool f) ∧ Below w.heap.size w w' ∧ (f = true → n ≤ 81 ∧ ∀ i, i < n → (P i).size ≤ 200000)

set_option maxRecDepth 100000 in
set_option maxHeartbeats 1000000 in
theorem few16_any (a : Option Addr) (n c : Nat) (P : Nat → ByteArray) (w : World) (h : StrsAt w w.heap.size a n P) (hn : n ≤ 140737488355328) (hs : ∀ i, (P i).size ≤ 140737488355328) :
    Calls Try.prog 10 #[.slice a n c] w (FewEnd16 n P w) := by
  have H := Lib.hid h
  have HS := Lib.hid hs
  clear h hs
  go_enter Try.func10, Try.ntmps10
  go_wp2_with fail
  go_loopw [3, 4] (fun x y wr => ∃ m k : Nat, x = .int .i64 (m : Nat) ∧ y = .int .i64 (k : Nat) ∧ m ≤ 200000 ∧ k ≤ 81 ∧ k ≤ n ∧ (∀ i, i < k → (P i).size ≤ 200000) ∧ Below w.heap.size w wr) (fun _ y _ => n - (intOf y).toNat)
  case atStart => exact ⟨0, 0, rfl, rfl, by omega, by omega, by omega, fun i hi => absurd hi (by omega), Below.refl _ _⟩
  case round =>
    obtain ⟨m, k, rfl, rfl, hm, hk, hkn, hall, hb⟩ := hrel
    have HB := Lib.hid hb
    have HALL := Lib.hid hall
    clear hb hall
    by_cases hlt : k < n
    · have t1 : decide ((k : Int) < (n : Int)) = true := decide_eq_true (by omega)
      obtain ⟨b, off, rfl, hbl, hc⟩ : ∃ b off, a = some ⟨b, off, none⟩ ∧ b < w.heap.size ∧ ∀ i, i < n → w.cell? ⟨b, off + i, none⟩ = some (.string (P i)) := by
        rcases H.out with h | h
        · omega
        · exact h
      have c0 := (HB.out.cell (p := ⟨b, off + k, none⟩) hbl).trans (hc k hlt)
      have hk0 : (0 : Int) ≤ (k : Int) := by omega
      have hk1 : (k : Int) < (n : Int) := by omega
      have hps := HS.out k
      have HPK := Lib.hid (show ∀ i, i < k + 1 → (P k).size ≤ 200000 → (P i).size ≤ 200000 from fun i hi h => by
        by_cases e : i = k
        · rw [e]; exact h
        · exact HALL.out i (by omega))
      clear hc
      generalize P k = s at *
      have ew : IntKind.i64.wrap ((m : Int) + (s.size : Int)) = ((m + s.size : Nat) : Int) := by rw [IntWalk.i64_in _ (by omega)]; omega
      have ew2 : IntKind.i64.wrap ((k : Int) + 1) = ((k + 1 : Nat) : Int) := by rw [IntWalk.i64_in _ (by omega)]; omega
      by_cases h1 : 200000 < m + s.size
      · have t2 : decide ((200000 : Int) < ((m + s.size : Nat) : Int)) = true := decide_eq_true (by omega)
        go_wp2_with fail
        go_ret
        exact ⟨false, rfl, HB.out, fun h => by cases h⟩
      · have t2 : decide ((200000 : Int) < ((m + s.size : Nat) : Int)) = false := decide_eq_false (by omega)
        by_cases h2 : 80 < k
        · have t3 : decide ((80 : Int) < (k : Int)) = true := decide_eq_true (by omega)
          go_wp2_with fail
          go_ret
          exact ⟨false, rfl, HB.out, fun h => by cases h⟩
        · have t3 : decide ((80 : Int) < (k : Int)) = false := decide_eq_false (by omega)
          go_wp2_with fail
          refine ⟨⟨m + s.size, k + 1, rfl, rfl, by omega, by omega, by omega, fun i hi => HPK.out i hi (by omega), HB.out⟩, ?_⟩
          simp [intOf]
          omega
    · have t1 : decide ((k : Int) < (n : Int)) = false := decide_eq_false (by omega)
      go_wp2_with fail
      go_ret
      exact ⟨true, rfl, HB.out, fun _ => ⟨by omega, fun i hi => HALL.out i (by omega)⟩⟩

end Go.Proofs.Ytoijomdgcgbpbaa
