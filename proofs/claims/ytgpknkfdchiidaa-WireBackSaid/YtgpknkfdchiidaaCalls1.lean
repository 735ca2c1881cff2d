/-
  A list of calls in memory: what few and stops tell of it.
-/
import Derived.Test.YtgpknkfdchiidaaMem
namespace Go.Proofs.Ytgpknkfdchiidaa
open Go.RowKit
set_option linter.unusedVariables false

/-- A call: its kind, its number k, its number n, its text. -/
structure CallD where
  kind : Int
  k : Int
  n : Nat
  s : ByteArray

/-- The cells of one call, at a place. -/
structure CallAt (w : World) (b o : Nat) (c : CallD) : Prop where
  c0 : w.cell? ⟨b, o, none⟩ = some (.int .i64 c.kind)
  c1 : w.cell? ⟨b, o + 1, none⟩ = some (.int .i64 c.k)
  c2 : w.cell? ⟨b, o + 2, none⟩ = some (.int .u64 c.n)
  c3 : w.cell? ⟨b, o + 3, none⟩ = some (.string c.s)

/-- Calls in memory: the slice's address and length. -/
def CallsAt (w : World) (B : Nat) (a : Option Addr) (len : Nat) (C : Nat → CallD) : Prop :=
  len = 0 ∨ ∃ b off, a = some ⟨b, off, none⟩ ∧ b < B ∧ ∀ i, i < len → CallAt w b (off + i * 4) (C i)

theorem CallAt.block {w w' : World} {b o : Nat} {c : CallD} (h : CallAt w b o c) (e : w'.heap[b]? = w.heap[b]?) : CallAt w' b o c :=
  ⟨(World.cell?_of_block e).trans h.c0, (World.cell?_of_block e).trans h.c1, (World.cell?_of_block e).trans h.c2, (World.cell?_of_block e).trans h.c3⟩
theorem CallsAt.kb {S : Nat → Prop} {w w' : World} {B : Nat} {a : Option Addr} {len : Nat} {C : Nat → CallD} (h : CallsAt w B a len C) (k : Kb S w w') (hB : B ≤ w.heap.size) (hS : ∀ j, j < B → ¬ S j) : CallsAt w' B a len C := by
  rcases h with h | ⟨b, off, ha, hb, hc⟩
  · exact Or.inl h
  · exact Or.inr ⟨b, off, ha, hb, fun i hi => (hc i hi).block (k.block b (by omega) (hS b hb))⟩

/-- How many bytes the first i texts have. -/
def tot (C : Nat → CallD) : Nat → Nat
  | 0 => 0
  | i + 1 => tot C i + (C i).s.size

theorem tot_mono (C : Nat → CallD) (i j : Nat) (h : i ≤ j) : tot C i ≤ tot C j := by
  induction j with
  | zero => rw [show i = 0 by omega]; exact Nat.le_refl _
  | succ m ih =>
    by_cases e : i = m + 1
    · subst e; exact Nat.le_refl _
    · have := ih (by omega)
      simp only [tot]; omega

def FewEnd (len : Nat) (C : Nat → CallD) (w : World) (e : Ending) (w' : World) : Prop :=
  ∃ t : Bool, e = .returned (.bool t) ∧ (t = true → len ≤ 101 ∧ tot C len ≤ 5000) ∧ w = w'

set_option maxHeartbeats 400000 in
theorem few_any (a : Option Addr) (len cap : Nat) (C : Nat → CallD) (w : World) (B : Nat) (hC : CallsAt w B a len C) (hl : len ≤ 140737488355328) (hsz : ∀ i, (C i).s.size ≤ 140737488355328) :
    Calls Try.prog 9 #[.slice a len cap] w (FewEnd len C w) := by
  have HS := Lib.hid hsz
  have HC := Lib.hid hC
  clear hsz hC
  go_enter Try.func9, Try.ntmps9
  go_wp2_with fail
  go_loop [3, 4] (fun n i => ∃ k : Nat, k ≤ len ∧ k ≤ 101 ∧ tot C k ≤ 5000 ∧ i = .int .i64 k ∧ n = .int .i64 (tot C k)) (fun _ i => len - (intOf i).toNat)
  case atStart => exact ⟨0, Nat.zero_le _, by omega, by simp [tot], rfl, rfl⟩
  case round =>
    obtain ⟨k, hk, hk1, ht, rfl, rfl⟩ := hrel
    by_cases hlt : k < len
    · obtain h0 | ⟨b, off, rfl, hb, hc⟩ := HC.out
      · omega
      have c3 := (hc k hlt).c3
      have hs := HS.out k
      have hto : Hid (tot C (k + 1) = tot C k + (C k).s.size) := rfl
      clear hc
      go_wp2_with fail
      all_goals first
        | (go_ret; exact ⟨false, rfl, (fun h => by cases h), rfl⟩)
        | exact ⟨⟨k + 1, by omega, by omega, by rw [hto.out]; omega, by go_num, by rw [hto.out]; go_num⟩, by simp [intOf]; omega⟩
    · have hkl := Lib.hid (show k = len by omega)
      go_wp2_with fail
      go_ret
      exact ⟨true, rfl, fun _ => by have := hkl.out; subst this; exact ⟨hk1, ht⟩, rfl⟩

/-- Does a call stop with OK? -/
def bad (c : CallD) : Bool := (decide (c.kind < 0) || decide (5 < c.kind)) && c.k == 0

def StopsEnd (len : Nat) (C : Nat → CallD) (w : World) (e : Ending) (w' : World) : Prop :=
  ∃ t : Bool, e = .returned (.bool t) ∧ (t = false → ∀ i, i < len → bad (C i) = false) ∧ w = w'

set_option maxHeartbeats 400000 in
theorem stops_any (a : Option Addr) (len cap : Nat) (C : Nat → CallD) (w : World) (B : Nat) (hC : CallsAt w B a len C) (hl : len ≤ 140737488355328) :
    Calls Try.prog 10 #[.slice a len cap] w (StopsEnd len C w) := by
  have HC := Lib.hid hC
  clear hC
  go_enter Try.func10, Try.ntmps10
  go_wp2_with fail
  go_loop [3] (fun i => ∃ k : Nat, k ≤ len ∧ Hid (∀ j, j < k → bad (C j) = false) ∧ i = .int .i64 k) (fun i => len - (intOf i).toNat)
  case atStart => exact ⟨0, Nat.zero_le _, (fun j hj => by omega), rfl⟩
  case round =>
    obtain ⟨k, hk, ht, rfl⟩ := hrel
    by_cases hlt : k < len
    · obtain h0 | ⟨b, off, rfl, hb, hc⟩ := HC.out
      · omega
      have c0 := (hc k hlt).c0
      have c1 := (hc k hlt).c1
      clear hc
      have hstep : Hid (bad (C k) = false → ∀ j, j < k + 1 → bad (C j) = false) := fun hb j hj => by
        by_cases e : j = k
        · subst e; exact hb
        · exact ht.out j (by omega)
      have hbad : Hid (bad (C k) = ((decide ((C k).kind < 0) || decide (5 < (C k).kind)) && (C k).k == 0)) := rfl
      generalize (C k).kind = kd at *
      generalize (C k).k = kk at *
      by_cases h1 : kd < 0
      · by_cases h2 : kk = 0
        · have h3 : (kk == 0) = true := by simp [h2]
          clear h2
          go_wp2_with fail
          go_ret
          exact ⟨true, rfl, (fun h => by cases h), rfl⟩
        · have h3 : (kk == 0) = false := by simp [h2]
          clear h2
          go_wp2_with fail
          exact ⟨⟨k + 1, by omega, hstep.out (by rw [hbad.out, h3]; simp), by go_num⟩, by simp [intOf]; omega⟩
      · by_cases h4 : 5 < kd
        · by_cases h2 : kk = 0
          · have h3 : (kk == 0) = true := by simp [h2]
            clear h2
            go_wp2_with fail
            go_ret
            exact ⟨true, rfl, (fun h => by cases h), rfl⟩
          · have h3 : (kk == 0) = false := by simp [h2]
            clear h2
            go_wp2_with fail
            exact ⟨⟨k + 1, by omega, hstep.out (by rw [hbad.out, h3]; simp), by go_num⟩, by simp [intOf]; omega⟩
        · have h5 : decide (kd < 0) = false := by simp; omega
          have h6 : decide (5 < kd) = false := by simp; omega
          have h7 : Hid (bad (C k) = false) := by
            show bad (C k) = false
            rw [hbad.out, h5, h6]; rfl
          clear h5 h6
          go_wp2_with fail
          exact ⟨⟨k + 1, by omega, hstep.out h7.out, by go_num⟩, by simp [intOf]; omega⟩
    · have hkl := Lib.hid (show k = len by omega)
      go_wp2_with fail
      go_ret
      exact ⟨false, rfl, fun _ => by have := hkl.out; subst this; exact ht.out, rfl⟩

end Go.Proofs.Ytgpknkfdchiidaa
