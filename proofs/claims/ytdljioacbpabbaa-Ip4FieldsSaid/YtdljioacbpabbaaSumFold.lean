/-
  Carries, folded: the closure that keeps a total, and the turning over of 16 bits.
-/
import Derived.Test.YtdljioacbpabbaaMem
import Derived.Test.YtdljioacbpabbaaSumSpec
import Derived.Test.YtdljioacbpabbaaBits
import Derived.Deep.LoopGhost
namespace Go.Proofs.Ytdljioacbpabbaa
open Go.RowKit
set_option linter.unusedVariables false

set_option maxHeartbeats 400000 in
theorem turned_any (n : Int) (w : World) : Calls Try.prog 32 #[.int .i64 n] w fun e w' => e = .returned (.int .i64 (65535 - n % 65536)) ∧ w = w' := by
  have H := Lib.hid (i64_turn16 n)
  go_enter Try.func32, Try.ntmps32
  go_wp2_with fail
  go_ret
  exact ⟨by rw [H.out]; rfl, rfl⟩

/-- What the closure leaves. -/
def FoldEnd (b : Nat) (t : Nat) (w : World) (e : Ending) (w' : World) : Prop := e = .returned (.int .i64 t) ∧ Blk w' b #[.int .i64 t] 3 ∧ Kb (· = b) w w'

set_option maxHeartbeats 400000 in
theorem folding_any (b t n : Nat) (w : World) (hb : Blk w b #[.int .i64 t] 3) (ht : t ≤ 65535) (hn : n ≤ 4611686018427387904) :
    Calls Try.prog 43 #[.int .i64 n, .pointer (some ⟨b, 0, none⟩)] w (FoldEnd b (fold (t + n)) w) := by
  have c0 := hb.cell 0
  have f0 := hb.frozen 0
  simp at c0
  have hlt := hb.lt
  have HB := Lib.hid (hb.set 0 (.int .i64 ((t : Int) + n)))
  clear hb
  go_enter Try.func43, Try.ntmps43
  go_wp2_with fail
  clear c0 f0
  go_loopg [] (t + n) (fun g wr => ∃ x : Nat, x ≤ g ∧ x ≤ 4611686018427453439 ∧ Hid (fold x = fold (t + n)) ∧ Hid (Blk wr b #[.int .i64 x] 3) ∧ Hid (Kb (· = b) w wr))
  case atStart =>
    exact ⟨t + n, Nat.le_refl _, by omega, Lib.hid rfl, Lib.hid (by simpa using HB.out), Lib.hid (Kb.setCell (S := (· = b)) (Kb.refl _ _) (p := ⟨b, 0, none⟩) (fun _ => rfl) _)⟩
  case round =>
    obtain ⟨x, hx, hx2, hf, hbl, hkb⟩ := hrel
    have c0 := hbl.out.cell 0
    have f0 := hbl.out.frozen 0
    simp at c0
    by_cases hgt : 65535 < x
    · have h1 := Lib.hid (fold_step x hgt)
      have h2 := fold_lt x hgt
      have hm := i64_and65535 (x : Int)
      have HN := Lib.hid (hbl.out.set 0 (.int .i64 ((x : Int) % 65536 + (x : Int) / 65536)))
      go_wp2_with fail
      have he : ((x : Int) % 65536 + (x : Int) / 65536) = ((x % 65536 + x / 65536 : Nat) : Int) := by omega
      have HE := Lib.hid he
      clear he
      go_roundg (x % 65536 + x / 65536)
      case measure => omega
      case rel =>
        refine ⟨_, Nat.le_refl _, by omega, Lib.hid (h1.out.trans hf.out), Lib.hid ?_, Lib.hid ?_⟩
        · have := HN.out
          rw [HE.out] at this
          rw [HE.out]
          simpa using this
        · exact Kb.setCell (S := (· = b)) hkb.out (p := ⟨b, 0, none⟩) (fun _ => rfl) _
    · have h1 := Lib.hid (fold_small x (by omega))
      go_wp2_with fail
      go_ret
      have h3 : fold (t + n) = x := hf.out.symm.trans h1.out
      rw [h3]
      exact ⟨rfl, hbl.out, hkb.out⟩

/-- A fresh total. -/
def FreshEnd (w : World) (e : Ending) (w' : World) : Prop :=
  e = .returned (.func (Fn.func 43) #[] #[.pointer (some ⟨w.heap.size, 0, none⟩)]) ∧ w' = w.alloc (.cells #[.int .i64 0] 3)
set_option maxHeartbeats 400000 in
theorem fresh_any (w : World) : Calls Try.prog 31 #[] w (FreshEnd w) := by
  have hmf : ∀ (fn : Fn) (first cap : Array Value) (w : World), (Instr.makeFunc fn first cap).run Try.prog w = .ok (.func fn first cap) w := fun _ _ _ _ => rfl
  go_enter Try.func31, Try.ntmps31
  go_wp2_with fail
  go_ret
  exact ⟨rfl, rfl⟩

end Go.Proofs.Ytdljioacbpabbaa
