/-
  The document's Texts, of two slices that hold the same texts; and the example.
-/
import Derived.Test.YtmcajhplieigoaaFragCut
namespace Go.Proofs.Ytmcajhplieigoaa
open Go.RowKit Go.Shelf
set_option linter.unusedVariables false

theorem TextsAt.some {W : World} {v : Value} {l : List ByteArray} (h : TextsAt W v l) (hl : l ≠ []) : ∃ b c, v = .slice (some ⟨b, 0, none⟩) l.length c ∧ b < W.heap.size ∧ ∀ (i : Nat) (h : i < l.length), W.cell? ⟨b, i, none⟩ = some (.string (l[i]'h)) := by
  rcases h with ⟨e, _⟩ | h
  · exact absurd e hl
  · exact h
theorem TextsAt.none {W : World} {v : Value} {l : List ByteArray} (h : TextsAt W v l) (hl : l = []) : ∃ a c, v = .slice a 0 c := by
  subst hl
  rcases h with ⟨_, rfl⟩ | ⟨b, c, rfl, _⟩
  · exact ⟨_, _, rfl⟩
  · exact ⟨_, _, rfl⟩
/-- A slice of texts, whatever it holds: its length. -/
theorem TextsAt.len {W : World} {v : Value} {l : List ByteArray} (h : TextsAt W v l) : ∃ a c, v = .slice a l.length c := by
  rcases h with ⟨rfl, rfl⟩ | ⟨b, c, rfl, _⟩
  · exact ⟨_, _, rfl⟩
  · exact ⟨_, _, rfl⟩

theorem cutL_length (p : ByteArray) (m : Int) (hp : p.size ≤ 1000000) : (cutL p m).length ≤ 1000001 := by
  unfold cutL
  split
  · simp
  · split
    · simp
    · unfold texts15 all15
      rw [List.length_map, items15_length]
      have h1 : fore15 (getS p) (n15 p m) ≤ (getS p).size - 1 := Nat.div_le_self _ _
      have h2 : (getS p).size ≤ p.size := by
        unfold getS
        split
        · rw [ByteArray.size_extract]; omega
        · show 0 ≤ _; omega
      omega

theorem reftexts_any (W : World) (v1 v2 : Value) (l : List ByteArray) (h1 : TextsAt W v1 l) (h2 : TextsAt W v2 l) (hl : l.length ≤ 1000001) :
    Calls Try.prog 10 #[v1, v2] W (Tells (.bool true) W) := by
  by_cases he : l = []
  · obtain ⟨a1, c1, rfl⟩ := h1.none he
    obtain ⟨a2, c2, rfl⟩ := h2.none he
    clear h1 h2 hl he
    go_enter Try.func10, Try.ntmps10
    go_wp2_with fail
    go_loopw [5] (fun i wr => i = .int .i64 0 ∧ wr = W) (fun _ _ => 0)
    case atStart => exact ⟨rfl, rfl⟩
    case round =>
      obtain ⟨rfl, rfl⟩ := hrel
      go_wp2_with fail
      go_ret
      exact ⟨rfl, Below.refl _ _⟩
  · obtain ⟨b1, c1, rfl, hb1, hc1⟩ := h1.some he
    obtain ⟨b2, c2, rfl, hb2, hc2⟩ := h2.some he
    have H1 := Lib.hid hc1
    have H2 := Lib.hid hc2
    clear h1 h2 hc1 hc2 he
    go_enter Try.func10, Try.ntmps10
    go_wp2_with fail
    go_loopw [5] (fun i wr => ∃ k : Nat, k ≤ l.length ∧ i = .int .i64 k ∧ Below W.heap.size W wr) (fun i _ => l.length - (intOf i).toNat)
    case atStart => exact ⟨0, Nat.zero_le _, rfl, Below.refl _ _⟩
    case round =>
      obtain ⟨k, hk, rfl, hb⟩ := hrel
      have HB := Lib.hid hb
      by_cases hlt : k < l.length
      · have d1 := (hb.cell (p := ⟨b1, k, none⟩) hb1).trans (H1.out k hlt)
        have d2 := (hb.cell (p := ⟨b2, k, none⟩) hb2).trans (H2.out k hlt)
        generalize l[k]'hlt = T at *
        clear hb
        have hs := str_ne T
        go_wp2_with fail
        go_quiet (fail)
        go_wp2_with fail
        exact ⟨⟨k + 1, hlt, by go_num, below_drewN HB.out _⟩, by simp [intOf]; omega⟩
      · clear hb
        go_wp2_with fail
        go_ret
        exact ⟨rfl, HB.out⟩

end Go.Proofs.Ytmcajhplieigoaa
