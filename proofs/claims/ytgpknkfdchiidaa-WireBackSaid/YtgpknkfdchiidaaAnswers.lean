/-
  Two lists of answers that are the same.
-/
import Derived.Test.YtgpknkfdchiidaaReadSpec
import Derived.Laws.StructEq
namespace Go.Proofs.Ytgpknkfdchiidaa
open Go.RowKit
set_option linter.unusedVariables false

/-- The cells of one answer, in a list that is owned. -/
theorem own_ans {w : World} {B : Nat} {g cap : Nat} {l : List AnsD} (h : w.ownsRow B 46 4 (.slice (some ⟨g, 0, none⟩) l.length cap) l.length (ansCells l)) (i : Nat) (hi : i < l.length) :
    w.cell? ⟨g, i * 4, none⟩ = some (.int .u64 (l[i]).n) ∧ w.cell? ⟨g, i * 4 + 1, none⟩ = some (.string (l[i]).s) ∧ w.cell? ⟨g, i * 4 + 2, none⟩ = some (.int .i64 (l[i]).pos) ∧ w.cell? ⟨g, i * 4 + 3, none⟩ = some (.int .i64 (l[i]).left) := by
  have hc := h.cells (g := g) rfl
  refine ⟨?_, ?_, ?_, ?_⟩
  · have := hc (i * 4 + 0) _ (by rw [ansCells_at l i 0 hi (by omega)]; rfl); rwa [addr_add] at this
  · have := hc (i * 4 + 1) _ (by rw [ansCells_at l i 1 hi (by omega)]; rfl); rwa [addr_add] at this
  · have := hc (i * 4 + 2) _ (by rw [ansCells_at l i 2 hi (by omega)]; rfl); rwa [addr_add] at this
  · have := hc (i * 4 + 3) _ (by rw [ansCells_at l i 3 hi (by omega)]; rfl); rwa [addr_add] at this

set_option maxRecDepth 100000 in
set_option maxHeartbeats 1000000 in
theorem answers_same (v1 v2 : Value) (B1 B2 : Nat) (l : List AnsD) (w : World) (h1 : w.ownsRow B1 46 4 v1 l.length (ansCells l)) (h2 : w.ownsRow B2 46 4 v2 l.length (ansCells l)) (hl : l.length ≤ 1000) :
    Calls Try.prog 13 #[v1, v2] w fun e w' => e = .returned (.bool true) ∧ ∃ n, w' = w.drewN n := by
  obtain ⟨a1, c1, rfl⟩ := own_len h1
  obtain ⟨a2, c2, rfl⟩ := own_len h2
  have H1 := Lib.hid h1
  have H2 := Lib.hid h2
  clear h1 h2
  have hne : ((l.length : Int) != l.length) = false := by simp
  go_enter Try.func13, Try.ntmps13
  go_wp2_with fail
  go_loopw [5] (fun i wr => ∃ k n : Nat, k ≤ l.length ∧ i = .int .i64 k ∧ wr = w.drewN n) (fun i _ => l.length - (intOf i).toNat)
  case atStart => exact ⟨0, 0, Nat.zero_le _, rfl, rfl⟩
  case round =>
    obtain ⟨k, n, hk, rfl, rfl⟩ := hrel
    by_cases hlt : k < l.length
    · obtain ⟨g1, q1, e1, _⟩ := World.ownsRow.form H1.out (by omega)
      obtain ⟨g2, q2, e2, _⟩ := World.ownsRow.form H2.out (by omega)
      simp at e1 e2
      obtain ⟨rfl, rfl⟩ := e1
      obtain ⟨rfl, rfl⟩ := e2
      obtain ⟨x0, x1, x2, x3⟩ := own_ans H1.out k hlt
      obtain ⟨y0, y1, y2, y3⟩ := own_ans H2.out k hlt
      generalize l[k] = ad at *
      have hk0 : (0 : Int) ≤ (k : Int) := by omega
      have hk1 : (k : Int) < (l.length : Int) := by omega
      go_wp2_with fail
      go_quiet (fail)
      go_wp2_with fail
      exact ⟨⟨k + 1, n + nq, by omega, by go_num, rfl⟩, by simp [intOf]; omega⟩
    · go_wp2_with fail
      go_ret
      exact ⟨rfl, n, rfl⟩

end Go.Proofs.Ytgpknkfdchiidaa
