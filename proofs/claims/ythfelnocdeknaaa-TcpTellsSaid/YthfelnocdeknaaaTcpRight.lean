/-
  Right: are options right?
-/
import Derived.Test.YthfelnocdeknaaaTcpWalk
namespace Go.Proofs.Ythfelnocdeknaaa
open Go.RowKit Go.Shelf
set_option linter.unusedVariables false

attribute [local go_sem] Oper.semAt_some

/-- All that is handed, as it is. -/
def anyO (l : List (Nat × List UInt8)) : List {x : Nat × List UInt8 // True} := l.map fun x => ⟨x, trivial⟩
theorem anyO_val (l : List (Nat × List UInt8)) : (anyO l).map (·.1) = l := by simp only [anyO, List.map_map]; exact List.map_id l
/-- Are all of them right? -/
def fineA (l : List {x : Nat × List UInt8 // True}) : Bool := l.all fun x => fineO x.1
theorem fineA_all (l : List (Nat × List UInt8)) : fineA (anyO l) = l.all fineO := by simp only [fineA, anyO, List.all_map]; rfl
theorem fineA_snoc (l : List {x : Nat × List UInt8 // True}) (x : {x : Nat × List UInt8 // True}) : fineA (l ++ [x]) = (fineA l && fineO x.1) := by simp [fineA]
theorem fineA_pre {l m : List {x : Nat × List UInt8 // True}} (h : l <+: m) (hl : fineA l = false) : fineA m = false := by
  obtain ⟨r, rfl⟩ := h
  unfold fineA at *
  rw [List.all_append, hl]
  rfl

set_option maxRecDepth 100000 in
set_option maxHeartbeats 2000000 in
theorem right_in (o : ByteArray) (w : World) (hs : o.size ≤ maxLen) :
    CallsIn Fence.wide 3 Try.prog 19 #[.string o] w fun e w' => e = .returned (.bool (rightL o.data.toList)) ∧ Below w.heap.size w w' := by
  refine callsIn_of_wp_marks Try.func19 rfl trivial ?_ rfl
  simp only [Try.ntmps19, List.size_toArray, List.length_cons, List.length_nil, Nat.reduceAdd, Nat.reduceSub, Array.replicate_succ, Array.replicate_zero, List.push_toArray, List.append_toArray, List.nil_append, List.cons_append]
  gi_wp2_with fail
  refine ⟨trivial, (callsIn_wide.2 (walk_any o _)).mono ?_⟩
  rintro e w' ⟨rfl, rfl⟩
  gi_wp2_with fail
  have b0 := (Blk.new w #[.bool false] 4).alloc (.cells #[.string o] 9)
  have b1 := Blk.new (w.alloc (.cells #[.bool false] 4)) #[.string o] 9
  rw [World.size_alloc] at b1
  have hB0 : Below w.heap.size w ((w.alloc (.cells #[.bool false] 4)).alloc (.cells #[.string o] 9)) := ((Below.refl _ w).alloc (Nat.le_refl _) _).alloc (by simp) _
  refine wpIn_rangeFunc_ownF rfl (by decide) (gf := 42) (lb := #[.pointer (some ⟨w.heap.size + 1, 0, none⟩)]) rfl trivial (enters_of Try.func42 (by kernel_rfl) rfl)
    (walk_stops 2 (by decide) (w.heap.size + 1) o hs (anyO (opts o.data.toList 0)) (anyO_val _) _ (by simp) (b1.cell 0)) keepsBox_t keepsBox_b (Below.refl _ _) (fun _ => rfl)
    (fun pre W => (fineA pre = true ∧ W.cell? ⟨w.heap.size, 0, none⟩ = some (.bool false) ∧ W.frozen? ⟨w.heap.size, 0, none⟩ = false) ∧ Below w.heap.size w W)
    (fun c pre W => (c = .ret ∧ fineA pre = false ∧ W.cell? ⟨w.heap.size, 0, none⟩ = some (.bool false)) ∧ Below w.heap.size w W)
    (OwnFrom.and (Own.from (fun s A B row hs hg hr => ⟨hs.1, cell_kept hs.2.1 hg hr, (frozen_kept hs.2.1 hg hr).trans hs.2.2⟩) _) (ownFrom_below (Nat.le_refl _) (by simp; omega)))
    (fun c => OwnFrom.and (Own.from (fun s A B row hs hg hr => ⟨hs.1, hs.2.1, cell_kept hs.2.2 hg hr⟩) _) (ownFrom_below (Nat.le_refl _) (by simp; omega)))
    ⟨⟨rfl, b0.cell 0, b0.frozen 0⟩, hB0⟩
    (fun x => { tmps := #[.string o, undef, .pointer (some ⟨w.heap.size, 0, none⟩), undef, .string ⟨x.1.2.toArray⟩, .string o, .func (.func 42) #[] #[.pointer (some ⟨w.heap.size + 1, 0, none⟩)], .int .i64 (x.1.1 : Int), .string ⟨x.1.2.toArray⟩, undef, undef], defers := [] }) ?assign ?body ?done ?stop
  case assign =>
    intro l x W K hK
    unfold encO
    gi_wp2
    exact hK
  case body =>
    rintro l pre x W ⟨⟨hp, hc, hf⟩, hB⟩ _
    obtain ⟨⟨q, s⟩, hx⟩ := x
    cases s with
    | nil =>
      gi_wp2
      exact ⟨KeepsOthers.setCell _ _ _, ⟨rfl, by rw [fineA_snoc]; simp [fineO], World.cell?_setCell_same' _ _ _ (by rw [hc]; rfl)⟩, hB.setCell (p := ⟨w.heap.size, 0, none⟩) (Nat.le_refl _) _⟩
    | cons a r =>
      gi_wp2
      exact ⟨KeepsOthers.refl _, fun v e => e, ⟨by rw [fineA_snoc, hp]; rfl, hc, hf⟩, hB⟩
  case done =>
    rintro D ys W hD rfl ⟨⟨hp, hc, hf⟩, hB⟩ hK
    gi_wp2
    have hK' := (KeepsOthers.setCell W ⟨w.heap.size, 0, none⟩ (.bool true)).same D _ hK rfl
    refine ⟨by simp, .inl ⟨_, _, rfl, run_takeDeferred hK', ?_⟩⟩
    have hc5 := cell_kept (World.cell?_setCell_same' W ⟨w.heap.size, 0, none⟩ (.bool true) (by rw [hc]; rfl)) (grownBy_putObj' _ D (.deferred none)) (fun r e => by cases e; exact ⟨_, hK', rfl⟩)
    refine ⟨.bool true, ?_, ?_, (hB.setCell (p := ⟨w.heap.size, 0, none⟩) (Nat.le_refl _) _).trans (belowK_b (w := w) (Nat.le_refl _) _ D _ _ (by simp at hD; omega) hK' rfl rfl)⟩
    · simp [results, Try.results19, go_sem, hc5]
    · rw [fineA_all] at hp
      unfold rightL
      rw [hp]
  case stop =>
    rintro D c pre W hD hpre ⟨⟨rfl, hin, hcr⟩, hB⟩ hK
    gi_wp2
    refine ⟨by simp, .inl ⟨_, _, rfl, run_takeDeferred hK, ?_⟩⟩
    have hc5 := cell_kept hcr (grownBy_putObj' _ D (.deferred none)) (fun r e => by cases e; exact ⟨_, hK, rfl⟩)
    refine ⟨.bool false, ?_, ?_, hB.trans (belowK_b (w := w) (Nat.le_refl _) W D _ _ (by simp at hD; omega) hK rfl rfl)⟩
    · simp [results, Try.results19, go_sem, hc5]
    · have hp := fineA_pre hpre hin
      rw [fineA_all] at hp
      unfold rightL
      rw [hp]

/-- Right, at every text. -/
theorem right_call (o : ByteArray) (w : World) (hs : o.size ≤ maxLen) :
    Calls Try.prog 19 #[.string o] w fun e w' => e = .returned (.bool (rightL o.data.toList)) ∧ Below w.heap.size w w' := callsIn_wide.1 (right_in o w hs)

end Go.Proofs.Ythfelnocdeknaaa
