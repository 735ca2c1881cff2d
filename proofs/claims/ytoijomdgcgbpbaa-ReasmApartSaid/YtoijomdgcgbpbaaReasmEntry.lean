/-
  entry: that of a key, a new one where there is none.
-/
import Derived.Test.YtoijomdgcgbpbaaReasmRefuse
import Derived.Test.YtoijomdgcgbpbaaReasmBuilder
import Derived.Deep.RegionLaw
namespace Go.Proofs.Ytoijomdgcgbpbaa
open Go.RowKit
set_option linter.unusedVariables false

/-- One more entry, with nothing in it. -/
theorem Tb16.pushAt {O O' S : Nat → Prop} {w w' : World} {tb mb E B L clock : Nat} {ms : List M16} {k : K16} {eb : Nat} (h : Tb16 O w tb mb E B L ms clock) (kb : Kb S w w') (hS : ∀ i, S i → i = mb) (hm : Map16 w' mb (ms.map M16.me ++ [⟨k, eb, clock⟩]) (clock + 1)) (he : En16 w' (E16.new k) eb (.slice none 0 0))
    (hn : ∀ m ∈ ms, ∀ i, m.own i → i ≠ eb) (hk : find16 (ms.map (·.e)) k = ms.length) (hl : ms.length + 1 ≤ E) (hO : ∀ i, O i → O' i) (hO' : O' eb) : Tb16 O' w' tb mb E B L (ms ++ [⟨E16.new k, eb, .slice none 0 0, clock⟩]) (clock + 1) := by
  have ne := h.ne
  have lt := h.lt
  have own : ∀ i, M16.own ⟨E16.new k, eb, .slice none 0 0, clock⟩ i → i = eb := by
    rintro i (e | e)
    · exact e
    · simp [Value.ownBlock] at e
  refine ⟨h.tbl.kb kb (fun e => ne.1 (hS _ e)), by rw [List.map_append]; exact hm, ?_, ?_, ?_, ?_, hO _ h.ot, hO _ h.om, ?_, ?_⟩
  · intro m hmm
    rw [List.mem_append, List.mem_singleton] at hmm
    rcases hmm with hmm | rfl
    · exact (h.ents m hmm).kb kb (fun e => (ne.2 m hmm).2 (hS _ e ▸ Or.inl rfl)) (fun g eg e => (ne.2 m hmm).2 (hS _ e ▸ Or.inr eg))
    · exact he
  · rw [List.pairwise_append]
    refine ⟨h.apart, List.pairwise_singleton _ _, fun a ha b hb i hi hib => ?_⟩
    rw [List.mem_singleton] at hb
    subst hb
    exact hn a ha i hi (own i hib)
  · intro m hmm
    rw [List.mem_append, List.mem_singleton] at hmm
    rcases hmm with hmm | rfl
    · have := h.born m hmm; omega
    · exact Nat.lt_succ_self _
  · rw [List.map_append, List.nodup_append]
    refine ⟨h.nodup, by simp, fun a ha b hb => ?_⟩
    obtain ⟨m, hmm, rfl⟩ := List.mem_map.1 ha
    simp at hb
    subst hb
    exact Nat.ne_of_lt (h.born m hmm)
  · intro m hmm i hi
    rw [List.mem_append, List.mem_singleton] at hmm
    rcases hmm with hmm | rfl
    · exact hO _ (h.oe m hmm i hi)
    · rw [own i hi]; exact hO'
  · have t := h.tab
    rw [List.map_append]
    refine ⟨t.store, ?_, ?_, ?_, ?_⟩
    · simp; omega
    · have e : bytes16 (ms.map (·.e) ++ [E16.new k]) = bytes16 (ms.map (·.e)) := by simp [bytes16, E16.new, sum16]
      exact e ▸ t.bytes
    · rw [List.pairwise_append]
      refine ⟨t.keys, List.pairwise_singleton _ _, fun a ha b hb => ?_⟩
      have hb' : b = E16.new k := by simpa using hb
      subst hb'
      have e2 : (ms.map (·.e)).length = ms.length := List.length_map ..
      unfold find16 at hk
      rw [← e2, List.findIdx_eq_length] at hk
      have := hk a ha
      exact of_decide_eq_false this
    · intro e he
      rw [List.mem_append] at he
      rcases he with he | he
      · exact t.each e he
      · have : e = E16.new k := by simpa using he
        subst this
        exact Ent16.new t k

/-- What entry answers. -/
def EntryEnd16 (O : Nat → Prop) (w : World) (tb mb E B L : Nat) (ms : List M16) (k : K16) (r : Ending) (w' : World) : Prop :=
  ∃ (a b : List M16) (m : M16) (clock' : Nat), r = .returned (.pointer (some ⟨m.eb, 0, none⟩)) ∧ Tb16 (fun i => O i ∨ w.heap.size ≤ i) w' tb mb E B L (a ++ m :: b) clock' ∧ m.e = old16 (ms.map (·.e)) k ∧ a.length = find16 (ms.map (·.e)) k ∧
    a.map (·.e) = (ms.map (·.e)).take a.length ∧ b.map (·.e) = (ms.map (·.e)).drop (a.length + 1) ∧ Kb O w w'

/-- The key in its block. -/
structure Ky16 (O : Nat → Prop) (w W : World) (tb mb E B L clock : Nat) (ms : List M16) (k : K16) : Prop where
  kb : Blk W w.heap.size #[.string k.src, .string k.dst, .int .i64 k.proto, .int .i64 k.id] 68
  tb : Tb16 O W tb mb E B L ms clock
  bel : Below w.heap.size w W
theorem Ky16.below {O : Nat → Prop} {w W W' : World} {tb mb E B L clock : Nat} {ms : List M16} {k : K16} (h : Ky16 O w W tb mb E B L clock ms k) (hb : Below W.heap.size W W') : Ky16 O w W' tb mb E B L clock ms k :=
  ⟨(hb.block _ h.kb.lt).trans h.kb, h.tb.below hb, h.bel.trans (hb.mono h.bel.size)⟩
theorem Ky16.drew {O : Nat → Prop} {w W : World} {tb mb E B L clock : Nat} {ms : List M16} {k : K16} (h : Ky16 O w W tb mb E B L clock ms k) : Ky16 O w W.drew tb mb E B L clock ms k := h.below (Below.refl _ _).drew
theorem kb_of_below {O : Nat → Prop} {w W : World} (h : Below w.heap.size w W) : Kb O w W := ⟨h.os, h.tape, h.output, h.size, fun i hi _ => h.block i hi⟩

/-- .. and the new entry's block beside it. -/
def Kn16 (O : Nat → Prop) (w W : World) (tb mb E B L clock : Nat) (ms : List M16) (k : K16) (eb : Nat) : Prop := Ky16 O w W tb mb E B L clock ms k ∧ w.heap.size < eb ∧ Blk W eb ((E16.new k).cells (.slice none 0 0)) 72
theorem keyKeep {O : Nat → Prop} {w W W' : World} {tb mb E B L clock eb : Nat} {ms : List M16} {k : K16} (h : Kn16 O w W tb mb E B L clock ms k eb) (hb : Below W.heap.size W W') : Kn16 O w W' tb mb E B L clock ms k eb := ⟨h.1.below hb, h.2.1, (hb.block _ h.2.2.lt).trans h.2.2⟩
theorem keyStored {O : Nat → Prop} {w W : World} {tb mb E B L clock eb : Nat} {ms : List M16} {k : K16} (h : Kn16 O w W tb mb E B L clock ms k eb) (hlt : ∀ i, O i → i < w.heap.size) (i : Nat) (u : Value)
    (hu : (#[.string k.src, .string k.dst, .int .i64 k.proto, .int .i64 k.id] : Array Value).setIfInBounds i u = #[.string k.src, .string k.dst, .int .i64 k.proto, .int .i64 k.id]) : Kn16 O w (W.setCell ⟨w.heap.size, i, none⟩ u) tb mb E B L clock ms k eb := by
  have kb : Kb (fun k => k = w.heap.size) W (W.setCell ⟨w.heap.size, i, none⟩ u) := Kb.setCell (S := fun k => k = w.heap.size) (Kb.refl _ W) (p := ⟨w.heap.size, i, none⟩) (fun _ => rfl) _
  refine ⟨⟨?_, h.1.tb.kb kb (fun j hj e => by have := hlt j hj; omega), h.1.bel.setCell (Nat.le_refl _) _⟩, h.2.1, h.2.2.kb kb (by have := h.2.1; omega)⟩
  have := h.1.kb.set i u
  rw [hu] at this
  exact this

set_option maxRecDepth 100000 in
set_option maxHeartbeats 4000000 in
theorem entry16_any {O : Nat → Prop} {tb mb E B L clock : Nat} {ms : List M16} (k : K16) (hks : k.src.size ≤ 65535 ∧ k.dst.size ≤ 65535) (w : World) (h : Tb16 O w tb mb E B L ms clock) (hroom : find16 (ms.map (·.e)) k = ms.length → ms.length + 1 ≤ E) :
    Calls Try.prog 31 #[.pointer (some ⟨tb, 0, none⟩), k.val] w (EntryEnd16 O w tb mb E B L ms k) := by
  have hlook := look16 ms k
  have e1 := Blk.new w #[.string k.src, .string k.dst, .int .i64 k.proto, .int .i64 k.id] 68
  have hb : Below w.heap.size w (w.alloc (.cells #[.string k.src, .string k.dst, .int .i64 k.proto, .int .i64 k.id] 68)) := (Below.refl _ w).alloc (Nat.le_refl _) _
  obtain ⟨O1, hO1⟩ : ∃ O1 : Nat → Prop, O1 = fun i => O i ∧ i < w.heap.size := ⟨_, rfl⟩
  have hcut := h.cut
  rw [← hO1] at hcut
  have HO : Hid (∀ i, O1 i → O i ∧ i < w.heap.size) := by rw [hO1]; exact fun i hi => hi
  have Y0 : Hid (Ky16 O1 w (w.alloc (.cells #[.string k.src, .string k.dst, .int .i64 k.proto, .int .i64 k.id] 68)) tb mb E B L clock ms k) := ⟨e1, hcut.below hb, hb⟩
  have HLOOK := Lib.hid hlook
  have HRM := Lib.hid hroom
  have HC1 := Lib.hid (fun W => clone16_any k.src W (by omega))
  have HC2 := Lib.hid (fun W => clone16_any k.dst W (by omega))
  unfold Tells at HC1 HC2
  unfold K16.val
  clear h e1 hb hlook hroom hcut hO1
  obtain ⟨ks, kd, kp, ki⟩ := k
  dsimp only at *
  have k0 := Y0.out.kb.cell 0
  have k1 := Y0.out.kb.cell 1
  have k2 := Y0.out.kb.cell 2
  have k3 := Y0.out.kb.cell 3
  have c3 := Y0.out.tb.tbl.cell 3
  simp only [List.getElem?_toArray, List.getElem?_cons_zero, List.getElem?_cons_succ] at k0 k1 k2 k3 c3
  go_enter Try.func31, Try.ntmps31
  go_upto_region 1 with (fail)
  generalize hw2 : w.alloc (.cells #[.string ks, .string kd, .int .i64 kp, .int .i64 ki] 68) = w2 at *
  rcases HLOOK.out with ⟨m, i, hi, hm, hf, hs, ho, hk⟩ | ⟨hf, hs, ho⟩
  -- THE REST
  · have hi2 := hi
    refine wp_region_held_drew (S := fun W => W.cell? ⟨w.heap.size, 0, none⟩ = some (.string ks) ∧ W.cell? ⟨w.heap.size, 1, none⟩ = some (.string kd) ∧ W.cell? ⟨w.heap.size, 2, none⟩ = some (.int .i64 kp) ∧ W.cell? ⟨w.heap.size, 3, none⟩ = some (.int .i64 ki) ∧ W.cell? ⟨tb, 3, none⟩ = some (.map (some mb)) ∧ Hid (Map16 W mb (ms.map M16.me) clock)) (by kernel_rfl) ?_ (fun hHeld => ?_)
    · exact ⟨k0, k1, k2, k3, c3, Lib.hid Y0.out.tb.map⟩
    refine takeH_yes (i := 0) (d := some 8) (v := ?v1) rfl rfl (by kernel_rfl) (by kernel_rfl) (by kernel_rfl) (fun _ _ _ h => h) (by rfl) ?y1 (by assumption) ?_
    case y1 => (intro w hSw; (try dsimp only at hSw); go_simp <;> with_reducible rfl)
    simp only [Act.put, List.setIfInBounds_toArray, List.set_cons_zero, List.set_cons_succ]
    refine takeH_yes (i := 1) (d := some 9) (v := ?v2) rfl rfl (by kernel_rfl) (by kernel_rfl) (by kernel_rfl) (fun _ _ _ h => h) (by rfl) ?y2 (by assumption) ?_
    case y2 => (intro w hSw; (try dsimp only at hSw); go_simp <;> with_reducible rfl)
    simp only [Act.put, List.setIfInBounds_toArray, List.set_cons_zero, List.set_cons_succ]
    refine takeH_yes (i := 2) (d := some 10) (v := ?v3) rfl rfl (by kernel_rfl) (by kernel_rfl) (by kernel_rfl) (fun _ _ _ h => h) (by rfl) ?y3 (by assumption) ?_
    case y3 => (intro w hSw; (try dsimp only at hSw); go_simp <;> with_reducible rfl)
    simp only [Act.put, List.setIfInBounds_toArray, List.set_cons_zero, List.set_cons_succ]
    refine takeH_yes (i := 3) (d := some 11) (v := ?v4) rfl rfl (by kernel_rfl) (by kernel_rfl) (by kernel_rfl) (fun _ _ _ h => h) (by rfl) ?y4 (by assumption) ?_
    case y4 => (intro w hSw; (try dsimp only at hSw); go_simp <;> with_reducible rfl)
    simp only [Act.put, List.setIfInBounds_toArray, List.set_cons_zero, List.set_cons_succ]
    refine takeH_yes (i := 4) (d := some 12) (v := ?v5) rfl rfl (by kernel_rfl) (by kernel_rfl) (by kernel_rfl) (fun _ _ _ h => h) (by rfl) ?y5 (by assumption) ?_
    case y5 => (intro w hSw; (try dsimp only at hSw); go_simp <;> with_reducible rfl)
    simp only [Act.put, List.setIfInBounds_toArray, List.set_cons_zero, List.set_cons_succ]
    refine takeH_yes (i := 5) (d := some 13) (v := .tuple #[.pointer (some ⟨m.eb, 0, none⟩), .bool true]) rfl rfl (by kernel_rfl) (by kernel_rfl) (by kernel_rfl) (fun _ _ _ h => h) (by rfl) ?y6 (by assumption) ?_
    case y6 => (intro w hSw; (try dsimp only at hSw); have hq := run_look_key (k := ⟨ks, kd, kp, ki⟩) hSw.2.2.2.2.2.out; rw [hs] at hq; unfold K16.val at hq; try dsimp only [M16.me] at hq; go_simp <;> with_reducible rfl)
    simp only [Act.put, List.setIfInBounds_toArray, List.set_cons_zero, List.set_cons_succ]
    refine takeH_yes (i := 6) (d := some 7) (v := ?v7) rfl rfl (by kernel_rfl) (by kernel_rfl) (by kernel_rfl) (fun _ _ _ h => h) (by rfl) ?y7 (by assumption) ?_
    case y7 => (intro w hSw; (try dsimp only at hSw); go_simp <;> with_reducible rfl)
    simp only [Act.put, List.setIfInBounds_toArray, List.set_cons_zero, List.set_cons_succ]
    refine takeH_yes (i := 7) (d := some 14) (v := ?v8) rfl rfl (by kernel_rfl) (by kernel_rfl) (by kernel_rfl) (fun _ _ _ h => h) (by rfl) ?y8 (by assumption) ?_
    case y8 => (intro w hSw; (try dsimp only at hSw); go_simp <;> with_reducible rfl)
    simp only [Act.put, List.setIfInBounds_toArray, List.set_cons_zero, List.set_cons_succ]
    refine takeH_yes (i := 8) (d := some 15) (v := ?v9) rfl rfl (by kernel_rfl) (by kernel_rfl) (by kernel_rfl) (fun _ _ _ h => h) (by rfl) ?y9 (by assumption) ?_
    case y9 => (intro w hSw; (try dsimp only at hSw); go_simp <;> with_reducible rfl)
    simp only [Act.put, List.setIfInBounds_toArray, List.set_cons_zero, List.set_cons_succ]
    refine takeH_yes (i := 9) (d := some 5) (v := ?v10) rfl rfl (by kernel_rfl) (by kernel_rfl) (by kernel_rfl) (fun _ _ _ h => h) (by rfl) ?y10 (by assumption) ?_
    case y10 => (intro w hSw; (try dsimp only at hSw); go_simp <;> with_reducible rfl)
    simp only [Act.put, List.setIfInBounds_toArray, List.set_cons_zero, List.set_cons_succ]
    refine takeH_yes (i := 10) (d := some 6) (v := ?v11) rfl rfl (by kernel_rfl) (by kernel_rfl) (by kernel_rfl) (fun _ _ _ h => h) (by rfl) ?y11 (by assumption) ?_
    case y11 => (intro w hSw; (try dsimp only at hSw); go_simp <;> with_reducible rfl)
    simp only [Act.put, List.setIfInBounds_toArray, List.set_cons_zero, List.set_cons_succ]
    refine wpAnyH_done (by kernel_rfl) ?_ _
    go_wp2_with fail
    go_ret
    unfold EntryEnd16
    refine ⟨ms.take i, ms.drop (i + 1), m, clock, rfl, ?_, ho.symm, by rw [hf, List.length_take]; omega, by rw [List.map_take, List.length_take, Nat.min_eq_left (by omega)], by rw [List.map_drop, List.length_take, Nat.min_eq_left (by omega)], kb_of_below Y0.out.drew.bel⟩
    have e : ms.take i ++ m :: ms.drop (i + 1) = ms := by
      rw [← hm, ← List.drop_eq_getElem_cons hi, List.take_append_drop]
    rw [e]
    exact Y0.out.drew.tb.mono (fun k hk => Or.inl (HO.out k hk).1)
  · have hi2 := hf
    refine wp_region_held_drew (S := fun W => W.cell? ⟨w.heap.size, 0, none⟩ = some (.string ks) ∧ W.cell? ⟨w.heap.size, 1, none⟩ = some (.string kd) ∧ W.cell? ⟨w.heap.size, 2, none⟩ = some (.int .i64 kp) ∧ W.cell? ⟨w.heap.size, 3, none⟩ = some (.int .i64 ki) ∧ W.cell? ⟨tb, 3, none⟩ = some (.map (some mb)) ∧ Hid (Map16 W mb (ms.map M16.me) clock)) (by kernel_rfl) ?_ (fun hHeld => ?_)
    · exact ⟨k0, k1, k2, k3, c3, Lib.hid Y0.out.tb.map⟩
    refine takeH_yes (i := 0) (d := some 8) (v := ?v12) rfl rfl (by kernel_rfl) (by kernel_rfl) (by kernel_rfl) (fun _ _ _ h => h) (by rfl) ?y12 (by assumption) ?_
    case y12 => (intro w hSw; (try dsimp only at hSw); go_simp <;> with_reducible rfl)
    simp only [Act.put, List.setIfInBounds_toArray, List.set_cons_zero, List.set_cons_succ]
    refine takeH_yes (i := 1) (d := some 9) (v := ?v13) rfl rfl (by kernel_rfl) (by kernel_rfl) (by kernel_rfl) (fun _ _ _ h => h) (by rfl) ?y13 (by assumption) ?_
    case y13 => (intro w hSw; (try dsimp only at hSw); go_simp <;> with_reducible rfl)
    simp only [Act.put, List.setIfInBounds_toArray, List.set_cons_zero, List.set_cons_succ]
    refine takeH_yes (i := 2) (d := some 10) (v := ?v14) rfl rfl (by kernel_rfl) (by kernel_rfl) (by kernel_rfl) (fun _ _ _ h => h) (by rfl) ?y14 (by assumption) ?_
    case y14 => (intro w hSw; (try dsimp only at hSw); go_simp <;> with_reducible rfl)
    simp only [Act.put, List.setIfInBounds_toArray, List.set_cons_zero, List.set_cons_succ]
    refine takeH_yes (i := 3) (d := some 11) (v := ?v15) rfl rfl (by kernel_rfl) (by kernel_rfl) (by kernel_rfl) (fun _ _ _ h => h) (by rfl) ?y15 (by assumption) ?_
    case y15 => (intro w hSw; (try dsimp only at hSw); go_simp <;> with_reducible rfl)
    simp only [Act.put, List.setIfInBounds_toArray, List.set_cons_zero, List.set_cons_succ]
    refine takeH_yes (i := 4) (d := some 12) (v := ?v16) rfl rfl (by kernel_rfl) (by kernel_rfl) (by kernel_rfl) (fun _ _ _ h => h) (by rfl) ?y16 (by assumption) ?_
    case y16 => (intro w hSw; (try dsimp only at hSw); go_simp <;> with_reducible rfl)
    simp only [Act.put, List.setIfInBounds_toArray, List.set_cons_zero, List.set_cons_succ]
    refine takeH_yes (i := 5) (d := some 13) (v := .tuple #[.pointer none, .bool false]) rfl rfl (by kernel_rfl) (by kernel_rfl) (by kernel_rfl) (fun _ _ _ h => h) (by rfl) ?y17 (by assumption) ?_
    case y17 => (intro w hSw; (try dsimp only at hSw); have hq := run_look_key (k := ⟨ks, kd, kp, ki⟩) hSw.2.2.2.2.2.out; rw [hs] at hq; unfold K16.val at hq; try dsimp only [M16.me] at hq; go_simp <;> with_reducible rfl)
    simp only [Act.put, List.setIfInBounds_toArray, List.set_cons_zero, List.set_cons_succ]
    refine takeH_yes (i := 6) (d := some 7) (v := ?v18) rfl rfl (by kernel_rfl) (by kernel_rfl) (by kernel_rfl) (fun _ _ _ h => h) (by rfl) ?y18 (by assumption) ?_
    case y18 => (intro w hSw; (try dsimp only at hSw); go_simp <;> with_reducible rfl)
    simp only [Act.put, List.setIfInBounds_toArray, List.set_cons_zero, List.set_cons_succ]
    refine takeH_yes (i := 7) (d := some 14) (v := ?v19) rfl rfl (by kernel_rfl) (by kernel_rfl) (by kernel_rfl) (fun _ _ _ h => h) (by rfl) ?y19 (by assumption) ?_
    case y19 => (intro w hSw; (try dsimp only at hSw); go_simp <;> with_reducible rfl)
    simp only [Act.put, List.setIfInBounds_toArray, List.set_cons_zero, List.set_cons_succ]
    refine takeH_yes (i := 8) (d := some 15) (v := ?v20) rfl rfl (by kernel_rfl) (by kernel_rfl) (by kernel_rfl) (fun _ _ _ h => h) (by rfl) ?y20 (by assumption) ?_
    case y20 => (intro w hSw; (try dsimp only at hSw); go_simp <;> with_reducible rfl)
    simp only [Act.put, List.setIfInBounds_toArray, List.set_cons_zero, List.set_cons_succ]
    refine takeH_yes (i := 9) (d := some 5) (v := ?v21) rfl rfl (by kernel_rfl) (by kernel_rfl) (by kernel_rfl) (fun _ _ _ h => h) (by rfl) ?y21 (by assumption) ?_
    case y21 => (intro w hSw; (try dsimp only at hSw); go_simp <;> with_reducible rfl)
    simp only [Act.put, List.setIfInBounds_toArray, List.set_cons_zero, List.set_cons_succ]
    refine takeH_yes (i := 10) (d := some 6) (v := ?v22) rfl rfl (by kernel_rfl) (by kernel_rfl) (by kernel_rfl) (fun _ _ _ h => h) (by rfl) ?y22 (by assumption) ?_
    case y22 => (intro w hSw; (try dsimp only at hSw); go_simp <;> with_reducible rfl)
    simp only [Act.put, List.setIfInBounds_toArray, List.set_cons_zero, List.set_cons_succ]
    refine wpAnyH_done (by kernel_rfl) ?_ _
    have Y1 := Lib.hid Y0.out.drew
    clear Y0 k0 k1 k2 k3 c3
    go_upto_region 4 with (fail)
    have hnew : Blk (w2.drew.alloc (.cells #[.int .i64 0, .int .i64 0, .int .i64 0, .int .i64 0, .int .i64 0, .bool false, .bool false, .string ⟨#[]⟩, .string ⟨#[]⟩, .string ⟨#[]⟩, .slice none 0 0, .int .i64 0, .int .i64 0, .bool false] 72)) w2.heap.size ((E16.new ⟨ks, kd, kp, ki⟩).cells (.slice none 0 0)) 72 := Blk.new w2.drew _ _
    have hba := (Below.refl w2.drew.heap.size w2.drew).alloc (Nat.le_refl _) (.cells #[.int .i64 0, .int .i64 0, .int .i64 0, .int .i64 0, .int .i64 0, .bool false, .bool false, .string ⟨#[]⟩, .string ⟨#[]⟩, .string ⟨#[]⟩, .slice none 0 0, .int .i64 0, .int .i64 0, .bool false] 72)
    have hgt : w.heap.size < w2.heap.size := by rw [← hw2]; simp
    have Y2 : Hid (Kn16 O1 w (w2.alloc (.cells #[.int .i64 0, .int .i64 0, .int .i64 0, .int .i64 0, .int .i64 0, .bool false, .bool false, .string ⟨#[]⟩, .string ⟨#[]⟩, .string ⟨#[]⟩, .slice none 0 0, .int .i64 0, .int .i64 0, .bool false] 72)).drew.drew tb mb E B L clock ms ⟨ks, kd, kp, ki⟩ w2.heap.size) := keyKeep (show Kn16 O1 w (w2.alloc (.cells #[.int .i64 0, .int .i64 0, .int .i64 0, .int .i64 0, .int .i64 0, .bool false, .bool false, .string ⟨#[]⟩, .string ⟨#[]⟩, .string ⟨#[]⟩, .slice none 0 0, .int .i64 0, .int .i64 0, .bool false] 72)).drew tb mb E B L clock ms ⟨ks, kd, kp, ki⟩ w2.heap.size from ⟨Y1.out.below hba, hgt, hnew⟩) (Below.refl _ _).drew
    clear hnew hba Y1 hw2
    generalize hw3 : w2.heap.size = M at *
    refine wp_region_held_drew (S := fun W => W.cell? ⟨w.heap.size, 0, none⟩ = some (.string ks) ∧ W.cell? ⟨w.heap.size, 1, none⟩ = some (.string kd) ∧ Hid (Kn16 O1 w W tb mb E B L clock ms ⟨ks, kd, kp, ki⟩ M)) (by kernel_rfl) ?_ (fun hHeld => ?_)
    · exact ⟨Y2.out.1.kb.cell 0, Y2.out.1.kb.cell 1, Y2⟩
    clear Y2
    refine takeH_yes (i := 0) (d := some 20) (v := ?v23) rfl rfl (by kernel_rfl) (by kernel_rfl) (by kernel_rfl) (fun _ _ _ h => h) (by rfl) ?y23 (by assumption) ?_
    case y23 => (intro w hSw; (try dsimp only at hSw); go_simp <;> with_reducible rfl)
    simp only [Act.put, List.setIfInBounds_toArray, List.set_cons_zero, List.set_cons_succ]
    refine takeH_yes (i := 1) (d := some 21) (v := ?v24) rfl rfl (by kernel_rfl) (by kernel_rfl) (by kernel_rfl) (fun _ _ _ h => h) (by rfl) ?y24 (by assumption) ?_
    case y24 => (intro w hSw; (try dsimp only at hSw); go_simp <;> with_reducible rfl)
    simp only [Act.put, List.setIfInBounds_toArray, List.set_cons_zero, List.set_cons_succ]
    refine takeH_yes (i := 3) (d := some 23) (v := ?v25) rfl rfl (by kernel_rfl) (by kernel_rfl) (by kernel_rfl) (fun _ _ _ h => h) (by rfl) ?y25 (by assumption) ?_
    case y25 => (intro w hSw; (try dsimp only at hSw); go_simp <;> with_reducible rfl)
    simp only [Act.put, List.setIfInBounds_toArray, List.set_cons_zero, List.set_cons_succ]
    refine takeH_yes (i := 4) (d := some 24) (v := ?v26) rfl rfl (by kernel_rfl) (by kernel_rfl) (by kernel_rfl) (fun _ _ _ h => h) (by rfl) ?y26 (by assumption) ?_
    case y26 => (intro w hSw; (try dsimp only at hSw); go_simp <;> with_reducible rfl)
    simp only [Act.put, List.setIfInBounds_toArray, List.set_cons_zero, List.set_cons_succ]
    refine wpAnyH_ready (rs := [2]) (by kernel_rfl) (by simp) ?_
    refine AllReadyH.cons rfl (fun K hK => ?_) AllReadyH.nil
    go_simp
    refine (HC1.out _).mono ?_
    rintro r wi ⟨rfl, hb⟩
    have YT := Lib.hid (keyKeep hHeld.2.2.out hb)
    refine hK.out _ _ ⟨YT.out.1.kb.cell 0, YT.out.1.kb.cell 1, YT⟩ (fun held2 => ?_)
    clear hK K YT hHeld hb
    try simp only [Act.put, List.setIfInBounds_toArray, List.set_cons_zero, List.set_cons_succ]
    refine takeH_yes (i := 6) (d := some 26) (v := ?v27) rfl rfl (by kernel_rfl) (by kernel_rfl) (by kernel_rfl) (fun _ _ _ h => h) (by rfl) ?y27 (by assumption) ?_
    case y27 => (intro w hSw; (try dsimp only at hSw); go_simp <;> with_reducible rfl)
    simp only [Act.put, List.setIfInBounds_toArray, List.set_cons_zero, List.set_cons_succ]
    refine wpAnyH_ready (rs := [5]) (by kernel_rfl) (by simp) ?_
    refine AllReadyH.cons rfl (fun K hK => ?_) AllReadyH.nil
    go_simp
    refine (HC2.out _).mono ?_
    rintro r wi ⟨rfl, hb⟩
    have YT := Lib.hid (keyKeep held2.2.2.out hb)
    refine hK.out _ _ ⟨YT.out.1.kb.cell 0, YT.out.1.kb.cell 1, YT⟩ (fun held5 => ?_)
    clear hK K YT held2 hb
    try simp only [Act.put, List.setIfInBounds_toArray, List.set_cons_zero, List.set_cons_succ]
    refine wpAnyH_ready (rs := [7]) (by kernel_rfl) (by simp) ?_
    refine AllReadyH.cons rfl (fun K hK => ?_) AllReadyH.nil
    have YS := held5.2.2.out
    have cS := YS.1.kb.cell 0
    have fS := YS.1.kb.frozen 0
    go_simp
    have YT := Lib.hid (keyStored YS (fun j hj => (HO.out j hj).2) 0 (.string ks) rfl)
    refine hK.out _ _ ⟨YT.out.1.kb.cell 0, YT.out.1.kb.cell 1, YT⟩ (fun held7 => ?_)
    clear hK K YS cS fS YT held5
    try simp only [Act.put, List.setIfInBounds_toArray, List.set_cons_zero, List.set_cons_succ]
    refine takeH_yes (i := 8) (d := some 27) (v := ?v28) rfl rfl (by kernel_rfl) (by kernel_rfl) (by kernel_rfl) (fun _ _ _ h => h) (by rfl) ?y28 (by assumption) ?_
    case y28 => (intro w hSw; (try dsimp only at hSw); go_simp <;> with_reducible rfl)
    simp only [Act.put, List.setIfInBounds_toArray, List.set_cons_zero, List.set_cons_succ]
    refine wpAnyH_ready (rs := [9]) (by kernel_rfl) (by simp) ?_
    refine AllReadyH.cons rfl (fun K hK => ?_) AllReadyH.nil
    have YS := held7.2.2.out
    have cS := YS.1.kb.cell 1
    have fS := YS.1.kb.frozen 1
    go_simp
    have YT := Lib.hid (keyStored YS (fun j hj => (HO.out j hj).2) 1 (.string kd) rfl)
    refine hK.out _ _ ⟨YT.out.1.kb.cell 0, YT.out.1.kb.cell 1, YT⟩ (fun held9 => ?_)
    clear hK K YS cS fS YT held7
    try simp only [Act.put, List.setIfInBounds_toArray, List.set_cons_zero, List.set_cons_succ]
    refine wpAnyH_done (by kernel_rfl) ?_ _
    have Y3 := Lib.hid held9.2.2.out
    clear held9
    generalize ((wi.setCell ⟨w.heap.size, 0, none⟩ (.string ks)).setCell ⟨w.heap.size, 1, none⟩ (.string kd)) = w6 at *
    go_upto_region 5 with (fail)
    have Y4 := Lib.hid (keyKeep Y3.out (Below.refl _ _).drew)
    clear Y3
    refine wp_region_held_drew (S := fun W => W.cell? ⟨w.heap.size, 0, none⟩ = some (.string ks) ∧ W.cell? ⟨w.heap.size, 1, none⟩ = some (.string kd) ∧ W.cell? ⟨w.heap.size, 2, none⟩ = some (.int .i64 kp) ∧ W.cell? ⟨w.heap.size, 3, none⟩ = some (.int .i64 ki) ∧ W.cell? ⟨tb, 3, none⟩ = some (.map (some mb))) (by kernel_rfl) ?_ (fun hHeld => ?_)
    · exact ⟨Y4.out.1.kb.cell 0, Y4.out.1.kb.cell 1, Y4.out.1.kb.cell 2, Y4.out.1.kb.cell 3, Y4.out.1.tb.tbl.cell 3⟩
    generalize w6.drew = w7 at *
    refine takeH_yes (i := 0) (d := some 28) (v := ?v29) rfl rfl (by kernel_rfl) (by kernel_rfl) (by kernel_rfl) (fun _ _ _ h => h) (by rfl) ?y29 (by assumption) ?_
    case y29 => (intro w hSw; (try dsimp only at hSw); go_simp <;> with_reducible rfl)
    simp only [Act.put, List.setIfInBounds_toArray, List.set_cons_zero, List.set_cons_succ]
    refine takeH_yes (i := 1) (d := some 29) (v := ?v30) rfl rfl (by kernel_rfl) (by kernel_rfl) (by kernel_rfl) (fun _ _ _ h => h) (by rfl) ?y30 (by assumption) ?_
    case y30 => (intro w hSw; (try dsimp only at hSw); go_simp <;> with_reducible rfl)
    simp only [Act.put, List.setIfInBounds_toArray, List.set_cons_zero, List.set_cons_succ]
    refine takeH_yes (i := 2) (d := some 30) (v := ?v31) rfl rfl (by kernel_rfl) (by kernel_rfl) (by kernel_rfl) (fun _ _ _ h => h) (by rfl) ?y31 (by assumption) ?_
    case y31 => (intro w hSw; (try dsimp only at hSw); go_simp <;> with_reducible rfl)
    simp only [Act.put, List.setIfInBounds_toArray, List.set_cons_zero, List.set_cons_succ]
    refine takeH_yes (i := 3) (d := some 31) (v := ?v32) rfl rfl (by kernel_rfl) (by kernel_rfl) (by kernel_rfl) (fun _ _ _ h => h) (by rfl) ?y32 (by assumption) ?_
    case y32 => (intro w hSw; (try dsimp only at hSw); go_simp <;> with_reducible rfl)
    simp only [Act.put, List.setIfInBounds_toArray, List.set_cons_zero, List.set_cons_succ]
    refine takeH_yes (i := 4) (d := some 32) (v := ?v33) rfl rfl (by kernel_rfl) (by kernel_rfl) (by kernel_rfl) (fun _ _ _ h => h) (by rfl) ?y33 (by assumption) ?_
    case y33 => (intro w hSw; (try dsimp only at hSw); go_simp <;> with_reducible rfl)
    simp only [Act.put, List.setIfInBounds_toArray, List.set_cons_zero, List.set_cons_succ]
    refine takeH_yes (i := 5) (d := some 33) (v := ?v34) rfl rfl (by kernel_rfl) (by kernel_rfl) (by kernel_rfl) (fun _ _ _ h => h) (by rfl) ?y34 (by assumption) ?_
    case y34 => (intro w hSw; (try dsimp only at hSw); go_simp <;> with_reducible rfl)
    simp only [Act.put, List.setIfInBounds_toArray, List.set_cons_zero, List.set_cons_succ]
    refine wpAnyH_ready (rs := [6]) (by kernel_rfl) (by simp) ?_
    refine AllReadyH.cons rfl (fun K hK => ?_) AllReadyH.nil
    have hsk : seek16 (ms.map M16.me) ⟨ks, kd, kp, ki⟩ = (ms.map M16.me).length := by rw [seek_find, hf, List.length_map]
    have hq := run_lay_key Y4.out.1.tb.map ⟨ks, kd, kp, ki⟩ M hsk
    have kb9 := setMap_kb w7 mb (.map ((ms.map M16.me ++ [(⟨⟨ks, kd, kp, ki⟩, M, clock⟩ : Me16)]).map Me16.entry).toArray (clock + 1))
    have hm9 : Map16 (setMap w7 mb (.map ((ms.map M16.me ++ [(⟨⟨ks, kd, kp, ki⟩, M, clock⟩ : Me16)]).map Me16.entry).toArray (clock + 1))) mb (ms.map M16.me ++ [⟨⟨ks, kd, kp, ki⟩, M, clock⟩]) (clock + 1) := setMap_at Y4.out.1.tb.map _
    generalize setMap w7 mb (.map ((ms.map M16.me ++ [(⟨⟨ks, kd, kp, ki⟩, M, clock⟩ : Me16)]).map Me16.entry).toArray (clock + 1)) = w9 at *
    unfold K16.val at hq
    dsimp only at hq
    go_simp
    have nes := Y4.out.1.tb.ne
    have hol := (HO.out _ Y4.out.1.tb.om).2
    have kK := Y4.out.1.kb.kb kb9 (by omega)
    have kT := Y4.out.1.tb.tbl.kb kb9 nes.1
    have hgtM : w.heap.size < M := Y4.out.2.1
    have hme : Blk w9 M ((E16.new ⟨ks, kd, kp, ki⟩).cells (.slice none 0 0)) 72 := Y4.out.2.2.kb kb9 (by omega)
    have hMl := Y4.out.2.2.lt
    have hT : Tb16 (fun i => O i ∨ w.heap.size ≤ i) w9 tb mb E B L (ms ++ [⟨E16.new ⟨ks, kd, kp, ki⟩, M, .slice none 0 0, clock⟩]) (clock + 1) := by
      have HT := Y4.out.1.tb
      have lt := HT.lt
      have hap : ∀ m ∈ ms, ∀ i, m.own i → i ≠ M := fun m hm i hi e => by have := (HO.out _ (HT.oe m hm i hi)).2; omega
      exact HT.pushAt kb9 (fun i e => e) hm9 ⟨hme, Row16.nil _⟩ hap hf (HRM.out hf) (fun i hi => Or.inl (HO.out i hi).1) (Or.inr (by omega))
    have HT9 := Lib.hid hT
    have HK9 := Lib.hid (show Kb O w w9 from (kb_of_below Y4.out.1.bel).trans (kb9.mono (fun i _ e => by subst e; exact (HO.out _ Y4.out.1.tb.om).1)))
    refine hK.out _ _ ⟨kK.cell 0, kK.cell 1, kK.cell 2, kK.cell 3, kT.cell 3⟩ (fun held6 => ?_)
    clear hK K hq kb9 hm9 kK kT hme hT held6 hHeld
    try simp only [Act.put, List.setIfInBounds_toArray, List.set_cons_zero, List.set_cons_succ]
    refine wpAnyH_done (by kernel_rfl) ?_ _
    go_wp2_with fail
    go_ret
    unfold EntryEnd16
    refine ⟨ms, [], ⟨E16.new ⟨ks, kd, kp, ki⟩, M, .slice none 0 0, clock⟩, clock + 1, rfl, HT9.out, ho.symm, hf.symm, ?_, ?_, HK9.out⟩
    · rw [List.take_of_length_le (by simp)]
    · rw [List.drop_of_length_le (by simp)]
      rfl

end Go.Proofs.Ytoijomdgcgbpbaa
