/-
  refuse: why a piece can't be one more of its entry's.
-/
import Derived.Test.YtoijomdgcgbpbaaReasmFits
import Derived.Test.YtoijomdgcgbpbaaReasmLook
import Derived.Test.YtoijomdgcgbpbaaGround
namespace Go.Proofs.Ytoijomdgcgbpbaa
open Go.RowKit
set_option linter.unusedVariables false

/-- The key and the piece in their blocks, the entry that is asked, the table. -/
structure Rf16 (O : Nat → Prop) (w W : World) (tb mb E B L clock : Nat) (ms : List M16) (k : K16) (x : P16) (e : E16) (eb : Nat) (v : Value) : Prop where
  kb : Blk W w.heap.size #[.string k.src, .string k.dst, .int .i64 k.proto, .int .i64 k.id] 68
  xb : Blk W (w.heap.size + 1) #[.int .i64 (x.lo : Nat), .string x.s, .bool x.last] 79
  en : En16 W e eb v
  tb : Tb16 O W tb mb E B L ms clock
  bel : Below w.heap.size w W
theorem Rf16.below {O : Nat → Prop} {w W W' : World} {tb mb E B L clock : Nat} {ms : List M16} {k : K16} {x : P16} {e : E16} {eb : Nat} {v : Value} (h : Rf16 O w W tb mb E B L clock ms k x e eb v) (hb : Below W.heap.size W W') : Rf16 O w W' tb mb E B L clock ms k x e eb v :=
  ⟨(hb.block _ h.kb.lt).trans h.kb, (hb.block _ h.xb.lt).trans h.xb, h.en.below hb, h.tb.below hb, h.bel.trans (hb.mono h.bel.size)⟩
theorem Rf16.drewN {O : Nat → Prop} {w W : World} {tb mb E B L clock : Nat} {ms : List M16} {k : K16} {x : P16} {e : E16} {eb : Nat} {v : Value} (h : Rf16 O w W tb mb E B L clock ms k x e eb v) (n : Nat) : Rf16 O w (W.drewN n) tb mb E B L clock ms k x e eb v :=
  h.below (below_drewN (Below.refl _ _) n)

/-- What a look-up finds. -/
theorem look16 (ms : List M16) (k : K16) : (∃ (m : M16) (i : Nat) (hi : i < ms.length), ms[i] = m ∧ find16 (ms.map (·.e)) k = i ∧ (ms.map M16.me)[seek16 (ms.map M16.me) k]? = some m.me ∧ old16 (ms.map (·.e)) k = m.e ∧ m.e.k = k) ∨
    (find16 (ms.map (·.e)) k = ms.length ∧ (ms.map M16.me)[seek16 (ms.map M16.me) k]? = none ∧ old16 (ms.map (·.e)) k = E16.new k) := by
  have hs := seek_find ms k
  have hle : find16 (ms.map (·.e)) k ≤ (ms.map (·.e)).length := List.findIdx_le_length
  rw [List.length_map] at hle
  rcases Nat.lt_or_ge (find16 (ms.map (·.e)) k) ms.length with h | h
  · left
    refine ⟨ms[find16 (ms.map (·.e)) k], find16 (ms.map (·.e)) k, h, rfl, rfl, ?_, ?_, ?_⟩
    · rw [hs, List.getElem?_map, List.getElem?_eq_getElem h]
      rfl
    · unfold old16
      rw [List.getD_eq_getElem?_getD, List.getElem?_map, List.getElem?_eq_getElem h]
      rfl
    · have hf := List.findIdx_getElem (p := fun e : E16 => decide (e.k = k)) (xs := ms.map (·.e)) (w := by rw [List.length_map]; exact h)
      have hf2 := of_decide_eq_true hf
      rw [List.getElem_map] at hf2
      exact hf2
  · right
    have e : find16 (ms.map (·.e)) k = ms.length := by omega
    refine ⟨e, ?_, ?_⟩
    · rw [hs, e]
      simp
    · unfold old16
      rw [List.getD_eq_getElem?_getD, e]
      simp

theorem Rf16.all {O : Nat → Prop} {w W : World} {tb mb E B L clock : Nat} {ms : List M16} {k : K16} {xl : Nat} {xs : ByteArray} {xf : Bool} {e : E16} {eb : Nat} {v : Value} (h : Rf16 O w W tb mb E B L clock ms k ⟨xl, xs, xf⟩ e eb v) :
    W.cell? ⟨w.heap.size + 1, 1, none⟩ = some (.string xs) ∧ W.cell? ⟨tb, 0, none⟩ = some (.int .i64 (E : Nat)) ∧ W.cell? ⟨tb, 1, none⟩ = some (.int .i64 (B : Nat)) ∧ W.cell? ⟨tb, 3, none⟩ = some (.map (some mb)) ∧ Hid (Rf16 O w W tb mb E B L clock ms k ⟨xl, xs, xf⟩ e eb v) := ⟨h.xb.cell 1, h.tb.tbl.cell 0, h.tb.tbl.cell 1, h.tb.tbl.cell 3, Lib.hid h⟩
theorem keepR16 {O : Nat → Prop} {w W W' : World} {tb mb E B L clock : Nat} {ms : List M16} {k : K16} {xl : Nat} {xs : ByteArray} {xf : Bool} {e : E16} {eb : Nat} {v : Value} (hb : Below W.heap.size W W')
    (r : W.cell? ⟨w.heap.size + 1, 1, none⟩ = some (.string xs) ∧ W.cell? ⟨tb, 0, none⟩ = some (.int .i64 (E : Nat)) ∧ W.cell? ⟨tb, 1, none⟩ = some (.int .i64 (B : Nat)) ∧ W.cell? ⟨tb, 3, none⟩ = some (.map (some mb)) ∧ Hid (Rf16 O w W tb mb E B L clock ms k ⟨xl, xs, xf⟩ e eb v)) : W'.cell? ⟨w.heap.size + 1, 1, none⟩ = some (.string xs) ∧ W'.cell? ⟨tb, 0, none⟩ = some (.int .i64 (E : Nat)) ∧ W'.cell? ⟨tb, 1, none⟩ = some (.int .i64 (B : Nat)) ∧ W'.cell? ⟨tb, 3, none⟩ = some (.map (some mb)) ∧ Hid (Rf16 O w W' tb mb E B L clock ms k ⟨xl, xs, xf⟩ e eb v) := (r.2.2.2.2.out.below hb).all

theorem Ent16.new {E B L : Nat} {l : List E16} (h : Tab16 E B L l) (k : K16) : Ent16 L (E16.new k) :=
  ⟨⟨List.Pairwise.nil, by simp [E16.new], by simp [E16.new]⟩, by have := h.store; show 0 < L; omega, fun e => by simp [E16.new] at e, Or.inl rfl, by simp [E16.new]⟩
theorem old16_ent {E B L : Nat} {l : List E16} (h : Tab16 E B L l) (k : K16) : Ent16 L (old16 l k) := by
  unfold old16
  rw [List.getD_eq_getElem?_getD]
  cases hx : l[find16 l k]? with
  | none => exact Ent16.new h k
  | some e => exact h.each e (List.mem_of_getElem? hx)
theorem En16.new (w : World) (k : K16) : En16 (w.alloc (.cells ((E16.new k).cells (.slice none 0 0)) 72)) (E16.new k) w.heap.size (.slice none 0 0) := ⟨Blk.new w _ _, Row16.nil _⟩
theorem E16.new_cells (k : K16) : (E16.new k).cells (.slice none 0 0) = #[.int .i64 0, .int .i64 0, .int .i64 0, .int .i64 0, .int .i64 0, .bool false, .bool false, .string ⟨#[]⟩, .string ⟨#[]⟩, .string ⟨#[]⟩, .slice none 0 0, .int .i64 0, .int .i64 0, .bool false] := rfl

set_option maxRecDepth 100000 in
set_option maxHeartbeats 4000000 in
theorem refuse16_any {O : Nat → Prop} {tb mb E B L clock : Nat} {ms : List M16} (k : K16) (x : P16) (hx : x.Small) (w : World) (h : Tb16 O w tb mb E B L ms clock) :
    Calls Try.prog 30 #[.pointer (some ⟨tb, 0, none⟩), k.val, x.val] w (Tells (.int .i64 (no16 E B (ms.map (·.e)) k x : Nat)) w) := by
  have hlook := look16 ms k
  have e1 := Blk.new w #[.string k.src, .string k.dst, .int .i64 k.proto, .int .i64 k.id] 68
  have e2 := Blk.new (w.alloc (.cells #[.string k.src, .string k.dst, .int .i64 k.proto, .int .i64 k.id] 68)) #[.int .i64 (x.lo : Nat), .string x.s, .bool x.last] 79
  simp only [World.size_alloc] at e2
  have hb : Below w.heap.size w ((w.alloc (.cells #[.string k.src, .string k.dst, .int .i64 k.proto, .int .i64 k.id] 68)).alloc (.cells #[.int .i64 (x.lo : Nat), .string x.s, .bool x.last] 79)) := ((Below.refl _ w).alloc (Nat.le_refl _) _).alloc (by simp) _
  have HT := Lib.hid (h.below hb)
  have K0 := Lib.hid (e1.alloc (.cells #[.int .i64 (x.lo : Nat), .string x.s, .bool x.last] 79))
  have X0 := Lib.hid e2
  have HB := Lib.hid hb
  have c3 := HT.out.tbl.cell 3
  simp only [List.getElem?_toArray, List.getElem?_cons_zero, List.getElem?_cons_succ] at c3
  have k0 := K0.out.cell 0
  have k1 := K0.out.cell 1
  have k2 := K0.out.cell 2
  have k3 := K0.out.cell 3
  simp only [List.getElem?_toArray, List.getElem?_cons_zero, List.getElem?_cons_succ] at k0 k1 k2 k3
  have HLK := Lib.hid (run_look_key (k := k) HT.out.map)
  have HLOOK := Lib.hid hlook
  unfold Tells
  generalize hno : no16 E B (ms.map (·.e)) k x = R at *
  have HNO := Lib.hid hno
  unfold K16.val at HLK ⊢
  unfold P16.val
  clear h e1 e2 hb hlook hno
  obtain ⟨ks, kd, kp, ki⟩ := k
  dsimp only at *
  go_enter Try.func30, Try.ntmps30
  go_upto_region 1 with (fail)
  generalize hw2 : (w.alloc (.cells #[.string ks, .string kd, .int .i64 kp, .int .i64 ki] 68)).alloc (.cells #[.int .i64 (x.lo : Nat), .string x.s, .bool x.last] 79) = w2 at *
  go_cut [7, 8] (fun v7 v8 wx => ∃ b : Bool, v8 = .bool b ∧ ((∃ (m : M16) (i : Nat) (hi : i < ms.length), v7 = .pointer (some ⟨m.eb, 0, none⟩) ∧ b = true ∧ ms[i] = m ∧ find16 (ms.map (·.e)) ⟨ks, kd, kp, ki⟩ = i ∧ old16 (ms.map (·.e)) ⟨ks, kd, kp, ki⟩ = m.e) ∨ (v7 = .pointer none ∧ b = false ∧ find16 (ms.map (·.e)) ⟨ks, kd, kp, ki⟩ = ms.length ∧ old16 (ms.map (·.e)) ⟨ks, kd, kp, ki⟩ = E16.new ⟨ks, kd, kp, ki⟩)) ∧ Hid (wx = w2.drew))
  case first =>
    rcases HLOOK.out with ⟨m, i, hi, hm, hf, hs, ho, hk⟩ | ⟨hf, hs, ho⟩
    · clear HLK
      refine wp_region_held_drew (S := fun W => W.cell? ⟨w.heap.size, 0, none⟩ = some (.string ks) ∧ W.cell? ⟨w.heap.size, 1, none⟩ = some (.string kd) ∧ W.cell? ⟨w.heap.size, 2, none⟩ = some (.int .i64 kp) ∧ W.cell? ⟨w.heap.size, 3, none⟩ = some (.int .i64 ki) ∧ W.cell? ⟨tb, 3, none⟩ = some (.map (some mb)) ∧ Hid (Map16 W mb (ms.map M16.me) clock)) (by kernel_rfl) ?_ (fun hHeld => ?_)
      · exact ⟨k0, k1, k2, k3, c3, Lib.hid HT.out.map⟩
      refine takeH_yes (i := 0) (d := some 10) (v := ?v1) rfl rfl (by kernel_rfl) (by kernel_rfl) (by kernel_rfl) (fun _ _ _ h => h) (by rfl) ?y1 (by assumption) ?_
      case y1 => (intro w hSw; (try dsimp only at hSw); go_simp <;> with_reducible rfl)
      simp only [Act.put, List.setIfInBounds_toArray, List.set_cons_zero, List.set_cons_succ]
      refine takeH_yes (i := 1) (d := some 11) (v := ?v2) rfl rfl (by kernel_rfl) (by kernel_rfl) (by kernel_rfl) (fun _ _ _ h => h) (by rfl) ?y2 (by assumption) ?_
      case y2 => (intro w hSw; (try dsimp only at hSw); go_simp <;> with_reducible rfl)
      simp only [Act.put, List.setIfInBounds_toArray, List.set_cons_zero, List.set_cons_succ]
      refine takeH_yes (i := 2) (d := some 12) (v := ?v3) rfl rfl (by kernel_rfl) (by kernel_rfl) (by kernel_rfl) (fun _ _ _ h => h) (by rfl) ?y3 (by assumption) ?_
      case y3 => (intro w hSw; (try dsimp only at hSw); go_simp <;> with_reducible rfl)
      simp only [Act.put, List.setIfInBounds_toArray, List.set_cons_zero, List.set_cons_succ]
      refine takeH_yes (i := 3) (d := some 13) (v := ?v4) rfl rfl (by kernel_rfl) (by kernel_rfl) (by kernel_rfl) (fun _ _ _ h => h) (by rfl) ?y4 (by assumption) ?_
      case y4 => (intro w hSw; (try dsimp only at hSw); go_simp <;> with_reducible rfl)
      simp only [Act.put, List.setIfInBounds_toArray, List.set_cons_zero, List.set_cons_succ]
      refine takeH_yes (i := 4) (d := some 14) (v := ?v5) rfl rfl (by kernel_rfl) (by kernel_rfl) (by kernel_rfl) (fun _ _ _ h => h) (by rfl) ?y5 (by assumption) ?_
      case y5 => (intro w hSw; (try dsimp only at hSw); go_simp <;> with_reducible rfl)
      simp only [Act.put, List.setIfInBounds_toArray, List.set_cons_zero, List.set_cons_succ]
      refine takeH_yes (i := 5) (d := some 15) (v := .tuple #[.pointer (some ⟨m.eb, 0, none⟩), .bool true]) rfl rfl (by kernel_rfl) (by kernel_rfl) (by kernel_rfl) (fun _ _ _ h => h) (by rfl) ?y6 (by assumption) ?_
      case y6 => (intro w hSw; (try dsimp only at hSw); have hq := run_look_key (k := ⟨ks, kd, kp, ki⟩) hSw.2.2.2.2.2.out; rw [hs] at hq; unfold K16.val at hq; try dsimp only [M16.me] at hq; go_simp <;> with_reducible rfl)
      simp only [Act.put, List.setIfInBounds_toArray, List.set_cons_zero, List.set_cons_succ]
      refine takeH_yes (i := 6) (d := some 9) (v := ?v7) rfl rfl (by kernel_rfl) (by kernel_rfl) (by kernel_rfl) (fun _ _ _ h => h) (by rfl) ?y7 (by assumption) ?_
      case y7 => (intro w hSw; (try dsimp only at hSw); go_simp <;> with_reducible rfl)
      simp only [Act.put, List.setIfInBounds_toArray, List.set_cons_zero, List.set_cons_succ]
      refine takeH_yes (i := 7) (d := some 16) (v := ?v8) rfl rfl (by kernel_rfl) (by kernel_rfl) (by kernel_rfl) (fun _ _ _ h => h) (by rfl) ?y8 (by assumption) ?_
      case y8 => (intro w hSw; (try dsimp only at hSw); go_simp <;> with_reducible rfl)
      simp only [Act.put, List.setIfInBounds_toArray, List.set_cons_zero, List.set_cons_succ]
      refine takeH_yes (i := 8) (d := some 17) (v := ?v9) rfl rfl (by kernel_rfl) (by kernel_rfl) (by kernel_rfl) (fun _ _ _ h => h) (by rfl) ?y9 (by assumption) ?_
      case y9 => (intro w hSw; (try dsimp only at hSw); go_simp <;> with_reducible rfl)
      simp only [Act.put, List.setIfInBounds_toArray, List.set_cons_zero, List.set_cons_succ]
      refine takeH_yes (i := 9) (d := some 7) (v := ?v10) rfl rfl (by kernel_rfl) (by kernel_rfl) (by kernel_rfl) (fun _ _ _ h => h) (by rfl) ?y10 (by assumption) ?_
      case y10 => (intro w hSw; (try dsimp only at hSw); go_simp <;> with_reducible rfl)
      simp only [Act.put, List.setIfInBounds_toArray, List.set_cons_zero, List.set_cons_succ]
      refine takeH_yes (i := 10) (d := some 8) (v := ?v11) rfl rfl (by kernel_rfl) (by kernel_rfl) (by kernel_rfl) (fun _ _ _ h => h) (by rfl) ?y11 (by assumption) ?_
      case y11 => (intro w hSw; (try dsimp only at hSw); go_simp <;> with_reducible rfl)
      simp only [Act.put, List.setIfInBounds_toArray, List.set_cons_zero, List.set_cons_succ]
      refine wpAnyH_done (by kernel_rfl) ?_ _
      go_wp2_with fail
      go_meet
      exact ⟨true, rfl, Or.inl ⟨m, i, hi, rfl, rfl, hm, hf, ho⟩, Lib.hid rfl⟩
    · clear HLK
      refine wp_region_held_drew (S := fun W => W.cell? ⟨w.heap.size, 0, none⟩ = some (.string ks) ∧ W.cell? ⟨w.heap.size, 1, none⟩ = some (.string kd) ∧ W.cell? ⟨w.heap.size, 2, none⟩ = some (.int .i64 kp) ∧ W.cell? ⟨w.heap.size, 3, none⟩ = some (.int .i64 ki) ∧ W.cell? ⟨tb, 3, none⟩ = some (.map (some mb)) ∧ Hid (Map16 W mb (ms.map M16.me) clock)) (by kernel_rfl) ?_ (fun hHeld => ?_)
      · exact ⟨k0, k1, k2, k3, c3, Lib.hid HT.out.map⟩
      refine takeH_yes (i := 0) (d := some 10) (v := ?v12) rfl rfl (by kernel_rfl) (by kernel_rfl) (by kernel_rfl) (fun _ _ _ h => h) (by rfl) ?y12 (by assumption) ?_
      case y12 => (intro w hSw; (try dsimp only at hSw); go_simp <;> with_reducible rfl)
      simp only [Act.put, List.setIfInBounds_toArray, List.set_cons_zero, List.set_cons_succ]
      refine takeH_yes (i := 1) (d := some 11) (v := ?v13) rfl rfl (by kernel_rfl) (by kernel_rfl) (by kernel_rfl) (fun _ _ _ h => h) (by rfl) ?y13 (by assumption) ?_
      case y13 => (intro w hSw; (try dsimp only at hSw); go_simp <;> with_reducible rfl)
      simp only [Act.put, List.setIfInBounds_toArray, List.set_cons_zero, List.set_cons_succ]
      refine takeH_yes (i := 2) (d := some 12) (v := ?v14) rfl rfl (by kernel_rfl) (by kernel_rfl) (by kernel_rfl) (fun _ _ _ h => h) (by rfl) ?y14 (by assumption) ?_
      case y14 => (intro w hSw; (try dsimp only at hSw); go_simp <;> with_reducible rfl)
      simp only [Act.put, List.setIfInBounds_toArray, List.set_cons_zero, List.set_cons_succ]
      refine takeH_yes (i := 3) (d := some 13) (v := ?v15) rfl rfl (by kernel_rfl) (by kernel_rfl) (by kernel_rfl) (fun _ _ _ h => h) (by rfl) ?y15 (by assumption) ?_
      case y15 => (intro w hSw; (try dsimp only at hSw); go_simp <;> with_reducible rfl)
      simp only [Act.put, List.setIfInBounds_toArray, List.set_cons_zero, List.set_cons_succ]
      refine takeH_yes (i := 4) (d := some 14) (v := ?v16) rfl rfl (by kernel_rfl) (by kernel_rfl) (by kernel_rfl) (fun _ _ _ h => h) (by rfl) ?y16 (by assumption) ?_
      case y16 => (intro w hSw; (try dsimp only at hSw); go_simp <;> with_reducible rfl)
      simp only [Act.put, List.setIfInBounds_toArray, List.set_cons_zero, List.set_cons_succ]
      refine takeH_yes (i := 5) (d := some 15) (v := .tuple #[.pointer none, .bool false]) rfl rfl (by kernel_rfl) (by kernel_rfl) (by kernel_rfl) (fun _ _ _ h => h) (by rfl) ?y17 (by assumption) ?_
      case y17 => (intro w hSw; (try dsimp only at hSw); have hq := run_look_key (k := ⟨ks, kd, kp, ki⟩) hSw.2.2.2.2.2.out; rw [hs] at hq; unfold K16.val at hq; try dsimp only [M16.me] at hq; go_simp <;> with_reducible rfl)
      simp only [Act.put, List.setIfInBounds_toArray, List.set_cons_zero, List.set_cons_succ]
      refine takeH_yes (i := 6) (d := some 9) (v := ?v18) rfl rfl (by kernel_rfl) (by kernel_rfl) (by kernel_rfl) (fun _ _ _ h => h) (by rfl) ?y18 (by assumption) ?_
      case y18 => (intro w hSw; (try dsimp only at hSw); go_simp <;> with_reducible rfl)
      simp only [Act.put, List.setIfInBounds_toArray, List.set_cons_zero, List.set_cons_succ]
      refine takeH_yes (i := 7) (d := some 16) (v := ?v19) rfl rfl (by kernel_rfl) (by kernel_rfl) (by kernel_rfl) (fun _ _ _ h => h) (by rfl) ?y19 (by assumption) ?_
      case y19 => (intro w hSw; (try dsimp only at hSw); go_simp <;> with_reducible rfl)
      simp only [Act.put, List.setIfInBounds_toArray, List.set_cons_zero, List.set_cons_succ]
      refine takeH_yes (i := 8) (d := some 17) (v := ?v20) rfl rfl (by kernel_rfl) (by kernel_rfl) (by kernel_rfl) (fun _ _ _ h => h) (by rfl) ?y20 (by assumption) ?_
      case y20 => (intro w hSw; (try dsimp only at hSw); go_simp <;> with_reducible rfl)
      simp only [Act.put, List.setIfInBounds_toArray, List.set_cons_zero, List.set_cons_succ]
      refine takeH_yes (i := 9) (d := some 7) (v := ?v21) rfl rfl (by kernel_rfl) (by kernel_rfl) (by kernel_rfl) (fun _ _ _ h => h) (by rfl) ?y21 (by assumption) ?_
      case y21 => (intro w hSw; (try dsimp only at hSw); go_simp <;> with_reducible rfl)
      simp only [Act.put, List.setIfInBounds_toArray, List.set_cons_zero, List.set_cons_succ]
      refine takeH_yes (i := 10) (d := some 8) (v := ?v22) rfl rfl (by kernel_rfl) (by kernel_rfl) (by kernel_rfl) (fun _ _ _ h => h) (by rfl) ?y22 (by assumption) ?_
      case y22 => (intro w hSw; (try dsimp only at hSw); go_simp <;> with_reducible rfl)
      simp only [Act.put, List.setIfInBounds_toArray, List.set_cons_zero, List.set_cons_succ]
      refine wpAnyH_done (by kernel_rfl) ?_ _
      go_wp2_with fail
      go_meet
      exact ⟨false, rfl, Or.inr ⟨rfl, rfl, hf, ho⟩, Lib.hid rfl⟩
  case rest =>
    obtain ⟨b, rfl, hcase, hwx⟩ := hcut
    have HWX := Lib.hid hwx.out
    have HCASE := Lib.hid hcase
    clear hwx hcase HLK HLOOK k0 k1 k2 k3 c3
    go_upto_if 19 with (fail)
    go_cut [7] (fun v7 wx => ∃ eb v, v7 = .pointer (some ⟨eb, 0, none⟩) ∧ b = decide (find16 (ms.map (·.e)) ⟨ks, kd, kp, ki⟩ < ms.length) ∧ Hid (Rf16 O w wx tb mb E B L clock ms ⟨ks, kd, kp, ki⟩ x (old16 (ms.map (·.e)) ⟨ks, kd, kp, ki⟩) eb v))
    case first =>
      rcases HCASE.out with ⟨m, i, hi, rfl, rfl, hm, hf, ho⟩ | ⟨rfl, rfl, hf, ho⟩
      · go_wp2_with fail
        go_meet
        refine ⟨m.eb, m.v, rfl, by rw [hf, decide_eq_true hi], ?_⟩
        rw [ho, HWX.out]
        exact Lib.hid ⟨K0.out.drew, X0.out.drew, (HT.out.ents m (hm ▸ List.getElem_mem hi)).kb (S := fun _ => False) (Kb.refl _ _).drew id (fun _ _ => id), HT.out.drew, HB.out.drew⟩
      · go_wp2_with fail
        go_meet
        refine ⟨wc.heap.size, .slice none 0 0, rfl, by rw [hf, decide_eq_false (Nat.lt_irrefl _)], ?_⟩
        rw [ho]
        have hn := En16.new wc ⟨ks, kd, kp, ki⟩
        rw [E16.new_cells] at hn
        have hba := (Below.refl wc.heap.size wc).alloc (Nat.le_refl _) (.cells #[.int .i64 0, .int .i64 0, .int .i64 0, .int .i64 0, .int .i64 0, .bool false, .bool false, .string ⟨#[]⟩, .string ⟨#[]⟩, .string ⟨#[]⟩, .slice none 0 0, .int .i64 0, .int .i64 0, .bool false] 72)
        refine Lib.hid ⟨Blk.alloc ?_ _, Blk.alloc ?_ _, hn, Tb16.below ?_ hba, Below.trans ?_ (hba.mono ?_)⟩
        · rw [HWX.out]; exact K0.out.drew
        · rw [HWX.out]; exact X0.out.drew
        · rw [HWX.out]; exact HT.out.drew
        · rw [HWX.out]; exact HB.out.drew
        · rw [HWX.out]; exact HB.out.size
    case rest =>
      obtain ⟨eb, v, rfl, hbb, hrf⟩ := hcut
      clear HCASE HWX
      have HMEL : Hid ((ms.map M16.me).length = ms.length) := List.length_map ..
      have HENT := Lib.hid (old16_ent HT.out.tab ⟨ks, kd, kp, ki⟩)
      have hR := HNO.out
      unfold no16 at hR
      have HLEN : Hid ((ms.map (·.e)).length = ms.length) := List.length_map ..
      generalize old16 (ms.map (·.e)) ⟨ks, kd, kp, ki⟩ = e at *
      have HBB := Lib.hid hbb
      have HBY : Hid (bytes16 (ms.map (·.e)) ≤ 1048576) := Nat.le_trans HT.out.tab.bytes HT.out.tab.store.2.2.2.1
      have HSTORE := Lib.hid HT.out.tab.store
      have HMS : Hid (ms.length ≤ 64) := by have h1 := HT.out.tab.len; have h2 := HT.out.tab.store; rw [HLEN.out] at h1; exact Nat.le_trans h1 h2.2.1
      have HFLE : Hid (find16 (ms.map (·.e)) ⟨ks, kd, kp, ki⟩ ≤ ms.length) := by rw [← HLEN.out]; exact List.findIdx_le_length
      generalize find16 (ms.map (·.e)) ⟨ks, kd, kp, ki⟩ = f at *
      have HM1 := Lib.hid (fun W => mayBe16_any x W hx)
      have HM2 := Lib.hid (fun W (hW : En16 W e eb v) => has16_any e eb v x W hW HENT.out.good)
      have HM3 := Lib.hid (fun W (hW : En16 W e eb v) => fits16_any e eb v x W hW HENT.out.good hx)
      have HM4 := Lib.hid (fun W (hW : Tb16 O W tb mb E B L ms clock) => bytes16_any W hW)
      unfold Tells P16.val at HM1 HM2 HM3
      unfold Tells at HM4
      have hxs := hx.s
      generalize bytes16 (ms.map (·.e)) = T at *
      generalize ms.length = N at *
      have R0 := Lib.hid hrf.out
      have x0 := R0.out.xb.cell 0
      have x1 := R0.out.xb.cell 1
      have x2 := R0.out.xb.cell 2
      simp only [List.getElem?_toArray, List.getElem?_cons_zero, List.getElem?_cons_succ] at x0 x1 x2
      have HR := Lib.hid hR
      clear hrf HNO hbb hR K0 X0 HT HB hw2
      obtain ⟨xl, xs, xf⟩ := x
      dsimp only at *
      go_wp2_with fail
      refine (HM1.out _).mono ?_
      rintro r w3 ⟨rfl, hb3⟩
      have R1 := Lib.hid (R0.out.below hb3)
      clear hb3 R0 x0 x1 x2 HM1
      have hR := HR.out
      cases hmb : P16.mayBe ⟨xl, xs, xf⟩ with
      | false =>
        rw [hmb, if_pos rfl] at hR
        clear HR hmb
        subst hR
        go_wp2_with fail
        go_ret
        exact ⟨rfl, R1.out.bel⟩
      | true =>
        rw [hmb, if_neg (by simp)] at hR
        clear HR hmb
        have d13 := R1.out.en.b.cell 13
        simp only [E16.cells, List.getElem?_toArray, List.getElem?_cons_zero, List.getElem?_cons_succ] at d13
        cases hdn : e.done with
        | true =>
          rw [hdn] at d13
          rw [hdn, if_pos rfl] at hR
          subst hR
          clear hdn
          go_wp2_with fail
          go_ret
          exact ⟨rfl, R1.out.bel⟩
        | false =>
          rw [hdn] at d13
          rw [hdn, if_neg (by simp)] at hR
          have HR := Lib.hid hR
          have x0 := R1.out.xb.cell 0
          have x1 := R1.out.xb.cell 1
          have x2 := R1.out.xb.cell 2
          simp only [List.getElem?_toArray, List.getElem?_cons_zero, List.getElem?_cons_succ] at x0 x1 x2
          clear hR hdn
          go_wp2_with fail
          refine (HM2.out _ R1.out.en).mono ?_
          rintro r w4 ⟨rfl, hb4⟩
          have R2 := Lib.hid (R1.out.below hb4)
          clear hb4 R1 x0 x1 x2 d13 HM2
          have hR := HR.out
          cases hal : (near16 e.qs xl).any (alike16 ⟨xl, xs, xf⟩) with
          | true =>
            rw [hal, if_pos rfl] at hR
            clear HR hal
            subst hR
            go_wp2_with fail
            go_ret
            exact ⟨rfl, R2.out.bel⟩
          | false =>
            rw [hal, if_neg (by simp)] at hR
            have HR2 := Lib.hid hR
            clear HR hal hR
            have x0 := R2.out.xb.cell 0
            have x1 := R2.out.xb.cell 1
            have x2 := R2.out.xb.cell 2
            simp only [List.getElem?_toArray, List.getElem?_cons_zero, List.getElem?_cons_succ] at x0 x1 x2
            go_wp2_with fail
            refine (HM3.out _ R2.out.en).mono ?_
            rintro r w5 ⟨rfl, hb5⟩
            have R3 := Lib.hid (R2.out.below hb5)
            clear hb5 R2 x0 x1 x2 HM3
            have hR := HR2.out
            cases hcl : (near16 e.qs xl).any (clash16 ⟨xl, xs, xf⟩) with
            | true =>
              rw [hcl, if_pos rfl] at hR
              clear HR2 hcl
              subst hR
              go_wp2_with fail
              go_ret
              exact ⟨rfl, R3.out.bel⟩
            | false =>
              rw [hcl, if_neg (by simp)] at hR
              have HR3 := Lib.hid hR
              clear HR2 hcl hR
              have hR := HR3.out
              rw [HLEN.out] at hR
              have R4 : Hid (Rf16 O w w5.drew tb mb E B L clock ms ⟨ks, kd, kp, ki⟩ ⟨xl, xs, xf⟩ e eb v) := R3.out.drewN 1
              have hT := HBY.out
              have hN := HMS.out
              have e1 : IntKind.i64.wrap ((T : Int) + (xs.size : Int)) = (T : Int) + (xs.size : Int) := IntWalk.i64_in _ (by omega)
              clear HR3
              go_upto_region 12 with (fail)
              have hfle := HFLE.out
              have hbb := HBB.out
              clear HFLE HBB
              cases b with
              | true =>
                have hfN : f < N := of_decide_eq_true hbb.symm
                by_cases hfull : B < T + xs.size
                · have t1 : decide ((B : Int) < (T : Int) + (xs.size : Int)) = true := decide_eq_true (by omega)
                  rw [if_pos (Or.inr hfull)] at hR
                  subst hR
                  clear hbb hfN hfull hfle
                  refine wp_region_held_drew (S := fun W => W.cell? ⟨w.heap.size + 1, 1, none⟩ = some (.string xs) ∧ W.cell? ⟨tb, 0, none⟩ = some (.int .i64 (E : Nat)) ∧ W.cell? ⟨tb, 1, none⟩ = some (.int .i64 (B : Nat)) ∧ W.cell? ⟨tb, 3, none⟩ = some (.map (some mb)) ∧ Hid (Rf16 O w W tb mb E B L clock ms ⟨ks, kd, kp, ki⟩ ⟨xl, xs, xf⟩ e eb v)) (by kernel_rfl) ?_ (fun hHeld => ?_)
                  · exact R4.out.all
                  generalize w5.drew = w6 at *
                  refine takeH_yes (i := 0) (d := some 41) (v := ?v23) rfl rfl (by kernel_rfl) (by kernel_rfl) (by kernel_rfl) (fun _ _ _ h => h) (by rfl) ?y23 (by assumption) ?_
                  case y23 => (intro w hSw; (try dsimp only at hSw); go_simp <;> with_reducible rfl)
                  simp only [Act.put, List.setIfInBounds_toArray, List.set_cons_zero, List.set_cons_succ]
                  refine takeH_yes (i := 1) (d := some 42) (v := .bool false) rfl rfl (by kernel_rfl) (by kernel_rfl) (by kernel_rfl) (fun _ _ _ h => h) (by rfl) ?y24 (by assumption) ?_
                  case y24 => (intro w hSw; (try dsimp only at hSw); go_simp <;> with_reducible rfl)
                  simp only [Act.put, List.setIfInBounds_toArray, List.set_cons_zero, List.set_cons_succ]
                  refine takeH_yes (i := 2) (d := some 43) (v := ?v25) rfl rfl (by kernel_rfl) (by kernel_rfl) (by kernel_rfl) (fun _ _ _ h => h) (by rfl) ?y25 (by assumption) ?_
                  case y25 => (intro w hSw; (try dsimp only at hSw); go_simp <;> with_reducible rfl)
                  simp only [Act.put, List.setIfInBounds_toArray, List.set_cons_zero, List.set_cons_succ]
                  refine takeH_no (i := 3) (d := some 44) rfl rfl (by kernel_rfl) (by kernel_rfl) (by kernel_rfl) (fun _ _ _ h => h) (by rfl) (by assumption) ?_
                  simp only [Act.put, List.setIfInBounds_toArray, List.set_cons_zero, List.set_cons_succ]
                  refine takeH_no (i := 4) (d := some 45) rfl rfl (by kernel_rfl) (by kernel_rfl) (by kernel_rfl) (fun _ _ _ h => h) (by rfl) (by assumption) ?_
                  simp only [Act.put, List.setIfInBounds_toArray, List.set_cons_zero, List.set_cons_succ]
                  refine takeH_no (i := 5) (d := some 46) rfl rfl (by kernel_rfl) (by kernel_rfl) (by kernel_rfl) (fun _ _ _ h => h) (by rfl) (by assumption) ?_
                  simp only [Act.put, List.setIfInBounds_toArray, List.set_cons_zero, List.set_cons_succ]
                  refine takeH_no (i := 6) (d := some 47) rfl rfl (by kernel_rfl) (by kernel_rfl) (by kernel_rfl) (fun _ _ _ h => h) (by rfl) (by assumption) ?_
                  simp only [Act.put, List.setIfInBounds_toArray, List.set_cons_zero, List.set_cons_succ]
                  refine takeH_no (i := 7) (d := some 48) rfl rfl (by kernel_rfl) (by kernel_rfl) (by kernel_rfl) (fun _ _ _ h => h) (by rfl) (by assumption) ?_
                  simp only [Act.put, List.setIfInBounds_toArray, List.set_cons_zero, List.set_cons_succ]
                  refine takeH_no (i := 8) (d := some 49) rfl rfl (by kernel_rfl) (by kernel_rfl) (by kernel_rfl) (fun _ _ _ h => h) (by rfl) (by assumption) ?_
                  simp only [Act.put, List.setIfInBounds_toArray, List.set_cons_zero, List.set_cons_succ]
                  refine takeH_no (i := 9) (d := some 50) rfl rfl (by kernel_rfl) (by kernel_rfl) (by kernel_rfl) (fun _ _ _ h => h) (by rfl) (by assumption) ?_
                  simp only [Act.put, List.setIfInBounds_toArray, List.set_cons_zero, List.set_cons_succ]
                  refine takeH_no (i := 10) (d := some 51) rfl rfl (by kernel_rfl) (by kernel_rfl) (by kernel_rfl) (fun _ _ _ h => h) (by rfl) (by assumption) ?_
                  simp only [Act.put, List.setIfInBounds_toArray, List.set_cons_zero, List.set_cons_succ]
                  refine takeH_no (i := 11) (d := some 52) rfl rfl (by kernel_rfl) (by kernel_rfl) (by kernel_rfl) (fun _ _ _ h => h) (by rfl) (by assumption) ?_
                  simp only [Act.put, List.setIfInBounds_toArray, List.set_cons_zero, List.set_cons_succ]
                  refine takeH_no (i := 12) (d := some 53) rfl rfl (by kernel_rfl) (by kernel_rfl) (by kernel_rfl) (fun _ _ _ h => h) (by rfl) (by assumption) ?_
                  simp only [Act.put, List.setIfInBounds_toArray, List.set_cons_zero, List.set_cons_succ]
                  refine takeH_no (i := 13) (d := some 54) rfl rfl (by kernel_rfl) (by kernel_rfl) (by kernel_rfl) (fun _ _ _ h => h) (by rfl) (by assumption) ?_
                  simp only [Act.put, List.setIfInBounds_toArray, List.set_cons_zero, List.set_cons_succ]
                  refine takeH_yes (i := 14) (d := some 55) (v := ?v26) rfl rfl (by kernel_rfl) (by kernel_rfl) (by kernel_rfl) (fun _ _ _ h => h) (by rfl) ?y26 (by assumption) ?_
                  case y26 => (intro w hSw; (try dsimp only at hSw); go_simp <;> with_reducible rfl)
                  simp only [Act.put, List.setIfInBounds_toArray, List.set_cons_zero, List.set_cons_succ]
                  refine takeH_yes (i := 15) (d := some 56) (v := ?v27) rfl rfl (by kernel_rfl) (by kernel_rfl) (by kernel_rfl) (fun _ _ _ h => h) (by rfl) ?y27 (by assumption) ?_
                  case y27 => (intro w hSw; (try dsimp only at hSw); go_simp <;> with_reducible rfl)
                  simp only [Act.put, List.setIfInBounds_toArray, List.set_cons_zero, List.set_cons_succ]
                  refine takeH_yes (i := 16) (d := some 57) (v := ?v28) rfl rfl (by kernel_rfl) (by kernel_rfl) (by kernel_rfl) (fun _ _ _ h => h) (by rfl) ?y28 (by assumption) ?_
                  case y28 => (intro w hSw; (try dsimp only at hSw); go_simp <;> with_reducible rfl)
                  simp only [Act.put, List.setIfInBounds_toArray, List.set_cons_zero, List.set_cons_succ]
                  refine takeH_yes (i := 18) (d := some 59) (v := ?v29) rfl rfl (by kernel_rfl) (by kernel_rfl) (by kernel_rfl) (fun _ _ _ h => h) (by rfl) ?y29 (by assumption) ?_
                  case y29 => (intro w hSw; (try dsimp only at hSw); go_simp <;> with_reducible rfl)
                  simp only [Act.put, List.setIfInBounds_toArray, List.set_cons_zero, List.set_cons_succ]
                  refine takeH_yes (i := 19) (d := some 60) (v := ?v30) rfl rfl (by kernel_rfl) (by kernel_rfl) (by kernel_rfl) (fun _ _ _ h => h) (by rfl) ?y30 (by assumption) ?_
                  case y30 => (intro w hSw; (try dsimp only at hSw); go_simp <;> with_reducible rfl)
                  simp only [Act.put, List.setIfInBounds_toArray, List.set_cons_zero, List.set_cons_succ]
                  refine takeH_yes (i := 20) (d := some 61) (v := ?v31) rfl rfl (by kernel_rfl) (by kernel_rfl) (by kernel_rfl) (fun _ _ _ h => h) (by rfl) ?y31 (by assumption) ?_
                  case y31 => (intro w hSw; (try dsimp only at hSw); go_simp <;> with_reducible rfl)
                  simp only [Act.put, List.setIfInBounds_toArray, List.set_cons_zero, List.set_cons_succ]
                  refine takeH_yes (i := 22) (d := some 63) (v := ?v32) rfl rfl (by kernel_rfl) (by kernel_rfl) (by kernel_rfl) (fun _ _ _ h => h) (by rfl) ?y32 (by assumption) ?_
                  case y32 => (intro w hSw; (try dsimp only at hSw); go_simp <;> with_reducible rfl)
                  simp only [Act.put, List.setIfInBounds_toArray, List.set_cons_zero, List.set_cons_succ]
                  refine takeH_yes (i := 23) (d := some 64) (v := ?v33) rfl rfl (by kernel_rfl) (by kernel_rfl) (by kernel_rfl) (fun _ _ _ h => h) (by rfl) ?y33 (by assumption) ?_
                  case y33 => (intro w hSw; (try dsimp only at hSw); go_simp <;> with_reducible rfl)
                  simp only [Act.put, List.setIfInBounds_toArray, List.set_cons_zero, List.set_cons_succ]
                  refine takeH_yes (i := 24) (d := some 65) (v := ?v34) rfl rfl (by kernel_rfl) (by kernel_rfl) (by kernel_rfl) (fun _ _ _ h => h) (by rfl) ?y34 (by assumption) ?_
                  case y34 => (intro w hSw; (try dsimp only at hSw); go_simp <;> with_reducible rfl)
                  simp only [Act.put, List.setIfInBounds_toArray, List.set_cons_zero, List.set_cons_succ]
                  refine takeH_yes (i := 25) (d := some 66) (v := ?v35) rfl rfl (by kernel_rfl) (by kernel_rfl) (by kernel_rfl) (fun _ _ _ h => h) (by rfl) ?y35 (by assumption) ?_
                  case y35 => (intro w hSw; (try dsimp only at hSw); go_simp <;> with_reducible rfl)
                  simp only [Act.put, List.setIfInBounds_toArray, List.set_cons_zero, List.set_cons_succ]
                  refine takeH_yes (i := 26) (d := some 67) (v := ?v36) rfl rfl (by kernel_rfl) (by kernel_rfl) (by kernel_rfl) (fun _ _ _ h => h) (by rfl) ?y36 (by assumption) ?_
                  case y36 => (intro w hSw; (try dsimp only at hSw); go_simp <;> with_reducible rfl)
                  simp only [Act.put, List.setIfInBounds_toArray, List.set_cons_zero, List.set_cons_succ]
                  refine wpAnyH_ready (rs := [17]) (by kernel_rfl) (by simp) ?_
                  refine AllReadyH.cons rfl (fun K hK => ?_) AllReadyH.nil
                  go_simp
                  refine (HM4.out _ R4.out.tb).mono ?_
                  rintro r w' ⟨rfl, hb⟩
                  refine hK.out _ _ ?_ (fun held17 => ?_)
                  · exact keepR16 hb (by assumption)
                  clear hK K
                  try simp only [Act.put, List.setIfInBounds_toArray, List.set_cons_zero, List.set_cons_succ]
                  refine takeH_yes (i := 21) (d := some 62) (v := ?v37) rfl rfl (by kernel_rfl) (by kernel_rfl) (by kernel_rfl) (fun _ _ _ h => h) (by rfl) ?y37 (by assumption) ?_
                  case y37 => (intro w hSw; (try dsimp only at hSw); go_simp <;> with_reducible rfl)
                  simp only [Act.put, List.setIfInBounds_toArray, List.set_cons_zero, List.set_cons_succ]
                  refine takeH_yes (i := 27) (d := some 68) (v := ?v38) rfl rfl (by kernel_rfl) (by kernel_rfl) (by kernel_rfl) (fun _ _ _ h => h) (by rfl) ?y38 (by assumption) ?_
                  case y38 => (intro w hSw; (try dsimp only at hSw); go_simp <;> with_reducible rfl)
                  simp only [Act.put, List.setIfInBounds_toArray, List.set_cons_zero, List.set_cons_succ]
                  refine takeH_yes (i := 28) (d := some 69) (v := ?v39) rfl rfl (by kernel_rfl) (by kernel_rfl) (by kernel_rfl) (fun _ _ _ h => h) (by rfl) ?y39 (by assumption) ?_
                  case y39 => (intro w hSw; (try dsimp only at hSw); go_simp <;> with_reducible rfl)
                  simp only [Act.put, List.setIfInBounds_toArray, List.set_cons_zero, List.set_cons_succ]
                  refine takeH_yes (i := 29) (d := some 40) (v := ?v40) rfl rfl (by kernel_rfl) (by kernel_rfl) (by kernel_rfl) (fun _ _ _ h => h) (by rfl) ?y40 (by assumption) ?_
                  case y40 => (intro w hSw; (try dsimp only at hSw); go_simp <;> with_reducible rfl)
                  simp only [Act.put, List.setIfInBounds_toArray, List.set_cons_zero, List.set_cons_succ]
                  refine wpAnyH_done (by kernel_rfl) ?_ _
                  have S2 := held17.2.2.2.2.out
                  clear held17
                  go_wp2_with fail
                  go_ret
                  exact ⟨rfl, S2.bel⟩
                · have t1 : decide ((B : Int) < (T : Int) + (xs.size : Int)) = false := decide_eq_false (by omega)
                  rw [if_neg (by omega)] at hR
                  subst hR
                  clear hbb hfN hfull hfle
                  refine wp_region_held_drew (S := fun W => W.cell? ⟨w.heap.size + 1, 1, none⟩ = some (.string xs) ∧ W.cell? ⟨tb, 0, none⟩ = some (.int .i64 (E : Nat)) ∧ W.cell? ⟨tb, 1, none⟩ = some (.int .i64 (B : Nat)) ∧ W.cell? ⟨tb, 3, none⟩ = some (.map (some mb)) ∧ Hid (Rf16 O w W tb mb E B L clock ms ⟨ks, kd, kp, ki⟩ ⟨xl, xs, xf⟩ e eb v)) (by kernel_rfl) ?_ (fun hHeld => ?_)
                  · exact R4.out.all
                  generalize w5.drew = w6 at *
                  refine takeH_yes (i := 0) (d := some 41) (v := ?v41) rfl rfl (by kernel_rfl) (by kernel_rfl) (by kernel_rfl) (fun _ _ _ h => h) (by rfl) ?y41 (by assumption) ?_
                  case y41 => (intro w hSw; (try dsimp only at hSw); go_simp <;> with_reducible rfl)
                  simp only [Act.put, List.setIfInBounds_toArray, List.set_cons_zero, List.set_cons_succ]
                  refine takeH_yes (i := 1) (d := some 42) (v := .bool false) rfl rfl (by kernel_rfl) (by kernel_rfl) (by kernel_rfl) (fun _ _ _ h => h) (by rfl) ?y42 (by assumption) ?_
                  case y42 => (intro w hSw; (try dsimp only at hSw); go_simp <;> with_reducible rfl)
                  simp only [Act.put, List.setIfInBounds_toArray, List.set_cons_zero, List.set_cons_succ]
                  refine takeH_yes (i := 2) (d := some 43) (v := ?v43) rfl rfl (by kernel_rfl) (by kernel_rfl) (by kernel_rfl) (fun _ _ _ h => h) (by rfl) ?y43 (by assumption) ?_
                  case y43 => (intro w hSw; (try dsimp only at hSw); go_simp <;> with_reducible rfl)
                  simp only [Act.put, List.setIfInBounds_toArray, List.set_cons_zero, List.set_cons_succ]
                  refine takeH_no (i := 3) (d := some 44) rfl rfl (by kernel_rfl) (by kernel_rfl) (by kernel_rfl) (fun _ _ _ h => h) (by rfl) (by assumption) ?_
                  simp only [Act.put, List.setIfInBounds_toArray, List.set_cons_zero, List.set_cons_succ]
                  refine takeH_no (i := 4) (d := some 45) rfl rfl (by kernel_rfl) (by kernel_rfl) (by kernel_rfl) (fun _ _ _ h => h) (by rfl) (by assumption) ?_
                  simp only [Act.put, List.setIfInBounds_toArray, List.set_cons_zero, List.set_cons_succ]
                  refine takeH_no (i := 5) (d := some 46) rfl rfl (by kernel_rfl) (by kernel_rfl) (by kernel_rfl) (fun _ _ _ h => h) (by rfl) (by assumption) ?_
                  simp only [Act.put, List.setIfInBounds_toArray, List.set_cons_zero, List.set_cons_succ]
                  refine takeH_no (i := 6) (d := some 47) rfl rfl (by kernel_rfl) (by kernel_rfl) (by kernel_rfl) (fun _ _ _ h => h) (by rfl) (by assumption) ?_
                  simp only [Act.put, List.setIfInBounds_toArray, List.set_cons_zero, List.set_cons_succ]
                  refine takeH_no (i := 7) (d := some 48) rfl rfl (by kernel_rfl) (by kernel_rfl) (by kernel_rfl) (fun _ _ _ h => h) (by rfl) (by assumption) ?_
                  simp only [Act.put, List.setIfInBounds_toArray, List.set_cons_zero, List.set_cons_succ]
                  refine takeH_no (i := 8) (d := some 49) rfl rfl (by kernel_rfl) (by kernel_rfl) (by kernel_rfl) (fun _ _ _ h => h) (by rfl) (by assumption) ?_
                  simp only [Act.put, List.setIfInBounds_toArray, List.set_cons_zero, List.set_cons_succ]
                  refine takeH_no (i := 9) (d := some 50) rfl rfl (by kernel_rfl) (by kernel_rfl) (by kernel_rfl) (fun _ _ _ h => h) (by rfl) (by assumption) ?_
                  simp only [Act.put, List.setIfInBounds_toArray, List.set_cons_zero, List.set_cons_succ]
                  refine takeH_no (i := 10) (d := some 51) rfl rfl (by kernel_rfl) (by kernel_rfl) (by kernel_rfl) (fun _ _ _ h => h) (by rfl) (by assumption) ?_
                  simp only [Act.put, List.setIfInBounds_toArray, List.set_cons_zero, List.set_cons_succ]
                  refine takeH_no (i := 11) (d := some 52) rfl rfl (by kernel_rfl) (by kernel_rfl) (by kernel_rfl) (fun _ _ _ h => h) (by rfl) (by assumption) ?_
                  simp only [Act.put, List.setIfInBounds_toArray, List.set_cons_zero, List.set_cons_succ]
                  refine takeH_no (i := 12) (d := some 53) rfl rfl (by kernel_rfl) (by kernel_rfl) (by kernel_rfl) (fun _ _ _ h => h) (by rfl) (by assumption) ?_
                  simp only [Act.put, List.setIfInBounds_toArray, List.set_cons_zero, List.set_cons_succ]
                  refine takeH_no (i := 13) (d := some 54) rfl rfl (by kernel_rfl) (by kernel_rfl) (by kernel_rfl) (fun _ _ _ h => h) (by rfl) (by assumption) ?_
                  simp only [Act.put, List.setIfInBounds_toArray, List.set_cons_zero, List.set_cons_succ]
                  refine takeH_yes (i := 14) (d := some 55) (v := ?v44) rfl rfl (by kernel_rfl) (by kernel_rfl) (by kernel_rfl) (fun _ _ _ h => h) (by rfl) ?y44 (by assumption) ?_
                  case y44 => (intro w hSw; (try dsimp only at hSw); go_simp <;> with_reducible rfl)
                  simp only [Act.put, List.setIfInBounds_toArray, List.set_cons_zero, List.set_cons_succ]
                  refine takeH_yes (i := 15) (d := some 56) (v := ?v45) rfl rfl (by kernel_rfl) (by kernel_rfl) (by kernel_rfl) (fun _ _ _ h => h) (by rfl) ?y45 (by assumption) ?_
                  case y45 => (intro w hSw; (try dsimp only at hSw); go_simp <;> with_reducible rfl)
                  simp only [Act.put, List.setIfInBounds_toArray, List.set_cons_zero, List.set_cons_succ]
                  refine takeH_yes (i := 16) (d := some 57) (v := ?v46) rfl rfl (by kernel_rfl) (by kernel_rfl) (by kernel_rfl) (fun _ _ _ h => h) (by rfl) ?y46 (by assumption) ?_
                  case y46 => (intro w hSw; (try dsimp only at hSw); go_simp <;> with_reducible rfl)
                  simp only [Act.put, List.setIfInBounds_toArray, List.set_cons_zero, List.set_cons_succ]
                  refine takeH_yes (i := 18) (d := some 59) (v := ?v47) rfl rfl (by kernel_rfl) (by kernel_rfl) (by kernel_rfl) (fun _ _ _ h => h) (by rfl) ?y47 (by assumption) ?_
                  case y47 => (intro w hSw; (try dsimp only at hSw); go_simp <;> with_reducible rfl)
                  simp only [Act.put, List.setIfInBounds_toArray, List.set_cons_zero, List.set_cons_succ]
                  refine takeH_yes (i := 19) (d := some 60) (v := ?v48) rfl rfl (by kernel_rfl) (by kernel_rfl) (by kernel_rfl) (fun _ _ _ h => h) (by rfl) ?y48 (by assumption) ?_
                  case y48 => (intro w hSw; (try dsimp only at hSw); go_simp <;> with_reducible rfl)
                  simp only [Act.put, List.setIfInBounds_toArray, List.set_cons_zero, List.set_cons_succ]
                  refine takeH_yes (i := 20) (d := some 61) (v := ?v49) rfl rfl (by kernel_rfl) (by kernel_rfl) (by kernel_rfl) (fun _ _ _ h => h) (by rfl) ?y49 (by assumption) ?_
                  case y49 => (intro w hSw; (try dsimp only at hSw); go_simp <;> with_reducible rfl)
                  simp only [Act.put, List.setIfInBounds_toArray, List.set_cons_zero, List.set_cons_succ]
                  refine takeH_yes (i := 22) (d := some 63) (v := ?v50) rfl rfl (by kernel_rfl) (by kernel_rfl) (by kernel_rfl) (fun _ _ _ h => h) (by rfl) ?y50 (by assumption) ?_
                  case y50 => (intro w hSw; (try dsimp only at hSw); go_simp <;> with_reducible rfl)
                  simp only [Act.put, List.setIfInBounds_toArray, List.set_cons_zero, List.set_cons_succ]
                  refine takeH_yes (i := 23) (d := some 64) (v := ?v51) rfl rfl (by kernel_rfl) (by kernel_rfl) (by kernel_rfl) (fun _ _ _ h => h) (by rfl) ?y51 (by assumption) ?_
                  case y51 => (intro w hSw; (try dsimp only at hSw); go_simp <;> with_reducible rfl)
                  simp only [Act.put, List.setIfInBounds_toArray, List.set_cons_zero, List.set_cons_succ]
                  refine takeH_yes (i := 24) (d := some 65) (v := ?v52) rfl rfl (by kernel_rfl) (by kernel_rfl) (by kernel_rfl) (fun _ _ _ h => h) (by rfl) ?y52 (by assumption) ?_
                  case y52 => (intro w hSw; (try dsimp only at hSw); go_simp <;> with_reducible rfl)
                  simp only [Act.put, List.setIfInBounds_toArray, List.set_cons_zero, List.set_cons_succ]
                  refine takeH_yes (i := 25) (d := some 66) (v := ?v53) rfl rfl (by kernel_rfl) (by kernel_rfl) (by kernel_rfl) (fun _ _ _ h => h) (by rfl) ?y53 (by assumption) ?_
                  case y53 => (intro w hSw; (try dsimp only at hSw); go_simp <;> with_reducible rfl)
                  simp only [Act.put, List.setIfInBounds_toArray, List.set_cons_zero, List.set_cons_succ]
                  refine takeH_yes (i := 26) (d := some 67) (v := ?v54) rfl rfl (by kernel_rfl) (by kernel_rfl) (by kernel_rfl) (fun _ _ _ h => h) (by rfl) ?y54 (by assumption) ?_
                  case y54 => (intro w hSw; (try dsimp only at hSw); go_simp <;> with_reducible rfl)
                  simp only [Act.put, List.setIfInBounds_toArray, List.set_cons_zero, List.set_cons_succ]
                  refine wpAnyH_ready (rs := [17]) (by kernel_rfl) (by simp) ?_
                  refine AllReadyH.cons rfl (fun K hK => ?_) AllReadyH.nil
                  go_simp
                  refine (HM4.out _ R4.out.tb).mono ?_
                  rintro r w' ⟨rfl, hb⟩
                  refine hK.out _ _ ?_ (fun held17 => ?_)
                  · exact keepR16 hb (by assumption)
                  clear hK K
                  try simp only [Act.put, List.setIfInBounds_toArray, List.set_cons_zero, List.set_cons_succ]
                  refine takeH_yes (i := 21) (d := some 62) (v := ?v55) rfl rfl (by kernel_rfl) (by kernel_rfl) (by kernel_rfl) (fun _ _ _ h => h) (by rfl) ?y55 (by assumption) ?_
                  case y55 => (intro w hSw; (try dsimp only at hSw); go_simp <;> with_reducible rfl)
                  simp only [Act.put, List.setIfInBounds_toArray, List.set_cons_zero, List.set_cons_succ]
                  refine takeH_yes (i := 27) (d := some 68) (v := ?v56) rfl rfl (by kernel_rfl) (by kernel_rfl) (by kernel_rfl) (fun _ _ _ h => h) (by rfl) ?y56 (by assumption) ?_
                  case y56 => (intro w hSw; (try dsimp only at hSw); go_simp <;> with_reducible rfl)
                  simp only [Act.put, List.setIfInBounds_toArray, List.set_cons_zero, List.set_cons_succ]
                  refine takeH_yes (i := 28) (d := some 69) (v := ?v57) rfl rfl (by kernel_rfl) (by kernel_rfl) (by kernel_rfl) (fun _ _ _ h => h) (by rfl) ?y57 (by assumption) ?_
                  case y57 => (intro w hSw; (try dsimp only at hSw); go_simp <;> with_reducible rfl)
                  simp only [Act.put, List.setIfInBounds_toArray, List.set_cons_zero, List.set_cons_succ]
                  refine takeH_yes (i := 29) (d := some 40) (v := ?v58) rfl rfl (by kernel_rfl) (by kernel_rfl) (by kernel_rfl) (fun _ _ _ h => h) (by rfl) ?y58 (by assumption) ?_
                  case y58 => (intro w hSw; (try dsimp only at hSw); go_simp <;> with_reducible rfl)
                  simp only [Act.put, List.setIfInBounds_toArray, List.set_cons_zero, List.set_cons_succ]
                  refine wpAnyH_done (by kernel_rfl) ?_ _
                  have S2 := held17.2.2.2.2.out
                  clear held17
                  go_wp2_with fail
                  go_ret
                  exact ⟨rfl, S2.bel⟩
              | false =>
                have hfN : ¬ f < N := of_decide_eq_false hbb.symm
                by_cases hE : N = E
                · have t2 : ((N : Int) == (E : Int)) = true := by simp [hE]
                  rw [if_pos (Or.inl ⟨by omega, hE⟩)] at hR
                  subst hR
                  have hEE := Lib.hid hE
                  clear hbb hfN hfle hE
                  refine wp_region_held_drew (S := fun W => W.cell? ⟨w.heap.size + 1, 1, none⟩ = some (.string xs) ∧ W.cell? ⟨tb, 0, none⟩ = some (.int .i64 (E : Nat)) ∧ W.cell? ⟨tb, 1, none⟩ = some (.int .i64 (B : Nat)) ∧ W.cell? ⟨tb, 3, none⟩ = some (.map (some mb)) ∧ Hid (Rf16 O w W tb mb E B L clock ms ⟨ks, kd, kp, ki⟩ ⟨xl, xs, xf⟩ e eb v)) (by kernel_rfl) ?_ (fun hHeld => ?_)
                  · exact R4.out.all
                  generalize w5.drew = w6 at *
                  refine takeH_yes (i := 0) (d := some 41) (v := ?v59) rfl rfl (by kernel_rfl) (by kernel_rfl) (by kernel_rfl) (fun _ _ _ h => h) (by rfl) ?y59 (by assumption) ?_
                  case y59 => (intro w hSw; (try dsimp only at hSw); go_simp <;> with_reducible rfl)
                  simp only [Act.put, List.setIfInBounds_toArray, List.set_cons_zero, List.set_cons_succ]
                  refine takeH_yes (i := 1) (d := some 42) (v := .bool true) rfl rfl (by kernel_rfl) (by kernel_rfl) (by kernel_rfl) (fun _ _ _ h => h) (by rfl) ?y60 (by assumption) ?_
                  case y60 => (intro w hSw; (try dsimp only at hSw); go_simp <;> with_reducible rfl)
                  simp only [Act.put, List.setIfInBounds_toArray, List.set_cons_zero, List.set_cons_succ]
                  refine takeH_yes (i := 2) (d := some 43) (v := ?v61) rfl rfl (by kernel_rfl) (by kernel_rfl) (by kernel_rfl) (fun _ _ _ h => h) (by rfl) ?y61 (by assumption) ?_
                  case y61 => (intro w hSw; (try dsimp only at hSw); go_simp <;> with_reducible rfl)
                  simp only [Act.put, List.setIfInBounds_toArray, List.set_cons_zero, List.set_cons_succ]
                  refine takeH_yes (i := 3) (d := some 44) (v := ?v62) rfl rfl (by kernel_rfl) (by kernel_rfl) (by kernel_rfl) (fun _ _ _ h => h) (by rfl) ?y62 (by assumption) ?_
                  case y62 => (intro w hSw; (try dsimp only at hSw); go_simp <;> with_reducible rfl)
                  simp only [Act.put, List.setIfInBounds_toArray, List.set_cons_zero, List.set_cons_succ]
                  refine takeH_yes (i := 4) (d := some 45) (v := ?v63) rfl rfl (by kernel_rfl) (by kernel_rfl) (by kernel_rfl) (fun _ _ _ h => h) (by rfl) ?y63 (by assumption) ?_
                  case y63 => (intro w hSw; (try dsimp only at hSw); go_simp <;> with_reducible rfl)
                  simp only [Act.put, List.setIfInBounds_toArray, List.set_cons_zero, List.set_cons_succ]
                  refine takeH_yes (i := 5) (d := some 46) (v := ?v64) rfl rfl (by kernel_rfl) (by kernel_rfl) (by kernel_rfl) (fun _ _ _ h => h) (by rfl) ?y64 (by assumption) ?_
                  case y64 => (intro w hSw; (try dsimp only at hSw); go_simp <;> with_reducible rfl)
                  simp only [Act.put, List.setIfInBounds_toArray, List.set_cons_zero, List.set_cons_succ]
                  refine takeH_yes (i := 6) (d := some 47) (v := ?v65) rfl rfl (by kernel_rfl) (by kernel_rfl) (by kernel_rfl) (fun _ _ _ h => h) (by rfl) ?y65 (by assumption) ?_
                  case y65 => (intro w hSw; (try dsimp only at hSw); go_simp <;> with_reducible rfl)
                  simp only [Act.put, List.setIfInBounds_toArray, List.set_cons_zero, List.set_cons_succ]
                  refine takeH_yes (i := 7) (d := some 48) (v := .int .i64 (N : Nat)) rfl rfl (by kernel_rfl) (by kernel_rfl) (by kernel_rfl) (fun _ _ _ h => h) (by rfl) ?y66 (by assumption) ?_
                  case y66 => (intro w hSw; (try dsimp only at hSw); have hq := fun ty => run_len16 ty hSw.2.2.2.2.out.tb.map; rw [HMEL.out] at hq; go_simp <;> with_reducible rfl)
                  simp only [Act.put, List.setIfInBounds_toArray, List.set_cons_zero, List.set_cons_succ]
                  refine takeH_yes (i := 8) (d := some 49) (v := ?v67) rfl rfl (by kernel_rfl) (by kernel_rfl) (by kernel_rfl) (fun _ _ _ h => h) (by rfl) ?y67 (by assumption) ?_
                  case y67 => (intro w hSw; (try dsimp only at hSw); go_simp <;> with_reducible rfl)
                  simp only [Act.put, List.setIfInBounds_toArray, List.set_cons_zero, List.set_cons_succ]
                  refine takeH_yes (i := 9) (d := some 50) (v := ?v68) rfl rfl (by kernel_rfl) (by kernel_rfl) (by kernel_rfl) (fun _ _ _ h => h) (by rfl) ?y68 (by assumption) ?_
                  case y68 => (intro w hSw; (try dsimp only at hSw); go_simp <;> with_reducible rfl)
                  simp only [Act.put, List.setIfInBounds_toArray, List.set_cons_zero, List.set_cons_succ]
                  refine takeH_yes (i := 10) (d := some 51) (v := ?v69) rfl rfl (by kernel_rfl) (by kernel_rfl) (by kernel_rfl) (fun _ _ _ h => h) (by rfl) ?y69 (by assumption) ?_
                  case y69 => (intro w hSw; (try dsimp only at hSw); go_simp <;> with_reducible rfl)
                  simp only [Act.put, List.setIfInBounds_toArray, List.set_cons_zero, List.set_cons_succ]
                  refine takeH_yes (i := 11) (d := some 52) (v := ?v70) rfl rfl (by kernel_rfl) (by kernel_rfl) (by kernel_rfl) (fun _ _ _ h => h) (by rfl) ?y70 (by assumption) ?_
                  case y70 => (intro w hSw; (try dsimp only at hSw); go_simp <;> with_reducible rfl)
                  simp only [Act.put, List.setIfInBounds_toArray, List.set_cons_zero, List.set_cons_succ]
                  refine takeH_yes (i := 12) (d := some 53) (v := ?v71) rfl rfl (by kernel_rfl) (by kernel_rfl) (by kernel_rfl) (fun _ _ _ h => h) (by rfl) ?y71 (by assumption) ?_
                  case y71 => (intro w hSw; (try dsimp only at hSw); go_simp <;> with_reducible rfl)
                  simp only [Act.put, List.setIfInBounds_toArray, List.set_cons_zero, List.set_cons_succ]
                  refine takeH_yes (i := 13) (d := some 54) (v := ?v72) rfl rfl (by kernel_rfl) (by kernel_rfl) (by kernel_rfl) (fun _ _ _ h => h) (by rfl) ?y72 (by assumption) ?_
                  case y72 => (intro w hSw; (try dsimp only at hSw); go_simp <;> with_reducible rfl)
                  simp only [Act.put, List.setIfInBounds_toArray, List.set_cons_zero, List.set_cons_succ]
                  refine takeH_yes (i := 14) (d := some 55) (v := ?v73) rfl rfl (by kernel_rfl) (by kernel_rfl) (by kernel_rfl) (fun _ _ _ h => h) (by rfl) ?y73 (by assumption) ?_
                  case y73 => (intro w hSw; (try dsimp only at hSw); go_simp <;> with_reducible rfl)
                  simp only [Act.put, List.setIfInBounds_toArray, List.set_cons_zero, List.set_cons_succ]
                  refine takeH_yes (i := 15) (d := some 56) (v := ?v74) rfl rfl (by kernel_rfl) (by kernel_rfl) (by kernel_rfl) (fun _ _ _ h => h) (by rfl) ?y74 (by assumption) ?_
                  case y74 => (intro w hSw; (try dsimp only at hSw); go_simp <;> with_reducible rfl)
                  simp only [Act.put, List.setIfInBounds_toArray, List.set_cons_zero, List.set_cons_succ]
                  refine takeH_no (i := 16) (d := some 57) rfl rfl (by kernel_rfl) (by kernel_rfl) (by kernel_rfl) (fun _ _ _ h => h) (by rfl) (by assumption) ?_
                  simp only [Act.put, List.setIfInBounds_toArray, List.set_cons_zero, List.set_cons_succ]
                  refine takeH_no (i := 17) (d := some 58) rfl rfl (by kernel_rfl) (by kernel_rfl) (by kernel_rfl) (fun _ _ _ h => h) (by rfl) (by assumption) ?_
                  simp only [Act.put, List.setIfInBounds_toArray, List.set_cons_zero, List.set_cons_succ]
                  refine takeH_no (i := 18) (d := some 59) rfl rfl (by kernel_rfl) (by kernel_rfl) (by kernel_rfl) (fun _ _ _ h => h) (by rfl) (by assumption) ?_
                  simp only [Act.put, List.setIfInBounds_toArray, List.set_cons_zero, List.set_cons_succ]
                  refine takeH_no (i := 19) (d := some 60) rfl rfl (by kernel_rfl) (by kernel_rfl) (by kernel_rfl) (fun _ _ _ h => h) (by rfl) (by assumption) ?_
                  simp only [Act.put, List.setIfInBounds_toArray, List.set_cons_zero, List.set_cons_succ]
                  refine takeH_no (i := 20) (d := some 61) rfl rfl (by kernel_rfl) (by kernel_rfl) (by kernel_rfl) (fun _ _ _ h => h) (by rfl) (by assumption) ?_
                  simp only [Act.put, List.setIfInBounds_toArray, List.set_cons_zero, List.set_cons_succ]
                  refine takeH_no (i := 21) (d := some 62) rfl rfl (by kernel_rfl) (by kernel_rfl) (by kernel_rfl) (fun _ _ _ h => h) (by rfl) (by assumption) ?_
                  simp only [Act.put, List.setIfInBounds_toArray, List.set_cons_zero, List.set_cons_succ]
                  refine takeH_no (i := 22) (d := some 63) rfl rfl (by kernel_rfl) (by kernel_rfl) (by kernel_rfl) (fun _ _ _ h => h) (by rfl) (by assumption) ?_
                  simp only [Act.put, List.setIfInBounds_toArray, List.set_cons_zero, List.set_cons_succ]
                  refine takeH_no (i := 23) (d := some 64) rfl rfl (by kernel_rfl) (by kernel_rfl) (by kernel_rfl) (fun _ _ _ h => h) (by rfl) (by assumption) ?_
                  simp only [Act.put, List.setIfInBounds_toArray, List.set_cons_zero, List.set_cons_succ]
                  refine takeH_no (i := 24) (d := some 65) rfl rfl (by kernel_rfl) (by kernel_rfl) (by kernel_rfl) (fun _ _ _ h => h) (by rfl) (by assumption) ?_
                  simp only [Act.put, List.setIfInBounds_toArray, List.set_cons_zero, List.set_cons_succ]
                  refine takeH_no (i := 25) (d := some 66) rfl rfl (by kernel_rfl) (by kernel_rfl) (by kernel_rfl) (fun _ _ _ h => h) (by rfl) (by assumption) ?_
                  simp only [Act.put, List.setIfInBounds_toArray, List.set_cons_zero, List.set_cons_succ]
                  refine takeH_no (i := 26) (d := some 67) rfl rfl (by kernel_rfl) (by kernel_rfl) (by kernel_rfl) (fun _ _ _ h => h) (by rfl) (by assumption) ?_
                  simp only [Act.put, List.setIfInBounds_toArray, List.set_cons_zero, List.set_cons_succ]
                  refine takeH_no (i := 27) (d := some 68) rfl rfl (by kernel_rfl) (by kernel_rfl) (by kernel_rfl) (fun _ _ _ h => h) (by rfl) (by assumption) ?_
                  simp only [Act.put, List.setIfInBounds_toArray, List.set_cons_zero, List.set_cons_succ]
                  refine takeH_yes (i := 28) (d := some 69) (v := ?v75) rfl rfl (by kernel_rfl) (by kernel_rfl) (by kernel_rfl) (fun _ _ _ h => h) (by rfl) ?y75 (by assumption) ?_
                  case y75 => (intro w hSw; (try dsimp only at hSw); go_simp <;> with_reducible rfl)
                  simp only [Act.put, List.setIfInBounds_toArray, List.set_cons_zero, List.set_cons_succ]
                  refine takeH_yes (i := 29) (d := some 40) (v := ?v76) rfl rfl (by kernel_rfl) (by kernel_rfl) (by kernel_rfl) (fun _ _ _ h => h) (by rfl) ?y76 (by assumption) ?_
                  case y76 => (intro w hSw; (try dsimp only at hSw); go_simp <;> with_reducible rfl)
                  simp only [Act.put, List.setIfInBounds_toArray, List.set_cons_zero, List.set_cons_succ]
                  refine wpAnyH_done (by kernel_rfl) ?_ _
                  go_wp2_with fail
                  go_ret
                  exact ⟨rfl, R4.out.bel⟩
                · have t2 : ((N : Int) == (E : Int)) = false := by simp; omega
                  by_cases hfull : B < T + xs.size
                  · have t1 : decide ((B : Int) < (T : Int) + (xs.size : Int)) = true := decide_eq_true (by omega)
                    rw [if_pos (Or.inr hfull)] at hR
                    subst hR
                    clear hbb hfN hfull hfle hE
                    refine wp_region_held_drew (S := fun W => W.cell? ⟨w.heap.size + 1, 1, none⟩ = some (.string xs) ∧ W.cell? ⟨tb, 0, none⟩ = some (.int .i64 (E : Nat)) ∧ W.cell? ⟨tb, 1, none⟩ = some (.int .i64 (B : Nat)) ∧ W.cell? ⟨tb, 3, none⟩ = some (.map (some mb)) ∧ Hid (Rf16 O w W tb mb E B L clock ms ⟨ks, kd, kp, ki⟩ ⟨xl, xs, xf⟩ e eb v)) (by kernel_rfl) ?_ (fun hHeld => ?_)
                    · exact R4.out.all
                    generalize w5.drew = w6 at *
                    refine takeH_yes (i := 0) (d := some 41) (v := ?v77) rfl rfl (by kernel_rfl) (by kernel_rfl) (by kernel_rfl) (fun _ _ _ h => h) (by rfl) ?y77 (by assumption) ?_
                    case y77 => (intro w hSw; (try dsimp only at hSw); go_simp <;> with_reducible rfl)
                    simp only [Act.put, List.setIfInBounds_toArray, List.set_cons_zero, List.set_cons_succ]
                    refine takeH_yes (i := 1) (d := some 42) (v := .bool true) rfl rfl (by kernel_rfl) (by kernel_rfl) (by kernel_rfl) (fun _ _ _ h => h) (by rfl) ?y78 (by assumption) ?_
                    case y78 => (intro w hSw; (try dsimp only at hSw); go_simp <;> with_reducible rfl)
                    simp only [Act.put, List.setIfInBounds_toArray, List.set_cons_zero, List.set_cons_succ]
                    refine takeH_yes (i := 2) (d := some 43) (v := ?v79) rfl rfl (by kernel_rfl) (by kernel_rfl) (by kernel_rfl) (fun _ _ _ h => h) (by rfl) ?y79 (by assumption) ?_
                    case y79 => (intro w hSw; (try dsimp only at hSw); go_simp <;> with_reducible rfl)
                    simp only [Act.put, List.setIfInBounds_toArray, List.set_cons_zero, List.set_cons_succ]
                    refine takeH_yes (i := 3) (d := some 44) (v := ?v80) rfl rfl (by kernel_rfl) (by kernel_rfl) (by kernel_rfl) (fun _ _ _ h => h) (by rfl) ?y80 (by assumption) ?_
                    case y80 => (intro w hSw; (try dsimp only at hSw); go_simp <;> with_reducible rfl)
                    simp only [Act.put, List.setIfInBounds_toArray, List.set_cons_zero, List.set_cons_succ]
                    refine takeH_yes (i := 4) (d := some 45) (v := ?v81) rfl rfl (by kernel_rfl) (by kernel_rfl) (by kernel_rfl) (fun _ _ _ h => h) (by rfl) ?y81 (by assumption) ?_
                    case y81 => (intro w hSw; (try dsimp only at hSw); go_simp <;> with_reducible rfl)
                    simp only [Act.put, List.setIfInBounds_toArray, List.set_cons_zero, List.set_cons_succ]
                    refine takeH_yes (i := 5) (d := some 46) (v := ?v82) rfl rfl (by kernel_rfl) (by kernel_rfl) (by kernel_rfl) (fun _ _ _ h => h) (by rfl) ?y82 (by assumption) ?_
                    case y82 => (intro w hSw; (try dsimp only at hSw); go_simp <;> with_reducible rfl)
                    simp only [Act.put, List.setIfInBounds_toArray, List.set_cons_zero, List.set_cons_succ]
                    refine takeH_yes (i := 6) (d := some 47) (v := ?v83) rfl rfl (by kernel_rfl) (by kernel_rfl) (by kernel_rfl) (fun _ _ _ h => h) (by rfl) ?y83 (by assumption) ?_
                    case y83 => (intro w hSw; (try dsimp only at hSw); go_simp <;> with_reducible rfl)
                    simp only [Act.put, List.setIfInBounds_toArray, List.set_cons_zero, List.set_cons_succ]
                    refine takeH_yes (i := 7) (d := some 48) (v := .int .i64 (N : Nat)) rfl rfl (by kernel_rfl) (by kernel_rfl) (by kernel_rfl) (fun _ _ _ h => h) (by rfl) ?y84 (by assumption) ?_
                    case y84 => (intro w hSw; (try dsimp only at hSw); have hq := fun ty => run_len16 ty hSw.2.2.2.2.out.tb.map; rw [HMEL.out] at hq; go_simp <;> with_reducible rfl)
                    simp only [Act.put, List.setIfInBounds_toArray, List.set_cons_zero, List.set_cons_succ]
                    refine takeH_yes (i := 8) (d := some 49) (v := ?v85) rfl rfl (by kernel_rfl) (by kernel_rfl) (by kernel_rfl) (fun _ _ _ h => h) (by rfl) ?y85 (by assumption) ?_
                    case y85 => (intro w hSw; (try dsimp only at hSw); go_simp <;> with_reducible rfl)
                    simp only [Act.put, List.setIfInBounds_toArray, List.set_cons_zero, List.set_cons_succ]
                    refine takeH_yes (i := 9) (d := some 50) (v := ?v86) rfl rfl (by kernel_rfl) (by kernel_rfl) (by kernel_rfl) (fun _ _ _ h => h) (by rfl) ?y86 (by assumption) ?_
                    case y86 => (intro w hSw; (try dsimp only at hSw); go_simp <;> with_reducible rfl)
                    simp only [Act.put, List.setIfInBounds_toArray, List.set_cons_zero, List.set_cons_succ]
                    refine takeH_yes (i := 10) (d := some 51) (v := ?v87) rfl rfl (by kernel_rfl) (by kernel_rfl) (by kernel_rfl) (fun _ _ _ h => h) (by rfl) ?y87 (by assumption) ?_
                    case y87 => (intro w hSw; (try dsimp only at hSw); go_simp <;> with_reducible rfl)
                    simp only [Act.put, List.setIfInBounds_toArray, List.set_cons_zero, List.set_cons_succ]
                    refine takeH_yes (i := 11) (d := some 52) (v := ?v88) rfl rfl (by kernel_rfl) (by kernel_rfl) (by kernel_rfl) (fun _ _ _ h => h) (by rfl) ?y88 (by assumption) ?_
                    case y88 => (intro w hSw; (try dsimp only at hSw); go_simp <;> with_reducible rfl)
                    simp only [Act.put, List.setIfInBounds_toArray, List.set_cons_zero, List.set_cons_succ]
                    refine takeH_yes (i := 12) (d := some 53) (v := ?v89) rfl rfl (by kernel_rfl) (by kernel_rfl) (by kernel_rfl) (fun _ _ _ h => h) (by rfl) ?y89 (by assumption) ?_
                    case y89 => (intro w hSw; (try dsimp only at hSw); go_simp <;> with_reducible rfl)
                    simp only [Act.put, List.setIfInBounds_toArray, List.set_cons_zero, List.set_cons_succ]
                    refine takeH_yes (i := 13) (d := some 54) (v := ?v90) rfl rfl (by kernel_rfl) (by kernel_rfl) (by kernel_rfl) (fun _ _ _ h => h) (by rfl) ?y90 (by assumption) ?_
                    case y90 => (intro w hSw; (try dsimp only at hSw); go_simp <;> with_reducible rfl)
                    simp only [Act.put, List.setIfInBounds_toArray, List.set_cons_zero, List.set_cons_succ]
                    refine takeH_yes (i := 14) (d := some 55) (v := ?v91) rfl rfl (by kernel_rfl) (by kernel_rfl) (by kernel_rfl) (fun _ _ _ h => h) (by rfl) ?y91 (by assumption) ?_
                    case y91 => (intro w hSw; (try dsimp only at hSw); go_simp <;> with_reducible rfl)
                    simp only [Act.put, List.setIfInBounds_toArray, List.set_cons_zero, List.set_cons_succ]
                    refine takeH_yes (i := 15) (d := some 56) (v := ?v92) rfl rfl (by kernel_rfl) (by kernel_rfl) (by kernel_rfl) (fun _ _ _ h => h) (by rfl) ?y92 (by assumption) ?_
                    case y92 => (intro w hSw; (try dsimp only at hSw); go_simp <;> with_reducible rfl)
                    simp only [Act.put, List.setIfInBounds_toArray, List.set_cons_zero, List.set_cons_succ]
                    refine takeH_yes (i := 16) (d := some 57) (v := ?v93) rfl rfl (by kernel_rfl) (by kernel_rfl) (by kernel_rfl) (fun _ _ _ h => h) (by rfl) ?y93 (by assumption) ?_
                    case y93 => (intro w hSw; (try dsimp only at hSw); go_simp <;> with_reducible rfl)
                    simp only [Act.put, List.setIfInBounds_toArray, List.set_cons_zero, List.set_cons_succ]
                    refine takeH_yes (i := 18) (d := some 59) (v := ?v94) rfl rfl (by kernel_rfl) (by kernel_rfl) (by kernel_rfl) (fun _ _ _ h => h) (by rfl) ?y94 (by assumption) ?_
                    case y94 => (intro w hSw; (try dsimp only at hSw); go_simp <;> with_reducible rfl)
                    simp only [Act.put, List.setIfInBounds_toArray, List.set_cons_zero, List.set_cons_succ]
                    refine takeH_yes (i := 19) (d := some 60) (v := ?v95) rfl rfl (by kernel_rfl) (by kernel_rfl) (by kernel_rfl) (fun _ _ _ h => h) (by rfl) ?y95 (by assumption) ?_
                    case y95 => (intro w hSw; (try dsimp only at hSw); go_simp <;> with_reducible rfl)
                    simp only [Act.put, List.setIfInBounds_toArray, List.set_cons_zero, List.set_cons_succ]
                    refine takeH_yes (i := 20) (d := some 61) (v := ?v96) rfl rfl (by kernel_rfl) (by kernel_rfl) (by kernel_rfl) (fun _ _ _ h => h) (by rfl) ?y96 (by assumption) ?_
                    case y96 => (intro w hSw; (try dsimp only at hSw); go_simp <;> with_reducible rfl)
                    simp only [Act.put, List.setIfInBounds_toArray, List.set_cons_zero, List.set_cons_succ]
                    refine takeH_yes (i := 22) (d := some 63) (v := ?v97) rfl rfl (by kernel_rfl) (by kernel_rfl) (by kernel_rfl) (fun _ _ _ h => h) (by rfl) ?y97 (by assumption) ?_
                    case y97 => (intro w hSw; (try dsimp only at hSw); go_simp <;> with_reducible rfl)
                    simp only [Act.put, List.setIfInBounds_toArray, List.set_cons_zero, List.set_cons_succ]
                    refine takeH_yes (i := 23) (d := some 64) (v := ?v98) rfl rfl (by kernel_rfl) (by kernel_rfl) (by kernel_rfl) (fun _ _ _ h => h) (by rfl) ?y98 (by assumption) ?_
                    case y98 => (intro w hSw; (try dsimp only at hSw); go_simp <;> with_reducible rfl)
                    simp only [Act.put, List.setIfInBounds_toArray, List.set_cons_zero, List.set_cons_succ]
                    refine takeH_yes (i := 24) (d := some 65) (v := ?v99) rfl rfl (by kernel_rfl) (by kernel_rfl) (by kernel_rfl) (fun _ _ _ h => h) (by rfl) ?y99 (by assumption) ?_
                    case y99 => (intro w hSw; (try dsimp only at hSw); go_simp <;> with_reducible rfl)
                    simp only [Act.put, List.setIfInBounds_toArray, List.set_cons_zero, List.set_cons_succ]
                    refine takeH_yes (i := 25) (d := some 66) (v := ?v100) rfl rfl (by kernel_rfl) (by kernel_rfl) (by kernel_rfl) (fun _ _ _ h => h) (by rfl) ?y100 (by assumption) ?_
                    case y100 => (intro w hSw; (try dsimp only at hSw); go_simp <;> with_reducible rfl)
                    simp only [Act.put, List.setIfInBounds_toArray, List.set_cons_zero, List.set_cons_succ]
                    refine takeH_yes (i := 26) (d := some 67) (v := ?v101) rfl rfl (by kernel_rfl) (by kernel_rfl) (by kernel_rfl) (fun _ _ _ h => h) (by rfl) ?y101 (by assumption) ?_
                    case y101 => (intro w hSw; (try dsimp only at hSw); go_simp <;> with_reducible rfl)
                    simp only [Act.put, List.setIfInBounds_toArray, List.set_cons_zero, List.set_cons_succ]
                    refine wpAnyH_ready (rs := [17]) (by kernel_rfl) (by simp) ?_
                    refine AllReadyH.cons rfl (fun K hK => ?_) AllReadyH.nil
                    go_simp
                    refine (HM4.out _ R4.out.tb).mono ?_
                    rintro r w' ⟨rfl, hb⟩
                    refine hK.out _ _ ?_ (fun held17 => ?_)
                    · exact keepR16 hb (by assumption)
                    clear hK K
                    try simp only [Act.put, List.setIfInBounds_toArray, List.set_cons_zero, List.set_cons_succ]
                    refine takeH_yes (i := 21) (d := some 62) (v := ?v102) rfl rfl (by kernel_rfl) (by kernel_rfl) (by kernel_rfl) (fun _ _ _ h => h) (by rfl) ?y102 (by assumption) ?_
                    case y102 => (intro w hSw; (try dsimp only at hSw); go_simp <;> with_reducible rfl)
                    simp only [Act.put, List.setIfInBounds_toArray, List.set_cons_zero, List.set_cons_succ]
                    refine takeH_yes (i := 27) (d := some 68) (v := ?v103) rfl rfl (by kernel_rfl) (by kernel_rfl) (by kernel_rfl) (fun _ _ _ h => h) (by rfl) ?y103 (by assumption) ?_
                    case y103 => (intro w hSw; (try dsimp only at hSw); go_simp <;> with_reducible rfl)
                    simp only [Act.put, List.setIfInBounds_toArray, List.set_cons_zero, List.set_cons_succ]
                    refine takeH_yes (i := 28) (d := some 69) (v := ?v104) rfl rfl (by kernel_rfl) (by kernel_rfl) (by kernel_rfl) (fun _ _ _ h => h) (by rfl) ?y104 (by assumption) ?_
                    case y104 => (intro w hSw; (try dsimp only at hSw); go_simp <;> with_reducible rfl)
                    simp only [Act.put, List.setIfInBounds_toArray, List.set_cons_zero, List.set_cons_succ]
                    refine takeH_yes (i := 29) (d := some 40) (v := ?v105) rfl rfl (by kernel_rfl) (by kernel_rfl) (by kernel_rfl) (fun _ _ _ h => h) (by rfl) ?y105 (by assumption) ?_
                    case y105 => (intro w hSw; (try dsimp only at hSw); go_simp <;> with_reducible rfl)
                    simp only [Act.put, List.setIfInBounds_toArray, List.set_cons_zero, List.set_cons_succ]
                    refine wpAnyH_done (by kernel_rfl) ?_ _
                    have S2 := held17.2.2.2.2.out
                    clear held17
                    go_wp2_with fail
                    go_ret
                    exact ⟨rfl, S2.bel⟩
                  · have t1 : decide ((B : Int) < (T : Int) + (xs.size : Int)) = false := decide_eq_false (by omega)
                    rw [if_neg (by omega)] at hR
                    subst hR
                    clear hbb hfN hfull hfle hE
                    refine wp_region_held_drew (S := fun W => W.cell? ⟨w.heap.size + 1, 1, none⟩ = some (.string xs) ∧ W.cell? ⟨tb, 0, none⟩ = some (.int .i64 (E : Nat)) ∧ W.cell? ⟨tb, 1, none⟩ = some (.int .i64 (B : Nat)) ∧ W.cell? ⟨tb, 3, none⟩ = some (.map (some mb)) ∧ Hid (Rf16 O w W tb mb E B L clock ms ⟨ks, kd, kp, ki⟩ ⟨xl, xs, xf⟩ e eb v)) (by kernel_rfl) ?_ (fun hHeld => ?_)
                    · exact R4.out.all
                    generalize w5.drew = w6 at *
                    refine takeH_yes (i := 0) (d := some 41) (v := ?v106) rfl rfl (by kernel_rfl) (by kernel_rfl) (by kernel_rfl) (fun _ _ _ h => h) (by rfl) ?y106 (by assumption) ?_
                    case y106 => (intro w hSw; (try dsimp only at hSw); go_simp <;> with_reducible rfl)
                    simp only [Act.put, List.setIfInBounds_toArray, List.set_cons_zero, List.set_cons_succ]
                    refine takeH_yes (i := 1) (d := some 42) (v := .bool true) rfl rfl (by kernel_rfl) (by kernel_rfl) (by kernel_rfl) (fun _ _ _ h => h) (by rfl) ?y107 (by assumption) ?_
                    case y107 => (intro w hSw; (try dsimp only at hSw); go_simp <;> with_reducible rfl)
                    simp only [Act.put, List.setIfInBounds_toArray, List.set_cons_zero, List.set_cons_succ]
                    refine takeH_yes (i := 2) (d := some 43) (v := ?v108) rfl rfl (by kernel_rfl) (by kernel_rfl) (by kernel_rfl) (fun _ _ _ h => h) (by rfl) ?y108 (by assumption) ?_
                    case y108 => (intro w hSw; (try dsimp only at hSw); go_simp <;> with_reducible rfl)
                    simp only [Act.put, List.setIfInBounds_toArray, List.set_cons_zero, List.set_cons_succ]
                    refine takeH_yes (i := 3) (d := some 44) (v := ?v109) rfl rfl (by kernel_rfl) (by kernel_rfl) (by kernel_rfl) (fun _ _ _ h => h) (by rfl) ?y109 (by assumption) ?_
                    case y109 => (intro w hSw; (try dsimp only at hSw); go_simp <;> with_reducible rfl)
                    simp only [Act.put, List.setIfInBounds_toArray, List.set_cons_zero, List.set_cons_succ]
                    refine takeH_yes (i := 4) (d := some 45) (v := ?v110) rfl rfl (by kernel_rfl) (by kernel_rfl) (by kernel_rfl) (fun _ _ _ h => h) (by rfl) ?y110 (by assumption) ?_
                    case y110 => (intro w hSw; (try dsimp only at hSw); go_simp <;> with_reducible rfl)
                    simp only [Act.put, List.setIfInBounds_toArray, List.set_cons_zero, List.set_cons_succ]
                    refine takeH_yes (i := 5) (d := some 46) (v := ?v111) rfl rfl (by kernel_rfl) (by kernel_rfl) (by kernel_rfl) (fun _ _ _ h => h) (by rfl) ?y111 (by assumption) ?_
                    case y111 => (intro w hSw; (try dsimp only at hSw); go_simp <;> with_reducible rfl)
                    simp only [Act.put, List.setIfInBounds_toArray, List.set_cons_zero, List.set_cons_succ]
                    refine takeH_yes (i := 6) (d := some 47) (v := ?v112) rfl rfl (by kernel_rfl) (by kernel_rfl) (by kernel_rfl) (fun _ _ _ h => h) (by rfl) ?y112 (by assumption) ?_
                    case y112 => (intro w hSw; (try dsimp only at hSw); go_simp <;> with_reducible rfl)
                    simp only [Act.put, List.setIfInBounds_toArray, List.set_cons_zero, List.set_cons_succ]
                    refine takeH_yes (i := 7) (d := some 48) (v := .int .i64 (N : Nat)) rfl rfl (by kernel_rfl) (by kernel_rfl) (by kernel_rfl) (fun _ _ _ h => h) (by rfl) ?y113 (by assumption) ?_
                    case y113 => (intro w hSw; (try dsimp only at hSw); have hq := fun ty => run_len16 ty hSw.2.2.2.2.out.tb.map; rw [HMEL.out] at hq; go_simp <;> with_reducible rfl)
                    simp only [Act.put, List.setIfInBounds_toArray, List.set_cons_zero, List.set_cons_succ]
                    refine takeH_yes (i := 8) (d := some 49) (v := ?v114) rfl rfl (by kernel_rfl) (by kernel_rfl) (by kernel_rfl) (fun _ _ _ h => h) (by rfl) ?y114 (by assumption) ?_
                    case y114 => (intro w hSw; (try dsimp only at hSw); go_simp <;> with_reducible rfl)
                    simp only [Act.put, List.setIfInBounds_toArray, List.set_cons_zero, List.set_cons_succ]
                    refine takeH_yes (i := 9) (d := some 50) (v := ?v115) rfl rfl (by kernel_rfl) (by kernel_rfl) (by kernel_rfl) (fun _ _ _ h => h) (by rfl) ?y115 (by assumption) ?_
                    case y115 => (intro w hSw; (try dsimp only at hSw); go_simp <;> with_reducible rfl)
                    simp only [Act.put, List.setIfInBounds_toArray, List.set_cons_zero, List.set_cons_succ]
                    refine takeH_yes (i := 10) (d := some 51) (v := ?v116) rfl rfl (by kernel_rfl) (by kernel_rfl) (by kernel_rfl) (fun _ _ _ h => h) (by rfl) ?y116 (by assumption) ?_
                    case y116 => (intro w hSw; (try dsimp only at hSw); go_simp <;> with_reducible rfl)
                    simp only [Act.put, List.setIfInBounds_toArray, List.set_cons_zero, List.set_cons_succ]
                    refine takeH_yes (i := 11) (d := some 52) (v := ?v117) rfl rfl (by kernel_rfl) (by kernel_rfl) (by kernel_rfl) (fun _ _ _ h => h) (by rfl) ?y117 (by assumption) ?_
                    case y117 => (intro w hSw; (try dsimp only at hSw); go_simp <;> with_reducible rfl)
                    simp only [Act.put, List.setIfInBounds_toArray, List.set_cons_zero, List.set_cons_succ]
                    refine takeH_yes (i := 12) (d := some 53) (v := ?v118) rfl rfl (by kernel_rfl) (by kernel_rfl) (by kernel_rfl) (fun _ _ _ h => h) (by rfl) ?y118 (by assumption) ?_
                    case y118 => (intro w hSw; (try dsimp only at hSw); go_simp <;> with_reducible rfl)
                    simp only [Act.put, List.setIfInBounds_toArray, List.set_cons_zero, List.set_cons_succ]
                    refine takeH_yes (i := 13) (d := some 54) (v := ?v119) rfl rfl (by kernel_rfl) (by kernel_rfl) (by kernel_rfl) (fun _ _ _ h => h) (by rfl) ?y119 (by assumption) ?_
                    case y119 => (intro w hSw; (try dsimp only at hSw); go_simp <;> with_reducible rfl)
                    simp only [Act.put, List.setIfInBounds_toArray, List.set_cons_zero, List.set_cons_succ]
                    refine takeH_yes (i := 14) (d := some 55) (v := ?v120) rfl rfl (by kernel_rfl) (by kernel_rfl) (by kernel_rfl) (fun _ _ _ h => h) (by rfl) ?y120 (by assumption) ?_
                    case y120 => (intro w hSw; (try dsimp only at hSw); go_simp <;> with_reducible rfl)
                    simp only [Act.put, List.setIfInBounds_toArray, List.set_cons_zero, List.set_cons_succ]
                    refine takeH_yes (i := 15) (d := some 56) (v := ?v121) rfl rfl (by kernel_rfl) (by kernel_rfl) (by kernel_rfl) (fun _ _ _ h => h) (by rfl) ?y121 (by assumption) ?_
                    case y121 => (intro w hSw; (try dsimp only at hSw); go_simp <;> with_reducible rfl)
                    simp only [Act.put, List.setIfInBounds_toArray, List.set_cons_zero, List.set_cons_succ]
                    refine takeH_yes (i := 16) (d := some 57) (v := ?v122) rfl rfl (by kernel_rfl) (by kernel_rfl) (by kernel_rfl) (fun _ _ _ h => h) (by rfl) ?y122 (by assumption) ?_
                    case y122 => (intro w hSw; (try dsimp only at hSw); go_simp <;> with_reducible rfl)
                    simp only [Act.put, List.setIfInBounds_toArray, List.set_cons_zero, List.set_cons_succ]
                    refine takeH_yes (i := 18) (d := some 59) (v := ?v123) rfl rfl (by kernel_rfl) (by kernel_rfl) (by kernel_rfl) (fun _ _ _ h => h) (by rfl) ?y123 (by assumption) ?_
                    case y123 => (intro w hSw; (try dsimp only at hSw); go_simp <;> with_reducible rfl)
                    simp only [Act.put, List.setIfInBounds_toArray, List.set_cons_zero, List.set_cons_succ]
                    refine takeH_yes (i := 19) (d := some 60) (v := ?v124) rfl rfl (by kernel_rfl) (by kernel_rfl) (by kernel_rfl) (fun _ _ _ h => h) (by rfl) ?y124 (by assumption) ?_
                    case y124 => (intro w hSw; (try dsimp only at hSw); go_simp <;> with_reducible rfl)
                    simp only [Act.put, List.setIfInBounds_toArray, List.set_cons_zero, List.set_cons_succ]
                    refine takeH_yes (i := 20) (d := some 61) (v := ?v125) rfl rfl (by kernel_rfl) (by kernel_rfl) (by kernel_rfl) (fun _ _ _ h => h) (by rfl) ?y125 (by assumption) ?_
                    case y125 => (intro w hSw; (try dsimp only at hSw); go_simp <;> with_reducible rfl)
                    simp only [Act.put, List.setIfInBounds_toArray, List.set_cons_zero, List.set_cons_succ]
                    refine takeH_yes (i := 22) (d := some 63) (v := ?v126) rfl rfl (by kernel_rfl) (by kernel_rfl) (by kernel_rfl) (fun _ _ _ h => h) (by rfl) ?y126 (by assumption) ?_
                    case y126 => (intro w hSw; (try dsimp only at hSw); go_simp <;> with_reducible rfl)
                    simp only [Act.put, List.setIfInBounds_toArray, List.set_cons_zero, List.set_cons_succ]
                    refine takeH_yes (i := 23) (d := some 64) (v := ?v127) rfl rfl (by kernel_rfl) (by kernel_rfl) (by kernel_rfl) (fun _ _ _ h => h) (by rfl) ?y127 (by assumption) ?_
                    case y127 => (intro w hSw; (try dsimp only at hSw); go_simp <;> with_reducible rfl)
                    simp only [Act.put, List.setIfInBounds_toArray, List.set_cons_zero, List.set_cons_succ]
                    refine takeH_yes (i := 24) (d := some 65) (v := ?v128) rfl rfl (by kernel_rfl) (by kernel_rfl) (by kernel_rfl) (fun _ _ _ h => h) (by rfl) ?y128 (by assumption) ?_
                    case y128 => (intro w hSw; (try dsimp only at hSw); go_simp <;> with_reducible rfl)
                    simp only [Act.put, List.setIfInBounds_toArray, List.set_cons_zero, List.set_cons_succ]
                    refine takeH_yes (i := 25) (d := some 66) (v := ?v129) rfl rfl (by kernel_rfl) (by kernel_rfl) (by kernel_rfl) (fun _ _ _ h => h) (by rfl) ?y129 (by assumption) ?_
                    case y129 => (intro w hSw; (try dsimp only at hSw); go_simp <;> with_reducible rfl)
                    simp only [Act.put, List.setIfInBounds_toArray, List.set_cons_zero, List.set_cons_succ]
                    refine takeH_yes (i := 26) (d := some 67) (v := ?v130) rfl rfl (by kernel_rfl) (by kernel_rfl) (by kernel_rfl) (fun _ _ _ h => h) (by rfl) ?y130 (by assumption) ?_
                    case y130 => (intro w hSw; (try dsimp only at hSw); go_simp <;> with_reducible rfl)
                    simp only [Act.put, List.setIfInBounds_toArray, List.set_cons_zero, List.set_cons_succ]
                    refine wpAnyH_ready (rs := [17]) (by kernel_rfl) (by simp) ?_
                    refine AllReadyH.cons rfl (fun K hK => ?_) AllReadyH.nil
                    go_simp
                    refine (HM4.out _ R4.out.tb).mono ?_
                    rintro r w' ⟨rfl, hb⟩
                    refine hK.out _ _ ?_ (fun held17 => ?_)
                    · exact keepR16 hb (by assumption)
                    clear hK K
                    try simp only [Act.put, List.setIfInBounds_toArray, List.set_cons_zero, List.set_cons_succ]
                    refine takeH_yes (i := 21) (d := some 62) (v := ?v131) rfl rfl (by kernel_rfl) (by kernel_rfl) (by kernel_rfl) (fun _ _ _ h => h) (by rfl) ?y131 (by assumption) ?_
                    case y131 => (intro w hSw; (try dsimp only at hSw); go_simp <;> with_reducible rfl)
                    simp only [Act.put, List.setIfInBounds_toArray, List.set_cons_zero, List.set_cons_succ]
                    refine takeH_yes (i := 27) (d := some 68) (v := ?v132) rfl rfl (by kernel_rfl) (by kernel_rfl) (by kernel_rfl) (fun _ _ _ h => h) (by rfl) ?y132 (by assumption) ?_
                    case y132 => (intro w hSw; (try dsimp only at hSw); go_simp <;> with_reducible rfl)
                    simp only [Act.put, List.setIfInBounds_toArray, List.set_cons_zero, List.set_cons_succ]
                    refine takeH_yes (i := 28) (d := some 69) (v := ?v133) rfl rfl (by kernel_rfl) (by kernel_rfl) (by kernel_rfl) (fun _ _ _ h => h) (by rfl) ?y133 (by assumption) ?_
                    case y133 => (intro w hSw; (try dsimp only at hSw); go_simp <;> with_reducible rfl)
                    simp only [Act.put, List.setIfInBounds_toArray, List.set_cons_zero, List.set_cons_succ]
                    refine takeH_yes (i := 29) (d := some 40) (v := ?v134) rfl rfl (by kernel_rfl) (by kernel_rfl) (by kernel_rfl) (fun _ _ _ h => h) (by rfl) ?y134 (by assumption) ?_
                    case y134 => (intro w hSw; (try dsimp only at hSw); go_simp <;> with_reducible rfl)
                    simp only [Act.put, List.setIfInBounds_toArray, List.set_cons_zero, List.set_cons_succ]
                    refine wpAnyH_done (by kernel_rfl) ?_ _
                    have S2 := held17.2.2.2.2.out
                    clear held17
                    go_wp2_with fail
                    go_ret
                    exact ⟨rfl, S2.bel⟩

end Go.Proofs.Ytoijomdgcgbpbaa
