/-
  put: a piece is one more of an entry's.
-/
import Derived.Test.YtoijomdgcgbpbaaReasmInsert
import Derived.Test.YtoijomdgcgbpbaaReasmPlace
import Derived.Test.YtoijomdgcgbpbaaReasmP
import Derived.Test.YtoijomdgcgbpbaaIp4A
import Derived.Test.YtoijomdgcgbpbaaGround
namespace Go.Proofs.Ytoijomdgcgbpbaa
open Go.RowKit
set_option linter.unusedVariables false

theorem Row16.form {w : World} {v : Value} {qs : List P16} (h : Row16 w v qs) : ∃ a n c, v = .slice a n c := by
  obtain ⟨a, c, e, _, _⟩ := h.none
  exact ⟨a, _, c, e⟩
/-- put's two arguments in their blocks, the entry. -/
structure Pu16 (w W : World) (h : H4) (x : P16) (e : E16) (eb : Nat) (v : Value) : Prop where
  hb : Blk W w.heap.size h.cells 43
  xb : Blk W (w.heap.size + 1) #[.int .i64 (x.lo : Nat), .string x.s, .bool x.last] 79
  en : En16 W e eb v
  bel : Below w.heap.size w W
  lt : eb < w.heap.size ∧ ∀ g, v.ownBlock = some g → g < w.heap.size
theorem Pu16.below {w W W' : World} {h : H4} {x : P16} {e : E16} {eb : Nat} {v : Value} (p : Pu16 w W h x e eb v) (hb : Below W.heap.size W W') : Pu16 w W' h x e eb v :=
  ⟨(hb.block _ p.hb.lt).trans p.hb, (hb.block _ p.xb.lt).trans p.xb, p.en.below hb, p.bel.trans (hb.mono p.bel.size), p.lt⟩

theorem Pu16.drew {w W : World} {h : H4} {x : P16} {e : E16} {eb : Nat} {v : Value} (p : Pu16 w W h x e eb v) : Pu16 w W.drew h x e eb v := p.below (Below.refl _ _).drew
/-- The payload stored anew, as it was. -/
theorem Pu16.stored {w W : World} {h : H4} {xl : Nat} {xs : ByteArray} {xf : Bool} {e : E16} {eb : Nat} {v : Value} (p : Pu16 w W h ⟨xl, xs, xf⟩ e eb v) : Pu16 w (W.setCell ⟨w.heap.size + 1, 1, none⟩ (.string xs)) h ⟨xl, xs, xf⟩ e eb v := by
  have k : Kb (fun k => k = w.heap.size + 1) W (W.setCell ⟨w.heap.size + 1, 1, none⟩ (.string xs)) := Kb.setCell (S := fun k => k = w.heap.size + 1) (Kb.refl _ W) (p := ⟨w.heap.size + 1, 1, none⟩) (fun _ => rfl) _
  refine ⟨p.hb.kb k (by omega), ?_, p.en.kb k (by have := p.lt.1; omega) (fun g hg => by have := p.lt.2 g hg; omega), p.bel.setCell (by simp) _, p.lt⟩
  have := p.xb.set 1 (.string xs)
  exact this
/-- The literal that Insert is handed. -/
def Lit16 (w W : World) (M xl : Nat) (xs : ByteArray) (xf : Bool) : Prop := w.heap.size ≤ M ∧ Blk W M #[.int .i64 (xl : Nat), .string xs, .bool xf] 79
theorem Lit16.below {w W W' : World} {M xl : Nat} {xs : ByteArray} {xf : Bool} (l : Lit16 w W M xl xs xf) (hb : Below W.heap.size W W') : Lit16 w W' M xl xs xf := ⟨l.1, (hb.block _ l.2.lt).trans l.2⟩
theorem new16 {w W : World} {h : H4} {xl : Nat} {xs : ByteArray} {xf : Bool} {e : E16} {eb : Nat} {v : Value} (p : Pu16 w W h ⟨xl, xs, xf⟩ e eb v) :
    Lit16 w (W.alloc (.cells #[.int .i64 (xl : Nat), .string xs, .bool xf] 79)) W.heap.size xl xs xf := ⟨p.bel.size, Blk.new _ _ _⟩
theorem Lit16.ne {w W : World} {M xl : Nat} {xs : ByteArray} {xf : Bool} {h : H4} {e : E16} {eb : Nat} {v : Value} (l : Lit16 w W M xl xs xf) (p : Pu16 w W h ⟨xl, xs, xf⟩ e eb v) : v.ownBlock ≠ some M := fun x => by
  have := p.lt.2 M x
  have := l.1
  omega

/-- While Insert's answer is not yet stored; and behind the store. -/
structure Pw16 (w W : World) (h : H4) (x : P16) (e : E16) (eb : Nat) (v u v' : Value) : Prop where
  hb : Blk W w.heap.size h.cells 43
  xb : Blk W (w.heap.size + 1) #[.int .i64 (x.lo : Nat), .string x.s, .bool x.last] 79
  b : Blk W eb (e.cells u) 72
  r : Row16 W v' (ins16 x e.qs)
  kb : Kb (fun k => k = eb ∨ v.ownBlock = some k) w W
  ne : v'.ownBlock ≠ some eb
  own : ∀ g, v'.ownBlock = some g → v.ownBlock = some g ∨ w.heap.size ≤ g
  lt : eb < w.heap.size
theorem Pu16.ins {w W W' : World} {h : H4} {x : P16} {e : E16} {eb : Nat} {v v' : Value} (p : Pu16 w W h x e eb v) (hr : Row16 W' v' (ins16 x e.qs)) (hk : Kb (fun k => v.ownBlock = some k) W W') (ho : ∀ g, v'.ownBlock = some g → v.ownBlock = some g ∨ W.heap.size ≤ g) : Pw16 w W' h x e eb v v v' := by
  have hz := p.bel.size
  have hen := p.en.ne
  have hb : Blk W' eb (e.cells v) 72 := p.en.b.kb hk hen
  refine ⟨p.hb.kb hk (fun x => by have := p.lt.2 _ x; omega), p.xb.kb hk (fun x => by have := p.lt.2 _ x; omega), hb, hr, ?_, fun x => ?_, fun g e => ?_, p.lt.1⟩
  · refine Kb.trans ⟨p.bel.os, p.bel.tape, p.bel.output, hz, fun k hk' _ => p.bel.block k hk'⟩ (hk.mono (fun k _ e => Or.inr e))
  · obtain ⟨cur, hc⟩ := hr.blk eb x
    unfold Blk at hb
    rw [hc] at hb
    simp at hb
  · rcases ho g e with e | e
    · exact Or.inl e
    · exact Or.inr (Nat.le_trans hz e)
theorem Pw16.row {w W : World} {h : H4} {x : P16} {e : E16} {eb : Nat} {v u v' : Value} (p : Pw16 w W h x e eb v u v') : W.cell? ⟨eb, 10, none⟩ = some u := by
  have := p.b.cell 10
  simpa [E16.cells] using this
theorem Pw16.put {w W : World} {h : H4} {x : P16} {e : E16} {eb : Nat} {v u v' : Value} (p : Pw16 w W h x e eb v u v') : Pw16 w (W.setCell ⟨eb, 10, none⟩ v') h x e eb v v' v' := by
  have k : Kb (fun k => k = eb) W (W.setCell ⟨eb, 10, none⟩ v') := Kb.setCell (S := fun k => k = eb) (Kb.refl _ W) (p := ⟨eb, 10, none⟩) (fun _ => rfl) _
  have hl := p.lt
  refine ⟨p.hb.kb k (by omega), p.xb.kb k (by omega), ?_, p.r.kb k (fun g e x => p.ne (x ▸ e)), p.kb.setCell (fun _ => Or.inl rfl) _, p.ne, p.own, p.lt⟩
  have := p.b.set 10 v'
  exact this
/-- The entry with its row, and its bytes counted. -/
structure Py16 (w W : World) (h : H4) (x : P16) (e : E16) (eb : Nat) (v v' : Value) : Prop where
  hb : Blk W w.heap.size h.cells 43
  xb : Blk W (w.heap.size + 1) #[.int .i64 (x.lo : Nat), .string x.s, .bool x.last] 79
  en : En16 W e eb v'
  kb : Kb (fun k => k = eb ∨ v.ownBlock = some k) w W
  own : ∀ g, v'.ownBlock = some g → v.ownBlock = some g ∨ w.heap.size ≤ g
  lt : eb < w.heap.size ∧ ∀ g, v.ownBlock = some g → g < w.heap.size
def E16.more (e : E16) (x : P16) : E16 := { e with qs := ins16 x e.qs }
theorem Pw16.count {w W : World} {h : H4} {x : P16} {e : E16} {eb : Nat} {v v' : Value} (p : Pw16 w W h x e eb v v' v') (hv : ∀ g, v.ownBlock = some g → g < w.heap.size) (n : Int) (hn : n = ((sum16 e.qs + x.s.size : Nat) : Int)) : Py16 w (W.setCell ⟨eb, 11, none⟩ (.int .i64 n)) h x (e.more x) eb v v' := by
  have k : Kb (fun k => k = eb) W (W.setCell ⟨eb, 11, none⟩ (.int .i64 n)) := Kb.setCell (S := fun k => k = eb) (Kb.refl _ W) (p := ⟨eb, 11, none⟩) (fun _ => rfl) _
  have hl := p.lt
  refine ⟨p.hb.kb k (by omega), p.xb.kb k (by omega), ⟨?_, p.r.kb k (fun g e x => p.ne (x ▸ e))⟩, p.kb.setCell (fun _ => Or.inl rfl) _, p.own, ⟨p.lt, hv⟩⟩
  have := p.b.set 11 (.int .i64 n)
  have e2 : (e.more x).cells v' = (e.cells v').setIfInBounds 11 (.int .i64 n) := by
    unfold E16.more E16.cells
    rw [hn, ← ins16_sum]
    rfl
  rw [e2]
  exact this
theorem Py16.below {w W W' : World} {h : H4} {x : P16} {e : E16} {eb : Nat} {v v' : Value} (p : Py16 w W h x e eb v v') (hb : Below W.heap.size W W') : Py16 w W' h x e eb v v' :=
  ⟨(hb.block _ p.hb.lt).trans p.hb, (hb.block _ p.xb.lt).trans p.xb, p.en.below hb, p.kb.trans ⟨hb.os, hb.tape, hb.output, hb.size, fun k hk _ => hb.block k hk⟩, p.own, p.lt⟩
theorem Py16.drew {w W : World} {h : H4} {x : P16} {e : E16} {eb : Nat} {v v' : Value} (p : Py16 w W h x e eb v v') : Py16 w W.drew h x e eb v v' := p.below (Below.refl _ _).drew
/-- A text of the header stored anew, as it was. -/
theorem Py16.stored {w W : World} {h : H4} {x : P16} {e : E16} {eb : Nat} {v v' : Value} (p : Py16 w W h x e eb v v') (i : Nat) (u : Value) (hu : h.cells.setIfInBounds i u = h.cells) : Py16 w (W.setCell ⟨w.heap.size, i, none⟩ u) h x e eb v v' := by
  have k : Kb (fun k => k = w.heap.size) W (W.setCell ⟨w.heap.size, i, none⟩ u) := Kb.setCell (S := fun k => k = w.heap.size) (Kb.refl _ W) (p := ⟨w.heap.size, i, none⟩) (fun _ => rfl) _
  refine ⟨?_, p.xb.kb k (by omega), p.en.kb k (by have := p.lt.1; omega) (fun g hg => ?_), p.kb.setCell (fun hlt => absurd hlt (Nat.lt_irrefl _)) _, p.own, p.lt⟩
  · have := p.hb.set i u
    rw [hu] at this
    exact this
  · intro x
    have hne := p.hb
    obtain ⟨cur, hc⟩ := p.en.r.blk g hg
    unfold Blk at hne
    rw [x, hne] at hc
    simp at hc
theorem Blk.sete {v : World} {N : Nat} {T : TypeId} {e : E16} {u : Value} (hb : Blk v N (e.cells u) T) (e' : E16) (k : Nat) (x : Value) (hx : (e.cells u).setIfInBounds k x = e'.cells u) : Blk (v.setCell ⟨N, k, none⟩ x) N (e'.cells u) T := by
  rw [← hx]; exact hb.set k x
/-- The header, stored into the entry. -/
theorem Py16.head {w W : World} {h : H4} {x : P16} {e : E16} {eb : Nat} {v v' : Value} (p : Py16 w W h x e eb v v') (g : H4) : Py16 w (put10 W eb g) h x { e with hd := g } eb v v' := by
  have k : Kb (fun k => k = eb) W (put10 W eb g) := put10_kb (S := fun k => k = eb) (Kb.refl _ W) (fun _ => rfl) g
  have hl := p.lt.1
  refine ⟨p.hb.kb k (by omega), p.xb.kb k (by omega), ⟨?_, p.en.r.kb k (fun j e x => p.en.ne (x ▸ e))⟩, put10_kb p.kb (fun _ => Or.inl rfl) g, p.own, p.lt⟩
  unfold put10
  refine Blk.sete (e := { e with hd := ⟨g.tos, g.id, g.off, g.ttl, g.proto, g.df, g.mf, g.src, g.dst, e.hd.opt⟩ }) ?_ { e with hd := g } 9 _ rfl
  refine Blk.sete (e := { e with hd := ⟨g.tos, g.id, g.off, g.ttl, g.proto, g.df, g.mf, g.src, e.hd.dst, e.hd.opt⟩ }) ?_ _ 8 _ rfl
  refine Blk.sete (e := { e with hd := ⟨g.tos, g.id, g.off, g.ttl, g.proto, g.df, g.mf, e.hd.src, e.hd.dst, e.hd.opt⟩ }) ?_ _ 7 _ rfl
  refine Blk.sete (e := { e with hd := ⟨g.tos, g.id, g.off, g.ttl, g.proto, g.df, e.hd.mf, e.hd.src, e.hd.dst, e.hd.opt⟩ }) ?_ _ 6 _ rfl
  refine Blk.sete (e := { e with hd := ⟨g.tos, g.id, g.off, g.ttl, g.proto, e.hd.df, e.hd.mf, e.hd.src, e.hd.dst, e.hd.opt⟩ }) ?_ _ 5 _ rfl
  refine Blk.sete (e := { e with hd := ⟨g.tos, g.id, g.off, g.ttl, e.hd.proto, e.hd.df, e.hd.mf, e.hd.src, e.hd.dst, e.hd.opt⟩ }) ?_ _ 4 _ rfl
  refine Blk.sete (e := { e with hd := ⟨g.tos, g.id, g.off, e.hd.ttl, e.hd.proto, e.hd.df, e.hd.mf, e.hd.src, e.hd.dst, e.hd.opt⟩ }) ?_ _ 3 _ rfl
  refine Blk.sete (e := { e with hd := ⟨g.tos, g.id, e.hd.off, e.hd.ttl, e.hd.proto, e.hd.df, e.hd.mf, e.hd.src, e.hd.dst, e.hd.opt⟩ }) ?_ _ 2 _ rfl
  refine Blk.sete (e := { e with hd := ⟨g.tos, e.hd.id, e.hd.off, e.hd.ttl, e.hd.proto, e.hd.df, e.hd.mf, e.hd.src, e.hd.dst, e.hd.opt⟩ }) ?_ _ 1 _ rfl
  exact Blk.sete (e := e) p.en.b _ 0 _ rfl

/-- What put leaves. -/
def PutEnd16 (w : World) (h : H4) (x : P16) (e : E16) (eb : Nat) (v : Value) (r : Ending) (w' : World) : Prop :=
  ∃ v', r = .returned (.tuple #[]) ∧ En16 w' (e.put h x) eb v' ∧ Kb (fun k => k = eb ∨ v.ownBlock = some k) w w' ∧ ∀ g, v'.ownBlock = some g → v.ownBlock = some g ∨ w.heap.size ≤ g

set_option maxRecDepth 100000 in
set_option maxHeartbeats 4000000 in
theorem put16_any (h : H4) (x : P16) (e : E16) (eb : Nat) (v : Value) (w : World) (he : En16 w e eb v) (hg : Good16 e.qs) (hs : x.s.size ≤ 65535) (hso : h.src.size ≤ 65535 ∧ h.dst.size ≤ 65535 ∧ h.opt.size ≤ 65535) :
    Calls Try.prog 32 #[.pointer (some ⟨eb, 0, none⟩), .agg h.cells, x.val] w (PutEnd16 w h x e eb v) := by
  have e1 := Blk.new w h.cells 43
  have e2 := Blk.new (w.alloc (.cells h.cells 43)) #[.int .i64 (x.lo : Nat), .string x.s, .bool x.last] 79
  simp only [World.size_alloc] at e2
  have hb : Below w.heap.size w ((w.alloc (.cells h.cells 43)).alloc (.cells #[.int .i64 (x.lo : Nat), .string x.s, .bool x.last] 79)) := ((Below.refl _ w).alloc (Nat.le_refl _) _).alloc (by simp) _
  have P0 : Hid (Pu16 w ((w.alloc (.cells h.cells 43)).alloc (.cells #[.int .i64 (x.lo : Nat), .string x.s, .bool x.last] 79)) h x e eb v) := ⟨e1.alloc _, e2, he.below hb, hb, he.b.lt, he.r.lt⟩
  have HCL := Lib.hid (fun W => clone16_any x.s W (by omega))
  have hfew := hg.few
  have HPL := Lib.hid (fun W (hW : En16 W e eb v) => place16_any e eb v x W hW hg)
  unfold Tells at HCL HPL
  unfold PutEnd16
  unfold P16.val at HPL ⊢
  unfold H4.cells at P0 ⊢
  clear e1 e2 hb he
  obtain ⟨xl, xs, xf⟩ := x
  dsimp only at *
  go_enter Try.func32, Try.ntmps32
  go_wp2_with fail
  refine (HCL.out _).mono ?_
  rintro r w1 ⟨rfl, hb1⟩
  have P1 := Lib.hid (P0.out.below hb1)
  clear hb1 P0 HCL
  have x1 := P1.out.xb.cell 1
  have f1 := P1.out.xb.frozen 1
  go_upto_region 2 with (fail)
  -- REGION 2
  have P2 := Lib.hid P1.out.stored.drew
  generalize hw2 : w1.setCell ⟨w.heap.size + 1, 1, none⟩ (.string xs) = w2 at *
  go_cut [] (fun wx => ∃ v', Hid (Pw16 w wx h ⟨xl, xs, xf⟩ e eb v v' v'))
  case first =>
    refine wp_region_held_drew (S := fun W => W.cell? ⟨w.heap.size + 1, 0, none⟩ = some (.int .i64 (xl : Nat)) ∧ W.cell? ⟨w.heap.size + 1, 1, none⟩ = some (.string xs) ∧ W.cell? ⟨w.heap.size + 1, 2, none⟩ = some (.bool xf) ∧ Hid (Blk W (w.heap.size + 1) #[.int .i64 (xl : Nat), .string xs, .bool xf] 79)) (by kernel_rfl) ?_ (fun hHeld => ?_)
    · exact ⟨P2.out.xb.cell 0, P2.out.xb.cell 1, P2.out.xb.cell 2, Lib.hid P2.out.xb⟩
    generalize w2.drew = w3 at *
    refine takeH_yes (i := 0) (d := some 10) (v := ?v1) rfl rfl (by kernel_rfl) (by kernel_rfl) (by kernel_rfl) (fun _ _ _ h => h) (by rfl) ?y1 (by assumption) ?_
    case y1 => (intro w hSw; (try dsimp only at hSw); go_simp <;> with_reducible rfl)
    simp only [Act.put, List.setIfInBounds_toArray, List.set_cons_zero, List.set_cons_succ]
    refine takeH_yes (i := 1) (d := some 11) (v := ?v2) rfl rfl (by kernel_rfl) (by kernel_rfl) (by kernel_rfl) (fun _ _ _ h => h) (by rfl) ?y2 (by assumption) ?_
    case y2 => (intro w hSw; (try dsimp only at hSw); go_simp <;> with_reducible rfl)
    simp only [Act.put, List.setIfInBounds_toArray, List.set_cons_zero, List.set_cons_succ]
    refine takeH_yes (i := 2) (d := some 12) (v := ?v3) rfl rfl (by kernel_rfl) (by kernel_rfl) (by kernel_rfl) (fun _ _ _ h => h) (by rfl) ?y3 (by assumption) ?_
    case y3 => (intro w hSw; (try dsimp only at hSw); go_simp <;> with_reducible rfl)
    simp only [Act.put, List.setIfInBounds_toArray, List.set_cons_zero, List.set_cons_succ]
    refine takeH_yes (i := 3) (d := some 13) (v := ?v4) rfl rfl (by kernel_rfl) (by kernel_rfl) (by kernel_rfl) (fun _ _ _ h => h) (by rfl) ?y4 (by assumption) ?_
    case y4 => (intro w hSw; (try dsimp only at hSw); go_simp <;> with_reducible rfl)
    simp only [Act.put, List.setIfInBounds_toArray, List.set_cons_zero, List.set_cons_succ]
    refine takeH_yes (i := 5) (d := some 15) (v := ?v5) rfl rfl (by kernel_rfl) (by kernel_rfl) (by kernel_rfl) (fun _ _ _ h => h) (by rfl) ?y5 (by assumption) ?_
    case y5 => (intro w hSw; (try dsimp only at hSw); go_simp <;> with_reducible rfl)
    simp only [Act.put, List.setIfInBounds_toArray, List.set_cons_zero, List.set_cons_succ]
    refine takeH_yes (i := 6) (d := some 16) (v := ?v6) rfl rfl (by kernel_rfl) (by kernel_rfl) (by kernel_rfl) (fun _ _ _ h => h) (by rfl) ?y6 (by assumption) ?_
    case y6 => (intro w hSw; (try dsimp only at hSw); go_simp <;> with_reducible rfl)
    simp only [Act.put, List.setIfInBounds_toArray, List.set_cons_zero, List.set_cons_succ]
    refine takeH_yes (i := 8) (d := some 18) (v := ?v7) rfl rfl (by kernel_rfl) (by kernel_rfl) (by kernel_rfl) (fun _ _ _ h => h) (by rfl) ?y7 (by assumption) ?_
    case y7 => (intro w hSw; (try dsimp only at hSw); go_simp <;> with_reducible rfl)
    simp only [Act.put, List.setIfInBounds_toArray, List.set_cons_zero, List.set_cons_succ]
    refine wpAnyH_ready (rs := [4, 7, 9]) (by kernel_rfl) (by simp) ?_
    refine AllReadyH.cons rfl (fun K hK => ?_) ?_
    · have c10 := P2.out.en.row
      go_simp
      refine hK.out _ _ (by assumption) (fun held => ?_)
      clear hK K c10
      try simp only [Act.put, List.setIfInBounds_toArray, List.set_cons_zero, List.set_cons_succ]
      refine wpAnyH_ready (rs := [7, 9]) (by kernel_rfl) (by simp) ?_
      refine AllReadyH.cons rfl (fun K hK => ?_) ?_
      · go_simp
        refine (HPL.out _ P2.out.en).mono ?_
        rintro r w102 ⟨rfl, hb⟩
        have P102 := Lib.hid (P2.out.below hb)
        refine hK.out _ _ ⟨P102.out.xb.cell 0, P102.out.xb.cell 1, P102.out.xb.cell 2, Lib.hid P102.out.xb⟩ (fun held => ?_)
        clear hK K hb P2
        try simp only [Act.put, List.setIfInBounds_toArray, List.set_cons_zero, List.set_cons_succ]
        refine wpAnyH_ready (rs := [9]) (by kernel_rfl) (by simp) ?_
        refine AllReadyH.cons rfl (fun K hK => ?_) AllReadyH.nil
        go_simp
        have V103 := Lib.hid (new16 P102.out)
        have P103 := Lib.hid (P102.out.below ((Below.refl _ _).alloc (Nat.le_refl _) (.cells #[.int .i64 (xl : Nat), .string xs, .bool xf] 79)))
        refine hK.out _ _ ⟨P103.out.xb.cell 0, P103.out.xb.cell 1, P103.out.xb.cell 2, Lib.hid P103.out.xb⟩ (fun held => ?_)
        clear hK K P102
        try simp only [Act.put, List.setIfInBounds_toArray, List.set_cons_zero, List.set_cons_succ]
        have hin := insert16_any v e.qs ⟨xl, xs, xf⟩ _ (place16 e.qs xl) _ P103.out.en.r V103.out.2 (V103.out.ne P103.out) (place16_le _ _) hfew.2
        refine wpAnyH_ready (rs := [10]) (by kernel_rfl) (by simp) ?_
        refine AllReadyH.cons rfl (fun K hK => ?_) AllReadyH.nil
        go_simp
        refine hin.mono ?_
        rintro r wi ⟨v', rfl, hrow, hkb, hown⟩
        obtain ⟨va, vn, vc, rfl⟩ := hrow.form
        have Q := Lib.hid (P103.out.ins hrow hkb hown)
        clear hin hrow hkb hown P103 V103
        refine hK.out _ _ ⟨Q.out.xb.cell 0, Q.out.xb.cell 1, Q.out.xb.cell 2, Lib.hid Q.out.xb⟩ (fun held => ?_)
        clear hK K
        try simp only [Act.put, List.setIfInBounds_toArray, List.set_cons_zero, List.set_cons_succ]
        refine takeH_yes (i := 11) (d := some 21) (v := ?v8) rfl rfl (by kernel_rfl) (by kernel_rfl) (by kernel_rfl) (fun _ _ _ h => h) (by rfl) ?y8 (by assumption) ?_
        case y8 => (intro w hSw; (try dsimp only at hSw); go_simp <;> with_reducible rfl)
        simp only [Act.put, List.setIfInBounds_toArray, List.set_cons_zero, List.set_cons_succ]
        refine takeH_yes (i := 12) (d := some 22) (v := ?v9) rfl rfl (by kernel_rfl) (by kernel_rfl) (by kernel_rfl) (fun _ _ _ h => h) (by rfl) ?y9 (by assumption) ?_
        case y9 => (intro w hSw; (try dsimp only at hSw); go_simp <;> with_reducible rfl)
        simp only [Act.put, List.setIfInBounds_toArray, List.set_cons_zero, List.set_cons_succ]
        refine wpAnyH_ready (rs := [13]) (by kernel_rfl) (by simp) ?_
        refine AllReadyH.cons rfl (fun K hK => ?_) AllReadyH.nil
        have c10 := Q.out.row
        have f10 := Q.out.b.frozen 10
        go_simp
        have Q2 := Lib.hid Q.out.put
        refine hK.out _ _ ⟨Q2.out.xb.cell 0, Q2.out.xb.cell 1, Q2.out.xb.cell 2, Lib.hid Q2.out.xb⟩ (fun held => ?_)
        clear hK K c10 f10
        try simp only [Act.put, List.setIfInBounds_toArray, List.set_cons_zero, List.set_cons_succ]
        refine wpAnyH_done (by kernel_rfl) ?_ _
        go_wp2_with fail
        go_meet
        exact ⟨_, Q2⟩
      refine AllReadyH.cons rfl (fun K hK => ?_) AllReadyH.nil
      go_simp
      have V104 := Lib.hid (new16 P2.out)
      have P104 := Lib.hid (P2.out.below ((Below.refl _ _).alloc (Nat.le_refl _) (.cells #[.int .i64 (xl : Nat), .string xs, .bool xf] 79)))
      refine hK.out _ _ ⟨P104.out.xb.cell 0, P104.out.xb.cell 1, P104.out.xb.cell 2, Lib.hid P104.out.xb⟩ (fun held => ?_)
      clear hK K P2
      try simp only [Act.put, List.setIfInBounds_toArray, List.set_cons_zero, List.set_cons_succ]
      refine wpAnyH_ready (rs := [7]) (by kernel_rfl) (by simp) ?_
      refine AllReadyH.cons rfl (fun K hK => ?_) AllReadyH.nil
      go_simp
      refine (HPL.out _ P104.out.en).mono ?_
      rintro r w105 ⟨rfl, hb⟩
      have P105 := Lib.hid (P104.out.below hb)
      have V105 := Lib.hid (V104.out.below hb)
      refine hK.out _ _ ⟨P105.out.xb.cell 0, P105.out.xb.cell 1, P105.out.xb.cell 2, Lib.hid P105.out.xb⟩ (fun held => ?_)
      clear hK K hb P104 V104
      try simp only [Act.put, List.setIfInBounds_toArray, List.set_cons_zero, List.set_cons_succ]
      have hin := insert16_any v e.qs ⟨xl, xs, xf⟩ _ (place16 e.qs xl) _ P105.out.en.r V105.out.2 (V105.out.ne P105.out) (place16_le _ _) hfew.2
      refine wpAnyH_ready (rs := [10]) (by kernel_rfl) (by simp) ?_
      refine AllReadyH.cons rfl (fun K hK => ?_) AllReadyH.nil
      go_simp
      refine hin.mono ?_
      rintro r wi ⟨v', rfl, hrow, hkb, hown⟩
      obtain ⟨va, vn, vc, rfl⟩ := hrow.form
      have Q := Lib.hid (P105.out.ins hrow hkb hown)
      clear hin hrow hkb hown P105 V105
      refine hK.out _ _ ⟨Q.out.xb.cell 0, Q.out.xb.cell 1, Q.out.xb.cell 2, Lib.hid Q.out.xb⟩ (fun held => ?_)
      clear hK K
      try simp only [Act.put, List.setIfInBounds_toArray, List.set_cons_zero, List.set_cons_succ]
      refine takeH_yes (i := 11) (d := some 21) (v := ?v10) rfl rfl (by kernel_rfl) (by kernel_rfl) (by kernel_rfl) (fun _ _ _ h => h) (by rfl) ?y10 (by assumption) ?_
      case y10 => (intro w hSw; (try dsimp only at hSw); go_simp <;> with_reducible rfl)
      simp only [Act.put, List.setIfInBounds_toArray, List.set_cons_zero, List.set_cons_succ]
      refine takeH_yes (i := 12) (d := some 22) (v := ?v11) rfl rfl (by kernel_rfl) (by kernel_rfl) (by kernel_rfl) (fun _ _ _ h => h) (by rfl) ?y11 (by assumption) ?_
      case y11 => (intro w hSw; (try dsimp only at hSw); go_simp <;> with_reducible rfl)
      simp only [Act.put, List.setIfInBounds_toArray, List.set_cons_zero, List.set_cons_succ]
      refine wpAnyH_ready (rs := [13]) (by kernel_rfl) (by simp) ?_
      refine AllReadyH.cons rfl (fun K hK => ?_) AllReadyH.nil
      have c10 := Q.out.row
      have f10 := Q.out.b.frozen 10
      go_simp
      have Q2 := Lib.hid Q.out.put
      refine hK.out _ _ ⟨Q2.out.xb.cell 0, Q2.out.xb.cell 1, Q2.out.xb.cell 2, Lib.hid Q2.out.xb⟩ (fun held => ?_)
      clear hK K c10 f10
      try simp only [Act.put, List.setIfInBounds_toArray, List.set_cons_zero, List.set_cons_succ]
      refine wpAnyH_done (by kernel_rfl) ?_ _
      go_wp2_with fail
      go_meet
      exact ⟨_, Q2⟩
    refine AllReadyH.cons rfl (fun K hK => ?_) ?_
    · go_simp
      refine (HPL.out _ P2.out.en).mono ?_
      rintro r w106 ⟨rfl, hb⟩
      have P106 := Lib.hid (P2.out.below hb)
      refine hK.out _ _ ⟨P106.out.xb.cell 0, P106.out.xb.cell 1, P106.out.xb.cell 2, Lib.hid P106.out.xb⟩ (fun held => ?_)
      clear hK K hb P2
      try simp only [Act.put, List.setIfInBounds_toArray, List.set_cons_zero, List.set_cons_succ]
      refine wpAnyH_ready (rs := [4, 9]) (by kernel_rfl) (by simp) ?_
      refine AllReadyH.cons rfl (fun K hK => ?_) ?_
      · have c10 := P106.out.en.row
        go_simp
        refine hK.out _ _ (by assumption) (fun held => ?_)
        clear hK K c10
        try simp only [Act.put, List.setIfInBounds_toArray, List.set_cons_zero, List.set_cons_succ]
        refine wpAnyH_ready (rs := [9]) (by kernel_rfl) (by simp) ?_
        refine AllReadyH.cons rfl (fun K hK => ?_) AllReadyH.nil
        go_simp
        have V108 := Lib.hid (new16 P106.out)
        have P108 := Lib.hid (P106.out.below ((Below.refl _ _).alloc (Nat.le_refl _) (.cells #[.int .i64 (xl : Nat), .string xs, .bool xf] 79)))
        refine hK.out _ _ ⟨P108.out.xb.cell 0, P108.out.xb.cell 1, P108.out.xb.cell 2, Lib.hid P108.out.xb⟩ (fun held => ?_)
        clear hK K P106
        try simp only [Act.put, List.setIfInBounds_toArray, List.set_cons_zero, List.set_cons_succ]
        have hin := insert16_any v e.qs ⟨xl, xs, xf⟩ _ (place16 e.qs xl) _ P108.out.en.r V108.out.2 (V108.out.ne P108.out) (place16_le _ _) hfew.2
        refine wpAnyH_ready (rs := [10]) (by kernel_rfl) (by simp) ?_
        refine AllReadyH.cons rfl (fun K hK => ?_) AllReadyH.nil
        go_simp
        refine hin.mono ?_
        rintro r wi ⟨v', rfl, hrow, hkb, hown⟩
        obtain ⟨va, vn, vc, rfl⟩ := hrow.form
        have Q := Lib.hid (P108.out.ins hrow hkb hown)
        clear hin hrow hkb hown P108 V108
        refine hK.out _ _ ⟨Q.out.xb.cell 0, Q.out.xb.cell 1, Q.out.xb.cell 2, Lib.hid Q.out.xb⟩ (fun held => ?_)
        clear hK K
        try simp only [Act.put, List.setIfInBounds_toArray, List.set_cons_zero, List.set_cons_succ]
        refine takeH_yes (i := 11) (d := some 21) (v := ?v12) rfl rfl (by kernel_rfl) (by kernel_rfl) (by kernel_rfl) (fun _ _ _ h => h) (by rfl) ?y12 (by assumption) ?_
        case y12 => (intro w hSw; (try dsimp only at hSw); go_simp <;> with_reducible rfl)
        simp only [Act.put, List.setIfInBounds_toArray, List.set_cons_zero, List.set_cons_succ]
        refine takeH_yes (i := 12) (d := some 22) (v := ?v13) rfl rfl (by kernel_rfl) (by kernel_rfl) (by kernel_rfl) (fun _ _ _ h => h) (by rfl) ?y13 (by assumption) ?_
        case y13 => (intro w hSw; (try dsimp only at hSw); go_simp <;> with_reducible rfl)
        simp only [Act.put, List.setIfInBounds_toArray, List.set_cons_zero, List.set_cons_succ]
        refine wpAnyH_ready (rs := [13]) (by kernel_rfl) (by simp) ?_
        refine AllReadyH.cons rfl (fun K hK => ?_) AllReadyH.nil
        have c10 := Q.out.row
        have f10 := Q.out.b.frozen 10
        go_simp
        have Q2 := Lib.hid Q.out.put
        refine hK.out _ _ ⟨Q2.out.xb.cell 0, Q2.out.xb.cell 1, Q2.out.xb.cell 2, Lib.hid Q2.out.xb⟩ (fun held => ?_)
        clear hK K c10 f10
        try simp only [Act.put, List.setIfInBounds_toArray, List.set_cons_zero, List.set_cons_succ]
        refine wpAnyH_done (by kernel_rfl) ?_ _
        go_wp2_with fail
        go_meet
        exact ⟨_, Q2⟩
      refine AllReadyH.cons rfl (fun K hK => ?_) AllReadyH.nil
      go_simp
      have V109 := Lib.hid (new16 P106.out)
      have P109 := Lib.hid (P106.out.below ((Below.refl _ _).alloc (Nat.le_refl _) (.cells #[.int .i64 (xl : Nat), .string xs, .bool xf] 79)))
      refine hK.out _ _ ⟨P109.out.xb.cell 0, P109.out.xb.cell 1, P109.out.xb.cell 2, Lib.hid P109.out.xb⟩ (fun held => ?_)
      clear hK K P106
      try simp only [Act.put, List.setIfInBounds_toArray, List.set_cons_zero, List.set_cons_succ]
      refine wpAnyH_ready (rs := [4]) (by kernel_rfl) (by simp) ?_
      refine AllReadyH.cons rfl (fun K hK => ?_) AllReadyH.nil
      have c10 := P109.out.en.row
      go_simp
      refine hK.out _ _ (by assumption) (fun held => ?_)
      clear hK K c10
      try simp only [Act.put, List.setIfInBounds_toArray, List.set_cons_zero, List.set_cons_succ]
      have hin := insert16_any v e.qs ⟨xl, xs, xf⟩ _ (place16 e.qs xl) _ P109.out.en.r V109.out.2 (V109.out.ne P109.out) (place16_le _ _) hfew.2
      refine wpAnyH_ready (rs := [10]) (by kernel_rfl) (by simp) ?_
      refine AllReadyH.cons rfl (fun K hK => ?_) AllReadyH.nil
      go_simp
      refine hin.mono ?_
      rintro r wi ⟨v', rfl, hrow, hkb, hown⟩
      obtain ⟨va, vn, vc, rfl⟩ := hrow.form
      have Q := Lib.hid (P109.out.ins hrow hkb hown)
      clear hin hrow hkb hown P109 V109
      refine hK.out _ _ ⟨Q.out.xb.cell 0, Q.out.xb.cell 1, Q.out.xb.cell 2, Lib.hid Q.out.xb⟩ (fun held => ?_)
      clear hK K
      try simp only [Act.put, List.setIfInBounds_toArray, List.set_cons_zero, List.set_cons_succ]
      refine takeH_yes (i := 11) (d := some 21) (v := ?v14) rfl rfl (by kernel_rfl) (by kernel_rfl) (by kernel_rfl) (fun _ _ _ h => h) (by rfl) ?y14 (by assumption) ?_
      case y14 => (intro w hSw; (try dsimp only at hSw); go_simp <;> with_reducible rfl)
      simp only [Act.put, List.setIfInBounds_toArray, List.set_cons_zero, List.set_cons_succ]
      refine takeH_yes (i := 12) (d := some 22) (v := ?v15) rfl rfl (by kernel_rfl) (by kernel_rfl) (by kernel_rfl) (fun _ _ _ h => h) (by rfl) ?y15 (by assumption) ?_
      case y15 => (intro w hSw; (try dsimp only at hSw); go_simp <;> with_reducible rfl)
      simp only [Act.put, List.setIfInBounds_toArray, List.set_cons_zero, List.set_cons_succ]
      refine wpAnyH_ready (rs := [13]) (by kernel_rfl) (by simp) ?_
      refine AllReadyH.cons rfl (fun K hK => ?_) AllReadyH.nil
      have c10 := Q.out.row
      have f10 := Q.out.b.frozen 10
      go_simp
      have Q2 := Lib.hid Q.out.put
      refine hK.out _ _ ⟨Q2.out.xb.cell 0, Q2.out.xb.cell 1, Q2.out.xb.cell 2, Lib.hid Q2.out.xb⟩ (fun held => ?_)
      clear hK K c10 f10
      try simp only [Act.put, List.setIfInBounds_toArray, List.set_cons_zero, List.set_cons_succ]
      refine wpAnyH_done (by kernel_rfl) ?_ _
      go_wp2_with fail
      go_meet
      exact ⟨_, Q2⟩
    refine AllReadyH.cons rfl (fun K hK => ?_) AllReadyH.nil
    go_simp
    have V111 := Lib.hid (new16 P2.out)
    have P111 := Lib.hid (P2.out.below ((Below.refl _ _).alloc (Nat.le_refl _) (.cells #[.int .i64 (xl : Nat), .string xs, .bool xf] 79)))
    refine hK.out _ _ ⟨P111.out.xb.cell 0, P111.out.xb.cell 1, P111.out.xb.cell 2, Lib.hid P111.out.xb⟩ (fun held => ?_)
    clear hK K P2
    try simp only [Act.put, List.setIfInBounds_toArray, List.set_cons_zero, List.set_cons_succ]
    refine wpAnyH_ready (rs := [4, 7]) (by kernel_rfl) (by simp) ?_
    refine AllReadyH.cons rfl (fun K hK => ?_) ?_
    · have c10 := P111.out.en.row
      go_simp
      refine hK.out _ _ (by assumption) (fun held => ?_)
      clear hK K c10
      try simp only [Act.put, List.setIfInBounds_toArray, List.set_cons_zero, List.set_cons_succ]
      refine wpAnyH_ready (rs := [7]) (by kernel_rfl) (by simp) ?_
      refine AllReadyH.cons rfl (fun K hK => ?_) AllReadyH.nil
      go_simp
      refine (HPL.out _ P111.out.en).mono ?_
      rintro r w113 ⟨rfl, hb⟩
      have P113 := Lib.hid (P111.out.below hb)
      have V113 := Lib.hid (V111.out.below hb)
      refine hK.out _ _ ⟨P113.out.xb.cell 0, P113.out.xb.cell 1, P113.out.xb.cell 2, Lib.hid P113.out.xb⟩ (fun held => ?_)
      clear hK K hb P111 V111
      try simp only [Act.put, List.setIfInBounds_toArray, List.set_cons_zero, List.set_cons_succ]
      have hin := insert16_any v e.qs ⟨xl, xs, xf⟩ _ (place16 e.qs xl) _ P113.out.en.r V113.out.2 (V113.out.ne P113.out) (place16_le _ _) hfew.2
      refine wpAnyH_ready (rs := [10]) (by kernel_rfl) (by simp) ?_
      refine AllReadyH.cons rfl (fun K hK => ?_) AllReadyH.nil
      go_simp
      refine hin.mono ?_
      rintro r wi ⟨v', rfl, hrow, hkb, hown⟩
      obtain ⟨va, vn, vc, rfl⟩ := hrow.form
      have Q := Lib.hid (P113.out.ins hrow hkb hown)
      clear hin hrow hkb hown P113 V113
      refine hK.out _ _ ⟨Q.out.xb.cell 0, Q.out.xb.cell 1, Q.out.xb.cell 2, Lib.hid Q.out.xb⟩ (fun held => ?_)
      clear hK K
      try simp only [Act.put, List.setIfInBounds_toArray, List.set_cons_zero, List.set_cons_succ]
      refine takeH_yes (i := 11) (d := some 21) (v := ?v16) rfl rfl (by kernel_rfl) (by kernel_rfl) (by kernel_rfl) (fun _ _ _ h => h) (by rfl) ?y16 (by assumption) ?_
      case y16 => (intro w hSw; (try dsimp only at hSw); go_simp <;> with_reducible rfl)
      simp only [Act.put, List.setIfInBounds_toArray, List.set_cons_zero, List.set_cons_succ]
      refine takeH_yes (i := 12) (d := some 22) (v := ?v17) rfl rfl (by kernel_rfl) (by kernel_rfl) (by kernel_rfl) (fun _ _ _ h => h) (by rfl) ?y17 (by assumption) ?_
      case y17 => (intro w hSw; (try dsimp only at hSw); go_simp <;> with_reducible rfl)
      simp only [Act.put, List.setIfInBounds_toArray, List.set_cons_zero, List.set_cons_succ]
      refine wpAnyH_ready (rs := [13]) (by kernel_rfl) (by simp) ?_
      refine AllReadyH.cons rfl (fun K hK => ?_) AllReadyH.nil
      have c10 := Q.out.row
      have f10 := Q.out.b.frozen 10
      go_simp
      have Q2 := Lib.hid Q.out.put
      refine hK.out _ _ ⟨Q2.out.xb.cell 0, Q2.out.xb.cell 1, Q2.out.xb.cell 2, Lib.hid Q2.out.xb⟩ (fun held => ?_)
      clear hK K c10 f10
      try simp only [Act.put, List.setIfInBounds_toArray, List.set_cons_zero, List.set_cons_succ]
      refine wpAnyH_done (by kernel_rfl) ?_ _
      go_wp2_with fail
      go_meet
      exact ⟨_, Q2⟩
    refine AllReadyH.cons rfl (fun K hK => ?_) AllReadyH.nil
    go_simp
    refine (HPL.out _ P111.out.en).mono ?_
    rintro r w114 ⟨rfl, hb⟩
    have P114 := Lib.hid (P111.out.below hb)
    have V114 := Lib.hid (V111.out.below hb)
    refine hK.out _ _ ⟨P114.out.xb.cell 0, P114.out.xb.cell 1, P114.out.xb.cell 2, Lib.hid P114.out.xb⟩ (fun held => ?_)
    clear hK K hb P111 V111
    try simp only [Act.put, List.setIfInBounds_toArray, List.set_cons_zero, List.set_cons_succ]
    refine wpAnyH_ready (rs := [4]) (by kernel_rfl) (by simp) ?_
    refine AllReadyH.cons rfl (fun K hK => ?_) AllReadyH.nil
    have c10 := P114.out.en.row
    go_simp
    refine hK.out _ _ (by assumption) (fun held => ?_)
    clear hK K c10
    try simp only [Act.put, List.setIfInBounds_toArray, List.set_cons_zero, List.set_cons_succ]
    have hin := insert16_any v e.qs ⟨xl, xs, xf⟩ _ (place16 e.qs xl) _ P114.out.en.r V114.out.2 (V114.out.ne P114.out) (place16_le _ _) hfew.2
    refine wpAnyH_ready (rs := [10]) (by kernel_rfl) (by simp) ?_
    refine AllReadyH.cons rfl (fun K hK => ?_) AllReadyH.nil
    go_simp
    refine hin.mono ?_
    rintro r wi ⟨v', rfl, hrow, hkb, hown⟩
    obtain ⟨va, vn, vc, rfl⟩ := hrow.form
    have Q := Lib.hid (P114.out.ins hrow hkb hown)
    clear hin hrow hkb hown P114 V114
    refine hK.out _ _ ⟨Q.out.xb.cell 0, Q.out.xb.cell 1, Q.out.xb.cell 2, Lib.hid Q.out.xb⟩ (fun held => ?_)
    clear hK K
    try simp only [Act.put, List.setIfInBounds_toArray, List.set_cons_zero, List.set_cons_succ]
    refine takeH_yes (i := 11) (d := some 21) (v := ?v18) rfl rfl (by kernel_rfl) (by kernel_rfl) (by kernel_rfl) (fun _ _ _ h => h) (by rfl) ?y18 (by assumption) ?_
    case y18 => (intro w hSw; (try dsimp only at hSw); go_simp <;> with_reducible rfl)
    simp only [Act.put, List.setIfInBounds_toArray, List.set_cons_zero, List.set_cons_succ]
    refine takeH_yes (i := 12) (d := some 22) (v := ?v19) rfl rfl (by kernel_rfl) (by kernel_rfl) (by kernel_rfl) (fun _ _ _ h => h) (by rfl) ?y19 (by assumption) ?_
    case y19 => (intro w hSw; (try dsimp only at hSw); go_simp <;> with_reducible rfl)
    simp only [Act.put, List.setIfInBounds_toArray, List.set_cons_zero, List.set_cons_succ]
    refine wpAnyH_ready (rs := [13]) (by kernel_rfl) (by simp) ?_
    refine AllReadyH.cons rfl (fun K hK => ?_) AllReadyH.nil
    have c10 := Q.out.row
    have f10 := Q.out.b.frozen 10
    go_simp
    have Q2 := Lib.hid Q.out.put
    refine hK.out _ _ ⟨Q2.out.xb.cell 0, Q2.out.xb.cell 1, Q2.out.xb.cell 2, Lib.hid Q2.out.xb⟩ (fun held => ?_)
    clear hK K c10 f10
    try simp only [Act.put, List.setIfInBounds_toArray, List.set_cons_zero, List.set_cons_succ]
    refine wpAnyH_done (by kernel_rfl) ?_ _
    go_wp2_with fail
    go_meet
    exact ⟨_, Q2⟩
  case rest =>
    obtain ⟨v', hQ⟩ := hcut
    have Q0 := Lib.hid hQ.out
    have HV := Lib.hid P1.out.lt.2
    have c11 := Q0.out.b.cell 11
    have f11 := Q0.out.b.frozen 11
    have x1 := Q0.out.xb.cell 1
    simp only [E16.cells, List.getElem?_toArray, List.getElem?_cons_zero, List.getElem?_cons_succ] at c11 x1
    have ew : IntKind.i64.wrap ((sum16 e.qs : Nat) + (xs.size : Int)) = (sum16 e.qs : Nat) + (xs.size : Int) := IntWalk.i64_in _ (by omega)
    have Y0 := Lib.hid (Q0.out.count HV.out ((sum16 e.qs : Nat) + (xs.size : Int)) (by simp))
    clear hQ P1 P2 hw2 Q0
    go_wp2_with fail
    go_region
    have Y1 := Lib.hid Y0.out.drew
    clear Y0 c11 f11 x1 ew
    generalize (wc.setCell ⟨eb, 11, none⟩ (.int .i64 ((sum16 e.qs : Nat) + (xs.size : Int)))).drew = w4 at *
    have x0 := Y1.out.xb.cell 0
    simp only [List.getElem?_toArray, List.getElem?_cons_zero] at x0
    by_cases h0 : xl = 0
    · have t0 : ((xl : Int) == 0) = true := by simp [h0]
      have H0 := Lib.hid h0
      have HC1 := Lib.hid (fun W => clone16_any h.src W (by omega))
      have HC2 := Lib.hid (fun W => clone16_any h.dst W (by omega))
      have HC3 := Lib.hid (fun W => clone16_any h.opt W (by omega))
      unfold Tells at HC1 HC2 HC3
      clear h0
      go_upto_region 5 with (fail)
      refine wp_region_held_drew (S := fun W => W.cell? ⟨w.heap.size, 7, none⟩ = some (.string h.src) ∧ W.cell? ⟨w.heap.size, 8, none⟩ = some (.string h.dst) ∧ W.cell? ⟨w.heap.size, 9, none⟩ = some (.string h.opt) ∧ Hid (Py16 w W h ⟨xl, xs, xf⟩ (e.more ⟨xl, xs, xf⟩) eb v v')) (by kernel_rfl) ?_ (fun hHeld => ?_)
      · exact ⟨Y1.out.hb.cell 7, Y1.out.hb.cell 8, Y1.out.hb.cell 9, Lib.hid Y1.out.drew⟩
      clear x0 Y1
      generalize w4.drew = w5 at *
      refine takeH_yes (i := 0) (d := some 36) (v := ?v20) rfl rfl (by kernel_rfl) (by kernel_rfl) (by kernel_rfl) (fun _ _ _ h => h) (by rfl) ?y20 (by assumption) ?_
      case y20 => (intro w hSw; (try dsimp only at hSw); go_simp <;> with_reducible rfl)
      simp only [Act.put, List.setIfInBounds_toArray, List.set_cons_zero, List.set_cons_succ]
      refine takeH_yes (i := 1) (d := some 37) (v := ?v21) rfl rfl (by kernel_rfl) (by kernel_rfl) (by kernel_rfl) (fun _ _ _ h => h) (by rfl) ?y21 (by assumption) ?_
      case y21 => (intro w hSw; (try dsimp only at hSw); go_simp <;> with_reducible rfl)
      simp only [Act.put, List.setIfInBounds_toArray, List.set_cons_zero, List.set_cons_succ]
      refine takeH_yes (i := 3) (d := some 39) (v := ?v22) rfl rfl (by kernel_rfl) (by kernel_rfl) (by kernel_rfl) (fun _ _ _ h => h) (by rfl) ?y22 (by assumption) ?_
      case y22 => (intro w hSw; (try dsimp only at hSw); go_simp <;> with_reducible rfl)
      simp only [Act.put, List.setIfInBounds_toArray, List.set_cons_zero, List.set_cons_succ]
      refine takeH_yes (i := 4) (d := some 40) (v := ?v23) rfl rfl (by kernel_rfl) (by kernel_rfl) (by kernel_rfl) (fun _ _ _ h => h) (by rfl) ?y23 (by assumption) ?_
      case y23 => (intro w hSw; (try dsimp only at hSw); go_simp <;> with_reducible rfl)
      simp only [Act.put, List.setIfInBounds_toArray, List.set_cons_zero, List.set_cons_succ]
      refine takeH_yes (i := 6) (d := some 42) (v := ?v24) rfl rfl (by kernel_rfl) (by kernel_rfl) (by kernel_rfl) (fun _ _ _ h => h) (by rfl) ?y24 (by assumption) ?_
      case y24 => (intro w hSw; (try dsimp only at hSw); go_simp <;> with_reducible rfl)
      simp only [Act.put, List.setIfInBounds_toArray, List.set_cons_zero, List.set_cons_succ]
      refine takeH_yes (i := 7) (d := some 43) (v := ?v25) rfl rfl (by kernel_rfl) (by kernel_rfl) (by kernel_rfl) (fun _ _ _ h => h) (by rfl) ?y25 (by assumption) ?_
      case y25 => (intro w hSw; (try dsimp only at hSw); go_simp <;> with_reducible rfl)
      simp only [Act.put, List.setIfInBounds_toArray, List.set_cons_zero, List.set_cons_succ]
      refine wpAnyH_ready (rs := [2]) (by kernel_rfl) (by simp) ?_
      refine AllReadyH.cons rfl (fun K hK => ?_) AllReadyH.nil
      go_simp
      refine (HC1.out _).mono ?_
      rintro r wi ⟨rfl, hb⟩
      have YT := Lib.hid (hHeld.2.2.2.out.below hb)
      refine hK.out _ _ ⟨YT.out.hb.cell 7, YT.out.hb.cell 8, YT.out.hb.cell 9, YT⟩ (fun held2 => ?_)
      clear hK K YT hHeld hb
      try simp only [Act.put, List.setIfInBounds_toArray, List.set_cons_zero, List.set_cons_succ]
      refine takeH_yes (i := 9) (d := some 45) (v := ?v26) rfl rfl (by kernel_rfl) (by kernel_rfl) (by kernel_rfl) (fun _ _ _ h => h) (by rfl) ?y26 (by assumption) ?_
      case y26 => (intro w hSw; (try dsimp only at hSw); go_simp <;> with_reducible rfl)
      simp only [Act.put, List.setIfInBounds_toArray, List.set_cons_zero, List.set_cons_succ]
      refine wpAnyH_ready (rs := [5]) (by kernel_rfl) (by simp) ?_
      refine AllReadyH.cons rfl (fun K hK => ?_) AllReadyH.nil
      go_simp
      refine (HC2.out _).mono ?_
      rintro r wi ⟨rfl, hb⟩
      have YT := Lib.hid (held2.2.2.2.out.below hb)
      refine hK.out _ _ ⟨YT.out.hb.cell 7, YT.out.hb.cell 8, YT.out.hb.cell 9, YT⟩ (fun held5 => ?_)
      clear hK K YT held2 hb
      try simp only [Act.put, List.setIfInBounds_toArray, List.set_cons_zero, List.set_cons_succ]
      refine wpAnyH_ready (rs := [8]) (by kernel_rfl) (by simp) ?_
      refine AllReadyH.cons rfl (fun K hK => ?_) AllReadyH.nil
      go_simp
      refine (HC3.out _).mono ?_
      rintro r wi ⟨rfl, hb⟩
      have YT := Lib.hid (held5.2.2.2.out.below hb)
      refine hK.out _ _ ⟨YT.out.hb.cell 7, YT.out.hb.cell 8, YT.out.hb.cell 9, YT⟩ (fun held8 => ?_)
      clear hK K YT held5 hb
      try simp only [Act.put, List.setIfInBounds_toArray, List.set_cons_zero, List.set_cons_succ]
      refine wpAnyH_ready (rs := [10]) (by kernel_rfl) (by simp) ?_
      refine AllReadyH.cons rfl (fun K hK => ?_) AllReadyH.nil
      have YS := held8.2.2.2.out
      have cS := YS.hb.cell 7
      have fS := YS.hb.frozen 7
      go_simp
      have YT := Lib.hid (YS.stored 7 (.string h.src) rfl)
      refine hK.out _ _ ⟨YT.out.hb.cell 7, YT.out.hb.cell 8, YT.out.hb.cell 9, YT⟩ (fun held10 => ?_)
      clear hK K YS cS fS YT held8
      try simp only [Act.put, List.setIfInBounds_toArray, List.set_cons_zero, List.set_cons_succ]
      refine takeH_yes (i := 11) (d := some 46) (v := ?v27) rfl rfl (by kernel_rfl) (by kernel_rfl) (by kernel_rfl) (fun _ _ _ h => h) (by rfl) ?y27 (by assumption) ?_
      case y27 => (intro w hSw; (try dsimp only at hSw); go_simp <;> with_reducible rfl)
      simp only [Act.put, List.setIfInBounds_toArray, List.set_cons_zero, List.set_cons_succ]
      refine wpAnyH_ready (rs := [12]) (by kernel_rfl) (by simp) ?_
      refine AllReadyH.cons rfl (fun K hK => ?_) AllReadyH.nil
      have YS := held10.2.2.2.out
      have cS := YS.hb.cell 8
      have fS := YS.hb.frozen 8
      go_simp
      have YT := Lib.hid (YS.stored 8 (.string h.dst) rfl)
      refine hK.out _ _ ⟨YT.out.hb.cell 7, YT.out.hb.cell 8, YT.out.hb.cell 9, YT⟩ (fun held12 => ?_)
      clear hK K YS cS fS YT held10
      try simp only [Act.put, List.setIfInBounds_toArray, List.set_cons_zero, List.set_cons_succ]
      refine takeH_yes (i := 13) (d := some 47) (v := ?v28) rfl rfl (by kernel_rfl) (by kernel_rfl) (by kernel_rfl) (fun _ _ _ h => h) (by rfl) ?y28 (by assumption) ?_
      case y28 => (intro w hSw; (try dsimp only at hSw); go_simp <;> with_reducible rfl)
      simp only [Act.put, List.setIfInBounds_toArray, List.set_cons_zero, List.set_cons_succ]
      refine wpAnyH_ready (rs := [14]) (by kernel_rfl) (by simp) ?_
      refine AllReadyH.cons rfl (fun K hK => ?_) AllReadyH.nil
      have YS := held12.2.2.2.out
      have cS := YS.hb.cell 9
      have fS := YS.hb.frozen 9
      go_simp
      have YT := Lib.hid (YS.stored 9 (.string h.opt) rfl)
      refine hK.out _ _ ⟨YT.out.hb.cell 7, YT.out.hb.cell 8, YT.out.hb.cell 9, YT⟩ (fun held14 => ?_)
      clear hK K YS cS fS YT held12
      try simp only [Act.put, List.setIfInBounds_toArray, List.set_cons_zero, List.set_cons_succ]
      refine wpAnyH_done (by kernel_rfl) ?_ _
      have Y2 := Lib.hid held14.2.2.2.out
      clear held14
      generalize (((wi.setCell ⟨w.heap.size, 7, none⟩ (.string h.src)).setCell ⟨w.heap.size, 8, none⟩ (.string h.dst)).setCell ⟨w.heap.size, 9, none⟩ (.string h.opt)) = w6 at *
      have ⟨c0, c1, c2, c3, c4, c5, c6, c7, c8, c9⟩ := Hc.of Y2.out.hb
      have d0 := Y2.out.en.b.cell 0
      have d1 := Y2.out.en.b.cell 1
      have d2 := Y2.out.en.b.cell 2
      have d3 := Y2.out.en.b.cell 3
      have d4 := Y2.out.en.b.cell 4
      have d5 := Y2.out.en.b.cell 5
      have d6 := Y2.out.en.b.cell 6
      have d7 := Y2.out.en.b.cell 7
      have d8 := Y2.out.en.b.cell 8
      have d9 := Y2.out.en.b.cell 9
      simp only [E16.cells, List.getElem?_toArray, List.getElem?_cons_zero, List.getElem?_cons_succ] at d0 d1 d2 d3 d4 d5 d6 d7 d8 d9
      have f0 := Y2.out.en.b.frozen 0
      have f1 := Y2.out.en.b.frozen 1
      have f2 := Y2.out.en.b.frozen 2
      have f3 := Y2.out.en.b.frozen 3
      have f4 := Y2.out.en.b.frozen 4
      have f5 := Y2.out.en.b.frozen 5
      have f6 := Y2.out.en.b.frozen 6
      have f7 := Y2.out.en.b.frozen 7
      have f8 := Y2.out.en.b.frozen 8
      have f9 := Y2.out.en.b.frozen 9
      have Y3 := Lib.hid (Y2.out.head h)
      unfold put10 at Y3
      clear Y2
      go_wp2_with fail
      go_end0
      refine ⟨v', rfl, ?_, Y3.out.kb, Y3.out.own⟩
      have e2 : e.put h ⟨xl, xs, xf⟩ = { e.more ⟨xl, xs, xf⟩ with hd := h } := by unfold E16.put E16.more; rw [if_pos H0.out]
      rw [e2]
      exact Y3.out.en
    · have t0 : ((xl : Int) == 0) = false := by simp [h0]
      have H0 := Lib.hid h0
      clear h0
      go_wp2_with fail
      go_end0
      refine ⟨v', rfl, ?_, Y1.out.kb, Y1.out.own⟩
      have e2 : e.put h ⟨xl, xs, xf⟩ = e.more ⟨xl, xs, xf⟩ := by unfold E16.put E16.more; rw [if_neg H0.out]
      rw [e2]
      exact Y1.out.en

end Go.Proofs.Ytoijomdgcgbpbaa
