/-
  put: the pieces, put one behind the other, as long as each can be.
-/
import Derived.Test.YtoijomdgcgbpbaaFragPieces
import Derived.OwnWalk
import Derived.Deep.AppendLies
import Derived.RangeFuncBox
namespace Go.Proofs.Ytoijomdgcgbpbaa
open Go.RowKit Go.Shelf
set_option linter.unusedVariables false

attribute [local go_sem] Oper.semAt_some

theorem Try.infoS : (Try.prog.info? 9).map (fun i => (i.zero, i.size, i.bytes)) = some (some (.string ⟨#[]⟩), 1, 16) := by kernel_rfl

/-- Texts as cells. -/
def strs15 (l : List ByteArray) : List Value := l.map Value.string
theorem strs15_snoc (l : List ByteArray) (s : ByteArray) : strs15 (l ++ [s]) = strs15 l ++ [.string s] := by simp [strs15]
theorem strs15_length (l : List ByteArray) : (strs15 l).length = l.length := by simp [strs15]

/-- A slice of texts that a call told. -/
def TextsAt (W : World) (v : Value) (l : List ByteArray) : Prop :=
  (l = [] ∧ v = .slice none 0 0) ∨ ∃ b c, v = .slice (some ⟨b, 0, none⟩) l.length c ∧ b < W.heap.size ∧ (∀ (i : Nat) (h : i < l.length), W.cell? ⟨b, i, none⟩ = some (.string (l[i]'h))) ∧ l.length ≤ c
theorem TextsAt.below {W W' : World} {v : Value} {l : List ByteArray} (h : TextsAt W v l) (hb : Below W.heap.size W W') : TextsAt W' v l := by
  rcases h with h | ⟨b, c, rfl, hlt, hc⟩
  · exact Or.inl h
  · exact Or.inr ⟨b, c, rfl, Nat.lt_of_lt_of_le hlt hb.size, fun i hi => (hb.cell (p := ⟨b, i, none⟩) hlt).trans (hc.1 i hi), hc.2⟩
theorem TextsAt.of_row {W : World} {base : Nat} {v : Value} {l : List ByteArray} (h : W.ownsRow base 9 1 v l.length (strs15 l)) : TextsAt W v l := by
  have hlt := h.lt
  have hcell := @World.ownsRow.cellAt W base 9 1
  rcases h.2 with ⟨rfl, h0⟩ | ⟨g, cap, cur, rfl, _, hg, hle, _⟩
  · exact Or.inl ⟨List.length_eq_zero_iff.1 h0, rfl⟩
  · refine Or.inr ⟨g, cap, rfl, (hlt g rfl).2, fun i hi => ?_, hle⟩
    rw [World.ownsRow.cellAt h i (by omega)]
    simp [strs15, hi]

/-- An append in a fenced walk, and where the new slice lies. -/
theorem wpListIn_append_lies {F : Fence} {n : Nat} {P : Program} (w : World) {ops : Array Oper} {rest : List Oper} {o : Oper} {a : Act} {Q : Exit → Act → World → Prop} (hg : o.guard = none) (s x : Operand) (t : TypeId)
    (ho : o.op = .call { callee := .builtin .append, args := #[s, x], argTypes := #[t, t] }) (base : Nat) (e : TypeId) (i : TypeInfo) (z : Value) (size bytes : Nat) (ht : P.underlying t = some (.slice e)) (hi : P.info? e = some i) (hz : i.zero = some z)
    (hsize : i.size = size) (hby : i.bytes = bytes) (hzs : z.cells.size = size) (hsz : 0 < size) (v : Value) (k : Nat) (xs : List Value) (hs : a.eval s = v) (hown : w.ownsRow base e size v k xs)
    (ad : Addr) (m c : Nat) (news : List Value) (hx : a.eval x = .slice (some ad) m c) (hl : news.length = m * size) (hnews : ∀ j u, news[j]? = some u → w.cell? (ad.add j) = some u) (h1 : ∀ u ∈ news, u.oneCell' = true)
    (hm : 0 < m) (h63 : k + m ≤ maxLen) (hbytes : (k + m) * bytes ≤ 140737488355328) (hbase : base ≤ w.heap.size) (H : Nat) (hH : w.heap.size = H)
    (h : ∀ g cap w', w'.ownsRow base e size (.slice (some ⟨g, 0, none⟩) (k + m) cap) (k + m) (xs ++ news) → w.grownBy w' v.ownBlock → (v.ownBlock = some g ∨ g = H) → g < w'.heap.size →
      wpListIn F n P ops Q rest (a.put o.dst (.slice (some ⟨g, 0, none⟩) (k + m) cap)) w') : wpListIn F n P ops Q (o :: rest) a w := by
  refine wpListIn_plain hg fun K hK => ?_
  obtain ⟨g, cap, w', hr, r1, r2, r3, r4⟩ := run_append_lies (P := P) w t o.type base e i z size bytes ht hi hz hsize hby hzs hsz v k xs hown ad m c news hl hnews h1 hm h63 hbytes hbase H hH
  unfold Oper.wpIn
  refine ⟨by simp [Oper.about, ho, resolve, Target.leads, Sem.run_pure], ?_⟩
  rw [Oper.semAt_plain F _ _ (by rw [ho]; intro c hc; cases hc)]
  simp [execOp, ho, resolve, invoke, builtin, hs, hx, hr, Result.andThen]
  exact hK _ _ (h g cap w' r1 r2 r3 r4)

/-- What came, with its bounds struck. -/
def vals15 {M : Nat} (l : List (It15 M)) : List (H4 × ByteArray) := l.map (·.1)
theorem vals15_snoc {M : Nat} (l : List (It15 M)) (x : It15 M) : vals15 (l ++ [x]) = vals15 l ++ [x.1] := by simp [vals15]

/-- put's three variables, and the slice that it makes. -/
structure Pb15 (N : Nat) (w W : World) (r : Value) (k : Int) (v : Value) (l : List ByteArray) : Prop where
  b0 : Blk W N #[r] 24
  b1 : Blk W (N + 1) #[.int .i64 k] 28
  b2 : Blk W (N + 1 + 1) #[v] 24
  row : W.ownsRow N 9 1 v l.length (strs15 l)
  far : ∀ g, v.ownBlock = some g → ¬ Three (N + 1 + 1 + 1) g
  bel : Below N w W
theorem three_not {N k : Nat} (h : k < N) : ¬ Three N k := fun e => by have := e.1; omega
theorem row15_kb {S : Nat → Prop} {W W' : World} {N : Nat} {e : TypeId} {v : Value} {n : Nat} {xs : List Value} (h : W.ownsRow N e 1 v n xs) (hf : ∀ g, v.ownBlock = some g → ¬ S g) (k : Kb S W W') : W'.ownsRow N e 1 v n xs := by
  refine ⟨h.1, ?_⟩
  rcases h.2 with h2 | ⟨g, cap, cur, rfl, hb, hg, r⟩
  · exact Or.inl h2
  · exact Or.inr ⟨g, cap, cur, rfl, hb, (k.block g (Array.getElem?_eq_some_iff.1 hg).1 (hf g rfl)).trans hg, r⟩
theorem Pb15.kb {N : Nat} {w W W' : World} {r : Value} {k : Int} {v : Value} {l : List ByteArray} (h : Pb15 N w W r k v l) (hk : Kb (Three (N + 1 + 1 + 1)) W W') : Pb15 N w W' r k v l :=
  ⟨h.b0.kb hk (three_not (by omega)), h.b1.kb hk (three_not (by omega)), h.b2.kb hk (three_not (by omega)), row15_kb h.row h.far hk, h.far,
    ⟨hk.os.trans h.bel.os, hk.tape.trans h.bel.tape, hk.output.trans h.bel.output, Nat.le_trans h.bel.size hk.size, fun i hi => (hk.block i (Nat.lt_trans hi h.b0.lt) (three_not (by omega))).trans (h.bel.block i hi)⟩⟩
theorem Pb15.below {N : Nat} {w W W' : World} {r : Value} {k : Int} {v : Value} {l : List ByteArray} (h : Pb15 N w W r k v l) (hb : Below W.heap.size W W') : Pb15 N w W' r k v l :=
  ⟨(hb.block _ h.b0.lt).trans h.b0, (hb.block _ h.b1.lt).trans h.b1, (hb.block _ h.b2.lt).trans h.b2,
    row15_kb (S := fun k => W.heap.size ≤ k) h.row (fun g e => by have := (h.row.lt g e).2; omega) ⟨hb.os, hb.tape, hb.output, hb.size, fun i hi _ => hb.block i hi⟩, h.far, h.bel.trans (hb.mono (Nat.le_of_lt h.b0.lt))⟩

theorem Pb15.apart {N : Nat} {w W : World} {r : Value} {k : Int} {v : Value} {l : List ByteArray} (h : Pb15 N w W r k v l) : ∀ g, v.ownBlock = some g → g ≠ N ∧ g ≠ N + 1 ∧ g ≠ N + 1 + 1 := fun g e => by
  have a0 := Boxed.not_row (B := N) (t := 24) (u := r) h.b0 (by decide) h.row
  have a1 := Boxed.not_row (B := N + 1) (t := 28) (u := .int .i64 k) h.b1 (by decide) h.row
  have a2 := Boxed.not_row (B := N + 1 + 1) (t := 24) (u := v) h.b2 (by decide) h.row
  rw [e] at a0 a1 a2
  exact ⟨fun x => a0 (by rw [x]), fun x => a1 (by rw [x]), fun x => a2 (by rw [x])⟩
theorem Pb15.set2 {N : Nat} {w W : World} {r : Value} {k : Int} {v : Value} {l : List ByteArray} (h : Pb15 N w W r k v l) (r' : Value) (k' : Int) : Pb15 N w ((W.setCell ⟨N, 0, none⟩ r').setCell ⟨N + 1, 0, none⟩ (.int .i64 k')) r' k' v l := by
  have hne := h.apart
  refine ⟨(h.b0.set 0 r').set_other (by simp) _, (h.b1.set_other (by simp) _).set 0 _, (h.b2.set_other (by simp; omega) _).set_other (by simp) _, ?_, h.far, (h.bel.setCell (Nat.le_refl _) _).setCell (by simp) _⟩
  exact row15_kb (S := fun j => j = N ∨ j = N + 1) h.row (fun g e => by have := hne g e; omega) (((Kb.refl _ W).setCell (fun _ => Or.inl rfl) _).setCell (fun _ => Or.inr rfl) _)

/-- What a round does: it writes put's own variables, and what it makes. -/
def Far15 (N : Nat) (k : Nat) : Prop := (N ≤ k ∧ k < N + 3) ∨ N + 6 ≤ k
theorem kb15 {N : Nat} {A A' : World} (b : Below A.heap.size A A') (hz : N + 6 ≤ A.heap.size) : Kb (Far15 N) A A' := ⟨b.os, b.tape, b.output, b.size, fun i hi _ => b.block i hi⟩
theorem kb15_set2 {N : Nat} {A A' : World} (k : Kb (Far15 N) A A') (u v : Value) : Kb (Far15 N) A ((A'.setCell ⟨N, 0, none⟩ u).setCell ⟨N + 1, 0, none⟩ v) :=
  (k.setCell (fun _ => Or.inl ⟨Nat.le_refl _, by simp⟩) _).setCell (fun _ => Or.inl ⟨Nat.le_succ _, by simp⟩) _
theorem keep15 {N : Nat} {A A' : World} (k : Kb (Far15 N) A A') (hz : N + 6 ≤ A.heap.size) : Keep N (N + 1 + 1 + 1) A A' :=
  ⟨⟨k.os, k.tape, k.output, k.size, fun i hi => k.block i (by omega) (by unfold Far15; omega)⟩, fun i hi => k.block i (by have := hi.2; omega) (by unfold Far15; have := hi.1; have := hi.2; omega)⟩

theorem new15 (W : World) (x : Value) (T : TypeId) : ∀ (j : Nat) (u : Value), [x][j]? = some u → (W.alloc (.cells #[x] T)).cell? ((⟨W.heap.size, 0, none⟩ : Addr).add j) = some u :=
  World.news_of_block (World.alloc_heap_new W (.cells #[x] T))
theorem kb_grown {S : Nat → Prop} {A W W' : World} {row : Option Nat} (k : Kb S A W) (hg : W.grownBy W' row) (hr : ∀ g, row = some g → S g) : Kb S A W' :=
  k.trans ⟨hg.os, hg.tape, hg.output, hg.size, fun i hi hs => hg.block i hi (fun e => hs (hr i e.symm))⟩
theorem Pb15.appended {N : Nat} {w W : World} {r : Value} {k : Int} {v : Value} {l : List ByteArray} (h : Pb15 N w W r k v l) (hz : N + 6 ≤ W.heap.size) {s : ByteArray} {W' : World} {g cap n : Nat}
    (hrow : W'.ownsRow N 9 1 (.slice (some ⟨g, 0, none⟩) n cap) (l.length + 1) (strs15 l ++ [.string s])) (hg : (W.alloc (.cells #[.string s] 9)).grownBy W' v.ownBlock) (hw : v.ownBlock = some g ∨ g = W.heap.size + 1) :
    Blk W' (N + 1 + 1) #[v] 24 ∧ Pb15 N w (W'.setCell ⟨N + 1 + 1, 0, none⟩ (.slice (some ⟨g, 0, none⟩) n cap)) r k (.slice (some ⟨g, 0, none⟩) n cap) (l ++ [s]) ∧
      ∀ A, Kb (Far15 N) A W → N + 6 ≤ A.heap.size → Kb (Far15 N) A (W'.setCell ⟨N + 1 + 1, 0, none⟩ (.slice (some ⟨g, 0, none⟩) n cap)) := by
  have ha := h.apart
  have hbk := Boxed.kept (W := W.alloc (.cells #[.string s] 9)) (B := N) (t := 24) (v := r) (h.b0.alloc _) hg (fun e => (ha N e.symm).1 rfl)
  have hb1 := Boxed.kept (W := W.alloc (.cells #[.string s] 9)) (B := N + 1) (t := 28) (v := .int .i64 k) (h.b1.alloc _) hg (fun e => (ha (N + 1) e.symm).2.1 rfl)
  have hb2 := Boxed.kept (W := W.alloc (.cells #[.string s] 9)) (B := N + 1 + 1) (t := 24) (v := v) (h.b2.alloc _) hg (fun e => (ha (N + 1 + 1) e.symm).2.2 rfl)
  have hlt := h.row.lt
  have hfar : ∀ g', (Value.slice (some ⟨g, 0, none⟩) n cap).ownBlock = some g' → ¬ Three (N + 1 + 1 + 1) g' := by
    intro g' e
    have e' : g = g' := by simpa [Value.ownBlock] using e
    subst e'
    rcases hw with hw | hw
    · exact h.far g hw
    · intro t
      have := t.2
      omega
  have hS : ∀ g', v.ownBlock = some g' → Far15 N g' := fun g' e => by
    have h1 := h.far g' e
    have h2 := hlt g' e
    unfold Three at h1
    unfold Far15
    omega
  have hne : g ≠ N + 1 + 1 := by
    rcases hw with hw | hw
    · exact (ha g hw).2.2
    · omega
  refine ⟨hb2, ⟨Blk.set_other hbk (by simp; omega) _, Blk.set_other hb1 (by simp) _, Blk.set hb2 0 _, ?_, hfar, ?_⟩, fun A kA hA => ?_⟩
  · rw [strs15_snoc, List.length_append]
    exact row15_kb (S := fun j => j = N + 1 + 1) hrow (fun g' e => by have e' : g = g' := (by simpa [Value.ownBlock] using e); omega) (Kb.setCell (S := fun j => j = N + 1 + 1) (Kb.refl _ W') (p := ⟨N + 1 + 1, 0, none⟩) (fun _ => rfl) _)
  · have hN : N ≤ W.heap.size := by omega
    exact ((h.bel.alloc hN _).grown hg (by simp; omega) (fun g' e => (hlt g' e).1)).setCell (by simp; omega) _
  · exact (kb_grown (kA.alloc _) hg hS).setCell (fun _ => Or.inl ⟨by simp; omega, by simp⟩) _

/-- What put answers. -/
def PutsEnd (l : List (H4 × ByteArray)) (w : World) (e : Ending) (w' : World) : Prop :=
  Below w.heap.size w w' ∧ ((allput15 l = true ∧ ∃ v, e = .returned (.tuple #[v, .int .i64 0]) ∧ TextsAt w' v (texts15 l)) ∨ (allput15 l = false ∧ e = .returned (.tuple #[.slice none 0 0, .int .i64 4])))

set_option maxRecDepth 100000 in
set_option maxHeartbeats 2000000 in
theorem put15_in {M : Nat} (hM : M ≤ 140737488355328) (hb pb sb : Nat) (h : H4) (pay : ByteArray) (n : Nat) (xs : List (It15 M)) (hx : xs.map (·.1) = items15 h pay n) (hn : 0 < n) (hn2 : n ≤ 65535) (hp : pay.size ≤ 1000000) (ho : 0 ≤ h.off ∧ h.off ≤ 8191)
    (w : World) (hc : Cap15 w w.heap.size hb pb sb h pay n) :
    CallsIn Fence.wide 4 Try.prog 44 #[.func (.func 66) #[] #[.pointer (some ⟨hb, 0, none⟩), .pointer (some ⟨pb, 0, none⟩), .pointer (some ⟨sb, 0, none⟩)]] w (PutsEnd (items15 h pay n) w) := by
  obtain ⟨i0, hi, hz0, hz1, hz2⟩ := info_parts Try.infoS
  have P0 := Lib.hid (show Pb15 w.heap.size w (((w.alloc (.cells #[.slice none 0 0] 24)).alloc (.cells #[.int .i64 0] 28)).alloc (.cells #[.slice none 0 0] 24)) (.slice none 0 0) 0 (.slice none 0 0) [] from by
    have e1 := Blk.new w #[.slice none 0 0] 24
    have e2 := Blk.new (w.alloc (.cells #[.slice none 0 0] 24)) #[.int .i64 0] 28
    have e3 := Blk.new ((w.alloc (.cells #[.slice none 0 0] 24)).alloc (.cells #[.int .i64 0] 28)) #[.slice none 0 0] 24
    simp only [World.size_alloc] at e2 e3
    exact ⟨(e1.alloc _).alloc _, e2.alloc _, e3, World.ownsRow_nil _ _ _ _, fun g e => by simp [Value.ownBlock] at e, (((Below.refl _ w).alloc (Nat.le_refl _) _).alloc (by simp) _).alloc (by simp; omega) _⟩)
  refine callsIn_of_wp_marks Try.func44 rfl trivial ?_ rfl
  simp only [Try.ntmps44, List.size_toArray, List.length_cons, List.length_nil, Nat.reduceAdd, Nat.reduceSub, Array.replicate_succ, Array.replicate_zero, List.push_toArray, List.append_toArray, List.nil_append, List.cons_append]
  gi_wp2_with fail
  obtain ⟨w3, hw3⟩ : ∃ w3, ((w.alloc (.cells #[.slice none 0 0] 24)).alloc (.cells #[.int .i64 0] 28)).alloc (.cells #[.slice none 0 0] 24) = w3 := ⟨_, rfl⟩
  have hz3 : w3.heap.size = w.heap.size + 1 + 1 + 1 := by rw [← hw3]; simp
  rw [hw3] at P0 ⊢
  clear hw3
  have hxl : xs.length ≤ 1000001 := by
    have h1 : xs.length = fore15 pay n + 1 := by rw [← items15_length h pay n, ← hx, List.length_map]
    have h2 : fore15 pay n ≤ pay.size - 1 := Nat.div_le_self _ _
    omega
  have hv : vals15 xs = items15 h pay n := hx
  refine rangeFunc_box rfl (by decide) (gf := 66) (lb := #[.pointer (some ⟨hb, 0, none⟩), .pointer (some ⟨pb, 0, none⟩), .pointer (some ⟨sb, 0, none⟩)]) rfl trivial (enters_of Try.func66 (by kernel_rfl) rfl)
    (encs := enc15 (M := M)) (n₀ := w.heap.size) (most := xs.length) (S := fun ys => ys = xs) (Sp := fun pre => pre <+: xs) (by omega) (fun _ => rfl)
    (fun W hW hbW => by
      have h1 := pieces1_in (M := M) w.heap.size hb pb sb h pay n xs hx hn hn2 hp ho W (by omega) ((hc.below P0.out.bel).below (hbW.mono (by omega)))
      rw [hW] at h1
      exact h1)
    (fun pre W => allput15 (vals15 pre) = true ∧ ∃ v, Pb15 w.heap.size w W (.slice none 0 0) 0 v (texts15 (vals15 pre)))
    (fun pre W => allput15 (vals15 pre) = false ∧ ∃ v l, Pb15 w.heap.size w W (.slice none 0 0) 4 v l)
    (by rintro s A A' ⟨h1, v, h2⟩ hk; rw [hz3] at hk; exact ⟨h1, v, h2.kb hk⟩)
    (by rintro s A A' ⟨h1, v, l, h2⟩ hk; rw [hz3] at hk; exact ⟨h1, v, l, h2.kb hk⟩)
    ⟨rfl, _, P0.out⟩ ?round ?done ?stop
  case round =>
    rintro l pre ⟨⟨g, part⟩, hpart⟩ A ⟨hall, v, hP⟩ hlt hmost
    unfold enc15 H4.cells
    rw [hz3] at hlt ⊢
    dsimp only
    gi_wp2_with fail
    refine ⟨⟨(Below.refl _ A).alloc (by omega) _, fun k hk => Below.heap_alloc _ _ _ (by have := hk.2; omega)⟩, ?_⟩
    intro A₂ hk
    have BH := (Blk.new A g.cells 43).kb hk (fun e => by have := e.2; omega)
    have ⟨c0, c1, c2, c3, c4, c5, c6, c7, c8, c9⟩ := Hc.of BH
    have P2 := Lib.hid ((hP.kb ((Kb.refl _ A).alloc (.cells g.cells 43))).kb hk)
    have hlt2 : w.heap.size + 1 + 1 + 1 + 2 < A₂.heap.size := by have := hk.size; simp at this; omega
    have HPut := Lib.hid (put_any g part A₂ (by have : part.size ≤ M := hpart; omega))
    unfold PutEnd H4.cells at HPut
    have hsn := vals15_snoc pre ⟨(g, part), hpart⟩
    have hal := allput15_snoc (vals15 pre) (g, part)
    have htx := texts15_snoc (vals15 pre) (g, part)
    rw [← hsn] at hal htx
    rw [hall, Bool.true_and] at hal
    simp only at hal htx
    have hlen : (texts15 (vals15 pre)).length = pre.length := by simp [texts15, vals15]
    have HZ : Hid ((texts15 (vals15 pre)).length ≤ 1000001) := by show _ ≤ _; omega
    clear hk BH hsn hP hlen
    gi_wp2_with fail
    refine ⟨trivial, (CallsIn.inRound l (callsIn_wide.2 HPut.out)).mono ?_⟩
    rintro e W3 ⟨rfl, hb3⟩
    have P3 := Lib.hid (P2.out.below hb3)
    have hz23 := hb3.size
    have Q3 := Lib.hid hb3
    have n0 := P3.out.b0.cell 0
    have n1 := P3.out.b1.cell 0
    have n2 := P3.out.b2.cell 0
    have f0 := P3.out.b0.frozen 0
    have f1 := P3.out.b1.frozen 0
    have f2 := P3.out.b2.frozen 0
    simp at n0 n1 n2
    clear HPut hb3 P2 c0 c1 c2 c3 c4 c5 c6 c7 c8 c9
    by_cases hE : putE g part = 0
    case neg =>
      have t1 : ((putE g part : Int) != 0) = true := by simp; omega
      have hal0 : allput15 (vals15 (pre ++ [⟨(g, part), hpart⟩])) = false := by rw [hal]; simp [hE]
      generalize putE g part = E at *
      generalize putS g part = Sx at *
      gi_wp2_with fail
      exact ⟨keep15 (kb15_set2 (kb15 Q3.out (by omega)) _ _) (by omega), hal0, v, _, P3.out.set2 _ 4⟩
    case pos =>
      have t1 : ((putE g part : Int) != 0) = false := by simp; omega
      have hal0 : allput15 (vals15 (pre ++ [⟨(g, part), hpart⟩])) = true := by rw [hal]; simp [hE]
      generalize putE g part = E at *
      generalize putS g part = Sx at *
      have P4 := P3.out
      have hrow := Lib.hid (P4.row.alloc (.cells #[.string Sx] 9))
      gi_wp2_with (gi_at_builtin; refine wpListIn_append_lies _ rfl _ _ 24 rfl w.heap.size 9 i0 (.string ⟨#[]⟩) 1 16 (by kernel_rfl) hi hz0 hz1 hz2 rfl (by decide) v _ _ rfl hrow.out ⟨W3.heap.size, 0, none⟩ 1 1 [.string Sx] rfl rfl (new15 W3 _ _) (by intro u hu; simp at hu; subst hu; rfl) (by decide) (by have := HZ.out; show _ ≤ 2 ^ 63 - 1; omega) (by have := HZ.out; omega) (by simp; omega) _ rfl ?c7)
      all_goals
        intro g1 cap w4 hown hgrow hwhere hlt4
        have ⟨hb2, hP5, hK5⟩ := P4.appended (by omega) hown hgrow hwhere
        have m2 := hb2.cell 0
        have f4 := hb2.frozen 0
        simp at m2
        gi_wp2_with fail
        exact ⟨keep15 (hK5 _ (kb15 Q3.out (by omega)) (by omega)) (by omega), hal0, _, htx ▸ hP5⟩
  case done =>
    rintro ys A rfl ⟨hall, v, hP⟩ hd
    rw [hv] at hall hP
    rw [hz3] at hd ⊢
    obtain ⟨g1, c1, rfl⟩ : ∃ g1 c1, v = .slice (some ⟨g1, 0, none⟩) (texts15 (items15 h pay n)).length c1 := by
      rcases hP.row.2 with ⟨rfl, h0⟩ | ⟨g1, c1, _, rfl, _⟩
      · rw [show (texts15 (items15 h pay n)).length = fore15 pay n + 1 from by simp [texts15, items15_length]] at h0
        omega
      · exact ⟨g1, c1, rfl⟩
    have d0 := hP.b0.cell 0
    have d1 := hP.b1.cell 0
    have d2 := hP.b2.cell 0
    have f0 := hP.b0.frozen 0
    have f1 := hP.b1.frozen 0
    simp at d0 d1 d2
    have hq := Lib.hid hP
    clear hP
    generalize hL : (texts15 (items15 h pay n)).length = L at *
    gi_wp2_with fail
    have P5 := hq.out.set2 (.slice (some ⟨g1, 0, none⟩) L c1) 0
    have hd5 : ((A.setCell ⟨w.heap.size, 0, none⟩ (.slice (some ⟨g1, 0, none⟩) L c1)).setCell ⟨w.heap.size + 1, 0, none⟩ (.int .i64 0)).heap[w.heap.size + 1 + 1 + 1]? = some (.deferred (some [])) :=
      (Below.heap_setCell _ _ _ _ (by simp; omega)).trans ((Below.heap_setCell _ _ _ _ (by simp; omega)).trans hd)
    have P6 := P5.kb (kb_putObj (Three (w.heap.size + 1 + 1 + 1)) _ (.deferred none) (r := w.heap.size + 1 + 1 + 1) ⟨Nat.le_refl _, by omega⟩)
    have e0 := P6.b0.cell 0
    have e1 := P6.b1.cell 0
    simp at e0 e1
    refine ⟨by simp, .inl ⟨_, _, rfl, run_takeDeferred hd5, ?_⟩⟩
    refine ⟨.tuple #[.slice (some ⟨g1, 0, none⟩) L c1, .int .i64 0], ?_, P6.bel, Or.inl ⟨hall, _, rfl, TextsAt.of_row P6.row⟩⟩
    simp [results, Try.results44, go_sem, e0, e1]
  case stop =>
    rintro pre A hpre ⟨hall, v, l, hP⟩ hd
    rw [hz3] at hd ⊢
    gi_wp2_with fail
    have P6 := hP.kb (kb_putObj (Three (w.heap.size + 1 + 1 + 1)) _ (.deferred none) (r := w.heap.size + 1 + 1 + 1) ⟨Nat.le_refl _, by omega⟩)
    have e0 := P6.b0.cell 0
    have e1 := P6.b1.cell 0
    simp at e0 e1
    refine ⟨by simp, .inl ⟨_, _, rfl, run_takeDeferred hd, ?_⟩⟩
    refine ⟨.tuple #[.slice none 0 0, .int .i64 4], ?_, P6.bel, Or.inr ⟨?_, rfl⟩⟩
    · simp [results, Try.results44, go_sem, e0, e1]
    · rw [← hv]
      exact allput15_pre (hpre.map _) hall

end Go.Proofs.Ytoijomdgcgbpbaa
