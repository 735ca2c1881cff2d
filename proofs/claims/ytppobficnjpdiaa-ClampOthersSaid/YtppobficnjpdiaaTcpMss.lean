/-
  MSS: the MSS that options tell.
-/
import Derived.Test.YtppobficnjpdiaaTcpB
import Derived.Test.YtppobficnjpdiaaGround
import Derived.Test.YtppobficnjpdiaaRound
namespace Go.Proofs.Ytppobficnjpdiaa
open Go.RowKit Go.Shelf
set_option linter.unusedVariables false

attribute [local go_sem] Oper.semAt_some

/-- Where options lie. -/
theorem opts_in : ∀ (l : List UInt8) (i : Nat), ∀ x ∈ opts l i, x.1 + x.2.length ≤ i + l.length := by
  intro l
  induction l using opts_ind with
  | h0 => intro i x h; rw [opts_nil] at h; cases h
  | h1 r => intro i x h; rw [opts_end] at h; cases h
  | h2 l a b c =>
    intro i x h
    rw [opts_bad _ a b c] at h
    obtain rfl := List.mem_singleton.1 h
    simp
  | h3 l b c ih =>
    intro i x h
    have hl := sz1_le l
    rw [opts_step _ b c] at h
    rcases List.mem_cons.1 h with rfl | h
    · simp only [List.length_take]; omega
    · have := ih _ x h
      rw [List.length_drop] at this
      omega
/-- What is handed of options that are right. -/
def FineO (M : Nat) (x : Nat × List UInt8) : Prop := x.2 ≠ [] ∧ x.1 + x.2.length ≤ M
theorem sub_of {G : Nat × List UInt8 → Prop} : ∀ (l : List (Nat × List UInt8)), (∀ x ∈ l, G x) → ∃ xs : List {x // G x}, xs.map (·.1) = l := by
  intro l
  induction l with
  | nil => intro _; exact ⟨[], rfl⟩
  | cons x l ih =>
    intro h
    obtain ⟨xs, hx⟩ := ih (fun y hy => h y (List.mem_cons_of_mem _ hy))
    exact ⟨⟨x, h x (by simp)⟩ :: xs, by rw [List.map_cons, hx]⟩
theorem right_sub {l : List UInt8} (h : rightL l = true) : ∃ xs : List {x // FineO l.length x}, xs.map (·.1) = opts l 0 := by
  refine sub_of _ fun x hx => ⟨?_, ?_⟩
  · have := List.all_eq_true.1 h x hx
    unfold fineO at this
    intro e
    rw [e] at this
    cases this
  · have := opts_in l 0 x hx
    omega
/-- The first MSS of what came. -/
def mssA {M : Nat} (pre : List {x // FineO M x}) : Option (Nat × Nat) := (pre.map (·.1)).findSome? mssO
theorem mssA_snoc {M : Nat} {pre : List {x // FineO M x}} (h : mssA pre = none) (x : {x // FineO M x}) : mssA (pre ++ [x]) = mssO x.1 := by
  unfold mssA at *
  rw [List.map_append, List.findSome?_append, h, Option.none_or, List.map_cons, List.map_nil, List.findSome?_cons]
  cases mssO x.1 <;> rfl
theorem mssA_pre {M : Nat} {pre xs : List {x // FineO M x}} {v : Nat × Nat} (h : pre <+: xs) (hp : mssA pre = some v) : mssA xs = some v := by
  obtain ⟨r, rfl⟩ := h
  unfold mssA at *
  rw [List.map_append, List.findSome?_append, hp]
  rfl

/-- What MSS answers. -/
def mN : Option (Nat × Nat) → Nat
  | some v => v.1
  | none => 0
def mA : Option (Nat × Nat) → Nat
  | some v => v.2
  | none => 0
def MssEnd (l : List UInt8) (w : World) (e : Ending) (w' : World) : Prop :=
  e = .returned (.tuple #[.int .i64 (mN (mssL l) : Nat), .int .i64 (mA (mssL l) : Nat), .bool (mssL l).isSome]) ∧ Below w.heap.size w w'

/-- The three results' blocks. -/
structure Mb (w u : World) (n q : Int) (b : Bool) : Prop where
  n : Blk u w.heap.size #[.int .i64 n] 3
  a : Blk u (w.heap.size + 1) #[.int .i64 q] 3
  b : Blk u (w.heap.size + 1 + 1) #[.bool b] 4
  bel : Below w.heap.size w u
theorem Mb.new (w : World) : Mb w (((w.alloc (.cells #[.int .i64 0] 3)).alloc (.cells #[.int .i64 0] 3)).alloc (.cells #[.bool false] 4)) 0 0 false := by
  have e1 := Blk.new w #[.int .i64 0] 3
  have e2 := Blk.new (w.alloc (.cells #[.int .i64 0] 3)) #[.int .i64 0] 3
  have e3 := Blk.new ((w.alloc (.cells #[.int .i64 0] 3)).alloc (.cells #[.int .i64 0] 3)) #[.bool false] 4
  simp only [World.size_alloc] at e2 e3
  exact ⟨(e1.alloc _).alloc _, e2.alloc _, e3, (((Below.refl _ w).alloc (Nat.le_refl _) _).alloc (by simp) _).alloc (by simp; omega) _⟩
theorem Mb.below {w u u' : World} {n q : Int} {b : Bool} (h : Mb w u n q b) (hb : Below u.heap.size u u') : Mb w u' n q b :=
  ⟨(hb.block _ h.n.lt).trans h.n, (hb.block _ h.a.lt).trans h.a, (hb.block _ h.b.lt).trans h.b, h.bel.trans (hb.mono h.bel.size)⟩
theorem Mb.alloc {w u : World} {n q : Int} {b : Bool} (h : Mb w u n q b) (o : Obj) : Mb w (u.alloc o) n q b :=
  ⟨h.n.alloc o, h.a.alloc o, h.b.alloc o, h.bel.alloc h.bel.size o⟩

theorem Mb.grown {w u u' : World} {n q : Int} {b : Bool} {row : Option Nat} {B : Nat} (h : Mb w u n q b) (hB : w.heap.size ≤ B) (hg : u.grownBy u' row) (hr : ∀ r, row = some r → B ≤ r ∧ ∃ o : Obj, u.heap[r]? = some o ∧ o.isCells = false) : Mb w u' n q b :=
  ⟨(grownBy_keeps_cells hg (fun r e => (hr r e).2) h.n rfl).trans h.n, (grownBy_keeps_cells hg (fun r e => (hr r e).2) h.a rfl).trans h.a, (grownBy_keeps_cells hg (fun r e => (hr r e).2) h.b rfl).trans h.b,
    h.bel.grown hg h.bel.size (fun k e => Nat.le_trans hB (hr k e).1)⟩
theorem Mb.put {w u : World} {n q : Int} {b : Bool} {D : Nat} {o : Obj} (h : Mb w u n q b) (hD : w.heap.size ≤ D) (hK : u.heap[D]? = some o) (ho : o.isCells = false) (o' : Obj) : Mb w (u.putObj D o') n q b :=
  h.grown (Nat.le_refl _) (grownBy_putObj' u D o') (fun r e => by cases e; exact ⟨hD, o, hK, ho⟩)
theorem Mb.set3 {w u : World} {n q n' q' : Int} {b b' : Bool} (h : Mb w u n q b) : Mb w (((u.setCell ⟨w.heap.size, 0, none⟩ (.int .i64 n')).setCell ⟨w.heap.size + 1, 0, none⟩ (.int .i64 q')).setCell ⟨w.heap.size + 1 + 1, 0, none⟩ (.bool b')) n' q' b' :=
  ⟨((h.n.set 0 _).set_other (by simp) _).set_other (by simp; omega) _, ((h.a.set_other (by simp) _).set 0 _).set_other (by simp) _, ((h.b.set_other (by simp; omega) _).set_other (by simp) _).set 0 _,
    ((h.bel.setCell (p := ⟨w.heap.size, 0, none⟩) (Nat.le_refl _) _).setCell (p := ⟨w.heap.size + 1, 0, none⟩) (by simp) _).setCell (p := ⟨w.heap.size + 1 + 1, 0, none⟩) (by simp; omega) _⟩
theorem keeps3 (u : World) (N : Nat) (x y z : Value) : KeepsOthers u (((u.setCell ⟨N, 0, none⟩ x).setCell ⟨N + 1, 0, none⟩ y).setCell ⟨N + 1 + 1, 0, none⟩ z) :=
  ((KeepsOthers.setCell _ _ _).trans (KeepsOthers.setCell _ _ _)).trans (KeepsOthers.setCell _ _ _)
theorem Mb.drew {w u : World} {n q : Int} {b : Bool} (h : Mb w u n q b) : Mb w u.drew n q b := ⟨h.n.drew, h.a.drew, h.b.drew, ⟨h.bel.os, h.bel.tape, h.bel.output, h.bel.size, h.bel.block⟩⟩

set_option maxRecDepth 100000 in
set_option maxHeartbeats 2000000 in
theorem mss_in (o : ByteArray) (w : World) (hs : o.size ≤ maxLen) : CallsIn Fence.wide 4 Try.prog 53 #[.string o] w (MssEnd o.data.toList w) := by
  have HR := Lib.hid (fun W => right_call o W hs)
  have M0 := Lib.hid (Mb.new w)
  refine callsIn_of_wp_marks Try.func53 rfl trivial ?_ rfl
  simp only [Try.ntmps53, List.size_toArray, List.length_cons, List.length_nil, Nat.reduceAdd, Nat.reduceSub, Array.replicate_succ, Array.replicate_zero, List.push_toArray, List.append_toArray, List.nil_append, List.cons_append]
  gi_wp2_with fail
  refine ⟨trivial, (callsIn_wide.2 (HR.out _)).mono ?_⟩
  rintro e w1 ⟨rfl, hb1⟩
  have M1 := Lib.hid (M0.out.below hb1)
  clear hb1 HR M0
  cases hr : rightL o.data.toList with
  | false =>
    have cN := M1.out.n.cell 0
    have cA := M1.out.a.cell 0
    have cB := M1.out.b.cell 0
    have fN := M1.out.n.frozen 0
    have fA := M1.out.a.frozen 0
    have fB := M1.out.b.frozen 0
    simp at cN cA cB
    gi_wp2_with fail
    have M2 := M1.out.set3 (n' := 0) (q' := 0) (b' := false)
    clear cN cA cB fN fA fB M1
    generalize ((w1.setCell ⟨w.heap.size, 0, none⟩ (.int .i64 0)).setCell ⟨w.heap.size + 1, 0, none⟩ (.int .i64 0)).setCell ⟨w.heap.size + 1 + 1, 0, none⟩ (.bool false) = u at *
    have cN := M2.n.cell 0
    have cA := M2.a.cell 0
    have cB := M2.b.cell 0
    simp at cN cA cB
    refine ⟨.tuple #[.int .i64 0, .int .i64 0, .bool false], ?_, ?_, M2.bel⟩
    · simp [results, Try.results53, go_sem, cN, cA, cB]
    · rw [mssL_none hr]; rfl
  | true =>
    have hm := mssL_right hr
    gi_wp2_with fail
    refine ⟨trivial, (callsIn_wide.2 (walk_any o _)).mono ?_⟩
    rintro e w2 ⟨rfl, rfl⟩
    gi_wp2_with fail
    obtain ⟨xs, hx⟩ := right_sub hr
    have hxa : mssA xs = mssL o.data.toList := by rw [hm, ← hx]; rfl
    have hB := Blk.new w1 #[.string o] 9
    have hlen : o.data.toList.length ≤ maxLen := by simpa using hs
    refine wpIn_rangeFunc_ownF rfl (by decide) (gf := 96) (lb := #[.pointer (some ⟨w1.heap.size, 0, none⟩)]) rfl trivial (enters_of Try.func96 (by kernel_rfl) rfl)
      (walk_stops 3 (by decide) w1.heap.size o hs xs hx _ (by simp) (hB.cell 0)) keepsBox_t keepsBox_b (Below.refl _ _) (fun _ => rfl)
      (fun pre W => mssA pre = none ∧ Mb w W 0 0 false)
      (fun c pre W => c = .ret ∧ ∃ v : Nat × Nat, mssA pre = some v ∧ Mb w W v.1 v.2 true)
      (fun s A B row hs hg hr => ⟨hs.1, hs.2.grown (by have := M1.out.bel.size; simp; omega) hg hr⟩)
      (fun c s A B row hs hg hr => by obtain ⟨h1, v, h2, h3⟩ := hs; exact ⟨h1, v, h2, h3.grown (by have := M1.out.bel.size; simp; omega) hg hr⟩)
      ⟨rfl, M1.out.alloc _⟩
      (fun x => { tmps := #[.string o, undef, .pointer (some ⟨w.heap.size, 0, none⟩), .pointer (some ⟨w.heap.size + 1, 0, none⟩), .pointer (some ⟨w.heap.size + 1 + 1, 0, none⟩), .int .i64 (x.1.1 : Int), .string ⟨x.1.2.toArray⟩, .string o, .bool true, .bool false, .string o, .func (.func 96) #[] #[.pointer (some ⟨w1.heap.size, 0, none⟩)], .int .i64 (x.1.1 : Int), .string ⟨x.1.2.toArray⟩, undef, undef, undef, undef, undef, undef, undef, undef, undef, undef, undef, undef, undef, undef, undef, undef, undef, undef], defers := [] }) ?assign ?body ?done ?stop
    case assign =>
      intro l x W K hK
      unfold encO
      gi_wp2
      exact hK
    case body =>
      rintro l pre x W ⟨hp, hM⟩ _
      have hsn := mssA_snoc hp x
      obtain ⟨⟨q, s⟩, hx⟩ := x
      have hq : q + s.length ≤ maxLen := Nat.le_trans hx.2 hlen
      unfold maxLen at hq
      have hne : s ≠ [] := hx.1
      simp only at hsn
      obtain ⟨S, hS⟩ : ∃ S : ByteArray, S = ⟨s.toArray⟩ := ⟨_, rfl⟩
      have hSl : S.data.toList = s := by rw [hS]
      have hSz : S.size = s.length := by rw [hS, list_size]
      have h0 : 0 < S.size := by rw [hSz]; exact List.length_pos_iff.2 hne
      have hS0 : s[0]? = some (S[0]'h0) := by rw [← hSl, List.getElem?_eq_getElem (by simpa using h0)]; rfl
      dsimp only
      rw [← hS]
      have HM := Lib.hid hM
      have cN := hM.n.cell 0
      have cA := hM.a.cell 0
      have cB := hM.b.cell 0
      have fN := hM.n.frozen 0
      have fA := hM.a.frozen 0
      have fB := hM.b.frozen 0
      simp at cN cA cB
      have HZ := Lib.hid hSz
      rw [← hSz] at hq
      clear hM M1 hS hB hSz
      by_cases hk : (S[0]'h0).toNat = 2
      case neg =>
        have hno : mssO (q, s) = none := by
          unfold mssO
          simp only
          split
          · rename_i k m a b
            rw [if_neg]
            rintro rfl
            have : (S[0]'h0) = 2 := by simpa using hS0.symm
            exact hk (by rw [this]; rfl)
          · rfl
        have t1 : ((((S[0]'h0).toNat : Nat) : Int) == 2) = false := by simp; omega
        clear hk hS0 hSl
        gi_wp2
        exact ⟨KeepsOthers.refl _, fun v e => e, by rw [hsn]; exact hno, HM.out⟩
      have t1 : ((((S[0]'h0).toNat : Nat) : Int) == 2) = true := by simp; omega
      by_cases h4 : S.size = 4
      case neg =>
        have hno : mssO (q, s) = none := by
          unfold mssO
          simp only
          split
          · exact absurd (by rw [HZ.out]; rfl) h4
          · rfl
        have t2 : ((S.size : Int) == 4) = false := by simp; omega
        clear hk hS0 hSl h4
        gi_wp2
        exact ⟨KeepsOthers.refl _, fun v e => e, by rw [hsn]; exact hno, HM.out⟩
      have t2 : ((S.size : Int) == 4) = true := by simp; omega
      have h2 : 2 < S.size := by omega
      have h3 : 3 < S.size := by omega
      have hyes : mssO (q, s) = some ((S[2]'h2).toNat * 256 + (S[3]'h3).toNat, q + 2) := by
        have e2 : s[2]? = some (S[2]'h2) := by rw [← hSl, List.getElem?_eq_getElem (by simpa using h2)]; rfl
        have e3 : s[3]? = some (S[3]'h3) := by rw [← hSl, List.getElem?_eq_getElem (by simpa using h3)]; rfl
        have e0 : S[0]'h0 = 2 := UInt8.toNat_inj.1 hk
        rw [e0] at hS0
        have hSz := HZ.out
        rw [h4] at hSz
        match s, hSz.symm with
        | [k, m, a, b], _ =>
          have e0' : k = 2 := by simpa using hS0
          have e2' : a = S[2]'h2 := by simpa using e2
          have e3' : b = S[3]'h3 := by simpa using e3
          unfold mssO
          simp only [e0', if_true, e2', e3']
      have l2 : (S[2]'h2).toNat < 256 := (S[2]'h2).toNat_lt
      have l3 : (S[3]'h3).toNat < 256 := (S[3]'h3).toNat_lt
      have eo : bits .or .i64 (IntKind.i64.wrap (IntKind.i64.wrap ((S[2]'h2).toNat : Int) * 256)) (IntKind.i64.wrap ((S[3]'h3).toNat : Int)) = (((S[2]'h2).toNat * 256 + (S[3]'h3).toNat : Nat) : Int) := by
        rw [IntWalk.i64_in ((S[2]'h2).toNat : Int) (by omega), IntWalk.i64_in _ (by omega), IntWalk.i64_in _ (by omega), i64_or_low _ _ 8 (by decide) (by omega) (by omega) (by simp) (by omega) (by simp; omega)]
        omega
      have EO := Lib.hid eo
      have EQ := Lib.hid (show IntKind.i64.wrap ((q : Int) + 2) = ((q + 2 : Nat) : Int) by rw [IntWalk.i64_in _ (by omega)]; rfl)
      clear eo
      clear hk hS0 hSl
      gi_wp2
      refine region_round (by kernel_rfl) rfl (by kernel_rfl) ?_
      refine takeF_yes (i := 0) (d := some 22) (v := ?v0) rfl rfl rfl (by kernel_rfl) (by kernel_rfl) (by kernel_rfl) (fun _ _ _ h => h) (by rfl) ?y0 (fun _ => rfl) ?_
      case y0 => (intro w; go_simp <;> with_reducible rfl)
      simp only [Act.put, List.setIfInBounds_toArray, List.set_cons_zero, List.set_cons_succ]
      refine takeF_yes (i := 1) (d := some 23) (v := ?v1) rfl rfl rfl (by kernel_rfl) (by kernel_rfl) (by kernel_rfl) (fun _ _ _ h => h) (by rfl) ?y1 (fun _ => rfl) ?_
      case y1 => (intro w; go_simp <;> with_reducible rfl)
      simp only [Act.put, List.setIfInBounds_toArray, List.set_cons_zero, List.set_cons_succ]
      refine takeF_yes (i := 2) (d := some 24) (v := ?v2) rfl rfl rfl (by kernel_rfl) (by kernel_rfl) (by kernel_rfl) (fun _ _ _ h => h) (by rfl) ?y2 (fun _ => rfl) ?_
      case y2 => (intro w; go_simp <;> with_reducible rfl)
      simp only [Act.put, List.setIfInBounds_toArray, List.set_cons_zero, List.set_cons_succ]
      refine takeF_yes (i := 3) (d := some 25) (v := ?v3) rfl rfl rfl (by kernel_rfl) (by kernel_rfl) (by kernel_rfl) (fun _ _ _ h => h) (by rfl) ?y3 (fun _ => rfl) ?_
      case y3 => (intro w; go_simp <;> with_reducible rfl)
      simp only [Act.put, List.setIfInBounds_toArray, List.set_cons_zero, List.set_cons_succ]
      refine takeF_yes (i := 4) (d := some 26) (v := ?v4) rfl rfl rfl (by kernel_rfl) (by kernel_rfl) (by kernel_rfl) (fun _ _ _ h => h) (by rfl) ?y4 (fun _ => rfl) ?_
      case y4 => (intro w; go_simp <;> with_reducible rfl)
      simp only [Act.put, List.setIfInBounds_toArray, List.set_cons_zero, List.set_cons_succ]
      refine takeF_yes (i := 5) (d := some 27) (v := ?v5) rfl rfl rfl (by kernel_rfl) (by kernel_rfl) (by kernel_rfl) (fun _ _ _ h => h) (by rfl) ?y5 (fun _ => rfl) ?_
      case y5 => (intro w; go_simp <;> with_reducible rfl)
      simp only [Act.put, List.setIfInBounds_toArray, List.set_cons_zero, List.set_cons_succ]
      refine takeF_yes (i := 6) (d := some 28) (v := ?v6) rfl rfl rfl (by kernel_rfl) (by kernel_rfl) (by kernel_rfl) (fun _ _ _ h => h) (by rfl) ?y6 (fun _ => rfl) ?_
      case y6 => (intro w; go_simp <;> with_reducible rfl)
      simp only [Act.put, List.setIfInBounds_toArray, List.set_cons_zero, List.set_cons_succ]
      refine takeF_yes (i := 7) (d := some 29) (v := .int .i64 (((S[2]'h2).toNat * 256 + (S[3]'h3).toNat : Nat) : Int)) rfl rfl rfl (by kernel_rfl) (by kernel_rfl) (by kernel_rfl) (fun _ _ _ h => h) (by rfl) ?y7 (fun _ => rfl) ?_
      case y7 => (intro w; go_simp; exact EO.out)
      simp only [Act.put, List.setIfInBounds_toArray, List.set_cons_zero, List.set_cons_succ]
      refine takeF_yes (i := 8) (d := some 30) (v := ?v8) rfl rfl rfl (by kernel_rfl) (by kernel_rfl) (by kernel_rfl) (fun _ _ _ h => h) (by rfl) ?y8 (fun _ => rfl) ?_
      case y8 => (intro w; go_simp <;> with_reducible rfl)
      simp only [Act.put, List.setIfInBounds_toArray, List.set_cons_zero, List.set_cons_succ]
      refine takeF_yes (i := 9) (d := some 31) (v := .int .i64 ((q + 2 : Nat) : Int)) rfl rfl rfl (by kernel_rfl) (by kernel_rfl) (by kernel_rfl) (fun _ _ _ h => h) (by rfl) ?y9 (fun _ => rfl) ?_
      case y9 => (intro w; go_simp; exact EQ.out)
      simp only [Act.put, List.setIfInBounds_toArray, List.set_cons_zero, List.set_cons_succ]
      refine wpAnyIn_ready (rs := [10]) (by kernel_rfl) (by simp) ?_
      refine AllReadyIn.cons rfl (fun K hK => ?_) AllReadyIn.nil
      go_simp
      refine hK _ _ ?_
      clear hK K
      try simp only [Act.put, List.setIfInBounds_toArray, List.set_cons_zero, List.set_cons_succ]
      refine wpAnyIn_ready (rs := [11]) (by kernel_rfl) (by simp) ?_
      refine AllReadyIn.cons rfl (fun K hK => ?_) AllReadyIn.nil
      go_simp
      refine hK _ _ ?_
      clear hK K
      try simp only [Act.put, List.setIfInBounds_toArray, List.set_cons_zero, List.set_cons_succ]
      refine wpAnyIn_ready (rs := [12]) (by kernel_rfl) (by simp) ?_
      refine AllReadyIn.cons rfl (fun K hK => ?_) AllReadyIn.nil
      go_simp
      refine hK _ _ ?_
      clear hK K
      try simp only [Act.put, List.setIfInBounds_toArray, List.set_cons_zero, List.set_cons_succ]
      refine wpAnyIn_done (by kernel_rfl) ?_ _
      gi_wp2
      have M2 := (HM.out.set3 (n' := ((S[2]'h2).toNat : Int) * 256 + ((S[3]'h3).toNat : Int)) (q' := (q : Int) + 2) (b' := true)).drew
      refine ⟨(keeps3 W _ _ _ _).trans (KeepsOthers.drew _), rfl, ((S[2]'h2).toNat * 256 + (S[3]'h3).toNat, q + 2), by rw [hsn]; exact hyes, ?_⟩
      rw [show ((((S[2]'h2).toNat * 256 + (S[3]'h3).toNat, q + 2) : Nat × Nat).1 : Int) = ((S[2]'h2).toNat : Int) * 256 + ((S[3]'h3).toNat : Int) by omega, show ((((S[2]'h2).toNat * 256 + (S[3]'h3).toNat, q + 2) : Nat × Nat).2 : Int) = (q : Int) + 2 by omega]
      exact M2
    case done =>
      rintro D ys W hD rfl ⟨hp, hM⟩ hK
      have cN := hM.n.cell 0
      have cA := hM.a.cell 0
      have cB := hM.b.cell 0
      have fN := hM.n.frozen 0
      have fA := hM.a.frozen 0
      have fB := hM.b.frozen 0
      simp at cN cA cB
      gi_wp2
      have hK' := (keeps3 W w.heap.size (.int .i64 0) (.int .i64 0) (.bool false)).same D _ hK rfl
      refine ⟨by simp, .inl ⟨_, _, rfl, run_takeDeferred hK', ?_⟩⟩
      have M2 := (hM.set3 (n' := 0) (q' := 0) (b' := false)).put (by have := M1.out.bel.size; simp at hD; omega) hK' rfl (.deferred none)
      generalize (((W.setCell ⟨w.heap.size, 0, none⟩ (.int .i64 0)).setCell ⟨w.heap.size + 1, 0, none⟩ (.int .i64 0)).setCell ⟨w.heap.size + 1 + 1, 0, none⟩ (.bool false)).putObj D (.deferred none) = u at *
      have dN := M2.n.cell 0
      have dA := M2.a.cell 0
      have dB := M2.b.cell 0
      simp at dN dA dB
      refine ⟨.tuple #[.int .i64 0, .int .i64 0, .bool false], ?_, ?_, M2.bel⟩
      · simp [results, Try.results53, go_sem, dN, dA, dB]
      · rw [← hxa, hp]; rfl
    case stop =>
      rintro D c pre W hD hpre ⟨rfl, v, hv, hM⟩ hK
      gi_wp2
      refine ⟨by simp, .inl ⟨_, _, rfl, run_takeDeferred hK, ?_⟩⟩
      have M2 := hM.put (by have := M1.out.bel.size; simp at hD; omega) hK rfl (.deferred none)
      generalize W.putObj D (.deferred none) = u at *
      have dN := M2.n.cell 0
      have dA := M2.a.cell 0
      have dB := M2.b.cell 0
      simp at dN dA dB
      refine ⟨.tuple #[.int .i64 (v.1 : Nat), .int .i64 (v.2 : Nat), .bool true], ?_, ?_, M2.bel⟩
      · simp [results, Try.results53, go_sem, dN, dA, dB]
      · rw [← hxa, mssA_pre hpre hv]; rfl

/-- MSS, at every text. -/
theorem mss_call (o : ByteArray) (w : World) (hs : o.size ≤ maxLen) : Calls Try.prog 53 #[.string o] w (MssEnd o.data.toList w) := callsIn_wide.1 (mss_in o w hs)

end Go.Proofs.Ytppobficnjpdiaa
