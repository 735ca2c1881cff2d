/-
  The library's Insert, at a piece: behind the others, between them where there is room, between them in a new row.
-/
import Derived.Test.YtoijomdgcgbpbaaReasmTable
import Derived.WalkKit
import Derived.Deep.AppendLies
import Derived.Deep.RegionLaw
import Derived.Laws.CopyRow
import Derived.Lib.AppendZerosOnto
import Derived.Lib.Overlaps
import Derived.Shelf.Spec.SlicesInsert
import Derived.Lib.Walk
namespace Go.Proofs.Ytoijomdgcgbpbaa
open Go.RowKit
set_option linter.unusedVariables false

theorem Try.infoP : (Try.prog.info? 79).map (fun i => (i.zero, i.size, i.bytes)) = some (some (.agg #[.int .i64 0, .string ⟨#[]⟩, .bool false]), 3, 32) := by kernel_rfl

/-- copy, at pieces, into a row that is known whole. -/
theorem run_copy16 (w : World) (ty : TypeId) (g o dLen dCap : Nat) (a : Addr) (sLen sCap : Nat) (cur : Array Value) (cs : List Value) (k : Nat) (hk : Nat.min sLen dLen = k)
    (hg : w.heap[g]? = some (.cells cur 79 (0, 0))) (hn : cs.length = k * 3) (hsrc : ∀ j v, cs[j]? = some v → w.cell? (a.add j) = some v) (hfit : o + cs.length ≤ cur.size) (h1 : ∀ v ∈ cs, v.oneCell' = true) :
    (Builtin.copy_ #[70, 70] ty #[.slice (some ⟨g, o, none⟩) dLen dCap, .slice (some a) sLen sCap]).run Try.prog w =
      .ok (goInt k) (w.setRow g (cur.toList.take o ++ cs ++ cur.toList.drop (o + cs.length)).toArray) := by
  have hl := run_loadCells_list (P := Try.prog) w a cs hsrc
  have hst := run_storeCells_at Try.prog g o 79 cs 0 cur w hg (by simpa using hfit) h1
  obtain ⟨i, hi, hz, hsz, hby⟩ := info_parts Try.infoP
  rw [hn] at hl
  simp [Builtin.copy_, run_underlying Try.underlying70, Builtin.lenOf, Builtin.firstCells, sizeOf, typeInfo, hi, hsz, hk, hl, hst]

/-- What Insert answers. -/
def Ins16 (v : Value) (qs : List P16) (w : World) (e : Ending) (w' : World) : Prop :=
  ∃ v', e = .returned v' ∧ Row16 w' v' qs ∧ Kb (fun k => v.ownBlock = some k) w w' ∧ ∀ g, v'.ownBlock = some g → v.ownBlock = some g ∨ w.heap.size ≤ g

theorem grown_kb {w w' : World} {row : Option Nat} (h : w.grownBy w' row) : Kb (fun k => row = some k) w w' :=
  ⟨h.os, h.tape, h.output, h.size, fun k hk hs => h.block k hk (fun e => hs e.symm)⟩

set_option maxRecDepth 100000 in
set_option maxHeartbeats 1000000 in
theorem insertEnd16_any (v : Value) (qs : List P16) (x : P16) (vb : Nat) (w : World) (h : Row16 w v qs) (hx : Blk w vb #[.int .i64 (x.lo : Nat), .string x.s, .bool x.last] 79) (hl : qs.length ≤ 65515) :
    Calls Try.prog 56 #[v, .int .i64 (qs.length : Nat), .slice (some ⟨vb, 0, none⟩) 1 1] w (Ins16 v (qs ++ [x]) w) := by
  obtain ⟨i0, hi, hz0, hz1, hz2⟩ := info_parts Try.infoP
  obtain ⟨va, cap, rfl, hnc, hcm⟩ := h.none
  have H := Lib.hid h
  have hnews : ∀ j u, (P16.cells x)[j]? = some u → w.cell? ((⟨vb, 0, none⟩ : Addr).add j) = some u := by
    intro j u hu
    rw [addr_add, hx.cell j]
    simpa [P16.cells] using hu
  have HNW := Lib.hid hnews
  have hone : ∀ u ∈ P16.cells x, u.oneCell' = true := fun u hu => pcs16_one [x] u (by simpa [pcs16] using hu)
  clear h hx hnews
  unfold Ins16
  have hm63 : cap ≤ 9223372036854775807 := by unfold maxLen at hcm; omega
  have hle : (qs.length : Int) ≤ (qs.length : Int) := Int.le_refl _
  have h0 : (0 : Int) ≤ (qs.length : Int) := by omega
  cases va with
  | none =>
    have hq : qs = [] := by
      rcases H.out.2 with ⟨_, h0⟩ | ⟨g, cap', cur, hv, _⟩
      · exact List.length_eq_zero_iff.1 h0
      · simp at hv
    subst hq
    have hc0 : cap = 0 := by
      rcases H.out.2 with ⟨hv, _⟩ | ⟨g, cap', cur, hv, _⟩
      · simpa using hv
      · simp at hv
    subst hc0
    go_enter Try.func56, Try.ntmps56
    go_wp2_with (at_builtin; refine wpList_append_lies _ rfl _ _ 70 rfl 0 79 i0 _ 3 32 Try.underlying70 hi hz0 hz1 hz2 rfl (by omega) _ _ _ rfl H.out ⟨vb, 0, none⟩ 1 1 (P16.cells x) rfl rfl HNW.out hone (by omega) (by unfold maxLen; simp) (by simp) (Nat.zero_le _) _ rfl ?_; intro g2 cap2 w2 ho hgr hat hlt)
    have HO := Lib.hid ho
    have HG := Lib.hid (grown_kb hgr)
    have HAT := Lib.hid hat
    clear ho hgr hat
    go_wp2_with fail
    go_ret
    refine ⟨_, rfl, ?_, HG.out, fun g e => ?_⟩
    · exact HO.out
    · have e2 : g2 = g := by simpa [Value.ownBlock] using e
      rcases HAT.out with h1 | h1
      · exact Or.inl (e2 ▸ h1)
      · exact Or.inr (by omega)
  | some ad =>
    obtain ⟨g, had⟩ : ∃ g, ad = ⟨g, 0, none⟩ := by
      rcases H.out.2 with ⟨hv, _⟩ | ⟨g, cap', cur, hv, _⟩
      · simp at hv
      · exact ⟨g, by simp at hv; exact hv.1⟩
    subst had
    have HR : Hid (w.ownsRow 0 79 3 (.slice (some ⟨g, 0, none⟩) qs.length cap) qs.length (pcs16 qs)) := H.out
    clear H
    generalize hN : qs.length = N at *
    by_cases hcn : cap = N
    case' pos => have hcc : cap = N := hcn
    all_goals
      go_enter Try.func56, Try.ntmps56
      go_wp2_with (at_builtin; refine wpList_append_lies _ rfl _ _ 70 rfl 0 79 i0 _ 3 32 Try.underlying70 hi hz0 hz1 hz2 rfl (by omega) _ _ _ rfl HR.out ⟨vb, 0, none⟩ 1 1 (P16.cells x) rfl rfl HNW.out hone (by omega) (by unfold maxLen; omega) (by omega) (Nat.zero_le _) _ rfl ?_; intro g2 cap2 w2 ho hgr hat hlt)
      have HO := Lib.hid ho
      have HG := Lib.hid (grown_kb hgr)
      have HAT := Lib.hid hat
      clear ho hgr hat
      go_wp2_with fail
      go_ret
      refine ⟨_, rfl, ?_, HG.out, fun g e => ?_⟩
      · have := HO.out
        unfold Row16
        rw [List.length_append, pcs16_append, hN]
        exact this
      · have e2 : g2 = g := by simpa [Value.ownBlock] using e
        rcases HAT.out with h1 | h1
        · exact Or.inl (e2 ▸ h1)
        · exact Or.inr (by omega)

/-- A row, moved up by one place from place i on, with the piece put there. -/
def shift16 (cur : Array Value) (qs : List P16) (i : Nat) : Array Value := (cur.toList.take ((i + 1) * 3) ++ pcs16 (qs.drop i) ++ cur.toList.drop ((i + 1) * 3 + (qs.length - i) * 3)).toArray
def laid16 (cur : Array Value) (x : P16) (i : Nat) : Array Value := (cur.toList.take (i * 3) ++ P16.cells x ++ cur.toList.drop (i * 3 + 3)).toArray
theorem shift16_size {cur : Array Value} {qs : List P16} {i : Nat} (hi : i ≤ qs.length) (hc : (qs.length + 1) * 3 ≤ cur.size) : (shift16 cur qs i).size = cur.size := by
  have := pcs16_length (qs.drop i)
  rw [List.length_drop] at this
  simp [shift16, this]
  omega
theorem laid16_size {cur : Array Value} {x : P16} {i : Nat} (hc : (i + 1) * 3 ≤ cur.size) : (laid16 cur x i).size = cur.size := by
  simp [laid16, P16.cells]
  omega
theorem moved16 {cur : Array Value} {qs : List P16} {x : P16} {i : Nat} (hi : i ≤ qs.length) (hc : (qs.length + 1) * 3 ≤ cur.size) (ht : cur.toList.take (qs.length * 3) = pcs16 qs) :
    (laid16 (shift16 cur qs i) x i).toList.take ((qs.length + 1) * 3) = pcs16 (qs.take i ++ x :: qs.drop i) := by
  have hl : cur.toList.length = cur.size := Array.length_toList
  have e1 : cur.toList.take (i * 3) = pcs16 (qs.take i) := by
    rw [← pcs16_take, ← ht, List.take_take, show min (i * 3) (qs.length * 3) = i * 3 by omega]
  have l1 : (pcs16 (qs.take i)).length = i * 3 := by rw [pcs16_length, List.length_take]; omega
  have l2 : (pcs16 (qs.drop i)).length = (qs.length - i) * 3 := by rw [pcs16_length, List.length_drop]
  have a1 : (shift16 cur qs i).toList.take (i * 3) = pcs16 (qs.take i) := by
    unfold shift16
    rw [List.toList_toArray, List.append_assoc, List.take_append_of_le_length (by rw [List.length_take]; omega), List.take_take, show min (i * 3) ((i + 1) * 3) = i * 3 by omega, e1]
  have a2 : (shift16 cur qs i).toList.drop (i * 3 + 3) = pcs16 (qs.drop i) ++ cur.toList.drop ((i + 1) * 3 + (qs.length - i) * 3) := by
    unfold shift16
    rw [List.toList_toArray, List.append_assoc, List.drop_left' (by rw [List.length_take]; omega)]
  unfold laid16
  rw [List.toList_toArray, a1, a2, pcs16_append, pcs16_cons, ← List.append_assoc, List.append_assoc (pcs16 (qs.take i))]
  rw [List.take_left' (by simp only [List.length_append, l1, l2, P16.cells, List.length_cons, List.length_nil]; omega)]

set_option maxRecDepth 100000 in
set_option maxHeartbeats 4000000 in
theorem insertRoom16_any (g cap : Nat) (cur : Array Value) (qs : List P16) (x : P16) (vb i : Nat) (w : World) (hg : w.heap[g]? = some (.cells cur 79 (0, 0))) (hcs : cur.size = cap * 3) (hroom : qs.length + 1 ≤ cap) (hcm : cap ≤ maxLen) (ht : cur.toList.take (qs.length * 3) = pcs16 qs)
    (hx : Blk w vb #[.int .i64 (x.lo : Nat), .string x.s, .bool x.last] 79) (hne : vb ≠ g) (hi : i < qs.length) (hl : qs.length ≤ 65515) :
    Calls Try.prog 56 #[.slice (some ⟨g, 0, none⟩) qs.length cap, .int .i64 (i : Nat), .slice (some ⟨vb, 0, none⟩) 1 1] w (Ins16 (.slice (some ⟨g, 0, none⟩) qs.length cap) (qs.take i ++ x :: qs.drop i) w) := by
  obtain ⟨i0, hi0, hz0, hz1, hz2⟩ := info_parts Try.infoP
  have hone : ∀ u ∈ P16.cells x, u.oneCell' = true := fun u hu => pcs16_one [x] u (by simpa [pcs16] using hu)
  have hsz : ∀ w, (Go.sizeOf 79).run Try.prog w = .ok 3 w := Try.sizeOf79
  have hvg : w.heap[vb]? = some (.cells #[.int .i64 (x.lo : Nat), .string x.s, .bool x.last] 79 (0, 0)) := hx
  have hov : ∀ lb cb, (callFunc 80 #[.slice (some ⟨vb, 0, none⟩) 1 1, .slice (some ⟨g, (i + 1) * 3, none⟩) lb cb]).run Try.prog w = .ok (.value (.bool false)) w := fun lb cb => by
    rw [run_callFunc_extern Try.func80 (by kernel_rfl) (by kernel_rfl) (by kernel_rfl) (e := Extern.SlicesOverlaps.overlaps #[70, 70] #[4]) (by kernel_rfl),
      Lib.run_overlaps_apart w 70 4 79 Try.underlying70 3 hsz ⟨vb, 0, none⟩ ⟨g, (i + 1) * 3, none⟩ 1 1 lb cb hne 79 79 3 (cap * 3) (by simp [World.shape?, hvg]) (by simp [World.shape?, hg, hcs]) (by omega) (hx.frozen 0) (hx.frozen 3)]
    rfl
  have hds : ∀ ty dc sc, (Builtin.copy_ #[70, 70] ty #[.slice (some ⟨g, (i + 1) * 3, none⟩) (qs.length - i) dc, .slice (some ⟨g, i * 3, none⟩) (qs.length + 1 - i) sc]).run Try.prog w.drew = .ok (goInt ((qs.length - i : Nat))) (w.drew.setRow g (shift16 cur qs i)) := fun ty dc sc => by
    have h := run_copy16 w.drew ty g ((i + 1) * 3) (qs.length - i) dc ⟨g, i * 3, none⟩ (qs.length + 1 - i) sc cur (pcs16 (qs.drop i)) (qs.length - i) (by simp only [Nat.min_def]; split <;> omega) hg (by rw [pcs16_length, List.length_drop]) (fun j v hj => by
      rw [← pcs16_drop, List.getElem?_drop, ← ht, List.getElem?_take] at hj
      split at hj
      · rw [Addr.add_lit]
        have hg' : w.drew.heap[g]? = some (.cells cur 79 (0, 0)) := hg
        simpa [World.cell?, hg'] using hj
      · cases hj) (by rw [pcs16_length, List.length_drop]; omega) (pcs16_one _)
    rw [show ((i + 1) * 3 + (pcs16 (qs.drop i)).length) = ((i + 1) * 3 + (qs.length - i) * 3) by rw [pcs16_length, List.length_drop]] at h
    exact h
  have hg1 : (w.drew.setRow g (shift16 cur qs i)).heap[g]? = some (.cells (shift16 cur qs i) 79 (0, 0)) := setRow_heap w.drew _ cur _ _ (0, 0) hg
  have hsz1 : (shift16 cur qs i).size = cap * 3 := by rw [shift16_size (by omega) (by omega), hcs]
  have hcp2 : ∀ W : World, (∀ k : Nat, W.heap[k]? = (w.drew.setRow g (shift16 cur qs i)).heap[k]?) → ∀ ty dc, (Builtin.copy_ #[70, 70] ty #[.slice (some ⟨g, i * 3, none⟩) (qs.length + 1 - i) dc, .slice (some ⟨vb, 0, none⟩) 1 1]).run Try.prog W = .ok (goInt 1) (W.setRow g (laid16 (shift16 cur qs i) x i)) := fun W hW ty dc => by
    have hv2 : W.heap[vb]? = some (.cells #[.int .i64 (x.lo : Nat), .string x.s, .bool x.last] 79 (0, 0)) := by
      rw [hW, setRow_other _ _ _ _ hne]
      exact hvg
    have h := run_copy16 W ty g (i * 3) (qs.length + 1 - i) dc ⟨vb, 0, none⟩ 1 1 (shift16 cur qs i) (P16.cells x) 1 (by simp only [Nat.min_def]; split <;> omega) (by rw [hW]; exact hg1) rfl (fun j v hj => by
      rw [Addr.add_lit, Nat.zero_add]
      rw [Blk.cell hv2 j]
      simpa [P16.cells] using hj) (by rw [hsz1]; simp [P16.cells]; omega) hone
    exact h
  have hR : ∀ W : World, (∀ k : Nat, W.heap[k]? = (w.drew.setRow g (shift16 cur qs i)).heap[k]?) → Row16 (W.setRow g (laid16 (shift16 cur qs i) x i)) (.slice (some ⟨g, 0, none⟩) (qs.length + 1) cap) (qs.take i ++ x :: qs.drop i) := fun W hW => by
    have hlen : (qs.take i ++ x :: qs.drop i).length = qs.length + 1 := by simp; omega
    refine ⟨by rw [pcs16_length], Or.inr ⟨g, cap, laid16 (shift16 cur qs i) x i, by rw [hlen], Nat.zero_le _, setRow_heap W _ (shift16 cur qs i) _ _ (0, 0) (by rw [hW]; exact hg1), by rw [hlen]; exact hroom, hcm, by rw [laid16_size (by rw [hsz1]; omega), hsz1], ?_⟩⟩
    rw [hlen]
    exact moved16 (by omega) (by omega) ht
  have hKb : Kb (fun k => k = g) w (w.drew.setRow g (shift16 cur qs i)) := ⟨rfl, rfl, rfl, by simp, fun k hk hs => setRow_other _ _ _ _ hs⟩
  have hKb2 : ∀ W : World, Kb (fun k => k = g) w W → Kb (fun k => k = g) w (W.setRow g (laid16 (shift16 cur qs i) x i)) := fun W h => h.trans ⟨rfl, rfl, rfl, by simp, fun k hk hs => setRow_other _ _ _ _ hs⟩
  have HR := Lib.hid hR
  have HK := Lib.hid hKb
  have HK2 := Lib.hid hKb2
  have HDS := Lib.hid hds
  have HCP := Lib.hid hcp2
  unfold Ins16
  have hm63 : cap ≤ 9223372036854775807 := by unfold maxLen at hcm; omega
  clear hR hKb hKb2 hds hcp2 hg1 hvg ht hone hg hx hsz
  generalize hN : qs.length = N at *
  generalize hsh : w.drew.setRow g (shift16 cur qs i) = w1 at *
  generalize laid16 (shift16 cur qs i) x i = RW at *
  generalize qs.take i ++ x :: qs.drop i = QS at *
  have hz2 : ¬ ((i : Int) = (N : Int)) := by omega
  have hb1 : (0 : Int) ≤ (i : Int) + 1 := by omega
  have hw1 : IntKind.i64.wrap ((i : Int) + 1) = (i : Int) + 1 := IntWalk.i64_in _ (by omega)
  have hw2 : IntKind.i64.wrap ((N : Int) + 1) = (N : Int) + 1 := IntWalk.i64_in _ (by omega)
  have htn : ((i : Int) + 1).toNat = i + 1 := by omega
  have htn2 : ((N : Int) + 1).toNat = N + 1 := by omega
  have hb2 : ¬ (cap = i + 1) := by omega
  have hb3 : (i : Int) ≤ (N : Int) + 1 := by omega
  have hb4 : ¬ (cap = i) := by omega
  have hb5 : ¬ ((cap : Int) < (N : Int) + 1) := by omega
  have hb6 : i ≤ N := by omega
  have hb7 : i ≤ N + 1 := by omega
  go_enter Try.func56, Try.ntmps56
  go_upto_region 15 with (simp only [hov])
  go_region_law (refine step_copy_runI rfl _ _ 70 70 rfl (.slice (some ⟨g, (i + 1) * 3, none⟩) (N - i) (cap - (i + 1))) (.slice (some ⟨g, i * 3, none⟩) (N + 1 - i) (cap - i)) (by simp [Act.eval, Act.put]) (by simp [Act.eval, Act.put]) (HDS.out _ _ _) ?_)
  clear HDS
  have hcp := HCP.out w1 (fun _ => rfl)
  clear HCP
  go_wp2_with fail
  go_ret
  exact ⟨_, rfl, HR.out _ (fun _ => rfl), (HK2.out _ HK.out).mono (fun k _ e => by subst e; rfl), fun g' e => Or.inl e⟩

/-- Pieces put behind place i + 1. -/
def tail16 (cur : Array Value) (qs : List P16) (i : Nat) : Array Value := (cur.toList.take ((i + 1) * 3) ++ pcs16 (qs.drop i) ++ cur.toList.drop ((i + 1) * 3 + (qs.length - i) * 3)).toArray
theorem tail16_size {cur : Array Value} {qs : List P16} {i : Nat} (hi : i ≤ qs.length) (hc : (qs.length + 1) * 3 ≤ cur.size) : (tail16 cur qs i).size = cur.size := shift16_size hi hc
theorem grown16 {row : Array Value} {qs : List P16} {x : P16} {i : Nat} (hi : i ≤ qs.length) (hc : (qs.length + 1) * 3 ≤ row.size) (ht : row.toList.take (i * 3) = pcs16 (qs.take i)) :
    (tail16 (laid16 row x i) qs i).toList.take ((qs.length + 1) * 3) = pcs16 (qs.take i ++ x :: qs.drop i) := by
  have hl : row.toList.length = row.size := Array.length_toList
  have l1 : (pcs16 (qs.take i)).length = i * 3 := by rw [pcs16_length, List.length_take]; omega
  have l2 : (pcs16 (qs.drop i)).length = (qs.length - i) * 3 := by rw [pcs16_length, List.length_drop]
  have a1 : (laid16 row x i).toList.take ((i + 1) * 3) = pcs16 (qs.take i) ++ P16.cells x := by
    unfold laid16
    rw [List.toList_toArray, ht, List.take_left' (by simp only [List.length_append, l1, P16.cells, List.length_cons, List.length_nil]; omega)]
  unfold tail16
  rw [List.toList_toArray, a1, pcs16_append, pcs16_cons, ← List.append_assoc]
  rw [List.take_left' (by simp only [List.length_append, l1, l2, P16.cells, List.length_cons, List.length_nil]; omega)]

set_option maxRecDepth 100000 in
set_option maxHeartbeats 4000000 in
theorem insertGrow16_any (g cap : Nat) (cur : Array Value) (qs : List P16) (x : P16) (vb i : Nat) (w : World) (hg : w.heap[g]? = some (.cells cur 79 (0, 0))) (hcs : cur.size = cap * 3) (hnc : qs.length ≤ cap) (hroom : cap < qs.length + 1) (ht : cur.toList.take (qs.length * 3) = pcs16 qs)
    (hx : Blk w vb #[.int .i64 (x.lo : Nat), .string x.s, .bool x.last] 79) (hne : vb ≠ g) (hi : i < qs.length) (hl : qs.length ≤ 65515) :
    Calls Try.prog 56 #[.slice (some ⟨g, 0, none⟩) qs.length cap, .int .i64 (i : Nat), .slice (some ⟨vb, 0, none⟩) 1 1] w (Ins16 (.slice (some ⟨g, 0, none⟩) qs.length cap) (qs.take i ++ x :: qs.drop i) w) := by
  obtain ⟨i0, hi0, hz0, hz1, hz2⟩ := info_parts Try.infoP
  have hone : ∀ u ∈ P16.cells x, u.oneCell' = true := fun u hu => pcs16_one [x] u (by simpa [pcs16] using hu)
  have hvg : w.heap[vb]? = some (.cells #[.int .i64 (x.lo : Nat), .string x.s, .bool x.last] 79 (0, 0)) := hx
  have hgl : g < w.heap.size := (Array.getElem?_eq_some_iff.1 hg).1
  have hvl : vb < w.heap.size := hx.lt
  have hcells : ∀ j v, (pcs16 qs)[j]? = some v → w.cell? ⟨g, j, none⟩ = some v := fun j v hj => by
    rw [← ht, List.getElem?_take] at hj
    split at hj
    · simpa [World.cell?, hg] using hj
    · cases hj
  have hold : (Builtin.firstCells i0.size i (.slice (some ⟨g, 0, none⟩) i cap)).run Try.prog w.drew = .ok (pcs16 (qs.take i)).toArray w.drew := by
    rw [hz1]
    exact run_firstCells_some w.drew 3 i ⟨g, 0, none⟩ i cap (pcs16 (qs.take i)) (by rw [pcs16_length, List.length_take]; omega) (fun j v hj => by
      rw [addr_add]
      rw [← pcs16_take, List.getElem?_take] at hj
      split at hj
      · exact hcells j v hj
      · cases hj)
  have hkk : (qs.length : Int) + 1 - (i : Int) = ((qs.length + 1 - i : Nat) : Int) := by omega
  have hik : i + (qs.length + 1 - i) = qs.length + 1 := by omega
  have hrz := fun ty => Lib.run_append_grow_zeros w 70 3 ty 79 i0 _ .i64 .i64 Try.underlying70 Try.underlying3 hi0 hz0 (some ⟨g, 0, none⟩) i cap (pcs16 (qs.take i)) hold (qs.length + 1 - i) (by omega) (by omega) (by omega) (by omega) (by rw [hz2]; omega) (by rw [hz2, hik]; exact growslice_fits hroom (by omega))
  rw [hik] at hrz
  have hGge := grownCap_ge w (qs.length + 1) cap 79
  have hGm := grownCap_le_maxLen w (qs.length + 1) cap 79 (by unfold maxLen; omega)
  generalize grownCap w (qs.length + 1) cap 79 = G at *
  obtain ⟨ROW, hROW⟩ : ∃ ROW : Array Value, ROW = (pcs16 (qs.take i)).toArray ++ Builtin.zeroCells (Value.agg #[.int .i64 0, .string ⟨#[]⟩, .bool false]).cells (qs.length + 1 - i) ++ Builtin.zeroCells (Value.agg #[.int .i64 0, .string ⟨#[]⟩, .bool false]).cells (G - (qs.length + 1)) := ⟨_, rfl⟩
  rw [← hROW] at hrz
  have hzc : (Value.agg #[.int .i64 0, .string ⟨#[]⟩, .bool false]).cells.size = 3 := rfl
  have hRs : ROW.size = G * 3 := by
    rw [hROW]
    simp only [Array.size_append, List.size_toArray, size_zeroCells, hzc, pcs16_length, List.length_take]
    omega
  have hRt : ROW.toList.take (i * 3) = pcs16 (qs.take i) := by
    rw [hROW, Array.toList_append, Array.toList_append, List.append_assoc, List.take_left' (by rw [pcs16_length, List.length_take]; omega)]
  clear hROW
  obtain ⟨W1, hW1⟩ : ∃ W1, W1 = w.drew.alloc (.cells ROW 79) := ⟨_, rfl⟩
  rw [← hW1] at hrz
  have hN1 : W1.heap[w.heap.size]? = some (.cells ROW 79 (0, 0)) := by rw [hW1]; exact heap_alloc_new w.drew _
  have hold1 : ∀ k : Nat, k < w.heap.size → W1.heap[k]? = w.heap[k]? := fun k hk => by rw [hW1]; exact heap_alloc_old w.drew _ hk
  have hKW : Kb (fun k => k = w.heap.size) w W1 := by rw [hW1]; exact ((Kb.refl _ w).drew).alloc _
  have hcpA : ∀ ty dc, (Builtin.copy_ #[70, 70] ty #[.slice (some ⟨w.heap.size, i * 3, none⟩) (qs.length + 1 - i) dc, .slice (some ⟨vb, 0, none⟩) 1 1]).run Try.prog W1 = .ok (goInt 1) (W1.setRow w.heap.size (laid16 ROW x i)) := fun ty dc => by
    have hv2 : W1.heap[vb]? = some (.cells #[.int .i64 (x.lo : Nat), .string x.s, .bool x.last] 79 (0, 0)) := (hold1 vb hvl).trans hvg
    exact run_copy16 W1 ty w.heap.size (i * 3) (qs.length + 1 - i) dc ⟨vb, 0, none⟩ 1 1 ROW (P16.cells x) 1 (by simp only [Nat.min_def]; split <;> omega) hN1 rfl (fun j v hj => by
      rw [Addr.add_lit, Nat.zero_add]
      rw [Blk.cell hv2 j]
      simpa [P16.cells] using hj) (by rw [hRs]; simp [P16.cells]; omega) hone
  obtain ⟨W2, hW2⟩ : ∃ W2, W2 = W1.setRow w.heap.size (laid16 ROW x i) := ⟨_, rfl⟩
  rw [← hW2] at hcpA
  have hN2 : W2.heap[w.heap.size]? = some (.cells (laid16 ROW x i) 79 (0, 0)) := by rw [hW2]; exact setRow_heap W1 _ ROW _ _ (0, 0) hN1
  have hold2 : ∀ k : Nat, k < w.heap.size → W2.heap[k]? = w.heap[k]? := fun k hk => by rw [hW2, setRow_other _ _ _ _ (by omega)]; exact hold1 k hk
  have hKW2 : Kb (fun k => k = w.heap.size) w W2 := by rw [hW2]; exact hKW.trans ⟨rfl, rfl, rfl, by simp, fun k hk hs => setRow_other _ _ _ _ hs⟩
  have hL : (laid16 ROW x i).size = G * 3 := by rw [laid16_size (by rw [hRs]; omega), hRs]
  have hcpB : ∀ ty dc sc, (Builtin.copy_ #[70, 70] ty #[.slice (some ⟨w.heap.size, (i + 1) * 3, none⟩) (qs.length - i) dc, .slice (some ⟨g, i * 3, none⟩) (qs.length - i) sc]).run Try.prog W2.drew = .ok (goInt ((qs.length - i : Nat))) (W2.drew.setRow w.heap.size (tail16 (laid16 ROW x i) qs i)) := fun ty dc sc => by
    have h := run_copy16 W2.drew ty w.heap.size ((i + 1) * 3) (qs.length - i) dc ⟨g, i * 3, none⟩ (qs.length - i) sc (laid16 ROW x i) (pcs16 (qs.drop i)) (qs.length - i) (Nat.min_self _) hN2 (by rw [pcs16_length, List.length_drop]) (fun j v hj => by
      rw [← pcs16_drop, List.getElem?_drop] at hj
      have hc := hcells _ _ hj
      rw [Addr.add_lit]
      have hg2 : W2.drew.heap[g]? = w.heap[g]? := hold2 g hgl
      simp only [World.cell?, hg2]
      simpa [World.cell?] using hc) (by rw [pcs16_length, List.length_drop, hL]; omega) (pcs16_one _)
    rw [show ((i + 1) * 3 + (pcs16 (qs.drop i)).length) = ((i + 1) * 3 + (qs.length - i) * 3) by rw [pcs16_length, List.length_drop]] at h
    exact h
  have hR : Row16 (W2.drew.setRow w.heap.size (tail16 (laid16 ROW x i) qs i)) (.slice (some ⟨w.heap.size, 0, none⟩) (qs.length + 1) G) (qs.take i ++ x :: qs.drop i) := by
    have hlen : (qs.take i ++ x :: qs.drop i).length = qs.length + 1 := by simp; omega
    refine ⟨by rw [pcs16_length], Or.inr ⟨w.heap.size, G, tail16 (laid16 ROW x i) qs i, by rw [hlen], Nat.zero_le _, setRow_heap W2.drew _ (laid16 ROW x i) _ _ (0, 0) hN2, by rw [hlen]; exact hGge, hGm, by rw [tail16_size (by omega) (by rw [hL]; omega), hL], ?_⟩⟩
    rw [hlen]
    exact grown16 (by omega) (by rw [hRs]; omega) hRt
  have hKE : Kb (fun k => k = w.heap.size) w (W2.drew.setRow w.heap.size (tail16 (laid16 ROW x i) qs i)) := (hKW2.drew).trans ⟨rfl, rfl, rfl, by simp, fun k hk hs => setRow_other _ _ _ _ hs⟩
  have HR := Lib.hid hR
  have HK := Lib.hid hKE
  have HRZ := Lib.hid hrz
  have HCA := Lib.hid hcpA
  have HCB := Lib.hid hcpB
  unfold Ins16
  clear hR hKE hrz hcpA hcpB hN1 hN2 hold1 hold2 hKW hKW2 hW1 hW2 hvg ht hone hg hx hcells hold hRs hRt hL
  generalize hN : qs.length = N at *
  generalize tail16 (laid16 ROW x i) qs i = RW at *
  generalize qs.take i ++ x :: qs.drop i = QS at *
  generalize hM : w.heap.size = M at *
  have hz2 : ¬ ((i : Int) = (N : Int)) := by omega
  have hb1 : (0 : Int) ≤ (i : Int) + 1 := by omega
  have hw1 : IntKind.i64.wrap ((i : Int) + 1) = (i : Int) + 1 := IntWalk.i64_in _ (by omega)
  have hw2 : IntKind.i64.wrap ((N : Int) + 1) = (N : Int) + 1 := IntWalk.i64_in _ (by omega)
  have hw3 : IntKind.i64.wrap ((N : Int) + 1 - (i : Int)) = (N : Int) + 1 - (i : Int) := IntWalk.i64_in _ (by omega)
  have htn : ((i : Int) + 1).toNat = i + 1 := by omega
  have hb5 : ((cap : Int) < (N : Int) + 1) := by omega
  have hb3 : (i : Int) ≤ (N : Int) := by omega
  have hb6 : i ≤ N := by omega
  have hb7 : i ≤ N + 1 := by omega
  have hb4 : ¬ (cap = i) := by omega
  have hb8 : ¬ (G = i) := by omega
  have hb9 : ¬ (G = i + 1) := by omega
  have hrz := HRZ.out 70
  have hca := HCA.out 3
  clear HRZ HCA
  go_enter Try.func56, Try.ntmps56
  go_upto_region 11 with (at_builtin; refine Lib.wpList_append_run _ rfl _ _ _ _ rfl _ _ rfl rfl _ _ hrz ?_)
  go_region_law (refine step_copy_runI rfl _ _ 70 70 rfl (.slice (some ⟨M, (i + 1) * 3, none⟩) (N - i) (G - (i + 1))) (.slice (some ⟨g, i * 3, none⟩) (N - i) (cap - i)) (by simp [Act.eval, Act.put]) (by simp [Act.eval, Act.put]) (HCB.out _ _ _) ?_)
  clear HCB
  go_wp2_with fail
  go_ret
  exact ⟨_, rfl, HR.out, HK.out.mono (fun k hk e => by omega), fun g' e => Or.inr (by have : M = g' := by { simpa [Value.ownBlock] using e }; omega)⟩

/-- Insert, at each place. -/
theorem insert16_any (v : Value) (qs : List P16) (x : P16) (vb i : Nat) (w : World) (h : Row16 w v qs) (hx : Blk w vb #[.int .i64 (x.lo : Nat), .string x.s, .bool x.last] 79) (hne : v.ownBlock ≠ some vb) (hi : i ≤ qs.length) (hl : qs.length ≤ 65515) :
    Calls Try.prog 56 #[v, .int .i64 (i : Nat), .slice (some ⟨vb, 0, none⟩) 1 1] w (Ins16 v (qs.take i ++ x :: qs.drop i) w) := by
  by_cases e : i = qs.length
  · subst e
    have := insertEnd16_any v qs x vb w h hx hl
    rw [List.take_length, List.drop_length]
    exact this
  · rcases h.2 with ⟨_, h0⟩ | ⟨g, cap, cur, rfl, hb, hg, hn, hm, hs, ht⟩
    · omega
    · have hgv : vb ≠ g := fun x => hne (by rw [x]; rfl)
      by_cases hr : qs.length + 1 ≤ cap
      · exact insertRoom16_any g cap cur qs x vb i w hg hs hr hm ht hx hgv (by omega) hl
      · exact insertGrow16_any g cap cur qs x vb i w hg hs hn (by omega) ht hx hgv (by omega) hl

end Go.Proofs.Ytoijomdgcgbpbaa
