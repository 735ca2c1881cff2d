/-
  walk: the options' iterator: it hands each option's place and bytes, in order, till the body of the loop says no more.
-/
import Derived.Test.YtppobficnjpdiaaTcpA
import Derived.RangeFuncNested
import Derived.RangeFuncBound
import Derived.RangeFuncCalls
import Derived.RangeFuncLeaves
import Derived.Shelf.Abstract
import Derived.Shelf.RegionOpen
import Derived.WalkKit
import Derived.OwnWalkIn
import Derived.TacticsInMore
import Derived.LoopNIn
import Derived.LoopIn
namespace Go.Proofs.Ytppobficnjpdiaa
open Go.RowKit Go.Shelf
set_option linter.unusedVariables false

attribute [local go_sem] Oper.semAt_some

/-- What the body is handed. -/
def encO (x : Nat × List UInt8) : Array Value := #[.int .i64 (x.1 : Int), .string ⟨x.2.toArray⟩]
/-- A round that goes on keeps the box. -/
def KeepsBox (Bs : Nat) (W W' : World) : Prop := ∀ v, W.cell? ⟨Bs, 0, none⟩ = some v → W'.cell? ⟨Bs, 0, none⟩ = some v
theorem keepsBox_t {Bs : Nat} {A B C : World} (h : KeepsBox Bs A B) (k : KeepsBox Bs B C) : KeepsBox Bs A C := fun v e => k v (h v e)
theorem keepsBox_b {Bs n : Nat} (W : World) (l : Nat) (o o' : Obj) (hl : n ≤ l) (h : W.heap[l]? = some o) (hc : o.isCells = false) (hw : o.isWalk = false) : KeepsBox Bs W (W.putObj l o') :=
  fun v e => cell_kept e (grownBy_putObj' W l o') (fun r e => by cases e; exact ⟨o, h, hc⟩)

theorem ext_take (o : ByteArray) (k z : Nat) : o.extract k (k + z) = ⟨((o.data.toList.drop k).take z).toArray⟩ := by
  apply text_ext
  rw [extract_list]
  show _ = (o.data.toList.drop k).take z
  rw [List.take_drop]
theorem ext_drop (o : ByteArray) (k : Nat) : (o.extract k o.size).data.toList = o.data.toList.drop k := by
  rw [extract_list, List.take_of_length_le (by simp)]
theorem drop_head {o : ByteArray} {k : Nat} (h : k < o.size) : (o.data.toList.drop k).head? = some (o[k]'h) := by
  rw [List.head?_drop, List.getElem?_eq_getElem (by simpa using h)]
  rfl
theorem drop_ne {o : ByteArray} {k : Nat} (h : k < o.size) : o.data.toList.drop k ≠ [] := by
  intro e; have := drop_head h; rw [e] at this; cases this

set_option maxRecDepth 100000 in
set_option maxHeartbeats 2000000 in
theorem walk1_in {G : Nat × List UInt8 → Prop} (n : Nat) (hn : 1 ≤ n) (l Bs : Nat) (o : ByteArray) (hs : o.size ≤ maxLen) (xs : List {x // G x}) (hx : xs.map (·.1) = opts o.data.toList 0) (J Jx : List {x // G x} → World → Prop)
    (hY : ∀ pre x W, J pre W → pre.length < xs.length → YieldAt Fence.wide (n - 1) Try.prog l (encO x.1) W fun e W' =>
      (e = .returned (.bool true) ∧ J (pre ++ [x]) W' ∧ KeepsBox Bs W W') ∨ (e = .returned (.bool false) ∧ Jx (pre ++ [x]) W'))
    (W : World) (hB : W.cell? ⟨Bs, 0, none⟩ = some (.string o)) (h0 : J [] W) :
    CallsIn Fence.wide n Try.prog 96 #[.func (.yield l) #[] #[], .pointer (some ⟨Bs, 0, none⟩)] W fun e W' => (∃ v, e = .returned v) ∧
      ((∃ ys, ys = xs ∧ J ys W') ∨ (∃ pre, pre <+: xs ∧ Jx pre W')) := by
  unfold maxLen at hs
  refine callsIn_of_wp Try.func96 rfl trivial ?_ rfl
  simp only [Try.ntmps96, List.size_toArray, List.length_cons, List.length_nil, Nat.reduceAdd, Nat.reduceSub, Array.replicate_succ, Array.replicate_zero, List.push_toArray, List.append_toArray, List.nil_append, List.cons_append]
  gi_wp2
  gi_loopw [3] (fun i wr => ∃ (k : Nat) (pre rest : List {x // G x}), i = .int .i64 k ∧ k ≤ o.size ∧ xs = pre ++ rest ∧ rest.map (·.1) = opts (o.data.toList.drop k) k ∧ J pre wr ∧ wr.cell? ⟨Bs, 0, none⟩ = some (.string o)) (fun i _ => o.size - (intOf i).toNat)
  case atStart => exact ⟨0, [], xs, rfl, Nat.zero_le _, rfl, by simpa using hx, h0, hB⟩
  case round =>
    obtain ⟨k, pre, rest, rfl, hk, hxs, hr, hJ, hb⟩ := hrel
    by_cases hlt : k < o.size
    case neg =>
      have hkk : k = o.size := by omega
      have hr0 : rest = [] := by
        rw [hkk, List.drop_of_length_le (by simp), opts_nil] at hr
        simpa using hr
      clear hr hx hkk
      gi_wp2
      go_end0
      exact ⟨⟨_, rfl⟩, .inl ⟨pre, by rw [hxs, hr0, List.append_nil], hJ⟩⟩
    by_cases hc : (o[k]'hlt).toNat = 0
    · have hr0 : rest = [] := by
        have hh := drop_head hlt
        rw [UInt8.toNat_inj.1 (show (o[k]'hlt).toNat = (0 : UInt8).toNat from hc)] at hh
        obtain ⟨r, hd⟩ : ∃ r, o.data.toList.drop k = 0 :: r := by
          cases hd : o.data.toList.drop k with
          | nil => rw [hd] at hh; cases hh
          | cons a r => rw [hd] at hh; exact ⟨r, by rw [Option.some.inj hh]⟩
        rw [hd, opts_end] at hr
        simpa using hr
      have t1 : ((((o[k]'hlt).toNat : Nat) : Int) != 0) = false := by simp; omega
      clear hr hx hc
      gi_wp2
      go_end0
      exact ⟨⟨_, rfl⟩, .inl ⟨pre, by rw [hxs, hr0, List.append_nil], hJ⟩⟩
    have t1 : ((((o[k]'hlt).toNat : Nat) : Int) != 0) = true := by simp; omega
    have hh : (o.data.toList.drop k).head? ≠ some 0 := by
      rw [drop_head hlt]
      intro e
      exact hc (by rw [Option.some.inj e]; rfl)
    have hne := drop_ne hlt
    have hsz : (o.extract k o.size).size = o.size - k := by rw [ByteArray.size_extract]; omega
    have HS := Lib.hid (size_any (o.extract k o.size) wr (by omega))
    rw [ext_drop] at HS
    have hzl := sz1_le (o.data.toList.drop k)
    rw [List.length_drop, Array.length_toList, ByteArray.size_data] at hzl
    have HE := Lib.hid (ext_take o k (sz1 (o.data.toList.drop k)))
    by_cases hz : sz1 (o.data.toList.drop k) = 0
    · rw [opts_bad k hne hh hz] at hr
      obtain ⟨x, rfl⟩ : ∃ x, rest = [x] := by
        cases rest with
        | nil => simp at hr
        | cons x r =>
          cases r with
          | nil => exact ⟨x, rfl⟩
          | cons y r => simp at hr
      have hx1 : x.1 = (k, []) := by simpa using hr
      obtain ⟨fn, tmps, assign, body, hy, hR⟩ := hY pre x wr hJ (by rw [hxs]; simp)
      rw [hx1] at hy
      unfold encO at hy
      dsimp only at hy
      have hy' : (Instr.yield l #[.int .i64 (k : Int), .string ByteArray.empty]).run Try.prog wr = .ok (.round l fn tmps assign body) wr := hy
      have HR := Lib.hid hR
      rw [hz] at HS
      clear hr hx hc hne hh hR hY HE hy
      gi_wp2_with fail
      refine ⟨trivial, (callsIn_wide.2 HS.out).mono ?_⟩
      rintro e w' ⟨rfl, rfl⟩
      gi_wp2_with fail
      refine HR.out.mono ?_
      rintro e W3 (⟨rfl, hJ3, hk3⟩ | ⟨rfl, hJx3⟩)
      · gi_wp2_with fail
        refine bodyPost_ret (results_none rfl _ _ _) rfl ?_
        exact ⟨⟨_, rfl⟩, .inl ⟨pre ++ [x], hxs.symm, hJ3⟩⟩
      · gi_wp2_with fail
        refine bodyPost_ret (results_none rfl _ _ _) rfl ?_
        exact ⟨⟨_, rfl⟩, .inr ⟨pre ++ [x], by rw [hxs]; exact List.prefix_refl _, hJx3⟩⟩
    rw [opts_step k hh hz] at hr
    obtain ⟨x, rest', rfl⟩ : ∃ x r, rest = x :: r := by
      cases rest with
      | nil => simp at hr
      | cons x r => exact ⟨x, r, rfl⟩
    rw [List.map_cons] at hr
    have hx1 := (List.cons.inj hr).1
    have hr1 := (List.cons.inj hr).2
    rw [List.drop_drop] at hr1
    obtain ⟨fn, tmps, assign, body, hy, hR⟩ := hY pre x wr hJ (by rw [hxs]; simp)
    rw [hx1] at hy
    unfold encO at hy
    dsimp only at hy
    rw [← HE.out] at hy
    generalize sz1 (o.data.toList.drop k) = z at *
    have HR := Lib.hid hR
    have HI := Lib.hid hr1
    clear hr hx hc hne hh hR hY HE hx1 hr1
    gi_wp2_with fail
    refine ⟨trivial, (callsIn_wide.2 HS.out).mono ?_⟩
    rintro e w' ⟨rfl, rfl⟩
    gi_wp2_with fail
    refine HR.out.mono ?_
    rintro e W3 (⟨rfl, hJ3, hk3⟩ | ⟨rfl, hJx3⟩)
    · have hb3 := hk3 _ hb
      have tz : ((z : Int) == 0) = false := by simp; omega
      gi_wp2_with fail
      go_roundw
      case rel => exact ⟨k + z, pre ++ [x], rest', by go_num, by omega, by rw [hxs, List.append_assoc]; rfl, HI.out, hJ3, hb3⟩
      case measure => simp [intOf]; omega
    · gi_wp2_with fail
      refine bodyPost_ret (results_none rfl _ _ _) rfl ?_
      exact ⟨⟨_, rfl⟩, .inr ⟨pre ++ [x], by rw [hxs]; exact ⟨rest', by simp⟩, hJx3⟩⟩

set_option maxHeartbeats 400000 in
theorem walk_any (o : ByteArray) (w : World) :
    Calls Try.prog 79 #[.string o] w fun e w' => e = .returned (.func (.func 96) #[] #[.pointer (some ⟨w.heap.size, 0, none⟩)]) ∧ w' = w.alloc (.cells #[.string o] 9) := by
  have hmf : ∀ (fn : Fn) (first cap : Array Value) (w : World), (Instr.makeFunc fn first cap).run Try.prog w = .ok (.func fn first cap) w := fun _ _ _ _ => rfl
  go_enter Try.func79, Try.ntmps79
  go_wp2_with fail
  go_ret
  exact ⟨rfl, rfl⟩

/-- The iterator's contract. -/
theorem walk_stops {G : Nat × List UInt8 → Prop} (n : Nat) (hn : 1 ≤ n) (Bs : Nat) (o : ByteArray) (hs : o.size ≤ maxLen) (xs : List {x // G x}) (hx : xs.map (·.1) = opts o.data.toList 0) (w : World) (hB : Bs < w.heap.size) (hc : w.cell? ⟨Bs, 0, none⟩ = some (.string o)) :
    SeqStopsK Fence.wide n Try.prog 96 #[.pointer (some ⟨Bs, 0, none⟩)] (fun x : {x // G x} => encO x.1) (KeepsBox Bs) (fun ys => ys = xs) (fun pre => pre <+: xs) xs.length w :=
  fun l J Jx W hW _ _ hY h0 => walk1_in n hn l Bs o hs xs hx J Jx hY W ((hW.cell (p := ⟨Bs, 0, none⟩) hB).trans hc) h0

end Go.Proofs.Ytppobficnjpdiaa

/-
  Right: are options right?
-/
namespace Go.Proofs.Ytppobficnjpdiaa
open Go.RowKit Go.Shelf
set_option linter.unusedVariables false

attribute [local go_sem] Oper.semAt_some

/-- All that is handed, as it is. -/
def anyO (l : List (Nat × List UInt8)) : List {x : Nat × List UInt8 // True} := l.map fun x => ⟨x, trivial⟩
theorem anyO_val (l : List (Nat × List UInt8)) : (anyO l).map (·.1) = l := by simp only [anyO, List.map_map]; exact List.map_id l
/-- Are all of them right? -/
def fineA (l : List {x : Nat × List UInt8 // True}) : Bool := l.all fun x => fineO x.1
theorem fineA_all (l : List (Nat × List UInt8)) : fineA (anyO l) = l.all fineO := by simp only [fineA, anyO, List.all_map]; rfl
theorem fineA_snoc (l : List {x : Nat × List UInt8 // True}) (x : {x : Nat × List UInt8 // True}) : fineA (l ++ [x]) = (fineA l && fineO x.1) := by simp [fineA]
theorem fineA_pre {l m : List {x : Nat × List UInt8 // True}} (h : l <+: m) (hl : fineA l = false) : fineA m = false := by
  obtain ⟨r, rfl⟩ := h
  unfold fineA at *
  rw [List.all_append, hl]
  rfl

set_option maxRecDepth 100000 in
set_option maxHeartbeats 2000000 in
theorem right_in (o : ByteArray) (w : World) (hs : o.size ≤ maxLen) :
    CallsIn Fence.wide 3 Try.prog 78 #[.string o] w fun e w' => e = .returned (.bool (rightL o.data.toList)) ∧ Below w.heap.size w w' := by
  refine callsIn_of_wp_marks Try.func78 rfl trivial ?_ rfl
  simp only [Try.ntmps78, List.size_toArray, List.length_cons, List.length_nil, Nat.reduceAdd, Nat.reduceSub, Array.replicate_succ, Array.replicate_zero, List.push_toArray, List.append_toArray, List.nil_append, List.cons_append]
  gi_wp2_with fail
  refine ⟨trivial, (callsIn_wide.2 (walk_any o _)).mono ?_⟩
  rintro e w' ⟨rfl, rfl⟩
  gi_wp2_with fail
  have b0 := (Blk.new w #[.bool false] 4).alloc (.cells #[.string o] 9)
  have b1 := Blk.new (w.alloc (.cells #[.bool false] 4)) #[.string o] 9
  rw [World.size_alloc] at b1
  have hB0 : Below w.heap.size w ((w.alloc (.cells #[.bool false] 4)).alloc (.cells #[.string o] 9)) := ((Below.refl _ w).alloc (Nat.le_refl _) _).alloc (by simp) _
  refine wpIn_rangeFunc_ownF rfl (by decide) (gf := 96) (lb := #[.pointer (some ⟨w.heap.size + 1, 0, none⟩)]) rfl trivial (enters_of Try.func96 (by kernel_rfl) rfl)
    (walk_stops 2 (by decide) (w.heap.size + 1) o hs (anyO (opts o.data.toList 0)) (anyO_val _) _ (by simp) (b1.cell 0)) keepsBox_t keepsBox_b (Below.refl _ _) (fun _ => rfl)
    (fun pre W => (fineA pre = true ∧ W.cell? ⟨w.heap.size, 0, none⟩ = some (.bool false) ∧ W.frozen? ⟨w.heap.size, 0, none⟩ = false) ∧ Below w.heap.size w W)
    (fun c pre W => (c = .ret ∧ fineA pre = false ∧ W.cell? ⟨w.heap.size, 0, none⟩ = some (.bool false)) ∧ Below w.heap.size w W)
    (OwnFrom.and (Own.from (fun s A B row hs hg hr => ⟨hs.1, cell_kept hs.2.1 hg hr, (frozen_kept hs.2.1 hg hr).trans hs.2.2⟩) _) (ownFrom_below (Nat.le_refl _) (by simp; omega)))
    (fun c => OwnFrom.and (Own.from (fun s A B row hs hg hr => ⟨hs.1, hs.2.1, cell_kept hs.2.2 hg hr⟩) _) (ownFrom_below (Nat.le_refl _) (by simp; omega)))
    ⟨⟨rfl, b0.cell 0, b0.frozen 0⟩, hB0⟩
    (fun x => { tmps := #[.string o, undef, .pointer (some ⟨w.heap.size, 0, none⟩), undef, .string ⟨x.1.2.toArray⟩, .string o, .func (.func 96) #[] #[.pointer (some ⟨w.heap.size + 1, 0, none⟩)], .int .i64 (x.1.1 : Int), .string ⟨x.1.2.toArray⟩, undef, undef], defers := [] }) ?assign ?body ?done ?stop
  case assign =>
    intro l x W K hK
    unfold encO
    gi_wp2
    exact hK
  case body =>
    rintro l pre x W ⟨⟨hp, hc, hf⟩, hB⟩ _
    obtain ⟨⟨q, s⟩, hx⟩ := x
    cases s with
    | nil =>
      gi_wp2
      exact ⟨KeepsOthers.setCell _ _ _, ⟨rfl, by rw [fineA_snoc]; simp [fineO], World.cell?_setCell_same' _ _ _ (by rw [hc]; rfl)⟩, hB.setCell (p := ⟨w.heap.size, 0, none⟩) (Nat.le_refl _) _⟩
    | cons a r =>
      gi_wp2
      exact ⟨KeepsOthers.refl _, fun v e => e, ⟨by rw [fineA_snoc, hp]; rfl, hc, hf⟩, hB⟩
  case done =>
    rintro D ys W hD rfl ⟨⟨hp, hc, hf⟩, hB⟩ hK
    gi_wp2
    have hK' := (KeepsOthers.setCell W ⟨w.heap.size, 0, none⟩ (.bool true)).same D _ hK rfl
    refine ⟨by simp, .inl ⟨_, _, rfl, run_takeDeferred hK', ?_⟩⟩
    have hc5 := cell_kept (World.cell?_setCell_same' W ⟨w.heap.size, 0, none⟩ (.bool true) (by rw [hc]; rfl)) (grownBy_putObj' _ D (.deferred none)) (fun r e => by cases e; exact ⟨_, hK', rfl⟩)
    refine ⟨.bool true, ?_, ?_, (hB.setCell (p := ⟨w.heap.size, 0, none⟩) (Nat.le_refl _) _).trans (belowK_b (w := w) (Nat.le_refl _) _ D _ _ (by simp at hD; omega) hK' rfl rfl)⟩
    · simp [results, Try.results78, go_sem, hc5]
    · rw [fineA_all] at hp
      unfold rightL
      rw [hp]
  case stop =>
    rintro D c pre W hD hpre ⟨⟨rfl, hin, hcr⟩, hB⟩ hK
    gi_wp2
    refine ⟨by simp, .inl ⟨_, _, rfl, run_takeDeferred hK, ?_⟩⟩
    have hc5 := cell_kept hcr (grownBy_putObj' _ D (.deferred none)) (fun r e => by cases e; exact ⟨_, hK, rfl⟩)
    refine ⟨.bool false, ?_, ?_, hB.trans (belowK_b (w := w) (Nat.le_refl _) W D _ _ (by simp at hD; omega) hK rfl rfl)⟩
    · simp [results, Try.results78, go_sem, hc5]
    · have hp := fineA_pre hpre hin
      rw [fineA_all] at hp
      unfold rightL
      rw [hp]

/-- Right, at every text. -/
theorem right_call (o : ByteArray) (w : World) (hs : o.size ≤ maxLen) :
    Calls Try.prog 78 #[.string o] w fun e w' => e = .returned (.bool (rightL o.data.toList)) ∧ Below w.heap.size w w' := callsIn_wide.1 (right_in o w hs)

end Go.Proofs.Ytppobficnjpdiaa
