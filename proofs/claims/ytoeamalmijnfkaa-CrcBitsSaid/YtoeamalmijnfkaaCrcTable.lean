/-
  The table of sixteen numbers.
-/
import Derived.Test.YtoeamalmijnfkaaMem
import Derived.Test.YtoeamalmijnfkaaCrcU32
import Derived.Deep.WholeRow
namespace Go.Proofs.Ytoeamalmijnfkaa
open Go.RowKit
set_option linter.unusedVariables false

/-- The table's first k numbers; 0 behind them. -/
def tabTo (k : Nat) : Array Value := Array.ofFn (n := 16) fun j => .int .u32 (if j.val < k then ((stN 4 (BitVec.ofNat 32 j.val)).toNat : Int) else 0)
def tab : Array Value := tabTo 16
theorem tabTo_size (k : Nat) : (tabTo k).size = 16 := by simp [tabTo]
theorem tabTo_zero : tabTo 0 = #[.int .u32 0, .int .u32 0, .int .u32 0, .int .u32 0, .int .u32 0, .int .u32 0, .int .u32 0, .int .u32 0, .int .u32 0, .int .u32 0, .int .u32 0, .int .u32 0, .int .u32 0, .int .u32 0, .int .u32 0, .int .u32 0] := by kernel_rfl
theorem tabTo_set (k : Nat) (h : k < 16) (v : Value) (hv : v = .int .u32 ((stN 4 (BitVec.ofNat 32 k)).toNat : Int)) : (tabTo k).setIfInBounds k v = tabTo (k + 1) := by
  apply Array.ext
  · simp [tabTo]
  · intro i h1 h2
    have hi : i < 16 := by simpa [tabTo] using h2
    rw [Array.getElem_setIfInBounds (by simpa [tabTo] using hi)]
    by_cases e : k = i
    · subst e; simp [tabTo, hv]
    · simp only [tabTo, Array.getElem_ofFn, if_neg e]
      congr 1
      by_cases e2 : i < k
      · rw [if_pos e2, if_pos (by omega)]
      · rw [if_neg e2, if_neg (by omega)]
theorem tab_at (k : Nat) (h : k < 16) : tab[k]? = some (.int .u32 ((stN 4 (BitVec.ofNat 32 k)).toNat : Int)) := by
  simp [tab, tabTo, h]

/-- One step, as the code makes it. -/
theorem st_code (x : BitVec 32) : (bits .and .u32 (x.toNat : Int) 1 = 1 ∧ bits .xor .u32 ((x.toNat : Int) / 2) 2197175160 = ((st x).toNat : Int)) ∨ (bits .and .u32 (x.toNat : Int) 1 = 0 ∧ (x.toNat : Int) / 2 = ((st x).toNat : Int)) := by
  have h1 : bits .and .u32 (x.toNat : Int) 1 = ((x &&& 1#32).toNat : Int) := u32_and x 1#32
  have h2 : (x.toNat : Int) / (2 : Int) = ((x >>> 1).toNat : Int) := by rw [u32_shr x 1]; rfl
  have h3 : (x &&& 1#32).toNat = if x.getLsbD 0 then 1 else 0 := by
    rw [BitVec.toNat_and, show (1#32).toNat = 2 ^ 1 - 1 from rfl, Nat.and_two_pow_sub_one_eq_mod, BitVec.getLsbD, Nat.testBit_zero]
    by_cases h : x.toNat % 2 = 1
    · simp [h]
    · have : x.toNat % 2 = 0 := by omega
      simp [this]
  rw [h1, h2, h3]
  unfold st
  cases x.getLsbD 0
  · right; simp
  · left
    refine ⟨rfl, ?_⟩
    exact u32_xor (x >>> 1) poly

theorem Blk.row {w : World} {b : Nat} {xs : Array Value} {T : TypeId} (h : Blk w b xs T) (ys : Array Value) : Blk (w.setRow b ys) b ys T := by
  unfold Blk at *
  simp [World.setRow, Array.getElem?_modify, h]
theorem Blk.row_other {w : World} {b g : Nat} {xs : Array Value} {T : TypeId} (h : Blk w b xs T) (hg : b ≠ g) (ys : Array Value) : Blk (w.setRow g ys) b xs T := by
  unfold Blk at *
  simp [World.setRow, Array.getElem?_modify, h, Ne.symm hg]
theorem below_row {B g : Nat} {a w : World} (h : Below B a w) (hg : B ≤ g) (ys : Array Value) : Below B a (w.setRow g ys) :=
  ⟨h.os, h.tape, h.output, by simpa [World.setRow] using h.size, fun k hk => by
    have hne : g ≠ k := by omega
    rw [← h.block k hk]
    simp [World.setRow, Array.getElem?_modify, hne]⟩

/-- The table's end. -/
def TableEnd (w : World) (e : Ending) (w' : World) : Prop := e = .returned (.agg tab) ∧ Below w.heap.size w w'

set_option maxRecDepth 100000 in
set_option maxHeartbeats 1000000 in
theorem table_any (w : World) : Calls Try.prog 12 #[] w (TableEnd w) := by
  have HB0 := Lib.hid (Blk.new w (tabTo 0) 33)
  have HB1 := Lib.hid (Blk.new (w.alloc (.cells (tabTo 0) 33)) (tabTo 0) 33)
  rw [tabTo_zero] at HB0 HB1
  go_enter Try.func12, Try.ntmps12
  go_wp2_with fail
  go_loopw [5] (fun i wr => ∃ k : Nat, k ≤ 16 ∧ i = .int .u32 k ∧ Hid (Blk wr (w.heap.size + 1) (tabTo k) 33) ∧ Hid (Blk wr w.heap.size (tabTo 0) 33) ∧ Hid (Below w.heap.size w wr)) (fun i _ => 16 - (intOf i).toNat)
  case atStart =>
    refine ⟨0, Nat.zero_le _, rfl, Lib.hid ?_, Lib.hid ?_, Lib.hid (((Below.refl _ _).alloc (Nat.le_refl _) _).alloc (by simp) _)⟩
    · rw [tabTo_zero]; simpa using HB1.out
    · rw [tabTo_zero]; exact HB0.out.alloc _
  case round =>
    obtain ⟨k, hk, rfl, hb1, hb0, hbel⟩ := hrel
    clear HB0 HB1
    by_cases hlt : k < 16
    · have hb : (k : Int) = ((BitVec.ofNat 32 k).toNat : Int) := by
        rw [BitVec.toNat_ofNat, Nat.mod_eq_of_lt (by omega)]
      have HBV := Lib.hid hb
      clear hb
      have c0 : wr.cell? ⟨w.heap.size + 1, k, none⟩ = some (.int .u32 0) := by
        rw [hb1.out.cell k]; simp [tabTo, hlt]
      have f0 := hb1.out.frozen k
      go_wp2_with fail
      go_loop [3, 9] (fun r i => ∃ m : Nat, m ≤ 4 ∧ i = .int .i64 m ∧ r = .int .u32 ((stN m (BitVec.ofNat 32 k)).toNat : Int)) (fun _ i => 4 - (intOf i).toNat)
      case atStart => exact ⟨0, Nat.zero_le _, rfl, by rw [HBV.out]; rfl⟩
      case round =>
        obtain ⟨m, hm, rfl, rfl⟩ := hrel
        by_cases hml : m < 4
        · have HS := Lib.hid (stN_succ' m (BitVec.ofNat 32 k))
          generalize stN m (BitVec.ofNat 32 k) = x at *
          rcases st_code x with ⟨h1, h2⟩ | ⟨h1, h2⟩
          · go_wp2_with fail
            exact ⟨⟨m + 1, by omega, by go_num, by rw [HS.out]⟩, by simp [intOf]; omega⟩
          · have H2 := Lib.hid h2
            clear h2
            go_wp2_with fail
            exact ⟨⟨m + 1, by omega, by go_num, by rw [HS.out, H2.out]⟩, by simp [intOf]; omega⟩
        · have hm4 := Lib.hid (show m = 4 by omega)
          have HN := Lib.hid (hb1.out.set k (.int .u32 ((stN m (BitVec.ofNat 32 k)).toNat : Int)))
          have HT := Lib.hid (tabTo_set k hlt (.int .u32 ((stN m (BitVec.ofNat 32 k)).toNat : Int)) (by rw [hm4.out]))
          go_wp2_with fail
          refine ⟨⟨k + 1, by omega, by go_num, Lib.hid ?_, Lib.hid ?_, Lib.hid ?_⟩, by simp [intOf]; omega⟩
          · have := HN.out
            rwa [HT.out] at this
          · exact hb0.out.set_other (by simp) _
          · exact hbel.out.setCell (by simp) _
    · have hk16 := Lib.hid (show k = 16 by omega)
      have hi : (Try.prog.info? 33).map (·.size) = some (tabTo k).size := by rw [tabTo_size]; kernel_rfl
      have h1 : (tabTo k).all (·.oneCell') = true := by
        rw [Array.all_eq_true]; intro i hi; simp [tabTo]; rfl
      go_wp2_with (first | (refine wpList_load_row rfl 33 (.tmp 1) rfl (w.heap.size + 1) rfl 33 (tabTo k) (0, 0) _ hb1.out Try.underlying33 rfl hi ?_) | (refine wpList_store_row rfl 33 (.tmp 0) (.tmp 24) rfl w.heap.size (tabTo k) rfl rfl 33 (tabTo 0) hb0.out hi (by rw [tabTo_size, tabTo_size]) h1 ?_))
      refine bodyPost_ret (v := .agg (tabTo k)) (results_cell_row rfl _ _ w.heap.size 33 (tabTo k) (0, 0) _ rfl (hb0.out.row (tabTo k)) Try.underlying33 rfl hi) rfl ⟨?_, below_row hbel.out (Nat.le_refl _) _⟩
      rw [hk16.out]; rfl
end Go.Proofs.Ytoeamalmijnfkaa
