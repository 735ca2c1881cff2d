/-
  Seal: a payload, with its sum.
-/
import Derived.Test.YtmghdgkdnacinaaDoorReading
import Derived.Test.YtmghdgkdnacinaaDoorSums
import Derived.Test.YtmghdgkdnacinaaDoorWriting
import Derived.LoopN
import Derived.BigQuiet
import Derived.IntWalk
namespace Go.Proofs.YtmghdgkdnacinaaDoor
open Go.RowKit
set_option linter.unusedVariables false

/-- Where a payload has its sum; 0: nowhere. -/
def pl9 (proto : Int) (n : Nat) : Nat := if proto = 6 ∧ 20 ≤ n then 16 else if proto = 17 ∧ 8 ≤ n then 6 else 0
/-- What the sum is of, with 00 in its place. -/
def gap9 (proto : Int) (src dst s : ByteArray) (k : Nat) : List UInt8 := pseudoD src.data.toList dst.data.toList proto (s.size : Nat) ++ s.data.toList.take k ++ [0, 0] ++ s.data.toList.drop (k + 2)
def num9 (proto : Int) (src dst s : ByteArray) (k : Nat) : Nat := if sumD (gap9 proto src dst s k) = 0 ∧ proto = 17 then 65535 else sumD (gap9 proto src dst s k)
/-- A text with another number at a place. -/
def with9 (s : ByteArray) (k n : Nat) : ByteArray := ⟨(s.data.toList.take k ++ be n 2 ++ s.data.toList.drop (k + 2)).toArray⟩
def seal9 (proto : Int) (src dst s : ByteArray) : ByteArray := if pl9 proto s.size = 0 then s else with9 s (pl9 proto s.size) (num9 proto src dst s (pl9 proto s.size))
theorem num9_le (proto : Int) (src dst s : ByteArray) (k : Nat) : num9 proto src dst s k ≤ 65535 := by
  have := sumD_le (gap9 proto src dst s k)
  unfold num9
  split <;> omega
theorem with9_cut (s : ByteArray) (k n : Nat) : (⟨((s.extract 0 k).data.toList ++ be n 2 ++ (s.extract (k + 2) s.size).data.toList).toArray⟩ : ByteArray) = with9 s k n := by
  unfold with9
  rw [sl_ext, sl_ext, sl_all]
  rfl
theorem gap9_cut (proto : Int) (src dst s : ByteArray) (k : Nat) (X : ByteArray) (hX : X.data.toList = pseudoD src.data.toList dst.data.toList proto (s.size : Nat)) :
    joinedB (strsOf [X, s.extract 0 k, ⟨#[0, 0]⟩, s.extract (k + 2) s.size]) 4 = gap9 proto src dst s k := by
  have : joinedB (strsOf [X, s.extract 0 k, ⟨#[0, 0]⟩, s.extract (k + 2) s.size]) 4 = X.data.toList ++ (s.extract 0 k).data.toList ++ [0, 0] ++ (s.extract (k + 2) s.size).data.toList := by
    simp [joinedB, joined, strsOf]
  rw [this, hX, sl_ext, sl_ext, sl_all]
  rfl

/-- The program's table of places. -/
def places8 : Array Value := #[.int .i64 6, .int .i64 20, .int .i64 16, .int .i64 0, .int .i64 17, .int .i64 8, .int .i64 6, .int .i64 65535]
structure Places (w : World) : Prop where
  at0 : ∃ T fr, w.heap[1]? = some (.cells places8 T fr)
theorem Places.lt {w : World} (h : Places w) : 1 < w.heap.size := by
  obtain ⟨T, fr, h⟩ := h.at0
  exact (Array.getElem?_eq_some_iff.1 h).1
theorem Places.below {B : Nat} {w w' : World} (h : Places w) (hb : Below B w w') (hB : 1 < B) : Places w' := by
  obtain ⟨T, fr, h0⟩ := h.at0
  exact ⟨T, fr, (hb.block _ hB).trans h0⟩
theorem idxP_0 (u : World) : (Instr.index 138 (.agg places8) (.int .i64 0)).run Tryd.prog u = .ok (.agg #[.int .i64 6, .int .i64 20, .int .i64 16, .int .i64 0]) u := by kernel_rfl
theorem idxP_1 (u : World) : (Instr.index 138 (.agg places8) (.int .i64 1)).run Tryd.prog u = .ok (.agg #[.int .i64 17, .int .i64 8, .int .i64 6, .int .i64 65535]) u := by kernel_rfl

/-- While it is written. -/
structure Pw9 (w u : World) (bs : List UInt8) : Prop where
  wr : Wr u w.heap.size (w.heap.size + 1) bs
  bel : Below w.heap.size w u
theorem Pw9.new (w : World) : Pw9 w (w.alloc (.cells #[.slice none 0 0] 78)) [] :=
  ⟨⟨⟨_, Blk.new w _ _, World.ownsRow_nil _ _ _ _⟩, by omega, by simp⟩, (Below.refl _ _).alloc (Nat.le_refl _) _⟩
theorem Pw9.step {w u u' : World} {bs bs' : List UInt8} (p : Pw9 w u bs) (hw : Wr u' w.heap.size (w.heap.size + 1) bs') (hk : Kb (fun k => k = w.heap.size ∨ w.heap.size + 1 ≤ k) u u') : Pw9 w u' bs' :=
  ⟨hw, p.bel.trans ⟨hk.os, hk.tape, hk.output, hk.size, fun k hk1 => hk.block k (by have := p.bel.size; omega) (by omega)⟩⟩

set_option maxRecDepth 100000 in
set_option maxHeartbeats 1000000 in
theorem withNumber_any (a c : ByteArray) (n : Nat) (w : World) (ha : a.size ≤ 1000000) (hc : c.size ≤ 1000000) (hn : n ≤ 65535) :
    Calls Tryd.prog 81 #[.string a, .int .i64 (n : Nat), .string c] w fun e w' => e = .returned (.string ⟨(a.data.toList ++ be n 2 ++ c.data.toList).toArray⟩) ∧ Below w.heap.size w w' := by
  have P0 := Lib.hid (Pw9.new w)
  have hm : IntKind.u64.wrap (n : Int) = (n : Nat) := by rw [wrap_u64_any]; omega
  have HM := Lib.hid hm
  clear hm
  go_enter Tryd.func81, Tryd.ntmps81
  go_wp2_with fail
  generalize w.alloc (.cells #[.slice none 0 0] 78) = u0 at *
  refine (wtext_any _ _ _ a u0 P0.out.wr (by simp; omega)).mono ?_
  rintro e u1 ⟨rfl, h1, k1⟩
  have P1 := Lib.hid (P0.out.step h1 k1)
  clear h1 k1 P0
  go_wp2_with fail
  refine (wu16_any _ _ _ _ n u1 P1.out.wr HM.out (by omega) (by simp; omega)).mono ?_
  rintro e u2 ⟨rfl, h2, k2⟩
  have P2 := Lib.hid (P1.out.step h2 k2)
  clear h2 k2 P1
  go_wp2_with fail
  refine (wtext_any _ _ _ c u2 P2.out.wr (by simp [be_length]; omega)).mono ?_
  rintro e u3 ⟨rfl, h3, k3⟩
  have P3 := Lib.hid (P2.out.step h3 k3)
  clear h3 k3 P2
  go_wp2_with fail
  refine (wstring_any _ _ _ _ P3.out.wr).mono ?_
  rintro e w' ⟨rfl, rfl⟩
  go_wp2_with fail
  go_ret
  exact ⟨by simp, P3.out.bel⟩

theorem bare_new (w : World) (xs ys : Array Value) (T : TypeId) : Blk ((w.alloc (.cells xs T)).alloc (.cells ys T)) (w.heap.size + 1) ys T := by
  have e := Blk.new (w.alloc (.cells xs T)) ys T
  rwa [show (w.alloc (.cells xs T)).heap.size = w.heap.size + 1 from by simp] at e

set_option maxRecDepth 100000 in
set_option maxHeartbeats 1000000 in
theorem seal_any (proto : Int) (src dst s : ByteArray) (w : World) (hg : Places w) (hs : src.size ≤ 100000) (hd : dst.size ≤ 100000) (hz : s.size ≤ 800000) :
    Calls Tryd.prog 56 #[.int .i64 proto, .string src, .string dst, .string s] w fun e w' => e = .returned (.string (seal9 proto src dst s)) ∧ Below w.heap.size w w' := by
  have hi : (Tryd.prog.info? 138).map (·.size) = some places8.size := by kernel_rfl
  obtain ⟨T0, fr0, hg0⟩ := hg.at0
  have i0 := idxP_0
  have i1 := idxP_1
  go_enter Tryd.func56, Tryd.ntmps56
  go_wp2_with (refine wpList_load_row rfl 138 (.global 1) rfl 1 rfl T0 places8 fr0 _ hg0 Tryd.underlying138 rfl hi ?_)
  clear hg0 hi hg
  refine wp_loop_rounds 3 ?_
  rw [rounds_succ]
  by_cases h6 : proto = 6 ∧ 20 ≤ s.size
  · obtain ⟨h6, hz6⟩ := h6
    have t1 : ((6 : Int) == proto) = true := by simp; omega
    have t2 : decide ((20 : Int) ≤ (s.size : Int)) = true := by simp; omega
    have hsl : seal9 proto src dst s = with9 s 16 (num9 proto src dst s 16) := by
      have hp : pl9 proto s.size = 16 := by unfold pl9; rw [if_pos ⟨h6, hz6⟩]
      unfold seal9
      rw [hp, if_neg (by decide)]
    have HSL := Lib.hid hsl
    have hnl := num9_le proto src dst s 16
    have hnum : num9 proto src dst s 16 = if sumD (gap9 proto src dst s 16) = 0 then 0 else sumD (gap9 proto src dst s 16) := by
      unfold num9
      split <;> split <;> omega
    have HW0 := fun W => withNumber_any (s.extract 0 16) (s.extract (16 + 2) s.size) (num9 proto src dst s 16) W (by rw [ByteArray.size_extract]; omega) (by rw [ByteArray.size_extract]; omega) hnl
    rw [with9_cut] at HW0
    have HW := Lib.hid HW0
    clear HW0
    have HPS := Lib.hid (fun W => pseudo_any src dst proto (s.size : Nat) W (by omega) (by omega))
    have hlen : (pseudoD src.data.toList dst.data.toList proto (s.size : Nat)).length ≤ 300000 := by
      unfold pseudoD
      split <;> simp only [List.length_append, size_list, List.length_cons, List.length_nil] <;> omega
    have hcut := gap9_cut proto src dst s 16 ⟨(pseudoD src.data.toList dst.data.toList proto (s.size : Nat)).toArray⟩ rfl
    have hgl : (joinedB (strsOf [⟨(pseudoD src.data.toList dst.data.toList proto (s.size : Nat)).toArray⟩, s.extract 0 16, ⟨#[0, 0]⟩, s.extract (16 + 2) s.size]) 4).length ≤ 1099511627776 := by
      rw [hcut]
      unfold gap9
      simp only [List.length_append, List.length_take, List.length_drop, size_list, List.length_cons, List.length_nil]
      omega
    have HSM := Lib.hid (fun W => lit_sum [⟨(pseudoD src.data.toList dst.data.toList proto (s.size : Nat)).toArray⟩, s.extract 0 16, ⟨#[0, 0]⟩, s.extract (16 + 2) s.size] W 4 #[.string ⟨(pseudoD src.data.toList dst.data.toList proto (s.size : Nat)).toArray⟩, .string (s.extract 0 16), .string ⟨#[0, 0]⟩, .string (s.extract (16 + 2) s.size)] rfl rfl hgl (by decide))
    rw [hcut] at HSM
    clear hcut hgl hlen hsl h6
    generalize sumD (gap9 proto src dst s 16) = m at *
    generalize num9 proto src dst s 16 = nn at *
    generalize (⟨(pseudoD src.data.toList dst.data.toList proto (s.size : Nat)).toArray⟩ : ByteArray) = X at *
    have HN := Lib.hid hnum
    clear hnum hnl
    have hz' : 16 + 2 ≤ s.size := by omega
    have b1 : (16 : Int) ≤ (s.size : Int) := by omega
    have b2 : (18 : Int) ≤ (s.size : Int) := by omega
    go_wp2_with fail
    go_quiet (fail)
    have BX := Lib.hid ((Blk.new w #[.int .i64 6, .int .i64 20, .int .i64 16, .int .i64 0] 137).drewN nq)
    have LX := Lib.hid (below_drewN (((Below.refl w.heap.size w).alloc (Nat.le_refl _) (Obj.cells #[.int .i64 6, .int .i64 20, .int .i64 16, .int .i64 0] 137))) nq)
    generalize (w.alloc (Obj.cells #[.int .i64 6, .int .i64 20, .int .i64 16, .int .i64 0] 137)).drewN nq = u1 at *
    clear i0 i1
    go_wp2_with fail
    refine (HPS.out _).mono ?_
    rintro e u2 ⟨rfl, hb2⟩
    have BX2 : Hid (Blk u2 (w.heap.size) #[.int .i64 6, .int .i64 20, .int .i64 16, .int .i64 0] 137) := (hb2.block _ BX.out.lt).trans BX.out
    have LX2 := Lib.hid (LX.out.trans (hb2.mono LX.out.size))
    clear BX LX HPS hb2
    go_wp2_with fail
    refine (HSM.out _).mono ?_
    rintro e u3 ⟨rfl, hb3⟩
    have BX3 : Hid (Blk u3 (w.heap.size) #[.int .i64 6, .int .i64 20, .int .i64 16, .int .i64 0] 137) := (hb3.block _ BX2.out.lt).trans BX2.out
    have LX3 := Lib.hid (LX2.out.trans (hb3.mono LX2.out.size))
    have x3 := BX3.out.cell 3
    simp at x3
    have xl := BX3.out.lt
    clear BX2 LX2 HSM hb3
    by_cases hm : m = 0
    · have t3 : ((m : Int) == 0) = true := by simp; omega
      have hn2 := HN.out.trans (if_pos hm)
      subst hn2
      clear hm HN
      go_wp2_with fail
      refine (HW.out _).mono ?_
      rintro e u4 ⟨rfl, hb4⟩
      have LX4 := Lib.hid (LX3.out.trans (hb4.mono LX3.out.size))
      go_wp2_with fail
      go_ret
      exact ⟨by rw [HSL.out]; rfl, LX4.out⟩
    have t3 : ((m : Int) == 0) = false := by simp; omega
    have hn2 := HN.out.trans (if_neg hm)
    subst hn2
    clear hm HN
    go_wp2_with fail
    refine (HW.out _).mono ?_
    rintro e u4 ⟨rfl, hb4⟩
    have LX4 := Lib.hid (LX3.out.trans (hb4.mono LX3.out.size))
    go_wp2_with fail
    go_ret
    exact ⟨by rw [HSL.out]; rfl, LX4.out⟩
  by_cases h17 : proto = 17 ∧ 8 ≤ s.size
  · obtain ⟨h17, hz8⟩ := h17
    have t1 : ((6 : Int) == proto) = false := by simp; omega
    have t1b : ((17 : Int) == proto) = true := by simp; omega
    have t2 : decide ((8 : Int) ≤ (s.size : Int)) = true := by simp; omega
    go_wp2_with fail
    rw [rounds_succ]
    have hsl : seal9 proto src dst s = with9 s 6 (num9 proto src dst s 6) := by
      have hp : pl9 proto s.size = 6 := by unfold pl9; rw [if_neg h6, if_pos ⟨h17, hz8⟩]
      unfold seal9
      rw [hp, if_neg (by decide)]
    have HSL := Lib.hid hsl
    have hnl := num9_le proto src dst s 6
    have hnum : num9 proto src dst s 6 = if sumD (gap9 proto src dst s 6) = 0 then 65535 else sumD (gap9 proto src dst s 6) := by
      unfold num9
      split <;> split <;> omega
    have HW0 := fun W => withNumber_any (s.extract 0 6) (s.extract (6 + 2) s.size) (num9 proto src dst s 6) W (by rw [ByteArray.size_extract]; omega) (by rw [ByteArray.size_extract]; omega) hnl
    rw [with9_cut] at HW0
    have HW := Lib.hid HW0
    clear HW0
    have HPS := Lib.hid (fun W => pseudo_any src dst proto (s.size : Nat) W (by omega) (by omega))
    have hlen : (pseudoD src.data.toList dst.data.toList proto (s.size : Nat)).length ≤ 300000 := by
      unfold pseudoD
      split <;> simp only [List.length_append, size_list, List.length_cons, List.length_nil] <;> omega
    have hcut := gap9_cut proto src dst s 6 ⟨(pseudoD src.data.toList dst.data.toList proto (s.size : Nat)).toArray⟩ rfl
    have hgl : (joinedB (strsOf [⟨(pseudoD src.data.toList dst.data.toList proto (s.size : Nat)).toArray⟩, s.extract 0 6, ⟨#[0, 0]⟩, s.extract (6 + 2) s.size]) 4).length ≤ 1099511627776 := by
      rw [hcut]
      unfold gap9
      simp only [List.length_append, List.length_take, List.length_drop, size_list, List.length_cons, List.length_nil]
      omega
    have HSM := Lib.hid (fun W => lit_sum [⟨(pseudoD src.data.toList dst.data.toList proto (s.size : Nat)).toArray⟩, s.extract 0 6, ⟨#[0, 0]⟩, s.extract (6 + 2) s.size] W 4 #[.string ⟨(pseudoD src.data.toList dst.data.toList proto (s.size : Nat)).toArray⟩, .string (s.extract 0 6), .string ⟨#[0, 0]⟩, .string (s.extract (6 + 2) s.size)] rfl rfl hgl (by decide))
    rw [hcut] at HSM
    clear hcut hgl hlen hsl h6 h17
    generalize sumD (gap9 proto src dst s 6) = m at *
    generalize num9 proto src dst s 6 = nn at *
    generalize (⟨(pseudoD src.data.toList dst.data.toList proto (s.size : Nat)).toArray⟩ : ByteArray) = X at *
    have HN := Lib.hid hnum
    clear hnum hnl
    have hz' : 6 + 2 ≤ s.size := by omega
    have b1 : (6 : Int) ≤ (s.size : Int) := by omega
    have b2 : (8 : Int) ≤ (s.size : Int) := by omega
    go_wp2_with fail
    go_quiet (fail)
    have BX := Lib.hid (((bare_new w _ _ 137 : Blk ((w.alloc (Obj.cells #[.int .i64 6, .int .i64 20, .int .i64 16, .int .i64 0] 137)).alloc (Obj.cells #[.int .i64 17, .int .i64 8, .int .i64 6, .int .i64 65535] 137)) (w.heap.size + 1) #[.int .i64 17, .int .i64 8, .int .i64 6, .int .i64 65535] 137)).drewN nq)
    have LX := Lib.hid (below_drewN (((Below.refl w.heap.size w).alloc (Nat.le_refl _) (Obj.cells #[.int .i64 6, .int .i64 20, .int .i64 16, .int .i64 0] 137)).alloc (by simp) (Obj.cells #[.int .i64 17, .int .i64 8, .int .i64 6, .int .i64 65535] 137)) nq)
    generalize ((w.alloc (Obj.cells #[.int .i64 6, .int .i64 20, .int .i64 16, .int .i64 0] 137)).alloc (Obj.cells #[.int .i64 17, .int .i64 8, .int .i64 6, .int .i64 65535] 137)).drewN nq = u1 at *
    clear i0 i1
    go_wp2_with fail
    refine (HPS.out _).mono ?_
    rintro e u2 ⟨rfl, hb2⟩
    have BX2 : Hid (Blk u2 (w.heap.size + 1) #[.int .i64 17, .int .i64 8, .int .i64 6, .int .i64 65535] 137) := (hb2.block _ BX.out.lt).trans BX.out
    have LX2 := Lib.hid (LX.out.trans (hb2.mono LX.out.size))
    clear BX LX HPS hb2
    go_wp2_with fail
    refine (HSM.out _).mono ?_
    rintro e u3 ⟨rfl, hb3⟩
    have BX3 : Hid (Blk u3 (w.heap.size + 1) #[.int .i64 17, .int .i64 8, .int .i64 6, .int .i64 65535] 137) := (hb3.block _ BX2.out.lt).trans BX2.out
    have LX3 := Lib.hid (LX2.out.trans (hb3.mono LX2.out.size))
    have x3 := BX3.out.cell 3
    simp at x3
    have xl := BX3.out.lt
    clear BX2 LX2 HSM hb3
    by_cases hm : m = 0
    · have t3 : ((m : Int) == 0) = true := by simp; omega
      have hn2 := HN.out.trans (if_pos hm)
      subst hn2
      clear hm HN
      go_wp2_with fail
      refine (HW.out _).mono ?_
      rintro e u4 ⟨rfl, hb4⟩
      have LX4 := Lib.hid (LX3.out.trans (hb4.mono LX3.out.size))
      go_wp2_with fail
      go_ret
      exact ⟨by rw [HSL.out]; rfl, LX4.out⟩
    have t3 : ((m : Int) == 0) = false := by simp; omega
    have hn2 := HN.out.trans (if_neg hm)
    subst hn2
    clear hm HN
    go_wp2_with fail
    refine (HW.out _).mono ?_
    rintro e u4 ⟨rfl, hb4⟩
    have LX4 := Lib.hid (LX3.out.trans (hb4.mono LX3.out.size))
    go_wp2_with fail
    go_ret
    exact ⟨by rw [HSL.out]; rfl, LX4.out⟩
  have HSL : Hid (seal9 proto src dst s = s) := by
    show seal9 proto src dst s = s
    unfold seal9 pl9
    rw [if_neg h6, if_neg h17, if_pos rfl]
  have LX := Lib.hid (((Below.refl w.heap.size w).alloc (Nat.le_refl _) (Obj.cells #[.int .i64 6, .int .i64 20, .int .i64 16, .int .i64 0] 137)).alloc (by simp) (Obj.cells #[.int .i64 17, .int .i64 8, .int .i64 6, .int .i64 65535] 137))
  have no : (((6 : Int) == proto) = false ∧ ((17 : Int) == proto) = false) ∨ (((6 : Int) == proto) = true ∧ ((17 : Int) == proto) = false ∧ decide ((20 : Int) ≤ (s.size : Int)) = false) ∨ (((6 : Int) == proto) = false ∧ ((17 : Int) == proto) = true ∧ decide ((8 : Int) ≤ (s.size : Int)) = false) := by
    simp
    omega
  rcases no with ⟨t1, t2⟩ | ⟨t1, t2, t3⟩ | ⟨t1, t2, t3⟩
  · clear h6 h17
    go_wp2_with fail
    rw [rounds_succ]
    go_wp2_with fail
    rw [rounds_succ]
    go_wp2_with fail
    go_ret
    exact ⟨by rw [HSL.out]; rfl, LX.out⟩
  · clear h6 h17
    go_wp2_with fail
    rw [rounds_succ]
    go_wp2_with fail
    rw [rounds_succ]
    go_wp2_with fail
    go_ret
    exact ⟨by rw [HSL.out]; rfl, LX.out⟩
  · clear h6 h17
    go_wp2_with fail
    rw [rounds_succ]
    go_wp2_with fail
    rw [rounds_succ]
    go_wp2_with fail
    go_ret
    exact ⟨by rw [HSL.out]; rfl, LX.out⟩

end Go.Proofs.YtmghdgkdnacinaaDoor

/-
  What is sealed, plain.
-/
namespace Go.Proofs.YtmghdgkdnacinaaDoor
open Go.RowKit
set_option linter.unusedVariables false

theorem with9_front (s : ByteArray) (k n : Nat) (h : k + 2 ≤ s.size) : (with9 s k n).data.toList.take k = s.data.toList.take k := by
  show (s.data.toList.take k ++ be n 2 ++ s.data.toList.drop (k + 2)).take k = _
  rw [List.append_assoc]
  exact List.take_left' (by rw [List.length_take, size_list]; omega)
theorem with9_back (s : ByteArray) (k n : Nat) (h : k + 2 ≤ s.size) : (with9 s k n).data.toList.drop (k + 2) = s.data.toList.drop (k + 2) := by
  show (s.data.toList.take k ++ be n 2 ++ s.data.toList.drop (k + 2)).drop (k + 2) = _
  exact List.drop_left' (by rw [List.length_append, List.length_take, be_length, size_list]; omega)
theorem with9_size (s : ByteArray) (k n : Nat) (h : k + 2 ≤ s.size) : (with9 s k n).size = s.size := by
  rw [← size_list]
  show (s.data.toList.take k ++ be n 2 ++ s.data.toList.drop (k + 2)).length = _
  rw [List.length_append, List.length_append, List.length_take, List.length_drop, be_length, size_list]
  omega
theorem with9_with (s : ByteArray) (k n m : Nat) (h : k + 2 ≤ s.size) : with9 (with9 s k n) k m = with9 s k m := by
  have f := with9_front s k n h
  have b := with9_back s k n h
  generalize with9 s k n = S at *
  unfold with9
  rw [f, b]
theorem gap9_with (proto : Int) (src dst s : ByteArray) (k n : Nat) (h : k + 2 ≤ s.size) : gap9 proto src dst (with9 s k n) k = gap9 proto src dst s k := by
  unfold gap9
  rw [with9_front s k n h, with9_back s k n h, with9_size s k n h]
theorem num9_with (proto : Int) (src dst s : ByteArray) (k n : Nat) (h : k + 2 ≤ s.size) : num9 proto src dst (with9 s k n) k = num9 proto src dst s k := by
  unfold num9
  rw [gap9_with proto src dst s k n h]
theorem gap9_turned (proto : Int) (src dst s : ByteArray) (k : Nat) (hl : dst.size = src.size) (he : src.size % 2 = 0) : sumD (gap9 proto dst src s k) = sumD (gap9 proto src dst s k) := by
  unfold gap9 pseudoD
  rw [size_list, size_list, hl]
  split
  · simp only [List.append_assoc]
    rw [← List.append_assoc, ← List.append_assoc src.data.toList]
    exact order_sum _ _ _ (by rw [size_list, hl]; exact he) (by rw [size_list]; exact he)
  · simp only [List.append_assoc]
    rw [← List.append_assoc, ← List.append_assoc src.data.toList]
    exact order_sum _ _ _ (by rw [size_list, hl]; exact he) (by rw [size_list]; exact he)
theorem num9_turned (proto : Int) (src dst s : ByteArray) (k : Nat) (hl : dst.size = src.size) (he : src.size % 2 = 0) : num9 proto dst src s k = num9 proto src dst s k := by
  unfold num9
  rw [gap9_turned proto src dst s k hl he]

/-- Of a payload that was sealed. -/
structure Sealed (proto : Int) (k : Nat) (src dst s S : ByteArray) : Prop where
  size : S.size = s.size
  front : S.extract 0 k = s.extract 0 k
  back : S.extract (k + 2) S.size = s.extract (k + 2) s.size
  again : seal9 proto src dst S = S
  turned : seal9 proto dst src S = S
  num : numOf S k 2 = num9 proto src dst s k
theorem pl9_long {proto : Int} {n : Nat} (h : pl9 proto n ≠ 0) : pl9 proto n + 2 ≤ n := by
  unfold pl9 at *
  split at h
  · split <;> omega
  · split at h
    · split <;> omega
    · exact absurd rfl h
theorem sealed9 (proto : Int) (k : Nat) (src dst s : ByteArray) (hp : pl9 proto s.size = k) (hk : k ≠ 0) (hl : dst.size = src.size) (he : src.size % 2 = 0) : Sealed proto k src dst s (seal9 proto src dst s) := by
  have h2 : k + 2 ≤ s.size := by rw [← hp]; exact pl9_long (by omega)
  have e : seal9 proto src dst s = with9 s k (num9 proto src dst s k) := by unfold seal9; rw [hp, if_neg hk]
  have nl := num9_le proto src dst s k
  rw [e]
  have hs := with9_size s k (num9 proto src dst s k) h2
  refine ⟨hs, ?_, ?_, ?_, ?_, ?_⟩
  · apply text_ext
    rw [sl_ext, sl_ext]
    unfold sl
    rw [with9_front s k _ h2]
  · apply text_ext
    rw [sl_ext, sl_ext, sl_all, sl_all, with9_back s k _ h2]
  · unfold seal9
    rw [hs, hp, if_neg hk, num9_with _ _ _ _ _ _ h2, with9_with _ _ _ _ h2]
  · unfold seal9
    rw [hs, hp, if_neg hk, num9_with _ _ _ _ _ _ h2, with9_with _ _ _ _ h2, num9_turned _ _ _ _ _ hl he]
  · refine num_seg (a := s.data.toList.take k) (b := be (num9 proto src dst s k) 2) (c := s.data.toList.drop (k + 2)) ?_ (by rw [List.length_take, size_list]; omega) rfl (by show _ < 65536; omega)
    show s.data.toList.take k ++ be _ 2 ++ s.data.toList.drop (k + 2) = _
    rw [List.append_assoc]
theorem num9_not (src dst s : ByteArray) (k : Nat) : num9 17 src dst s k ≠ 0 := by
  unfold num9
  split
  · decide
  · rename_i h
    intro h0
    exact h ⟨h0, rfl⟩
theorem seal9_none {proto : Int} {s : ByteArray} (src dst : ByteArray) (h : pl9 proto s.size = 0) : seal9 proto src dst s = s := by
  unfold seal9; rw [if_pos h]

end Go.Proofs.YtmghdgkdnacinaaDoor
