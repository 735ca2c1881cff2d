/-
  pieces: the iterator that hands each piece's header and payload, in order, till the body of the loop says no more.
-/
import Derived.Test.YtoijomdgcgbpbaaFragSpec
import Derived.Test.YtoijomdgcgbpbaaFragLaw
import Derived.RangeFuncBound
import Derived.Shelf.Abstract
import Derived.Shelf.RegionOpen
import Derived.WalkKit
import Derived.OwnWalkIn
import Derived.TacticsInMore
import Derived.LoopNIn
import Derived.LoopIn
namespace Go.Proofs.Ytoijomdgcgbpbaa
open Go.RowKit Go.Shelf
set_option linter.unusedVariables false

attribute [local go_sem] Oper.semAt_some

/-- A header and a payload of no more than M bytes. -/
abbrev It15 (M : Nat) : Type := { x : H4 × ByteArray // x.2.size ≤ M }
/-- What the body is handed. -/
def enc15 {M : Nat} (x : It15 M) : Array Value := #[.agg x.1.1.cells, .string x.1.2]
def len15 : Value → Nat
  | .string s => s.size
  | _ => 0

/-- The three variables that the iterator reads, in blocks ahead of n₀. -/
structure Cap15 (W : World) (n₀ hb pb sb : Nat) (h : H4) (pay : ByteArray) (n : Nat) : Prop where
  h : Blk W hb h.cells 43
  p : Blk W pb #[.string pay] 9
  s : Blk W sb #[.int .i64 (n : Int)] 3
  hlt : hb < n₀
  plt : pb < n₀
  slt : sb < n₀
theorem Cap15.below {W W' : World} {n₀ hb pb sb : Nat} {h : H4} {pay : ByteArray} {n : Nat} (c : Cap15 W n₀ hb pb sb h pay n) (b : Below n₀ W W') : Cap15 W' n₀ hb pb sb h pay n :=
  ⟨(b.block _ c.hlt).trans c.h, (b.block _ c.plt).trans c.p, (b.block _ c.slt).trans c.s, c.hlt, c.plt, c.slt⟩
theorem Cap15.kb {W W' : World} {n₀ hb pb sb B : Nat} {h : H4} {pay : ByteArray} {n : Nat} (c : Cap15 W n₀ hb pb sb h pay n) (hB : n₀ ≤ B) (k : Kb (· = B) W W') : Cap15 W' n₀ hb pb sb h pay n :=
  ⟨c.h.kb k (fun e => by have := c.hlt; omega), c.p.kb k (fun e => by have := c.plt; omega), c.s.kb k (fun e => by have := c.slt; omega), c.hlt, c.plt, c.slt⟩

theorem items15_at {h : H4} {pay : ByteArray} {n i : Nat} (hi : i < fore15 pay n) : (items15 h pay n)[i]? = some (item15 h pay n i) := by
  unfold items15 upto15
  rw [List.getElem?_append_left (by simpa using hi)]
  simp [hi]
theorem items15_end {h : H4} {pay : ByteArray} {n : Nat} : (items15 h pay n)[fore15 pay n]? = some (last15 h pay n) := by
  unfold items15 upto15
  rw [List.getElem?_append_right (by simp)]
  simp
theorem sub15_at {M : Nat} {xs : List (It15 M)} {l : List (H4 × ByteArray)} (hx : xs.map (·.1) = l) {i : Nat} {x : H4 × ByteArray} (h : l[i]? = some x) : ∃ hi : i < xs.length, (xs[i]'hi).1 = x := by
  subst hx
  rw [List.getElem?_map] at h
  cases hy : xs[i]? with
  | none => rw [hy] at h; cases h
  | some y =>
    rw [hy] at h
    obtain ⟨hi, e⟩ := List.getElem?_eq_some_iff.1 hy
    exact ⟨hi, by rw [e]; exact Option.some.inj h⟩
theorem take15 {α : Type} (xs : List α) {i : Nat} (hi : i < xs.length) : xs.take i ++ [xs[i]'hi] = xs.take (i + 1) := (List.take_succ_eq_append_getElem hi).symm
theorem ext15_front {pay : ByteArray} {a n : Nat} (h : a + n ≤ pay.size) : (pay.extract a pay.size).extract 0 n = pay.extract a (a + n) := by
  rw [ByteArray.extract_extract]
  congr 1
  omega
theorem ext15_rest {pay : ByteArray} {a n : Nat} (h : a + n ≤ pay.size) : (pay.extract a pay.size).extract n (pay.extract a pay.size).size = pay.extract (a + n) pay.size := by
  rw [ByteArray.extract_extract, ByteArray.size_extract]
  congr 1
  omega

theorem ext15_all (pay : ByteArray) : pay.extract 0 pay.size = pay := by
  apply text_ext
  rw [extract_list, List.take_of_length_le (by simp), List.drop_zero]

/-- What a round says to the iterator. -/
def Said15 {M : Nat} (J Jx : List (It15 M) → World → Prop) (n₀ B : Nat) (pre : List (It15 M)) (A : World) (b : Bool) (A' : World) : Prop :=
  (b = true ∧ J pre A' ∧ Kept n₀ B A A') ∨ (b = false ∧ Jx pre A')

set_option maxRecDepth 100000 in
set_option maxHeartbeats 2000000 in
theorem pieces1_in {M : Nat} (n₀ hb pb sb : Nat) (h : H4) (pay : ByteArray) (n : Nat) (xs : List (It15 M)) (hx : xs.map (·.1) = items15 h pay n) (hn : 0 < n) (hn2 : n ≤ 65535) (hp : pay.size ≤ 1000000) (ho : 0 ≤ h.off ∧ h.off ≤ 8191)
    (W : World) (hn₀ : n₀ ≤ W.heap.size) (hc : Cap15 W n₀ hb pb sb h pay n) :
    BoxSeq Fence.wide 3 Try.prog 66 #[.pointer (some ⟨hb, 0, none⟩), .pointer (some ⟨pb, 0, none⟩), .pointer (some ⟨sb, 0, none⟩)] enc15 n₀ W.heap.size xs.length (fun ys => ys = xs) (fun pre => pre <+: xs) W := by
  intro l J Jx hJ hJx hY h0
  have HC := Lib.hid hc
  have ⟨z0, z1, z2, z3, z4, z5, z6, z7, z8, z9⟩ := Hc.of hc.h
  have zp := hc.p.cell 0
  simp at zp
  clear hc
  refine callsIn_of_wp Try.func66 rfl trivial ?_ rfl
  simp only [Try.ntmps66, List.size_toArray, List.length_cons, List.length_nil, Nat.reduceAdd, Nat.reduceSub, Array.replicate_succ, Array.replicate_zero, List.push_toArray, List.append_toArray, List.nil_append, List.cons_append]
  gi_wp2_with fail
  have HC1 := HC.out.kb hn₀ ((Kb.refl (· = W.heap.size) W).alloc (.cells #[.int .i64 0, .int .i64 0, .int .i64 0, .int .i64 0, .int .i64 0, .bool false, .bool false, .string { data := #[] }, .string { data := #[] }, .string { data := #[] }] 43))
  have ⟨y0, y1, y2, y3, y4, y5, y6, y7, y8, y9⟩ := Hc.of HC1.h
  have yp := HC1.p.cell 0
  simp at yp
  have HC2 := HC.out.kb hn₀ ((Kb.refl (· = W.heap.size) W).alloc (.cells #[.int .i64 h.tos, .int .i64 h.id, .int .i64 h.off, .int .i64 h.ttl, .int .i64 h.proto, .bool h.df, .bool h.mf, .string h.src, .string h.dst, .string h.opt] 43))
  have xp := HC2.p.cell 0
  simp at xp
  clear HC1 HC2
  have hm : Try.prog.follows .mixedOrders = true := by kernel_rfl
  gi_region
  have K1 : Kb (· = W.heap.size) W ((W.alloc (.cells h.cells 43)).drew) := ((Kb.refl _ W).alloc _).drew
  have B1 : Blk ((W.alloc (.cells h.cells 43)).drew) W.heap.size h.cells 43 := (Blk.new W _ _).drew
  have J1 := Lib.hid (hJ _ _ _ h0 K1)
  have C1 := Lib.hid (HC.out.kb hn₀ K1)
  unfold H4.cells at K1 B1 J1 C1
  have HB1 := Lib.hid B1
  clear K1 B1 z0 z1 z2 z3 z4 z5 z6 z7 z8 z9 zp y0 y1 y2 y3 y4 y5 y6 y7 y8 y9 yp xp HC h0
  generalize hB : W.heap.size = B at *
  generalize (W.alloc (.cells #[.int .i64 h.tos, .int .i64 h.id, .int .i64 h.off, .int .i64 h.ttl, .int .i64 h.proto, .bool h.df, .bool h.mf, .string h.src, .string h.dst, .string h.opt] 43)).drew = W1 at *
  have c6 := HB1.out.cell 6
  have f6 := HB1.out.frozen 6
  simp at c6
  gi_wp2_with fail
  have HB2 := Lib.hid (HB1.out.set 6 (.bool true))
  have K2 : Kb (· = B) W1 (W1.setCell ⟨B, 6, none⟩ (.bool true)) := Kb.setCell (S := (· = B)) (Kb.refl _ W1) (p := ⟨B, 6, none⟩) (fun _ => rfl) _
  have J2 := Lib.hid (hJ _ _ _ J1.out K2)
  have C2 := Lib.hid (C1.out.kb hn₀ K2)
  simp only [List.setIfInBounds_toArray, List.set_cons_zero, List.set_cons_succ] at HB2
  clear K2 HB1 J1 C1 c6 f6
  generalize W1.setCell ⟨B, 6, none⟩ (.bool true) = W2 at *
  gi_loopw [6] (fun v wr => ∃ i : Nat, i ≤ fore15 pay n ∧ v = .string (pay.extract (i * n) pay.size) ∧ J (xs.take i) wr ∧ Blk wr B (h.at15 (i * (n / 8)) true).cells 43 ∧ Cap15 wr n₀ hb pb sb h pay n) (fun v _ => len15 v)
  case atStart => exact ⟨0, Nat.zero_le _, by rw [Nat.zero_mul]; exact congrArg Value.string (ext15_all pay).symm, J2.out, by rw [Nat.zero_mul]; unfold H4.at15 H4.cells; simp only [Int.natCast_zero, Int.add_zero]; exact HB2.out, C2.out⟩
  case round =>
    obtain ⟨i, hi, rfl, hJi, hbi, hci⟩ := hrel
    clear HB2 J2 C2
    have hlt2 := hbi.lt
    have hle := fore15_le hn hi
    have hLs : (pay.extract (i * n) pay.size).size = pay.size - i * n := by rw [ByteArray.size_extract]; omega
    have HL := Lib.hid hLs
    have HI := Lib.hid hi
    have HF : Hid (i < fore15 pay n ↔ n < pay.size - i * n) := fore15_lt hn
    have zs := hci.s.cell 0
    simp at zs
    by_cases hlt : i < fore15 pay n
    · have hfit : i * n + n ≤ pay.size := by have := HF.out.1 hlt; omega
      obtain ⟨hix, ex⟩ := sub15_at hx (items15_at hlt)
      obtain ⟨fn, tmps, assign, body, hy, hR⟩ := hY (xs.take i) (xs[i]'hix) wr.drew (hJ _ _ _ hJi (Kb.refl _ _).drew) hlt2 (by rw [List.length_take]; omega)
      rw [take15 xs hix] at hR
      unfold enc15 at hy
      rw [ex] at hy
      unfold item15 H4.at15 H4.cells at hy
      dsimp only at hy
      have EF := Lib.hid (ext15_front hfit)
      have ER := Lib.hid (ext15_rest hfit)
      unfold H4.at15 H4.cells at hbi
      dsimp only at hbi
      have HR : Hid (RoundIn Fence.wide (3 - 1) Try.prog l fn tmps assign body wr.drew fun e A' => ∃ b : Bool, e = .returned (.bool b) ∧ Said15 J Jx n₀ B (xs.take (i + 1)) wr.drew b A') := by
        refine hR.mono ?_
        rintro e A' (⟨rfl, h1, h2⟩ | ⟨rfl, h1⟩)
        · exact ⟨true, rfl, Or.inl ⟨rfl, h1, h2⟩⟩
        · exact ⟨false, rfl, Or.inr ⟨rfl, h1⟩⟩
      have HO : Hid (h.off + ((i * (n / 8) : Nat) : Int) + ((n / 8 : Nat) : Int) = h.off + (((i + 1) * (n / 8) : Nat) : Int)) := by
        show _ = _
        rw [Nat.add_mul, Nat.one_mul]
        omega
      have hob : h.off + ((i * (n / 8) : Nat) : Int) ≤ 8191 + 1000000 ∧ 0 ≤ h.off + ((i * (n / 8) : Nat) : Int) := by
        have : i * (n / 8) ≤ i * n := Nat.mul_le_mul_left _ (Nat.div_le_self _ _)
        omega
      have HN : Hid (xs[i]'hix = xs[i]'hix) := rfl
      clear hR hJi ex
      generalize hO : h.off + ((i * (n / 8) : Nat) : Int) = O at *
      generalize hT : pay.extract (i * n) (i * n + n) = T at *
      generalize hL : pay.extract (i * n) pay.size = L at *
      have ef := EF.out
      have HB := Lib.hid hbi
      have HC := Lib.hid hci
      have ⟨c0, c1, c2, c3, c4, c5, c6, c7, c8, c9⟩ := Hc.of (h := ⟨h.tos, h.id, O, h.ttl, h.proto, h.df, true, h.src, h.dst, h.opt⟩) hbi
      dsimp only at c0 c1 c2 c3 c4 c5 c6 c7 c8 c9
      have hgt : n < L.size := by rw [HL.out]; exact HF.out.1 hlt
      have HG := Lib.hid hgt
      have HLT := Lib.hid hlt
      clear hlt hbi hci hle hfit HF hi hLs
      gi_wp2_with fail
      gi_region_with_o (refine HR.out.mono ?_; rintro e W3 ⟨b, rfl, hb3⟩)
      all_goals
        rcases hb3 with ⟨rfl, hJ3, hK3⟩ | ⟨rfl, hJx3⟩
        · have HB3 := Lib.hid (show Blk W3 B _ 43 from hK3.own.trans HB.out.drew)
          have HC3 := Lib.hid ((HC.out.kb hn₀ (Kb.refl _ _).drew).below hK3.bel)
          have HJ3 := Lib.hid hJ3
          clear c0 c1 c2 c3 c4 c5 c6 c7 c8 c9 zs hK3 hJ3 HB HC HR
          have c2 := HB3.out.cell 2
          have f2 := HB3.out.frozen 2
          have zs := HC3.out.s.cell 0
          simp at c2 zs
          have er := ER.out
          have hle : n ≤ L.size := by omega
          have e1 : IntKind.i64.wrap (Int.tdiv (n : Int) 8) = ((n / 8 : Nat) : Int) := by rw [Int.tdiv_eq_ediv_of_nonneg (by omega)]; exact IntWalk.i64_in _ (by omega)
          have e2 : IntKind.i64.wrap (O + ((n / 8 : Nat) : Int)) = O + ((n / 8 : Nat) : Int) := IntWalk.i64_in _ (by omega)
          gi_wp2_with fail
          have hv : O + (n : Int) / 8 = h.off + (((i + 1) * (n / 8) : Nat) : Int) := by have := HO.out; omega
          rw [hv]
          have K4 : Kb (· = B) W3 (W3.setCell ⟨B, 2, none⟩ (.int .i64 (h.off + (((i + 1) * (n / 8) : Nat) : Int)))) := Kb.setCell (S := (· = B)) (Kb.refl _ W3) (p := ⟨B, 2, none⟩) (fun _ => rfl) _
          have hs1 : (pay.extract (i * n + n) pay.size).size = pay.size - (i * n + n) := by rw [ByteArray.size_extract]; omega
          refine ⟨⟨i + 1, HLT.out, by rw [Nat.add_mul, Nat.one_mul], hJ _ _ _ HJ3.out K4, ?_, HC3.out.kb hn₀ K4⟩, ?_⟩
          · have hb4 := HB3.out.set 2 (.int .i64 (h.off + (((i + 1) * (n / 8) : Nat) : Int)))
            simp only [List.setIfInBounds_toArray, List.set_cons_zero, List.set_cons_succ] at hb4
            exact hb4
          · have := HL.out
            simp only [len15, hs1]
            omega
        · gi_wp2_with fail
          refine bodyPost_ret (results_none rfl _ _ _) rfl ?_
          exact ⟨⟨_, rfl⟩, .inr ⟨xs.take (i + 1), List.take_prefix _ _, hJx3⟩⟩
    · have hik : i = fore15 pay n := by have := HI.out; omega
      subst hik
      obtain ⟨hix, ex⟩ := sub15_at hx items15_end
      have hxl : fore15 pay n + 1 = xs.length := by rw [← items15_length h pay n, ← hx, List.length_map]
      have hgt : ¬ n < (pay.extract (fore15 pay n * n) pay.size).size := by rw [HL.out, ← HF.out]; exact hlt
      unfold H4.at15 H4.cells at hbi
      dsimp only at hbi
      have HB := Lib.hid hbi
      have HC := Lib.hid hci
      have HJ := Lib.hid hJi
      have y6 := (Hc.of hci.h).c6
      have K4 : Kb (· = B) wr (wr.setCell ⟨B, 6, none⟩ (.bool h.mf)) := Kb.setCell (S := (· = B)) (Kb.refl _ wr) (p := ⟨B, 6, none⟩) (fun _ => rfl) _
      obtain ⟨fn, tmps, assign, body, hy, hR⟩ := hY (xs.take (fore15 pay n)) (xs[fore15 pay n]'hix) _ (hJ _ _ _ hJi K4) (Nat.lt_of_lt_of_le hlt2 K4.size) (by rw [List.length_take]; omega)
      rw [take15 xs hix, hxl, List.take_length] at hR
      unfold enc15 at hy
      rw [ex] at hy
      unfold last15 H4.at15 H4.cells at hy
      dsimp only at hy
      have HR := Lib.hid hR
      generalize hO : h.off + ((fore15 pay n * (n / 8) : Nat) : Int) = O at *
      have ⟨c0, c1, c2, c3, c4, c5, c6, c7, c8, c9⟩ := Hc.of (h := ⟨h.tos, h.id, O, h.ttl, h.proto, h.df, true, h.src, h.dst, h.opt⟩) hbi
      dsimp only at c0 c1 c2 c3 c4 c5 c6 c7 c8 c9
      have f6 := hbi.frozen 6
      have t1 : decide (n < (pay.extract (fore15 pay n * n) pay.size).size) = false := by simp only [decide_eq_false_iff_not]; exact hgt
      clear hbi hci hJi ex hgt hlt hxl hLs hR K4 HL HF HI
      generalize hL : pay.extract (fore15 pay n * n) pay.size = L at *
      gi_wp2_with fail
      refine HR.out.mono ?_
      rintro e W5 (⟨rfl, hJ5, hk5⟩ | ⟨rfl, hJx5⟩)
      · gi_wp2_with fail
        go_end0
        exact ⟨⟨_, rfl⟩, .inl ⟨xs, rfl, hJ5⟩⟩
      · gi_wp2_with fail
        go_end0
        exact ⟨⟨_, rfl⟩, .inr ⟨xs, List.prefix_refl _, hJx5⟩⟩

end Go.Proofs.Ytoijomdgcgbpbaa
