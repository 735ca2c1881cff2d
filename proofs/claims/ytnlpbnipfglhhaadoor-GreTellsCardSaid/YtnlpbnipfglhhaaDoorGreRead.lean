/-
  Reading a header's front, and the packet behind it.
-/
import Derived.Test.YtnlpbnipfglhhaaDoorGreSpec
import Derived.Test.YtnlpbnipfglhhaaDoorReading
import Derived.Test.YtnlpbnipfglhhaaDoorGround
import Derived.Test.YtnlpbnipfglhhaaDoorIpip
namespace Go.Proofs.YtnlpbnipfglhhaaDoor
open Go.RowKit
set_option linter.unusedVariables false

theorem Vers.kb {S : Nat → Prop} {w w' : World} (h : Vers w) (k : Kb S w w') (hs : ¬ S 0) : Vers w' := by
  have hlt := h.lt
  obtain ⟨T, fr, h0⟩ := h.at0
  exact ⟨T, fr, (k.block _ hlt hs).trans h0⟩

/-- A number but for some of its bits. -/
theorem i64_andNot_nat (a b : Nat) (ha : a < 9223372036854775808) (hb : b < 9223372036854775808) : bits .andNot .i64 (a : Int) (b : Int) = ((a &&& (2 ^ 64 - (b + 1)) : Nat) : Int) := by
  show IntKind.i64.wrap ((BitVec.ofInt 64 (a : Int) &&& ~~~BitVec.ofInt 64 (b : Int)).toNat : Nat) = _
  rw [BitVec.ofInt_natCast, BitVec.ofInt_natCast, BitVec.toNat_and, BitVec.toNat_not, BitVec.toNat_ofNat, BitVec.toNat_ofNat, Nat.mod_eq_of_lt (show a < 2 ^ 64 by omega), Nat.mod_eq_of_lt (show b < 2 ^ 64 by omega), IntKind.wrap_i64, Nat.sub_sub, Nat.add_comm 1 b]
  have := Nat.and_le_left (n := a) (m := 2 ^ 64 - (b + 1))
  omega
theorem land_rest (n b : Nat) (hn : n < 2 ^ 64) (h : n &&& (2 ^ 64 - (b + 1)) = 0) (hb : b < 2 ^ 64) : n &&& b = n := by
  apply Nat.eq_of_testBit_eq
  intro i
  have hi := congrArg (fun x => Nat.testBit x i) h
  simp only [Nat.testBit_and, Nat.zero_testBit, Nat.testBit_two_pow_sub_succ hb] at hi
  rw [Nat.testBit_and]
  cases hx : n.testBit i with
  | false => simp
  | true =>
    rw [hx] at hi
    by_cases h64 : i < 64
    · simpa [h64] using hi
    · have := Nat.testBit_lt_two_pow (x := n) (i := i) (Nat.lt_of_lt_of_le hn (Nat.pow_le_pow_right (by decide) (by omega)))
      rw [hx] at this
      exact absurd this (by decide)
theorem andNot_zero (n : Nat) (hn : n < 65536) : ((bits .andNot .i64 (n : Int) 40960) == 0) = decide (n = 0 ∨ n = 8192 ∨ n = 32768 ∨ n = 40960) := by
  have e := i64_andNot_nat n 40960 (by omega) (by decide)
  rw [show ((40960 : Nat) : Int) = 40960 from rfl] at e
  rw [e]
  by_cases h : n &&& (2 ^ 64 - (40960 + 1)) = 0
  · rw [h]
    have h1 := land_rest n 40960 (by omega) h (by decide)
    have h2 : (40960 : Nat) = 2 ^ 13 ||| 2 ^ 15 := by decide
    rw [h2, Nat.and_or_distrib_left, and_pow, and_pow] at h1
    have : n = 0 ∨ n = 8192 ∨ n = 32768 ∨ n = 40960 := by
      split at h1 <;> split at h1 <;> (have h3 := h1.symm; first | (right; right; right; exact h3.trans (by decide)) | (right; left; exact h3.trans (by decide)) | (right; right; left; exact h3.trans (by decide)) | (left; exact h3.trans (by decide)))
    simp [this]
  · have : ¬ (n = 0 ∨ n = 8192 ∨ n = 32768 ∨ n = 40960) := by
      rintro (rfl | rfl | rfl | rfl) <;> exact h (by decide)
    simp only [decide_eq_false this]
    simp
    omega

/-- How the front ends. -/
def Front12End (R : Nat) (b : ByteArray) (u : World) (e : Ending) (u' : World) : Prop :=
  Kb (· = R) u u' ∧ ((∃ s k, f12 b = .ok s k ∧ Rd u' R b 4 ∧ e = .returned (.tuple #[.agg (H12.cells ⟨s, k, 0⟩), .int .i64 (numOf b 2 2 : Nat)])) ∨ (∃ n : Nat, f12 b = .stop n ∧ e = .panicked (stopped n)))

/-- A header stored into a block, cell by cell. -/
def put12c (v : World) (N : Nat) (h : H12) : World := ((v.setCell ⟨N, 0, none⟩ (.bool h.sum)).setCell ⟨N, 1, none⟩ (.bool h.key)).setCell ⟨N, 2, none⟩ (.int .u32 (h.v : Nat))
theorem put12c_blk {v : World} {N : Nat} {g : H12} {T : TypeId} (hb : Blk v N g.cells T) (h : H12) : Blk (put12c v N h) N h.cells T :=
  ((hb.set 0 (.bool h.sum)).set 1 (.bool h.key)).set 2 (.int .u32 (h.v : Nat))
theorem put12c_kb {S : Nat → Prop} {u v : World} {N : Nat} (hk : Kb S u v) (hN : N < u.heap.size → S N) (h : H12) : Kb S u (put12c v N h) :=
  ((hk.setCell (p := ⟨N, 0, none⟩) hN _).setCell (p := ⟨N, 1, none⟩) hN _).setCell (p := ⟨N, 2, none⟩) hN _
theorem put12c_other {v : World} {N M : Nat} {xs : Array Value} {T : TypeId} (hb : Blk v M xs T) (hn : M ≠ N) (h : H12) : Blk (put12c v N h) M xs T :=
  ((hb.set_other (p := ⟨N, 0, none⟩) hn _).set_other (p := ⟨N, 1, none⟩) hn _).set_other (p := ⟨N, 2, none⟩) hn _
/-- A header's three cells. -/
structure Hc12s (w : World) (b : Nat) (h : H12) : Prop where
  c0 : w.cell? ⟨b, 0, none⟩ = some (.bool h.sum)
  c1 : w.cell? ⟨b, 1, none⟩ = some (.bool h.key)
  c2 : w.cell? ⟨b, 2, none⟩ = some (.int .u32 (h.v : Nat))
theorem Hc12s.of {w : World} {b : Nat} {h : H12} {T : TypeId} (hb : Blk w b h.cells T) : Hc12s w b h := ⟨hb.cell 0, hb.cell 1, hb.cell 2⟩

/-- While it reads: the reader, the answer's block. -/
structure Rw12 (u v : World) (R : Nat) (p : ByteArray) (i : Nat) (h : H12) : Prop where
  rd : Rd v R p i
  kb : Kb (· = R) u v
  zb : Blk v u.heap.size h.cells 28
  lt : R < u.heap.size
theorem Rw12.step {u v v' : World} {R : Nat} {p : ByteArray} {i j : Nat} {h : H12} (r : Rw12 u v R p i h) (hr : Rd v' R p j) (hk : Kb (· = R) v v') : Rw12 u v' R p j h :=
  ⟨hr, r.kb.trans hk, r.zb.kb hk (by have := r.lt; omega), r.lt⟩
theorem Rw12.new {u : World} {R : Nat} {p : ByteArray} {i : Nat} (hr : Rd u R p i) : Rw12 u (u.alloc (.cells H12.zero.cells 28)) R p i H12.zero :=
  ⟨hr.alloc _, (Kb.refl _ _).alloc _, Blk.new u _ _, hr.lt⟩
theorem rw12_u16 {u v : World} {R : Nat} {p : ByteArray} {i : Nat} {h : H12} (r : Rw12 u v R p i h) (hi : i + 2 ≤ p.size) (hs : p.size ≤ 1000000) :
    Calls Tryd.prog 37 #[.pointer (some ⟨R, 0, none⟩)] v fun e v' => e = .returned (.int .i64 (numOf p i 2)) ∧ Rw12 u v' R p (i + 2) h :=
  (u16_yes R p i v r.rd hi (by unfold maxLen; omega)).mono fun e v' hh => ⟨hh.1, r.step hh.2.1 hh.2.2⟩
theorem Front12End.stop {u u' : World} {R : Nat} {p : ByteArray} {k : Nat} (hk : Kb (· = R) u u') (he : f12 p = .stop k) : Front12End R p u (.panicked (stopped (k : Nat))) u' :=
  ⟨hk, Or.inr ⟨k, he, rfl⟩⟩

set_option maxRecDepth 100000 in
set_option maxHeartbeats 2000000 in
theorem readFront_any (R : Nat) (b : ByteArray) (u : World) (hr : Rd u R b 0) (hs : b.size ≤ 1000000) :
    Calls Tryd.prog 33 #[.pointer (some ⟨R, 0, none⟩)] u (Front12End R b u) := by
  have V0 := Lib.hid (Rw12.new hr)
  have HS := Lib.hid hs
  clear hr hs
  have F2 : Hid (b.size < 4 → f12 b = .stop 2) := fun h => by unfold f12; rw [if_pos h]
  go_enter Tryd.func33, Tryd.ntmps33
  go_wp2_with fail
  simp only [show #[Value.bool false, Value.bool false, Value.int IntKind.u32 0] = H12.zero.cells from rfl]
  generalize u.alloc (.cells H12.zero.cells 28) = u0 at *
  by_cases h0 : 0 + 2 ≤ b.size
  case neg =>
    refine (u16_no R b 0 u0 V0.out.rd (by omega) (by omega) (by have := HS.out; unfold maxLen; omega)).mono ?_
    rintro e w' ⟨rfl, m, rfl⟩
    exact ⟨rfl, Front12End.stop (k := 2) (V0.out.kb.drewN m) (F2.out (by omega))⟩
  refine (rw12_u16 V0.out h0 HS.out).mono ?_
  rintro e v1 ⟨rfl, r1⟩
  have V1 := Lib.hid r1
  clear r1 V0
  go_wp2_with fail
  by_cases h2 : 2 + 2 ≤ b.size
  case neg =>
    refine (u16_no R b 2 v1 V1.out.rd (by omega) (by omega) (by have := HS.out; unfold maxLen; omega)).mono ?_
    rintro e w' ⟨rfl, m, rfl⟩
    exact ⟨rfl, Front12End.stop (k := 2) (V1.out.kb.drewN m) (F2.out (by omega))⟩
  have HQ : Hid (f12 b = if numOf b 0 2 % 8 ≠ 0 then .stop 3
      else if numOf b 0 2 = 0 then .ok false false else if numOf b 0 2 = 8192 then .ok false true else if numOf b 0 2 = 32768 then .ok true false else if numOf b 0 2 = 40960 then .ok true true else .stop 9) := by
    show f12 b = _
    unfold f12
    rw [if_neg (by omega)]
  refine (rw12_u16 V1.out h2 HS.out).mono ?_
  rintro e v2 ⟨rfl, r2⟩
  have V2 := Lib.hid r2
  clear r2 V1 F2 h0
  have hl := numOf_lt b 0 2 (by omega)
  have e7 := i64_mask 3 (by decide) (numOf b 0 2 : Nat)
  rw [show (((2 ^ 3 - 1 : Nat)) : Int) = 7 from rfl, show (((2 ^ 3 : Nat)) : Int) = 8 from rfl] at e7
  have eN := andNot_zero (numOf b 0 2) hl
  generalize hm : numOf b 2 2 = m at *
  have HM := Lib.hid hm
  clear hm h2
  generalize numOf b 0 2 = n at *
  go_wp2_with fail
  by_cases h8 : n % 8 = 0
  case neg =>
    have hq := HQ.out
    rw [if_pos h8] at hq
    refine (need_no _ _ _ _ (by simp; omega)).mono ?_
    rintro e w' ⟨rfl, rfl⟩
    exact ⟨rfl, Front12End.stop (k := 3) V2.out.kb hq⟩
  refine (need_yes _ _ _ _ (by simp; omega)).mono ?_
  rintro e w' ⟨rfl, rfl⟩
  have hq := HQ.out
  rw [if_neg (by omega)] at hq
  clear HQ e7
  go_wp2_with fail
  by_cases h9 : n = 0 ∨ n = 8192 ∨ n = 32768 ∨ n = 40960
  case neg =>
    have hq' : f12 b = .stop 9 := by rw [hq, if_neg (by omega), if_neg (by omega), if_neg (by omega), if_neg (by omega)]
    refine (need_no _ _ _ _ (by simp; omega)).mono ?_
    rintro e w' ⟨rfl, rfl⟩
    exact ⟨rfl, Front12End.stop (k := 9) V2.out.kb hq'⟩
  refine (need_yes _ _ _ _ (by simp; omega)).mono ?_
  rintro e w' ⟨rfl, rfl⟩
  obtain ⟨s, k, hs1, hk1, hok⟩ : ∃ s k, bits .and .i64 (n : Int) 32768 = (if s then 32768 else 0) ∧ bits .and .i64 (n : Int) 8192 = (if k then 8192 else 0) ∧ f12 b = .ok s k := by
    rcases h9 with rfl | rfl | rfl | rfl
    · exact ⟨false, false, by decide, by decide, hq⟩
    · exact ⟨false, true, by decide, by decide, hq⟩
    · exact ⟨true, false, by decide, by decide, hq⟩
    · exact ⟨true, true, by decide, by decide, hq⟩
  have ts : (bits .and .i64 (n : Int) 32768 != 0) = s := by rw [hs1]; cases s <;> rfl
  have tk : (bits .and .i64 (n : Int) 8192 != 0) = k := by rw [hk1]; cases k <;> rfl
  have HOK := Lib.hid hok
  clear hs1 hk1 hok hq h9 h8 eN hl
  have ⟨z0, z1, z2⟩ := Hc12s.of V2.out.zb
  simp only [H12.zero] at z0 z1 z2
  have f0 := V2.out.zb.frozen 0
  have f1 := V2.out.zb.frozen 1
  have f2 := V2.out.zb.frozen 2
  go_wp2_with fail
  have B3 := put12c_blk V2.out.zb ⟨s, k, 0⟩
  have K3 := put12c_kb V2.out.kb (N := u.heap.size) (fun h => absurd h (Nat.lt_irrefl _)) ⟨s, k, 0⟩
  have D3 : Rd (put12c v2 u.heap.size ⟨s, k, 0⟩) R b 4 := put12c_other V2.out.rd (by have := V2.out.lt; omega) _
  have c := Hc12s.of B3
  unfold put12c at B3 K3 D3 c
  have ⟨c0, c1, c2⟩ := c
  clear z0 z1 z2 f0 f1 f2 V2 c B3
  simp only [show ((0 : Nat) : Int) = 0 from rfl] at c0 c1 c2 K3 D3
  have hm := HM.out
  subst hm
  refine ⟨rfl, .tuple #[.agg (H12.cells ⟨s, k, 0⟩), .int .i64 (numOf b 2 2 : Nat)], ?_, K3, Or.inl ⟨s, k, HOK.out, D3, rfl⟩⟩
  unfold H12.cells
  simp [results, Tryd.results33, go_sem, c0, c1, c2]

end Go.Proofs.YtnlpbnipfglhhaaDoor
