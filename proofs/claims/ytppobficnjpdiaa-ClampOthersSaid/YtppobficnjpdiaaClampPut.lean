/-
  A number, put into a packet; the nearest limit.
-/
import Derived.Test.YtppobficnjpdiaaClampSpec
import Derived.Test.YtppobficnjpdiaaFlowSeal
import Derived.Test.YtppobficnjpdiaaFlowHead
namespace Go.Proofs.Ytppobficnjpdiaa
open Go.RowKit
set_option linter.unusedVariables false

set_option maxRecDepth 100000 in
set_option maxHeartbeats 1000000 in
theorem nearest_any (n : Int) (w : World) : Calls Try.prog 23 #[.int .i64 n] w fun e w' => e = .returned (.int .i64 (nearK n : Nat)) ∧ w = w' := by
  by_cases h0 : n < 0
  · have e : nearK n = 0 := by unfold nearK; omega
    rw [e]
    go_enter Try.func23, Try.ntmps23
    go_wp2_with fail
    go_ret
    exact ⟨rfl, rfl⟩
  by_cases h1 : 65535 < n
  · have e : nearK n = 65535 := by unfold nearK; omega
    rw [e]
    go_enter Try.func23, Try.ntmps23
    go_wp2_with fail
    go_ret
    exact ⟨rfl, rfl⟩
  obtain ⟨k, rfl⟩ := Int.eq_ofNat_of_zero_le (show 0 ≤ n by omega)
  have e : nearK (k : Int) = k := by unfold nearK; omega
  rw [e]
  clear e
  go_enter Try.func23, Try.ntmps23
  go_wp2_with fail
  go_ret
  exact ⟨rfl, rfl⟩

/-- While it is written: the number's block, and the writer's. -/
structure Pk (w u : World) (x : NK) (bs : List UInt8) : Prop where
  num : Blk u w.heap.size x.cells 54
  wr : Wr u (w.heap.size + 1) (w.heap.size + 1 + 1) bs
  bel : Below w.heap.size w u
theorem Pk.new (w : World) (x : NK) : Pk w ((w.alloc (.cells x.cells 54)).alloc (.cells #[.slice none 0 0] 96)) x [] := by
  have P := Pw9.new (w.alloc (.cells x.cells 54))
  have hz : (w.alloc (.cells x.cells 54)).heap.size = w.heap.size + 1 := by simp
  have hw := P.wr
  rw [hz] at hw
  exact ⟨(Blk.new _ _ _).alloc _, hw, ((Below.refl _ _).alloc (Nat.le_refl _) _).alloc (by simp) _⟩
theorem Pk.step {w u u' : World} {x : NK} {bs bs' : List UInt8} (p : Pk w u x bs) (hw : Wr u' (w.heap.size + 1) (w.heap.size + 1 + 1) bs') (hk : Kb (fun k => k = w.heap.size + 1 ∨ w.heap.size + 1 + 1 ≤ k) u u') : Pk w u' x bs' :=
  ⟨p.num.kb hk (by omega), hw, p.bel.trans ⟨hk.os, hk.tape, hk.output, hk.size, fun k hk1 => hk.block k (by have := p.bel.size; omega) (by omega)⟩⟩

set_option maxRecDepth 100000 in
set_option maxHeartbeats 1000000 in
theorem putInto_any (x : NK) (p : ByteArray) (w : World) (hx : x.is_ ≤ 65535) (ha : x.at_ + 2 ≤ p.size) (hs : p.size ≤ 1000000) :
    Calls Try.prog 25 #[.agg x.cells, .string p] w (Tells (.string (with9 p x.at_ x.is_)) w) := by
  have B0 := Lib.hid (Blk.new w x.cells 54)
  have Z0 : Hid ((w.alloc (.cells x.cells 54)).heap.size = w.heap.size + 1) := by show (w.alloc (.cells x.cells 54)).heap.size = w.heap.size + 1; simp
  have P0 := Lib.hid (Pk.new w x)
  have hcut := with9_cut p x.at_ x.is_
  have HC := Lib.hid hcut
  clear hcut
  unfold NK.cells at B0 P0 Z0 ⊢
  obtain ⟨a, n⟩ := x
  simp only at B0 P0 Z0 HC hx ha ⊢
  generalize with9 p a n = R at *
  have hm : IntKind.u64.wrap (n : Int) = (n : Nat) := by rw [wrap_u64_any]; omega
  have HM := Lib.hid hm
  clear hm
  unfold Tells
  obtain ⟨A, hA⟩ : ∃ A, p.extract 0 a = A := ⟨_, rfl⟩
  obtain ⟨a2, ha2⟩ : ∃ a2, a2 = a + 2 := ⟨_, rfl⟩
  obtain ⟨D, hD⟩ : ∃ D, p.extract a2 p.size = D := ⟨_, rfl⟩
  have hAs : A.size ≤ 1000000 := by rw [← hA, ByteArray.size_extract]; omega
  have hDs : D.size ≤ 1000000 := by rw [← hD, ByteArray.size_extract]; omega
  rw [← ha2, hA, hD] at HC
  have e2 : IntKind.i64.wrap ((a : Int) + 2) = (a2 : Int) := (IntWalk.i64_in _ (by omega)).trans (by omega)
  have b1 : (0 : Int) ≤ (a : Int) := by omega
  have b2 : (a : Int) ≤ (p.size : Int) := by omega
  have b3 : (0 : Int) ≤ (a2 : Int) := by omega
  have b4 : (a2 : Int) ≤ (p.size : Int) := by omega
  have HA2 := Lib.hid ha2
  clear ha2
  go_enter Try.func25, Try.ntmps25
  have c0 := B0.out.cell 0
  simp only [List.getElem?_toArray, List.getElem?_cons_zero] at c0
  have hz1 := Z0.out
  go_wp2_with fail
  clear c0 hz1 Z0 B0
  generalize (w.alloc (.cells #[.int .i64 (a : Nat), .int .i64 (n : Nat)] 54)).alloc (.cells #[.slice none 0 0] 96) = u0 at *
  refine (wtext_any _ _ _ A u0 P0.out.wr (by simp; omega)).mono ?_
  rintro e u1 ⟨rfl, h1, k1⟩
  have P1 := Lib.hid (P0.out.step h1 k1)
  clear h1 k1 P0
  have c1 := P1.out.num.cell 1
  simp only [NK.cells, List.getElem?_toArray, List.getElem?_cons_zero, List.getElem?_cons_succ] at c1
  go_wp2_with fail
  clear c1
  refine (wu16_any _ _ _ _ n u1 P1.out.wr HM.out (by omega) (by simp; omega)).mono ?_
  rintro e u2 ⟨rfl, h2, k2⟩
  have P2 := Lib.hid (P1.out.step h2 k2)
  clear h2 k2 P1
  have c0 := P2.out.num.cell 0
  simp only [NK.cells, List.getElem?_toArray, List.getElem?_cons_zero] at c0
  go_wp2_with fail
  clear c0
  refine (wtext_any _ _ _ D u2 P2.out.wr (by simp [be_length]; omega)).mono ?_
  rintro e u3 ⟨rfl, h3, k3⟩
  have P3 := Lib.hid (P2.out.step h3 k3)
  clear h3 k3 P2
  go_wp2_with fail
  refine (wstring_any _ _ _ _ P3.out.wr).mono ?_
  rintro e w' ⟨rfl, rfl⟩
  go_wp2_with fail
  go_ret
  exact ⟨by rw [← HC.out]; simp, P3.out.bel⟩

end Go.Proofs.Ytppobficnjpdiaa
