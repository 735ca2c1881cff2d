/-
  WireWrites, walked: true at every list of calls, and what was there is there.
-/
import Derived.Test.YtgpknkfdchiidaaWriter5
import Derived.Test.YtgpknkfdchiidaaAwake
namespace Go.Proofs.Ytgpknkfdchiidaa
open Go.RowKit
set_option linter.unusedVariables false

theorem CallsAt.below {w w' : World} {B : Nat} {a : Option Addr} {len : Nat} {C : Nat → CallD} (h : CallsAt w B a len C) (k : Below B w w') : CallsAt w' B a len C := by
  rcases h with h | ⟨b, off, ha, hb, hc⟩
  · exact Or.inl h
  · exact Or.inr ⟨b, off, ha, hb, fun i hi => (hc i hi).block (k.block b hb)⟩
theorem CallsAt.le {w : World} {B B' : Nat} {a : Option Addr} {len : Nat} {C : Nat → CallD} (h : CallsAt w B a len C) (hB : B ≤ B') : CallsAt w B' a len C := by
  rcases h with h | ⟨b, off, ha, hb, hc⟩
  · exact Or.inl h
  · exact Or.inr ⟨b, off, ha, by omega, hc⟩
theorem Wr.below {w w' : World} {b base : Nat} {bs : List UInt8} (h : Wr w b base bs) (k : Below w.heap.size w w') : Wr w' b base bs := by
  obtain ⟨v, hv, hown⟩ := h.blk
  refine ⟨⟨v, (k.block b hv.lt).trans hv, hown.kept (row := none) ⟨k.os, k.tape, k.output, k.size, fun i hi _ => k.block i hi⟩ ?_⟩, h.lt, Nat.le_trans h.le k.size⟩
  cases hb : v.ownBlock with
  | none => exact Or.inl rfl
  | some x => exact Or.inr (by simp)
theorem Wr.new (w : World) : Wr (w.alloc (.cells #[.slice none 0 0] 35)) w.heap.size (w.heap.size + 1) [] :=
  ⟨⟨.slice none 0 0, Blk.new w _ _, World.ownsRow_nil _ _ _ _⟩, by omega, by simp⟩

set_option maxHeartbeats 1000000 in
theorem writes_any (a : Option Addr) (len cap : Nat) (C : Nat → CallD) (w : World) (hC : CallsAt w w.heap.size a len C) (hl : len ≤ 140737488355328) (hsz : ∀ i, (C i).s.size ≤ 140737488355328) (hn : ∀ i, (C i).n < 18446744073709551616) :
    Calls Try.prog 4 #[.slice a len cap] w fun e w' => e = .returned (.bool true) ∧ Below w.heap.size w w' := by
  have HC := Lib.hid hC
  have HS := Lib.hid hsz
  have HN := Lib.hid hn
  clear hC hsz hn
  go_enter Try.func4, Try.ntmps4
  go_wp2_with fail
  refine (awake_any w).mono ?_
  rintro e w1 ⟨rfl, hb1⟩
  have HC1 := Lib.hid (HC.out.below hb1)
  have HB1 := Lib.hid hb1
  have hs1 := hb1.size
  clear hb1 HC
  go_wp2_with fail
  refine (few_any a len cap C w1 w.heap.size HC1.out hl HS.out).mono ?_
  rintro e w' ⟨t, rfl, ht, rfl⟩
  cases t with
  | false =>
    clear ht
    go_wp2_with fail
    go_ret
    exact ⟨rfl, HB1.out⟩
  | true =>
    obtain ⟨h1, h2⟩ := ht rfl
    clear ht
    have HW2 := Lib.hid (Wr.new w1)
    have HC2 := Lib.hid (HC1.out.below ((Below.refl _ _).alloc (w := w1) hs1 (.cells #[.slice none 0 0] 35)))
    have HB2 := Lib.hid (HB1.out.alloc hs1 (.cells #[.slice none 0 0] 35))
    have HZ2 := Lib.hid (show (w1.alloc (.cells #[.slice none 0 0] 35)).heap.size = w1.heap.size + 1 by simp)
    clear HB1 HC1
    go_wp2_with fail
    generalize w1.alloc (.cells #[.slice none 0 0] 35) = w2 at *
    refine (write_any w1.heap.size (w1.heap.size + 1) [] a len cap C w2 HW2.out (HC2.out.le hs1) (by simp; omega) HN.out).mono ?_
    rintro e w3 ⟨rfl, hw3, hk3⟩
    rw [List.nil_append] at hw3
    have hs2 : w.heap.size ≤ w2.heap.size := HB2.out.size
    have HB3 := Lib.hid (HB2.out.trans ((hk3.mono (T := fun k => w.heap.size ≤ k) fun k _ h => by omega).below hs2))
    have HC3 := Lib.hid (HC2.out.kb hk3 hs2 (fun j hj => by omega))
    have HW3 := Lib.hid hw3
    have hs3 := hk3.size
    clear hw3 hk3 HW2 HC2 HB2 HZ2
    go_wp2_with fail
    refine (refwrite_any a len cap C w3 (HC3.out.le (by omega)) (by omega) HN.out).mono ?_
    rintro e w4 ⟨rfl, hb4⟩
    have HW4 := Lib.hid (HW3.out.below hb4)
    have HB4 := Lib.hid (HB3.out.trans (hb4.mono (by omega)))
    have hpz := list_size (pieces C len)
    have hpq : (((pieces C len).length : Int) == ((⟨(pieces C len).toArray⟩ : ByteArray).size : Int)) = true := by rw [hpz]; simp
    clear hb4 HC3 HW3 HB3 hpz
    generalize hPS : (⟨(pieces C len).toArray⟩ : ByteArray) = PS at *
    have HPS := Lib.hid hPS
    clear hPS
    go_wp2_with fail
    refine (wstring_any w1.heap.size _ (pieces C len) w4 HW4.out).mono ?_
    rintro e w5 ⟨rfl, rfl⟩
    rw [HPS.out]
    go_wp2_with fail
    refine (wlen_any w1.heap.size _ (pieces C len) w4 HW4.out).mono ?_
    rintro e w5 ⟨rfl, rfl⟩
    go_wp2_with fail
    go_ret
    exact ⟨rfl, HB4.out⟩

end Go.Proofs.Ytgpknkfdchiidaa
