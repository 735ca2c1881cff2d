/-
  WireReads, walked: true at every text and every list of calls, and what was there is there.
-/
import Derived.Test.YtgpknkfdchiidaaRef1
import Derived.Test.YtgpknkfdchiidaaAnswers
import Derived.Test.YtgpknkfdchiidaaWrites
namespace Go.Proofs.Ytgpknkfdchiidaa
open Go.RowKit
set_option linter.unusedVariables false

theorem own_below {w w' : World} {B n : Nat} {v : Value} {xs : List Value} (h : w.ownsRow B 46 4 v n xs) (k : Below w.heap.size w w') : w'.ownsRow B 46 4 v n xs := by
  refine h.kept (row := none) ⟨k.os, k.tape, k.output, k.size, fun i hi _ => k.block i hi⟩ ?_
  cases hb : v.ownBlock with
  | none => exact Or.inl rfl
  | some x => exact Or.inr (by simp)

set_option maxHeartbeats 1000000 in
theorem reads_any (s : ByteArray) (a : Option Addr) (len cap : Nat) (C : Nat → CallD) (w : World) (hs : s.size ≤ maxLen) (hC : CallsAt w w.heap.size a len C) (hl : len ≤ 140737488355328) (hsz : ∀ i, (C i).s.size ≤ 140737488355328) :
    Calls Try.prog 3 #[.string s, .slice a len cap] w fun e w' => e = .returned (.bool true) ∧ Below w.heap.size w w' := by
  have HC := Lib.hid hC
  have HS := Lib.hid hsz
  clear hC hsz
  go_enter Try.func3, Try.ntmps3
  go_wp2_with fail
  refine (awake_any w).mono ?_
  rintro e w1 ⟨rfl, hb1⟩
  have HC1 := Lib.hid (HC.out.below hb1)
  have HB1 := Lib.hid hb1
  have hs1 := hb1.size
  clear hb1 HC
  go_wp2_with fail
  refine (few_any a len cap C w1 w.heap.size HC1.out hl HS.out).mono ?_
  rintro e w' ⟨t, rfl, ht, rfl⟩
  cases t with
  | false =>
    clear ht
    go_wp2_with fail
    go_ret
    exact ⟨rfl, HB1.out⟩
  | true =>
    obtain ⟨h1, h2⟩ := ht rfl
    clear ht
    by_cases h5 : 5000 < s.size
    · go_wp2_with fail
      go_ret
      exact ⟨rfl, HB1.out⟩
    go_wp2_with fail
    refine (stops_any a len cap C w1 w.heap.size HC1.out hl).mono ?_
    rintro e w' ⟨t, rfl, ht, rfl⟩
    clear ht
    cases t with
    | true =>
      go_wp2_with fail
      go_ret
      exact ⟨rfl, HB1.out⟩
    | false =>
      go_wp2_with fail
      refine (told_any s a len cap C w1 (HC1.out.le hs1) hs (by omega)).mono ?_
      rintro e w2 ⟨v1, B1, hB1, rfl, ho1, hb2⟩
      have HC2 := Lib.hid (HC1.out.below (hb2.mono hs1))
      have HB2 := Lib.hid (HB1.out.trans (hb2.mono hs1))
      have HO1 := Lib.hid ho1
      have hs2 := hb2.size
      clear ho1 hb2 HC1 HB1
      go_wp2_with fail
      refine (ref_any s a len cap C w2 (HC2.out.le (by omega)) hs (by omega)).mono ?_
      rintro e w3 ⟨v2, B2, hB2, rfl, ho2, hb3⟩
      have HO1' := Lib.hid (own_below HO1.out hb3)
      have HO2 := Lib.hid ho2
      have HB3 := Lib.hid (HB2.out.trans (hb3.mono (by omega)))
      have hln := st_length s C len
      have hee : (errOf (st s C len) == errOf (st s C len)) = true := by simp
      clear ho2 hb3 HC2 HB2 HO1
      generalize errOf (st s C len) = er at *
      go_wp2_with fail
      refine (answers_same v1 v2 B1 B2 (st s C len).ans w3 HO1'.out HO2.out (by omega)).mono ?_
      rintro e w4 ⟨rfl, n4, rfl⟩
      go_wp2_with fail
      go_ret
      exact ⟨rfl, HB3.out.trans ⟨rfl, rfl, rfl, Nat.le_refl _, fun _ _ => rfl⟩⟩

end Go.Proofs.Ytgpknkfdchiidaa
