/-
  Reading the packet behind a header.
-/
import Derived.Test.YtnlpbnipfglhhaaDoorGreRead
namespace Go.Proofs.YtnlpbnipfglhhaaDoor
open Go.RowKit
set_option linter.unusedVariables false

/-- How it ends. -/
def Packet12End (R : Nat) (k : Nat) (s : ByteArray) (u : World) (e : Ending) (u' : World) : Prop :=
  Kb (· = R) u u' ∧ ((k = 0 ∧ e = .returned (.string s)) ∨ (k ≠ 0 ∧ e = .panicked (stopped (k : Nat))))
theorem Packet12End.stop {R k n : Nat} {s : ByteArray} {u u' : World} (hk : Kb (· = R) u u') (h : k = n) (h0 : n ≠ 0) : Packet12End R k s u (.panicked (stopped (n : Nat))) u' := by
  subst h; exact ⟨hk, Or.inr ⟨h0, rfl⟩⟩

set_option maxRecDepth 100000 in
set_option maxHeartbeats 2000000 in
theorem readPacket_any (R : Nat) (b : ByteArray) (i kind : Nat) (u : World) (hr : Rd u R b i) (hi : i ≤ b.size) (hs : b.size ≤ 1000000) (hg : Vers u) (hR : 0 ≠ R) :
    Calls Tryd.prog 40 #[.pointer (some ⟨R, 0, none⟩), .int .i64 (kind : Nat)] u (Packet12End R (pk12 kind (v11 (b.extract i b.size))) (b.extract i b.size) u) := by
  have HR := Lib.hid (rest_any R b i u hr hi (by unfold maxLen; omega))
  have HKB := fun n => Kb.setCell (S := (· = R)) ((Kb.refl (· = R) u).drewN n) (p := ⟨R, 1, none⟩) (fun _ => rfl) (.int .i64 (b.size : Int))
  have HW := Lib.hid HKB
  have HG := Lib.hid (fun n => hg.kb (HKB n) hR)
  clear HKB hr hi hs
  have HF := Lib.hid (fun W h => kind11_any (b.extract i b.size) W h)
  have HQ : Hid (pk12 kind (v11 (b.extract i b.size)) = if kind ≠ 2048 ∧ kind ≠ 34525 then 6 else if (v11 (b.extract i b.size)).en ≠ 0 then (v11 (b.extract i b.size)).en else if (v11 (b.extract i b.size)).kn ≠ kind then 3 else 0) := rfl
  unfold Tells at HF
  rw [V11.kind_kn, V11.err_en] at HF
  generalize pk12 kind (v11 (b.extract i b.size)) = Q at *
  generalize (v11 (b.extract i b.size)).kn = q at *
  generalize (v11 (b.extract i b.size)).en = E at *
  generalize b.extract i b.size = s at *
  by_cases h1 : kind ≠ 2048 ∧ kind ≠ 34525
  · have hq := HQ.out
    rw [if_pos h1] at hq
    have H3 := Lib.hid hq
    have t1 : ((kind : Int) == 2048) = false := by simp; omega
    have t2 : ((kind : Int) == 34525) = false := by simp; omega
    clear h1 hq
    go_enter Tryd.func40, Tryd.ntmps40
    go_wp2_with fail
    refine (need_no _ _ _ _ (by simp)).mono ?_
    rintro e w' ⟨rfl, rfl⟩
    exact ⟨rfl, Packet12End.stop (Kb.refl _ _) H3.out (by decide)⟩
  have H5 : Hid (Q = if E ≠ 0 then E else if q ≠ kind then 3 else 0) := by
    show Q = _
    rw [HQ.out, if_neg h1]
  clear HQ
  rcases (show kind = 2048 ∨ kind = 34525 by omega) with rfl | rfl
  · clear h1
    go_enter Tryd.func40, Tryd.ntmps40
    go_wp2_with fail
    refine (need_yes _ _ _ _ (by simp)).mono ?_
    rintro e w' ⟨rfl, rfl⟩
    go_wp2_with fail
    refine HR.out.mono ?_
    rintro e w1 ⟨rfl, n, rfl⟩
    have K1 := Lib.hid (HW.out n)
    have G1 := Lib.hid (HG.out n)
    generalize (u.drewN n).setCell ⟨R, 1, none⟩ (.int .i64 (b.size : Int)) = u1 at *
    go_wp2_with fail
    refine (HF.out u1 G1.out).mono ?_
    rintro e u2 ⟨rfl, hb⟩
    have K2 := Lib.hid (K1.out.trans (⟨hb.os, hb.tape, hb.output, hb.size, fun k hk _ => hb.block k hk⟩ : Kb (· = R) u1 u2))
    clear hb K1 G1 HF HR
    go_wp2_with fail
    by_cases h2 : E = 0
    case neg =>
      have hq := H5.out
      rw [if_pos h2] at hq
      refine (need_no _ _ _ _ (by simp; omega)).mono ?_
      rintro e w' ⟨rfl, rfl⟩
      exact ⟨rfl, Packet12End.stop K2.out hq h2⟩
    have hq := H5.out
    rw [if_neg (by omega)] at hq
    have H6 := Lib.hid hq
    clear hq H5
    refine (need_yes _ _ _ _ (by simp; omega)).mono ?_
    rintro e w' ⟨rfl, rfl⟩
    clear h2
    go_wp2_with fail
    by_cases h3 : q = 2048
    case neg =>
      have hq := H6.out
      rw [if_pos h3] at hq
      refine (need_no _ _ _ _ (by simp; omega)).mono ?_
      rintro e w' ⟨rfl, rfl⟩
      exact ⟨rfl, Packet12End.stop K2.out hq (by decide)⟩
    have hq := H6.out
    rw [if_neg (by omega)] at hq
    have H7 := Lib.hid hq
    clear hq H6
    refine (need_yes _ _ _ _ (by simp; omega)).mono ?_
    rintro e w' ⟨rfl, rfl⟩
    clear h3
    go_wp2_with fail
    go_ret
    exact ⟨K2.out, Or.inl ⟨H7.out, rfl⟩⟩
  · clear h1
    go_enter Tryd.func40, Tryd.ntmps40
    go_wp2_with fail
    refine (need_yes _ _ _ _ (by simp)).mono ?_
    rintro e w' ⟨rfl, rfl⟩
    go_wp2_with fail
    refine HR.out.mono ?_
    rintro e w1 ⟨rfl, n, rfl⟩
    have K1 := Lib.hid (HW.out n)
    have G1 := Lib.hid (HG.out n)
    generalize (u.drewN n).setCell ⟨R, 1, none⟩ (.int .i64 (b.size : Int)) = u1 at *
    go_wp2_with fail
    refine (HF.out u1 G1.out).mono ?_
    rintro e u2 ⟨rfl, hb⟩
    have K2 := Lib.hid (K1.out.trans (⟨hb.os, hb.tape, hb.output, hb.size, fun k hk _ => hb.block k hk⟩ : Kb (· = R) u1 u2))
    clear hb K1 G1 HF HR
    go_wp2_with fail
    by_cases h2 : E = 0
    case neg =>
      have hq := H5.out
      rw [if_pos h2] at hq
      refine (need_no _ _ _ _ (by simp; omega)).mono ?_
      rintro e w' ⟨rfl, rfl⟩
      exact ⟨rfl, Packet12End.stop K2.out hq h2⟩
    have hq := H5.out
    rw [if_neg (by omega)] at hq
    have H6 := Lib.hid hq
    clear hq H5
    refine (need_yes _ _ _ _ (by simp; omega)).mono ?_
    rintro e w' ⟨rfl, rfl⟩
    clear h2
    go_wp2_with fail
    by_cases h3 : q = 34525
    case neg =>
      have hq := H6.out
      rw [if_pos h3] at hq
      refine (need_no _ _ _ _ (by simp; omega)).mono ?_
      rintro e w' ⟨rfl, rfl⟩
      exact ⟨rfl, Packet12End.stop K2.out hq (by decide)⟩
    have hq := H6.out
    rw [if_neg (by omega)] at hq
    have H7 := Lib.hid hq
    clear hq H6
    refine (need_yes _ _ _ _ (by simp; omega)).mono ?_
    rintro e w' ⟨rfl, rfl⟩
    clear h3
    go_wp2_with fail
    go_ret
    exact ⟨K2.out, Or.inl ⟨H7.out, rfl⟩⟩

end Go.Proofs.YtnlpbnipfglhhaaDoor
