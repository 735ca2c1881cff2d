/-
  Is a sum right; the packet of a payload, read.
-/
import Derived.Test.YtbfcccfgphelhaaDoorGuePut
import Derived.Test.YtbfcccfgphelhaaDoorReading
import Derived.Test.YtbfcccfgphelhaaDoorSums
namespace Go.Proofs.YtbfcccfgphelhaaDoor
open Go.RowKit
set_option linter.unusedVariables false

set_option maxRecDepth 100000 in
set_option maxHeartbeats 1000000 in
theorem isRight13_any (src dst b : ByteArray) (w : World) (hs : src.size ≤ 400000) (hd : dst.size ≤ 400000) (hb : b.size ≤ 900000) :
    Calls Tryd.prog 25 #[.string src, .string dst, .string b] w (Tells (.bool (decide (sumD (ph9 17 src dst b) = 0))) w) := by
  have Q3 := Lib.hid (fun W => pseudo_any src dst 17 (b.size : Nat) W (by omega) (by omega))
  have HL : (pseudoD src.data.toList dst.data.toList 17 (b.size : Nat)).length ≤ 1000000 := by
    have := pseudo_len src dst 17 (b.size : Nat)
    omega
  have HP : Hid (ph9 17 src dst b = pseudoD src.data.toList dst.data.toList 17 (b.size : Nat) ++ b.data.toList) := rfl
  generalize pseudoD src.data.toList dst.data.toList 17 (b.size : Nat) = l at *
  generalize ph9 17 src dst b = ph at *
  unfold Tells
  clear hs hd
  have HR : Hid (decide (sumD ph = 0) = decide (sumD ph = 0)) := rfl
  go_enter Tryd.func25, Tryd.ntmps25
  go_wp2_with fail
  refine (Q3.out _).mono ?_
  rintro e w2 ⟨rfl, hb2⟩
  go_wp2_with fail
  refine (right_2n ⟨l.toArray⟩ b w2 _ rfl (decide (sumD ph = 0)) (by rw [list_size]; omega) (by omega) (by rw [HP.out])).mono ?_
  rintro e w3 ⟨rfl, hb3⟩
  have HB3 := Lib.hid (hb2.trans (hb3.mono hb2.size))
  clear hb3 hb2
  go_wp2_with fail
  go_ret
  exact ⟨rfl, HB3.out⟩

/-- How it ends. -/
def Packet13End (R : Nat) (k : Nat) (s : ByteArray) (u : World) (e : Ending) (u' : World) : Prop :=
  Kb (· = R) u u' ∧ ((k = 0 ∧ e = .returned (.string s)) ∨ (k ≠ 0 ∧ e = .panicked (stopped (k : Nat))))
theorem Packet13End.stop {R k n : Nat} {s : ByteArray} {u u' : World} (hk : Kb (· = R) u u') (h : k = n) (h0 : n ≠ 0) : Packet13End R k s u (.panicked (stopped (n : Nat))) u' := by
  subst h; exact ⟨hk, Or.inr ⟨h0, rfl⟩⟩

set_option maxRecDepth 100000 in
set_option maxHeartbeats 2000000 in
theorem readPacket13_any (R : Nat) (b : ByteArray) (u : World) (hr : Rd u R b 0) (hs : b.size ≤ 1000000) (hg : Vers u) (hR : 1 ≠ R) :
    Calls Tryd.prog 26 #[.pointer (some ⟨R, 0, none⟩)] u (Packet13End R (in13E b) (in13 b) u) := by
  have HS : Hid (b.size ≤ maxLen) := by show b.size ≤ maxLen; unfold maxLen; omega
  have F2 : Hid (b.size < 4 → in13E b = 2) := fun h => by unfold in13E; rw [if_pos h]
  have HV := Lib.hid (fun (v : World) (k : Kb (· = R) u v) => hg.kb k hR)
  go_enter Tryd.func26, Tryd.ntmps26
  go_wp2_with fail
  by_cases h0 : 0 + 1 ≤ b.size
  case neg =>
    refine (u8_no R b 0 u hr (by omega) (by omega) HS.out).mono ?_
    rintro e w' ⟨rfl, m, rfl⟩
    exact ⟨rfl, Packet13End.stop ((Kb.refl _ u).drewN m) (F2.out (by omega)) (by decide)⟩
  refine (u8_yes R b 0 u hr h0 HS.out).mono ?_
  rintro e v1 ⟨rfl, r1, k1⟩
  have R1 := Lib.hid r1
  have K1 := Lib.hid k1
  clear r1 k1 hr
  go_wp2_with fail
  by_cases h1 : 1 + 1 ≤ b.size
  case neg =>
    refine (u8_no R b 1 v1 R1.out (by omega) (by omega) HS.out).mono ?_
    rintro e w' ⟨rfl, m, rfl⟩
    exact ⟨rfl, Packet13End.stop (K1.out.drewN m) (F2.out (by omega)) (by decide)⟩
  refine (u8_yes R b 1 v1 R1.out h1 HS.out).mono ?_
  rintro e v2 ⟨rfl, r2, k2⟩
  have R2 := Lib.hid r2
  have K2 := Lib.hid (K1.out.trans k2)
  clear r2 k2 R1 K1
  go_wp2_with fail
  by_cases h2 : 2 + 2 ≤ b.size
  case neg =>
    refine (u16_no R b 2 v2 R2.out (by omega) (by omega) HS.out).mono ?_
    rintro e w' ⟨rfl, m, rfl⟩
    exact ⟨rfl, Packet13End.stop (K2.out.drewN m) (F2.out (by omega)) (by decide)⟩
  refine (u16_yes R b 2 v2 R2.out h2 HS.out).mono ?_
  rintro e v3 ⟨rfl, r3, k3⟩
  have R3 := Lib.hid r3
  have K3 := Lib.hid (K2.out.trans k3)
  clear r3 k3 R2 K2 F2 hs
  have HQ : Hid (in13E b = if 64 ≤ numOf b 0 1 then 3 else if numOf b 0 1 ≠ 0 ∨ numOf b 2 2 ≠ 0 then 9 else pk13 (numOf b 1 1) (v11 (in13 b))) := by
    show in13E b = _
    unfold in13E
    rw [if_neg (by omega)]
    rfl
  have HR := Lib.hid (rest_any R b 4 v3 R3.out (by omega) HS.out)
  have HW := Lib.hid (fun n => Kb.setCell (S := (· = R)) (K3.out.drewN n) (p := ⟨R, 1, none⟩) (fun _ => rfl) (.int .i64 (b.size : Int)))
  have HF := Lib.hid (fun W h => get11_any (numOf b 1 1 : Nat) (in13 b) W h)
  have HG : Hid (pk13 (numOf b 1 1) (v11 (in13 b)) = 0 → get11S (numOf b 1 1 : Nat) (in13 b) = in13 b) := by
    intro h
    unfold get11S
    rw [get11_pk, h]
    exact if_pos rfl
  have HI : Hid (b.extract 4 b.size = in13 b) := rfl
  have l0 := numOf_lt b 0 1 (by omega)
  unfold Tells at HF
  rw [get11_pk] at HF
  rw [HI.out] at HR
  generalize get11S (numOf b 1 1 : Nat) (in13 b) = G at *
  generalize pk13 (numOf b 1 1) (v11 (in13 b)) = Q at *
  generalize in13E b = E at *
  generalize in13 b = I at *
  generalize numOf b 0 1 = n0 at *
  generalize numOf b 1 1 = n1 at *
  generalize numOf b 2 2 = n2 at *
  clear HI h0 h1 h2
  by_cases h3 : 64 ≤ n0
  · have HQ3 := Lib.hid (HQ.out.trans (if_pos h3))
    go_wp2_with fail
    refine (need_no _ _ _ _ (by simp; omega)).mono ?_
    rintro e w' ⟨rfl, rfl⟩
    exact ⟨rfl, Packet13End.stop K3.out HQ3.out (by decide)⟩
  have hq := HQ.out
  rw [if_neg h3] at hq
  have HQ2 := Lib.hid hq
  have HM := Lib.hid h3
  clear HQ hq h3
  go_wp2_with fail
  refine (need_yes _ _ _ _ (by simp; have := HM.out; omega)).mono ?_
  rintro e w' ⟨rfl, rfl⟩
  by_cases h4 : n0 = 0
  case neg =>
    have HQ3 := Lib.hid (HQ2.out.trans (if_pos (Or.inl h4)))
    have t4 : ((n0 : Int) == 0) = false := by simp; omega
    go_wp2_with fail
    refine (need_no _ _ _ _ rfl).mono ?_
    rintro e w' ⟨rfl, rfl⟩
    exact ⟨rfl, Packet13End.stop K3.out HQ3.out (by decide)⟩
  have t4 : ((n0 : Int) == 0) = true := by simp; omega
  by_cases h5 : n2 = 0
  case neg =>
    have HQ3 := Lib.hid (HQ2.out.trans (if_pos (Or.inr h5)))
    have t5 : ((n2 : Int) == 0) = false := by simp; omega
    clear h4 h5
    go_wp2_with fail
    refine (need_no _ _ _ _ rfl).mono ?_
    rintro e w' ⟨rfl, rfl⟩
    exact ⟨rfl, Packet13End.stop K3.out HQ3.out (by decide)⟩
  have HQ4 := Lib.hid (HQ2.out.trans (if_neg (by omega)))
  have t5 : ((n2 : Int) == 0) = true := by simp; omega
  clear HQ2 h4 h5
  go_wp2_with fail
  refine (need_yes _ _ _ _ rfl).mono ?_
  rintro e w' ⟨rfl, rfl⟩
  clear t4 t5 l0
  go_wp2_with fail
  refine HR.out.mono ?_
  rintro e v4 ⟨rfl, n, rfl⟩
  have K4 := Lib.hid (HW.out n)
  generalize (v3.drewN n).setCell ⟨R, 1, none⟩ (.int .i64 (b.size : Int)) = v4 at *
  have G4 := Lib.hid (HV.out v4 K4.out)
  clear HR HW HV R3 K3
  go_wp2_with fail
  refine (HF.out v4 G4.out).mono ?_
  rintro e v5 ⟨rfl, hb⟩
  have K5 := Lib.hid (K4.out.trans (⟨hb.os, hb.tape, hb.output, hb.size, fun k hk _ => hb.block k hk⟩ : Kb (· = R) v4 v5))
  clear hb K4 G4 HF
  go_wp2_with fail
  by_cases h6 : Q = 0
  case neg =>
    refine (need_no _ _ _ _ (by simp; omega)).mono ?_
    rintro e w' ⟨rfl, rfl⟩
    exact ⟨rfl, Packet13End.stop K5.out HQ4.out h6⟩
  have hs := HG.out h6
  have HE := Lib.hid (HQ4.out.trans h6)
  clear HG HQ4
  refine (need_yes _ _ _ _ (by simp; omega)).mono ?_
  rintro e w' ⟨rfl, rfl⟩
  clear h6
  subst hs
  go_wp2_with fail
  go_ret
  exact ⟨K5.out, Or.inl ⟨HE.out, rfl⟩⟩

end Go.Proofs.YtbfcccfgphelhaaDoor
