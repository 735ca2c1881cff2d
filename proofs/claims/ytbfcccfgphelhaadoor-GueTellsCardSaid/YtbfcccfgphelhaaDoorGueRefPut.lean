/-
  The document's Put.
-/
import Derived.Test.YtbfcccfgphelhaaDoorGuePut
import Derived.Test.YtbfcccfgphelhaaDoorUdpB
import Derived.Test.YtbfcccfgphelhaaDoorIpipRef
import Derived.Test.YtbfcccfgphelhaaDoorFlowRefSeal
namespace Go.Proofs.YtbfcccfgphelhaaDoor
open Go.RowKit
set_option linter.unusedVariables false

set_option maxRecDepth 100000 in
set_option maxHeartbeats 2000000 in
theorem refput13_any (h : H13) (src dst s : ByteArray) (w : World) (hs : src.size ≤ 100000) (hd : dst.size ≤ 100000) (hz : s.size ≤ 1000000) :
    Calls Tryd.prog 10 #[.int .i64 h.port, .bool h.sum, .string src, .string dst, .string s] w (Tells (.tuple #[.string (put13S h src dst s), .int .i64 (put13E h.port s : Nat)]) w) := by
  have HF := Lib.hid (refproto11_any s w)
  have HE : Hid (put13E h.port s = if (v11 s).en ≠ 0 then (v11 s).en else (dg13 h.port s).err) := rfl
  have HX : Hid (put13S h src dst s = if put13E h.port s = 0 then full13 h src dst s else ⟨#[]⟩) := rfl
  obtain ⟨B, hB⟩ : ∃ B, B = (⟨(be (v11 s).pn 1).toArray⟩ : ByteArray) := ⟨_, rfl⟩
  have hpn := (v11 s).pn_le
  have HM : Hid (IntKind.u64.wrap ((v11 s).pn : Int) = ((v11 s).pn : Nat)) := by show IntKind.u64.wrap _ = _; rw [wrap_u64 _ (by omega) (by omega)]
  have NB := Lib.hid (bytes_x ((v11 s).pn : Nat) (v11 s).pn 1 1 B rfl rfl (by omega) (by omega) hB)
  obtain ⟨T, hT⟩ : ∃ T, T = ((⟨#[0]⟩ : ByteArray) ++ B ++ (⟨#[0, 0]⟩ : ByteArray) ++ s) := ⟨_, rfl⟩
  have HD : Hid (T = pay13 s) := by
    show T = pay13 s
    apply text_ext
    rw [pay13_list, hT, cat_list, cat_list, cat_list, hB]
    rfl
  have zB : B.size = 1 := by rw [hB, be_size]
  have HP := Lib.hid (fun W => refput8_any ⟨h.port, 6080, T⟩ 0 W)
  have HQ : Hid (put8E ⟨h.port, 6080, T⟩ 0 = (dg13 h.port s).err) := by show put8E _ 0 = _; rw [put8E_none, HD.out]; rfl
  have HB : Hid ((dg13 h.port s).err = 0 → put8S ⟨h.port, 6080, T⟩ 0 = bare13 h.port s ∧ (bare13 h.port s).size ≤ 70000) := by
    show (dg13 h.port s).err = 0 → _
    intro h0
    have hok := (D8.err_zero _).1 h0
    rw [HD.out]
    refine ⟨(put8_ok hok (by decide)).2, ?_⟩
    have := (put8_get _ 0 hok (by decide)).size
    have hpl := hok.pay
    unfold bare13
    omega
  have HS := Lib.hid hs
  have HDs := Lib.hid hd
  have HFU : Hid (full13 h src dst s = match h.sum with | true => seal9 17 src dst (bare13 h.port s) | false => bare13 h.port s) := rfl
  unfold Tells at HF ⊢
  rw [V11.proto_pn, V11.err_en] at HF
  generalize put8E ⟨h.port, 6080, T⟩ 0 = F at *
  generalize put8S ⟨h.port, 6080, T⟩ 0 = X at *
  generalize full13 h src dst s = U at *
  generalize bare13 h.port s = K at *
  generalize (dg13 h.port s).err = D at *
  generalize put13S h src dst s = Y at *
  generalize put13E h.port s = E at *
  generalize (v11 s).pn = pn at *
  generalize (v11 s).en = en at *
  generalize h.port = port at *
  unfold D8.cells at HP
  simp only at HP
  have HT := Lib.hid hT
  clear hs hd hB HD hT
  by_cases h1 : en = 0
  case neg =>
    have t1 : ((en : Int) != 0) = true := by simp; omega
    have he := HE.out.trans (if_pos h1)
    have hy := HX.out.trans (if_neg (by omega))
    clear h1 HE HX
    subst he hy
    go_enter Tryd.func10, Tryd.ntmps10
    go_wp2_with fail
    refine HF.out.mono ?_
    rintro e w1 ⟨rfl, hb⟩
    go_wp2_with fail
    exact ⟨rfl, _, results_tmp2 rfl _ _ _, rfl, hb⟩
  have t1 : ((en : Int) != 0) = false := by simp; omega
  have he := HE.out.trans (if_neg (by omega))
  clear h1 HE
  subst he
  go_enter Tryd.func10, Tryd.ntmps10
  go_wp2_with fail
  refine HF.out.mono ?_
  rintro e w1 ⟨rfl, hb⟩
  have S1 := Lib.hid hb
  clear hb HF
  have hm := HM.out
  go_wp2_with fail
  refine (NB.out w1).mono ?_
  rintro e w2 ⟨rfl, hb⟩
  have S2 := Lib.hid (S1.out.trans (hb.mono S1.out.size))
  clear hb S1 NB hm
  go_wp2_with fail
  rw [← HT.out]
  refine (HP.out w2).mono ?_
  rintro e w3 ⟨rfl, hb⟩
  have S3 := Lib.hid (S2.out.trans (hb.mono S2.out.size))
  clear hb S2 HP HT
  have hq := HQ.out
  subst hq
  by_cases h2 : F = 0
  case neg =>
    have hy := HX.out.trans (if_neg h2)
    have t2 : ((F : Int) != 0) = true := by simp; omega
    clear h2 HX
    subst hy
    go_wp2_with fail
    exact ⟨rfl, _, results_tmp2 rfl _ _ _, rfl, S3.out⟩
  have hy := HX.out.trans (if_pos h2)
  have ⟨hx, hl⟩ := HB.out h2
  subst hx hy h2
  have HFU' := HFU.out
  have HL := Lib.hid hl
  clear hl HX HB HFU HQ
  generalize hsm : h.sum = sm at *
  cases sm with
  | true =>
    have HU : Hid (Y = seal9 17 src dst X) := HFU'
    clear HFU'
    go_wp2_with fail
    refine (refseal_any 17 src dst X w3 HS.out HDs.out (by have := HL.out; omega)).mono ?_
    rintro e w4 ⟨rfl, hb⟩
    have S4 := Lib.hid (S3.out.trans (hb.mono S3.out.size))
    clear hb S3
    rw [← HU.out]
    go_wp2_with fail
    exact ⟨rfl, _, results_tmp2 rfl _ _ _, rfl, S4.out⟩
  | false =>
    have hu : Y = X := HFU'
    subst hu
    go_wp2_with fail
    exact ⟨rfl, _, results_tmp2 rfl _ _ _, rfl, S3.out⟩

end Go.Proofs.YtbfcccfgphelhaaDoor
