/-
  The document's Get, walked.
-/
import Derived.Test.YtppobficnjpdiaaFlowRef
namespace Go.Proofs.Ytppobficnjpdiaa
open Go.RowKit
set_option linter.unusedVariables false

set_option maxRecDepth 100000 in
set_option maxHeartbeats 1000000 in
theorem refget9_any (p : ByteArray) (w : World) (hs : p.size ≤ 900000) :
    Calls Try.prog 17 #[.string p] w (Tells (.tuple #[.agg (flowH p).cells, .int .i64 (flowE p : Nat)]) w) := by
  have QO := Lib.hid (open_any p · (by omega))
  have HY := pay9_size' p
  have HA := Lib.hid (any9_sizes' p)
  have HP : Hid ((pay9 p).size ≤ 900000) := Nat.le_trans HY hs
  clear hs HY
  go_enter Try.func17, Try.ntmps17
  go_wp2_with fail
  refine (QO.out _).mono ?_
  rintro e w1 ⟨rfl, hb1⟩
  have G0 := Rg.new (openF p) hb1
  clear QO hb1
  by_cases he : openE p = 0
  case neg =>
    have G := Lib.hid G0
    have E := Lib.hid (flow_open he)
    have t1 : ((openE p : Int) != 0) = true := by simp; omega
    generalize openF p = f at *
    unfold F9.cells at G ⊢
    have ⟨z0, z1, z2, z3, z4⟩ := Hc9.of G.out.z
    have ⟨c0, c1, c2, c3, c4⟩ := Hc9.of G.out.f
    have f0 := G.out.z.frozen 0
    have f1 := G.out.z.frozen 1
    have f2 := G.out.z.frozen 2
    have f3 := G.out.z.frozen 3
    have f4 := G.out.z.frozen 4
    simp only [F9.zero] at z0 z1 z2 z3 z4 c0 c1 c2 c3 c4
    go_wp2_with fail
    exact ref9_stop (openE p) G.out E.out he rfl rfl
  obtain ⟨v0, v1, v2⟩ := opened he
  have eF : openF p = ⟨(any9 p).proto, (any9 p).src, (any9 p).dst, 0, 0⟩ := by unfold openF; rw [if_pos he]; rfl
  have eY : openY p = pay9 p := by unfold openY; rw [if_pos he]
  rw [eF] at G0 ⊢
  rw [eY]
  have t1 : ((openE p : Int) != 0) = false := by simp; omega
  have HX := Lib.hid (lax_len v1)
  have HN := Lib.hid (fun h3 => flowE_proto v0 v1 v2 h3)
  have HL := Lib.hid (fun h3 h4 => flowE_load v0 v1 v2 h3 h4)
  have HS := Lib.hid (fun h3 h4 h5 => flowE_sum v0 v1 v2 h3 h4 h5)
  have HO := Lib.hid (fun h3 h4 h5 => flowE_ok v0 v1 v2 h3 h4 h5)
  have HF : Hid (flow9 p = ⟨(any9 p).proto, (any9 p).src, (any9 p).dst, sp9 (any9 p).proto (pay9 p), dp9 (any9 p).proto (pay9 p)⟩) := rfl
  have HH : Hid (∀ own b, (any9 p).holds own b = if (any9 p).proto = 17 ∧ own = 0 then (any9 p).lax else decide (sumD (ph9 (any9 p).proto (any9 p).src (any9 p).dst b) = 0)) := fun _ _ => rfl
  clear v0 v1 v2 eF eY
  have HK := Lib.hid (fun h3 h4 => (⟨fun h5 => HS.out h3 h4 h5, fun h5 => HO.out h3 h4 h5⟩ : (_ → flowE p = 5) ∧ (_ → flowE p = 0)))
  clear HS HO
  generalize openE p = ke at *
  generalize pay9 p = b at *
  generalize (any9 p).holds = holds at *
  generalize (any9 p).lax = lax at *
  generalize (any9 p).proto = pr at *
  generalize (any9 p).src = src at *
  generalize (any9 p).dst = dst at *
  have G := Lib.hid G0
  clear G0 he
  unfold F9.cells at G ⊢
  simp only at G ⊢
  by_cases h6 : pr = 6
  · have hk6 : isK pr = true := by rw [h6]; rfl
    have HL2 := Lib.hid (HL.out hk6)
    have HK2 := Lib.hid (HK.out hk6)
    clear HL HK HN hk6
    have HL := HL2
    have HK := HK2
    clear HL2 HK2
    have t2 : (pr == 6) = true := by simp; omega
    have L7 : loadE pr b = get7E b := if_pos h6
    have S7' : sp9 pr b = (get7H b).src := if_pos h6
    have D7' : dp9 pr b = (get7H b).dst := if_pos h6
    have O7' : own9 pr b = get7N b := if_pos h6
    rw [L7] at HL HK
    rw [O7'] at HK
    rw [S7', D7'] at HF
    clear L7 S7' D7' O7'
    have HP6 := Lib.hid h6
    clear h6
    have ⟨z0, z1, z2, z3, z4⟩ := Hc9.of G.out.z
    have ⟨c0, c1, c2, c3, c4⟩ := Hc9.of G.out.f
    have f0 := G.out.z.frozen 0
    have f1 := G.out.z.frozen 1
    have f2 := G.out.z.frozen 2
    have f3 := G.out.z.frozen 3
    have f4 := G.out.z.frozen 4
    simp only [F9.zero] at z0 z1 z2 z3 z4 c0 c1 c2 c3 c4
    go_wp2_with fail
    refine (refget7_any b _ (by have := HP.out; omega)).mono ?_
    rintro e w2 ⟨rfl, hb2⟩
    have G1 := G.out.below hb2
    clear z0 z1 z2 z3 z4 c0 c1 c2 c3 c4 f0 f1 f2 f3 f4 G hb2 t1
    generalize get7E b = k at *
    generalize get7N b = n at *
    generalize get7H b = h at *
    have G2 := Lib.hid (G1.alloc (.cells h.cells 49))
    have ⟨s0, s1, s2, s3, s4, s5, s6, s7, s8⟩ := Hc7.of (Blk.new w2 h.cells 49)
    unfold S7.cells at G2 s0 s1 s2 s3 s4 s5 s6 s7 s8 ⊢
    clear G1
    have ⟨z0, z1, z2, z3, z4⟩ := Hc9.of G2.out.z
    have ⟨c0, c1, c2, c3, c4⟩ := Hc9.of G2.out.f
    have f0 := G2.out.z.frozen 0
    have f1 := G2.out.z.frozen 1
    have f2 := G2.out.z.frozen 2
    have f3 := G2.out.z.frozen 3
    have f4 := G2.out.z.frozen 4
    simp only [F9.zero] at z0 z1 z2 z3 z4 c0 c1 c2 c3 c4
    have b3 := G2.out.f.frozen 3
    have b4 := G2.out.f.frozen 4
    by_cases hk : k = 0
    case neg =>
      have t3 : ((k : Int) != 0) = true := by simp; omega
      have HE := Lib.hid (HL.out hk)
      clear HL HK
      go_wp2_with fail
      exact ref9_stop k G2.out HE.out hk rfl rfl
    have t3 : ((k : Int) != 0) = false := by simp; omega
    have HK2 := Lib.hid (HK.out hk)
    clear HL HK hk
    go_wp2_with fail
    go_region
    have G3 := Lib.hid (G2.out.ports h.src h.dst).drew
    simp only at G3
    generalize (((w2.alloc (Obj.cells #[Value.int IntKind.i64 h.src, Value.int IntKind.i64 h.dst, Value.int IntKind.u32 h.seq, Value.int IntKind.u32 h.ack, Value.int IntKind.i64 h.flg, Value.int IntKind.i64 h.win, Value.int IntKind.i64 h.urg, Value.string h.opt, Value.string h.pay] 49)).setCell ⟨w1.heap.size, 3, none⟩ (Value.int IntKind.i64 h.src)).setCell ⟨w1.heap.size, 4, none⟩ (Value.int IntKind.i64 h.dst)).drew = w3 at *
    clear z0 z1 z2 z3 z4 c0 c1 c2 c3 c4 f0 f1 f2 f3 f4 s0 s1 s2 s3 s4 s5 s6 s7 s8 G2 t3 b3 b4
    generalize h.src = hs at *
    generalize h.dst = hd at *
    have HA2 := HA.out
    have hsz := pseudo_len' src dst pr (b.size : Nat)
    have hX2 : (⟨(pseudoD src.data.toList dst.data.toList pr (b.size : Nat)).toArray⟩ : ByteArray).data.toList = pseudoD src.data.toList dst.data.toList pr (b.size : Nat) := rfl
    have hX3 : (⟨(pseudoD src.data.toList dst.data.toList pr (b.size : Nat)).toArray⟩ : ByteArray).size = (pseudoD src.data.toList dst.data.toList pr (b.size : Nat)).length := list_size _
    have RP := Lib.hid (fun W => refpseudo_any src dst pr (b.size : Nat) W (by omega) (by omega))
    generalize hX : (⟨(pseudoD src.data.toList dst.data.toList pr (b.size : Nat)).toArray⟩ : ByteArray) = X at *
    have HM : Hid (sumD (X ++ b).data.toList = sumD (ph9 pr src dst b)) := by
      show sumD (X ++ b).data.toList = sumD (ph9 pr src dst b)
      rw [cat_list, hX2]
      rfl
    have hXs : X.size ≤ 1000 := by omega
    have hbs := HP.out
    clear hX hX2 hX3 hsz HA2
    have ⟨z0, z1, z2, z3, z4⟩ := Hc9.of G3.out.z
    have ⟨c0, c1, c2, c3, c4⟩ := Hc9.of G3.out.f
    have f0 := G3.out.z.frozen 0
    have f1 := G3.out.z.frozen 1
    have f2 := G3.out.z.frozen 2
    have f3 := G3.out.z.frozen 3
    have f4 := G3.out.z.frozen 4
    simp only [F9.zero] at z0 z1 z2 z3 z4 c0 c1 c2 c3 c4
    go_wp2_with fail
    refine (RP.out _).mono ?_
    rintro e w4 ⟨rfl, hb4⟩
    have G4 := G3.out.below hb4
    clear z0 z1 z2 z3 z4 c0 c1 c2 c3 c4 f0 f1 f2 f3 f4 G3 hb4 RP
    go_wp2_with fail
    refine (refsum_any (X ++ b) _ (by rw [cat_size]; omega)).mono ?_
    rintro e w5 ⟨rfl, hb5⟩
    have G5 := Lib.hid (G4.below hb5)
    clear G4 hb5 hXs hbs
    rw [HM.out]
    have HMM := HH.out n b
    clear HH HM
    generalize sumD (ph9 pr src dst b) = m at *
    generalize holds n b = hl at *
    have HC := Lib.hid HMM
    clear HMM
    have ⟨z0, z1, z2, z3, z4⟩ := Hc9.of G5.out.z
    have ⟨c0, c1, c2, c3, c4⟩ := Hc9.of G5.out.f
    have f0 := G5.out.z.frozen 0
    have f1 := G5.out.z.frozen 1
    have f2 := G5.out.z.frozen 2
    have f3 := G5.out.z.frozen 3
    have f4 := G5.out.z.frozen 4
    simp only [F9.zero] at z0 z1 z2 z3 z4 c0 c1 c2 c3 c4
    have HC2 := HC.out.trans (if_neg (fun x => by have := x.1; have := HP6.out; omega))
    by_cases hm : m = 0
    case neg =>
      have t4 : ((m : Int) == 0) = false := by simp; omega
      have HE := Lib.hid (HK2.out.1 (HC2.trans (by simp [hm])))
      clear HK2 HF hm HC2
      go_wp2_with fail
      exact ref9_stop 5 G5.out HE.out (by decide) rfl rfl
    have t4 : ((m : Int) == 0) = true := by simp; omega
    have HE := Lib.hid (HK2.out.2 (HC2.trans (by simp [hm])))
    clear hm HC2
    have EH := Lib.hid ((flowH_ok HE.out).trans HF.out)
    clear HK2 HF
    go_wp2_with fail
    exact ref9_end ⟨pr, src, dst, hs, hd⟩ 0 G5.out HE.out EH.out rfl rfl
  have t2 : (pr == 6) = false := by simp; omega
  by_cases h17 : pr = 17
  · have hk6 : isK pr = true := by rw [h17]; rfl
    have HL2 := Lib.hid (HL.out hk6)
    have HK2 := Lib.hid (HK.out hk6)
    clear HL HK HN hk6
    have HL := HL2
    have HK := HK2
    clear HL2 HK2
    have t2b : (pr == 17) = true := by simp; omega
    have L7 : loadE pr b = get8E b := if_neg h6
    have S7' : sp9 pr b = (get8H b).src := if_neg h6
    have D7' : dp9 pr b = (get8H b).dst := if_neg h6
    have O7' : own9 pr b = get8N b := if_neg h6
    rw [L7] at HL HK
    rw [O7'] at HK
    rw [S7', D7'] at HF
    clear L7 S7' D7' O7'
    have HP6 := Lib.hid h17
    clear h6 h17
    have ⟨z0, z1, z2, z3, z4⟩ := Hc9.of G.out.z
    have ⟨c0, c1, c2, c3, c4⟩ := Hc9.of G.out.f
    have f0 := G.out.z.frozen 0
    have f1 := G.out.z.frozen 1
    have f2 := G.out.z.frozen 2
    have f3 := G.out.z.frozen 3
    have f4 := G.out.z.frozen 4
    simp only [F9.zero] at z0 z1 z2 z3 z4 c0 c1 c2 c3 c4
    go_wp2_with fail
    refine (refget8_any b _ (by have := HP.out; omega)).mono ?_
    rintro e w2 ⟨rfl, hb2⟩
    have G1 := G.out.below hb2
    clear z0 z1 z2 z3 z4 c0 c1 c2 c3 c4 f0 f1 f2 f3 f4 G hb2 t1
    generalize get8E b = k at *
    generalize get8N b = n at *
    generalize get8H b = h at *
    have G2 := Lib.hid (G1.alloc (.cells h.cells 83))
    have ⟨s0, s1, s2⟩ := Hc8.of (Blk.new w2 h.cells 83)
    unfold D8.cells at G2 s0 s1 s2 ⊢
    clear G1
    have ⟨z0, z1, z2, z3, z4⟩ := Hc9.of G2.out.z
    have ⟨c0, c1, c2, c3, c4⟩ := Hc9.of G2.out.f
    have f0 := G2.out.z.frozen 0
    have f1 := G2.out.z.frozen 1
    have f2 := G2.out.z.frozen 2
    have f3 := G2.out.z.frozen 3
    have f4 := G2.out.z.frozen 4
    simp only [F9.zero] at z0 z1 z2 z3 z4 c0 c1 c2 c3 c4
    have b3 := G2.out.f.frozen 3
    have b4 := G2.out.f.frozen 4
    by_cases hk : k = 0
    case neg =>
      have t3 : ((k : Int) != 0) = true := by simp; omega
      have HE := Lib.hid (HL.out hk)
      clear HL HK
      go_wp2_with fail
      exact ref9_stop k G2.out HE.out hk rfl rfl
    have t3 : ((k : Int) != 0) = false := by simp; omega
    have HK2 := Lib.hid (HK.out hk)
    clear HL HK hk
    go_wp2_with fail
    go_region
    have G3 := Lib.hid (G2.out.ports h.src h.dst).drew
    simp only at G3
    generalize (((w2.alloc (Obj.cells #[Value.int IntKind.i64 h.src, Value.int IntKind.i64 h.dst, Value.string h.pay] 83)).setCell ⟨w1.heap.size, 3, none⟩ (Value.int IntKind.i64 h.src)).setCell ⟨w1.heap.size, 4, none⟩ (Value.int IntKind.i64 h.dst)).drew = w3 at *
    clear z0 z1 z2 z3 z4 c0 c1 c2 c3 c4 f0 f1 f2 f3 f4 s0 s1 s2 G2 t3 b3 b4
    generalize h.src = hs at *
    generalize h.dst = hd at *
    have HA2 := HA.out
    have hsz := pseudo_len' src dst pr (b.size : Nat)
    have hX2 : (⟨(pseudoD src.data.toList dst.data.toList pr (b.size : Nat)).toArray⟩ : ByteArray).data.toList = pseudoD src.data.toList dst.data.toList pr (b.size : Nat) := rfl
    have hX3 : (⟨(pseudoD src.data.toList dst.data.toList pr (b.size : Nat)).toArray⟩ : ByteArray).size = (pseudoD src.data.toList dst.data.toList pr (b.size : Nat)).length := list_size _
    have RP := Lib.hid (fun W => refpseudo_any src dst pr (b.size : Nat) W (by omega) (by omega))
    generalize hX : (⟨(pseudoD src.data.toList dst.data.toList pr (b.size : Nat)).toArray⟩ : ByteArray) = X at *
    have HM : Hid (sumD (X ++ b).data.toList = sumD (ph9 pr src dst b)) := by
      show sumD (X ++ b).data.toList = sumD (ph9 pr src dst b)
      rw [cat_list, hX2]
      rfl
    have hXs : X.size ≤ 1000 := by omega
    have hbs := HP.out
    clear hX hX2 hX3 hsz HA2
    have ⟨z0, z1, z2, z3, z4⟩ := Hc9.of G3.out.z
    have ⟨c0, c1, c2, c3, c4⟩ := Hc9.of G3.out.f
    have f0 := G3.out.z.frozen 0
    have f1 := G3.out.z.frozen 1
    have f2 := G3.out.z.frozen 2
    have f3 := G3.out.z.frozen 3
    have f4 := G3.out.z.frozen 4
    simp only [F9.zero] at z0 z1 z2 z3 z4 c0 c1 c2 c3 c4
    go_wp2_with fail
    refine (RP.out _).mono ?_
    rintro e w4 ⟨rfl, hb4⟩
    have G4 := G3.out.below hb4
    clear z0 z1 z2 z3 z4 c0 c1 c2 c3 c4 f0 f1 f2 f3 f4 G3 hb4 RP
    go_wp2_with fail
    refine (refsum_any (X ++ b) _ (by rw [cat_size]; omega)).mono ?_
    rintro e w5 ⟨rfl, hb5⟩
    have G5 := Lib.hid (G4.below hb5)
    clear G4 hb5 hXs hbs
    rw [HM.out]
    have HMM := HH.out n b
    clear HH HM
    generalize sumD (ph9 pr src dst b) = m at *
    generalize holds n b = hl at *
    have HC := Lib.hid HMM
    clear HMM
    have ⟨z0, z1, z2, z3, z4⟩ := Hc9.of G5.out.z
    have ⟨c0, c1, c2, c3, c4⟩ := Hc9.of G5.out.f
    have f0 := G5.out.z.frozen 0
    have f1 := G5.out.z.frozen 1
    have f2 := G5.out.z.frozen 2
    have f3 := G5.out.z.frozen 3
    have f4 := G5.out.z.frozen 4
    simp only [F9.zero] at z0 z1 z2 z3 z4 c0 c1 c2 c3 c4
    by_cases hn : n = 0
    · have t5 : ((n : Int) == 0) = true := by simp; omega
      have HC2 := Lib.hid (HC.out.trans (if_pos ⟨HP6.out, hn⟩))
      have HX2 := HX.out
      clear hn
      cases lax with
      | false =>
        have HE := Lib.hid (HK2.out.1 HC2.out)
        clear HK2 HF
        go_wp2_with fail
        exact ref9_stop 5 G5.out HE.out (by decide) rfl rfl
      | true =>
        have HE := Lib.hid (HK2.out.2 HC2.out)
        have EH := Lib.hid ((flowH_ok HE.out).trans HF.out)
        clear HK2 HF
        go_wp2_with fail
        exact ref9_end ⟨pr, src, dst, hs, hd⟩ 0 G5.out HE.out EH.out rfl rfl
    have t5 : ((n : Int) == 0) = false := by simp; omega
    have HC2 := HC.out.trans (if_neg (fun x => hn x.2))
    by_cases hm : m = 0
    case neg =>
      have t4 : ((m : Int) == 0) = false := by simp; omega
      have HE := Lib.hid (HK2.out.1 (HC2.trans (by simp [hm])))
      clear HK2 HF hm HC2 hn
      go_wp2_with fail
      exact ref9_stop 5 G5.out HE.out (by decide) rfl rfl
    have t4 : ((m : Int) == 0) = true := by simp; omega
    have HE := Lib.hid (HK2.out.2 (HC2.trans (by simp [hm])))
    clear hm HC2 hn
    have EH := Lib.hid ((flowH_ok HE.out).trans HF.out)
    clear HK2 HF
    go_wp2_with fail
    exact ref9_end ⟨pr, src, dst, hs, hd⟩ 0 G5.out HE.out EH.out rfl rfl
  have t3 : (pr == 17) = false := by simp; omega
  have HE := Lib.hid (HN.out (by unfold isK; rw [t2, t3]; rfl))
  clear HN HL HK HF HH h6 h17
  have ⟨z0, z1, z2, z3, z4⟩ := Hc9.of G.out.z
  have ⟨c0, c1, c2, c3, c4⟩ := Hc9.of G.out.f
  have f0 := G.out.z.frozen 0
  have f1 := G.out.z.frozen 1
  have f2 := G.out.z.frozen 2
  have f3 := G.out.z.frozen 3
  have f4 := G.out.z.frozen 4
  simp only [F9.zero] at z0 z1 z2 z3 z4 c0 c1 c2 c3 c4
  go_wp2_with fail
  exact ref9_stop 6 G.out HE.out (by decide) rfl rfl

end Go.Proofs.Ytppobficnjpdiaa
