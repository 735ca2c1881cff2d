/-
  The document's Add, behind the entry.
-/
import Derived.Test.YtoijomdgcgbpbaaReasmRB
import Derived.Test.YtoijomdgcgbpbaaTk
import Derived.Test.YtoijomdgcgbpbaaReasmRPay
import Derived.Test.YtoijomdgcgbpbaaReasmRfit
import Derived.Test.YtoijomdgcgbpbaaReasmRC
import Derived.Test.YtoijomdgcgbpbaaIp4B
import Derived.Deep.CutBlock
import Derived.Deep.DeepCutAuto
namespace Go.Proofs.Ytoijomdgcgbpbaa
open Go.RowKit
set_option linter.unusedVariables false
set_option linter.unusedSimpArgs false


set_option maxRecDepth 100000 in
set_option maxHeartbeats 4000000 in
theorem radd_t12 {R : Nat → Prop} {mb hb i : Nat} {s : S16} {v1 vo : Value} {ms1 : List (R16 × Value)} {l : List E16} {rl : List R16} {x : H4 × ByteArray} {ps : List (H4 × ByteArray)} {w W : World} {A : (ByteArray × Nat) × List E16} {u1 u2 u3 u4 u5 u6 u7 u8 u12 u13 u14 u15 u16 u17 u18 u19 u20 u21 u22 u23 u24 u25 u26 u27 u28 u29 u30 u31 u32 u33 u34 u35 u36 u37 u38 u39 u40 u41 u42 u43 u44 u45 u46 u47 u48 u49 u50 u51 u52 u53 u54 u55 u56 u57 u58 u59 u60 u61 u62 u63 u64 u65 u66 u67 u68 u69 u70 u71 u72 u73 u74 u75 u76 u77 u78 u79 u80 u81 u82 u83 u84 u85 u86 u87 u88 u89 u90 u91 u92 u93 u94 u95 u96 u97 u98 u99 u100 u101 u102 u103 u104 u105 u106 u107 u108 u109 u110 u111 u112 u113 u114 u115 u116 u117 u118 u119 u120 u121 u122 u123 u124 u125 u126 u127 u128 u129 u130 u131 u132 u133 u134 u135 u136 u137 u138 u139 u140 u141 u142 u143 u144 u145 u146 u147 u148 u149 u150 u151 u152 u153 u154 u155 u156 u157 u158 u159 u160 u161 u162 u163 u164 u165 u166 u167 u168 u169 u170 u171 u172 u173 u174 u175 u176 u177 u178 u179 u180 u181 u182 u183 u184 u185 u186 u187 u188 u189 u190 u191 u192 u193 u194 u195 u196 u197 u198 u199 u200 u201 u202 u203 u204 u205 u206 u207 u208 u209 u210 u211 u212 u213 : Value}
    (ba : Ba16 R w W mb hb s v1 ms1 x vo ps) (hi : i < ms1.length) (hm1 : (ms1[i]'hi).1 = rold rl x.1) (hps : ps = (rold rl x.1).ps) (hml1 : ms1.map (·.1) = rl.take i ++ rold rl x.1 :: rl.drop (i + 1)) (rel : Rels l rl) (t : Tab16 s.e.toNat s.b.toNat s.l.toNat l)
    (hf : rfind rl x.1.key = i) (hno : rno s.e.toNat s.b.toNat rl x = 0) (hA : A = made16 l x.1 (pcOf x)) (hok : x.1.Ok) (hsz : x.2.size ≤ 65535) (hpl : ps.length ≤ 65536) :
    Code.wp Try.prog (rcode16 12) (bodyPost Try.prog Try.f16 (RAdd16 R w mb s A)) ⟨List.toArray ((.pointer (some ⟨mb, 0, none⟩)) :: u1 :: u2 :: u3 :: u4 :: u5 :: u6 :: u7 :: u8 :: (.pointer (some ⟨hb + 1, 0, none⟩)) :: (.int .i64 (i : Nat)) :: (vo) :: u12 :: u13 :: u14 :: u15 :: u16 :: u17 :: u18 :: u19 :: u20 :: u21 :: u22 :: u23 :: u24 :: u25 :: u26 :: u27 :: u28 :: u29 :: u30 :: u31 :: u32 :: u33 :: u34 :: u35 :: u36 :: u37 :: u38 :: u39 :: u40 :: u41 :: u42 :: u43 :: u44 :: u45 :: u46 :: u47 :: u48 :: u49 :: u50 :: u51 :: u52 :: u53 :: u54 :: u55 :: u56 :: u57 :: u58 :: u59 :: u60 :: u61 :: u62 :: u63 :: u64 :: u65 :: u66 :: u67 :: u68 :: u69 :: u70 :: u71 :: u72 :: u73 :: u74 :: u75 :: u76 :: u77 :: u78 :: u79 :: u80 :: u81 :: u82 :: u83 :: u84 :: u85 :: u86 :: u87 :: u88 :: u89 :: u90 :: u91 :: u92 :: u93 :: u94 :: u95 :: u96 :: u97 :: u98 :: u99 :: u100 :: u101 :: u102 :: u103 :: u104 :: u105 :: u106 :: u107 :: u108 :: u109 :: u110 :: u111 :: u112 :: u113 :: u114 :: u115 :: u116 :: u117 :: u118 :: u119 :: u120 :: u121 :: u122 :: u123 :: u124 :: u125 :: u126 :: u127 :: u128 :: u129 :: u130 :: u131 :: u132 :: u133 :: u134 :: u135 :: u136 :: u137 :: u138 :: u139 :: u140 :: u141 :: u142 :: u143 :: u144 :: u145 :: u146 :: u147 :: u148 :: u149 :: u150 :: u151 :: u152 :: u153 :: u154 :: u155 :: u156 :: u157 :: u158 :: u159 :: u160 :: u161 :: u162 :: u163 :: u164 :: u165 :: u166 :: u167 :: u168 :: u169 :: u170 :: u171 :: u172 :: u173 :: u174 :: u175 :: u176 :: u177 :: u178 :: u179 :: u180 :: u181 :: u182 :: u183 :: u184 :: u185 :: u186 :: u187 :: u188 :: u189 :: u190 :: u191 :: u192 :: u193 :: u194 :: u195 :: u196 :: u197 :: u198 :: u199 :: u200 :: u201 :: u202 :: u203 :: u204 :: u205 :: u206 :: u207 :: u208 :: u209 :: u210 :: u211 :: u212 :: u213 :: []), []⟩ W := by
  have BA := Lib.hid ba
  have HM1 := Lib.hid hm1
  have HPS := Lib.hid hps
  have HML := Lib.hid hml1
  have REL := Lib.hid rel
  have T := Lib.hid t
  have HF := Lib.hid hf
  have HNO := Lib.hid hno
  have HA := Lib.hid hA
  have HOK := Lib.hid hok
  clear ba hm1 hps hml1 rel t hf hno hA hok
  conv => arg 2; whnf
  go_step
  rename_i KR hKR
  refine wp_cut (fun a' wx => ∃ u14 u172 u173 u174 u175 u176 u177 : Value, (Hid (RRow wx u14 (ps ++ [x]) ∧ (∀ g, u14.ownBlock = some g → W.heap.size ≤ g) ∧ Below W.heap.size W wx)) ∧ a' = ⟨List.toArray ((.pointer (some ⟨mb, 0, none⟩)) :: u1 :: u2 :: u3 :: u4 :: u5 :: u6 :: u7 :: u8 :: (.pointer (some ⟨hb + 1, 0, none⟩)) :: (.int .i64 (i : Nat)) :: (vo) :: u12 :: u13 :: u14 :: u15 :: u16 :: u17 :: u18 :: u19 :: u20 :: u21 :: u22 :: u23 :: u24 :: u25 :: u26 :: u27 :: u28 :: u29 :: u30 :: u31 :: u32 :: u33 :: u34 :: u35 :: u36 :: u37 :: u38 :: u39 :: u40 :: u41 :: u42 :: u43 :: u44 :: u45 :: u46 :: u47 :: u48 :: u49 :: u50 :: u51 :: u52 :: u53 :: u54 :: u55 :: u56 :: u57 :: u58 :: u59 :: u60 :: u61 :: u62 :: u63 :: u64 :: u65 :: u66 :: u67 :: u68 :: u69 :: u70 :: u71 :: u72 :: u73 :: u74 :: u75 :: u76 :: u77 :: u78 :: u79 :: u80 :: u81 :: u82 :: u83 :: u84 :: u85 :: u86 :: u87 :: u88 :: u89 :: u90 :: u91 :: u92 :: u93 :: u94 :: u95 :: u96 :: u97 :: u98 :: u99 :: u100 :: u101 :: u102 :: u103 :: u104 :: u105 :: u106 :: u107 :: u108 :: u109 :: u110 :: u111 :: u112 :: u113 :: u114 :: u115 :: u116 :: u117 :: u118 :: u119 :: u120 :: u121 :: u122 :: u123 :: u124 :: u125 :: u126 :: u127 :: u128 :: u129 :: u130 :: u131 :: u132 :: u133 :: u134 :: u135 :: u136 :: u137 :: u138 :: u139 :: u140 :: u141 :: u142 :: u143 :: u144 :: u145 :: u146 :: u147 :: u148 :: u149 :: u150 :: u151 :: u152 :: u153 :: u154 :: u155 :: u156 :: u157 :: u158 :: u159 :: u160 :: u161 :: u162 :: u163 :: u164 :: u165 :: u166 :: u167 :: u168 :: u169 :: u170 :: u171 :: u172 :: u173 :: u174 :: u175 :: u176 :: u177 :: u178 :: u179 :: u180 :: u181 :: u182 :: u183 :: u184 :: u185 :: u186 :: u187 :: u188 :: u189 :: u190 :: u191 :: u192 :: u193 :: u194 :: u195 :: u196 :: u197 :: u198 :: u199 :: u200 :: u201 :: u202 :: u203 :: u204 :: u205 :: u206 :: u207 :: u208 :: u209 :: u210 :: u211 :: u212 :: u213 :: []), []⟩) ?_ ?_
  · intro _ wc hinv
    obtain ⟨u14, hinv⟩ := hinv
    obtain ⟨u172, hinv⟩ := hinv
    obtain ⟨u173, hinv⟩ := hinv
    obtain ⟨u174, hinv⟩ := hinv
    obtain ⟨u175, hinv⟩ := hinv
    obtain ⟨u176, hinv⟩ := hinv
    obtain ⟨u177, hinv⟩ := hinv
    obtain ⟨hcut, ha⟩ := hinv
    subst ha
    have HC := hcut
    clear hcut
    obtain ⟨e1, r1, more⟩ := more16 T.out REL.out HF.out HNO.out HA.out HOK.out hsz
    have MO := Lib.hid more
    clear more HNO HA T
    obtain ⟨va, vcap, hv⟩ := owns_len HC.out.1
    subst hv
    have EN := Lib.hid (End16.mk (BA.out.tab.below HC.out.2.2) (kb_below BA.out.kb HC.out.2.2))
    have hwW := BA.out.kb.size
    have HB : Blk wc (hb + 1) _ _ := (HC.out.2.2.block _ BA.out.x.lt).trans BA.out.x
    have HP := Lib.hid (show RRow wc (.slice va (ps ++ [x]).length vcap) r1.ps by
      rw [MO.out.ps, ← HPS.out]
      exact HC.out.1)
    have HO := Lib.hid (show ∀ g, (Value.slice va (ps ++ [x]).length vcap).ownBlock = some g → R g ∨ w.heap.size ≤ g from fun g e => Or.inr (Nat.le_trans hwW (HC.out.2.1 g e)))
    have EI := Lib.hid (show ms1[i]'hi = (rold rl x.1, (ms1[i]'hi).2) from by rw [← HM1.out])
    clear HC BA hwW HB
    generalize (ps ++ [x]).length = n1 at *
    obtain ⟨g, cap, hv, hg, hc, hfr⟩ := EN.out.tab.entry hi
    subst hv
    have TBK : Blk wc mb _ _ := EN.out.tab.tb
    have c3 := TBK.cell 3
    simp only [List.getElem?_toArray, List.getElem?_cons_zero, List.getElem?_cons_succ] at c3
    clear TBK
    have c10 := hc 10 (by omega)
    have f10 := hfr (i * 13 + 10)
    simp only [recells, List.getElem?_cons_zero, List.getElem?_cons_succ] at c10
    clear hc hfr
    have u0 : (0 : Int) ≤ (i : Int) := by omega
    have u1 : (i : Int) < (ms1.length : Int) := by omega
    go_upto_region 30 with (fail)
    have E2 := Lib.hid (EN.out.set hi (j := 10) (by omega) (m' := (r1, .slice va n1 vcap)) (by rw [EI.out, MO.out.is]; exact recells_ps _ x _ _) HP.out HO.out rfl)
    have PAY := Lib.hid (pay16_any e1.qs r1.ps e1.hd (.slice va n1 vcap) _ (E2.out.tab.ps (r1, .slice va n1 vcap) (List.mem_set hi _)) MO.out.fine MO.out.rel.perm MO.out.each MO.out.rel.first MO.out.few.1 MO.out.few.2)
    clear c3 c10 f10 EN EI HP HO
    generalize wc.setCell ⟨g, i * 13 + 10, none⟩ (.slice va n1 vcap) = w2 at *
    go_wp2_with fail
    refine PAY.out.mono ?_
    rintro e w3 hpay
    obtain ⟨hb3, his⟩ := hpay
    have E3 := Lib.hid (E2.out.below hb3)
    clear hb3 E2 PAY
    have HLE := Lib.hid (show i ≤ rl.length from by rw [← HF.out]; exact List.findIdx_le_length)
    have REN := Lib.hid (show Rels (upd16 l i e1) ((ms1.set i (r1, .slice va n1 vcap)).map (·.1)) from by rw [set_mid _ ms1 HLE.out HML.out]; exact Rels.upd MO.out.rel REL.out i)
    rcases his with ⟨hw, xx, y, rfl⟩ | ⟨hw, rfl⟩
    · have AEE := Lib.hid (MO.out.more hw)
      clear hw
      unfold H4.cells
      go_wp2_with fail
      go_ret2
      exact End16.told (E3.out.below ((Below.refl _ _).alloc (Nat.le_refl _) _)) (by rw [AEE.out]; rfl) (by rw [AEE.out]) (by rw [AEE.out]; exact REN.out)
    · have AEE := Lib.hid (MO.out.done hw)
      have RE2 := Lib.hid (show Rels (upd16 l i e1.over) ((ms1.set i (r1.over, .slice none 0 0)).map (·.1)) from by rw [set_mid _ ms1 HLE.out HML.out]; exact Rels.upd MO.out.rel.over REL.out i)
      have hcs : (cat16 e1.qs).size ≤ 140737488355328 := by
        rw [cat16_size]
        have := MO.out.few.2
        omega
      clear hw REN REL HML HLE
      have HPU := Lib.hid (fun W => refput_any e1.hd.whole (cat16 e1.qs) W hcs)
      clear hcs
      generalize cat16 e1.qs = CT at *
      generalize he1 : e1.hd = hd at *
      have ESZ := Lib.hid (show w.heap.size ≤ w3.heap.size from E3.out.kb.size)
      unfold H4.cells
      go_upto_region 33 with (fail)
      have E4 := Lib.hid (E3.out.below ((Below.refl _ _).alloc (Nat.le_refl _) (.cells hd.cells 43)))
      have HH4 := Lib.hid (Blk.new w3 hd.cells 43)
      unfold H4.cells at E4
      unfold H4.cells at HH4
      clear E3
      generalize w3.alloc (.cells #[.int .i64 hd.tos, .int .i64 hd.id, .int .i64 hd.off, .int .i64 hd.ttl, .int .i64 hd.proto, .bool hd.df, .bool hd.mf, .string hd.src, .string hd.dst, .string hd.opt] 43) = w4 at *
      generalize w3.heap.size = nh at *
      have TBK : Blk w4 mb _ _ := E4.out.tab.tb
      have c3 := TBK.cell 3
      have cc := E4.out.at (i := i) (by rw [List.length_set]; exact hi) rfl (j := 10) (by omega)
      rw [List.getElem_set_self] at cc
      obtain ⟨c10, f10⟩ := cc
      simp only [recells, List.getElem?_toArray, List.getElem?_cons_zero, List.getElem?_cons_succ] at c3 c10
      clear TBK
      go_upto_region 34 with (fail)
      have E5 := Lib.hid (E4.out.again hi (j := 10) (by omega) (m' := ({ r1 with ps := [] }, .slice none 0 0)) (recells_nil r1 _) (RRow.none _) (fun g e => by cases e) rfl)
      have HH5 := Lib.hid (HH4.out.set_other (p := ⟨g, i * 13 + 10, none⟩) (E4.out.ne rfl HH4.out (by decide)) (.slice none 0 0))
      clear E4 HH4 c3 c10 f10
      generalize w4.setCell ⟨g, i * 13 + 10, none⟩ (.slice none 0 0) = w5 at *
      have TBK : Blk w5 mb _ _ := E5.out.tab.tb
      have c3 := TBK.cell 3
      have cc := E5.out.at (i := i) (by rw [List.length_set]; exact hi) rfl (j := 11) (by omega)
      rw [List.getElem_set_self] at cc
      obtain ⟨c11, f11⟩ := cc
      simp only [recells, List.getElem?_toArray, List.getElem?_cons_zero, List.getElem?_cons_succ] at c3 c11
      clear TBK
      go_upto_region 35 with (fail)
      have E6 := Lib.hid (E5.out.again hi (j := 11) (by omega) (m' := (r1.over, .slice none 0 0)) (recells_over r1) (RRow.none _) (fun g e => by cases e) rfl)
      have HH6 := Lib.hid (HH5.out.set_other (p := ⟨g, i * 13 + 11, none⟩) (E5.out.ne rfl HH5.out (by decide)) (.bool true))
      clear E5 HH5 c3 c11 f11
      generalize w5.setCell ⟨g, i * 13 + 11, none⟩ (.bool true) = w6 at *
      have b6 := (show Blk w6 nh _ _ from HH6.out).cell 6
      have fb6 := (show Blk w6 nh _ _ from HH6.out).frozen 6
      simp only [List.getElem?_toArray, List.getElem?_cons_zero, List.getElem?_cons_succ] at b6
      go_upto_region 36 with (fail)
      have E7 := Lib.hid (E6.out.odd HH6.out ESZ.out 6 (.bool false))
      have HH7 : Hid (Blk (w6.setCell ⟨nh, 6, none⟩ (.bool false)) nh hd.whole.cells 43) := Blk.set HH6.out 6 (.bool false)
      clear E6 HH6 b6 fb6
      generalize w6.setCell ⟨nh, 6, none⟩ (.bool false) = w7 at *
      generalize hd.whole = hw at *
      obtain ⟨q0, q1, q2, q3, q4, q5, q6, q7, q8, q9⟩ := Hc.of HH7.out
      unfold H4.cells at HPU
      go_wp2_with fail
      refine (HPU.out _).mono ?_
      rintro e w8 ⟨rfl, hb8⟩
      have E8 := Lib.hid (E7.out.below hb8)
      clear hb8 E7
      go_wp2_with fail
      go_ret2
      exact End16.told E8.out (by rw [AEE.out]) (by rw [AEE.out]) (by rw [AEE.out]; exact RE2.out)
  · intro J KM hJ hM
    have HJ := Lib.hid hJ
    clear hJ
    clear hKR
    have HB : Blk W (hb + 1) _ _ := BA.out.x
    have LC := Lib.hid (fun WS (b : Below W.heap.size W WS) => show (fun WS => WS.cell? ⟨hb + 1, 0, none⟩ = some (.int .i64 x.1.tos) ∧ WS.cell? ⟨hb + 1, 1, none⟩ = some (.int .i64 x.1.id) ∧ WS.cell? ⟨hb + 1, 2, none⟩ = some (.int .i64 x.1.off) ∧ WS.cell? ⟨hb + 1, 3, none⟩ = some (.int .i64 x.1.ttl) ∧ WS.cell? ⟨hb + 1, 4, none⟩ = some (.int .i64 x.1.proto) ∧ WS.cell? ⟨hb + 1, 5, none⟩ = some (.bool x.1.df) ∧ WS.cell? ⟨hb + 1, 6, none⟩ = some (.bool x.1.mf) ∧ WS.cell? ⟨hb + 1, 7, none⟩ = some (.string x.1.src) ∧ WS.cell? ⟨hb + 1, 8, none⟩ = some (.string x.1.dst) ∧ WS.cell? ⟨hb + 1, 9, none⟩ = some (.string x.1.opt) ∧ WS.cell? ⟨hb + 1, 10, none⟩ = some (.string x.2)) WS from by
      have HW : Blk WS (hb + 1) _ _ := (b.block _ HB.lt).trans HB
      exact ⟨HW.cell 0, HW.cell 1, HW.cell 2, HW.cell 3, HW.cell 4, HW.cell 5, HW.cell 6, HW.cell 7, HW.cell 8, HW.cell 9, HW.cell 10⟩)
    have OR := Lib.hid (fun WS (b : Below W.heap.size W WS) => row_below BA.out.row b)
    clear HB
    obtain ⟨i0, hi0, hz0, hz1, hz2⟩ := info_parts Try.infoQ
    refine wp_region_held_drew (S := fun WS => WS.cell? ⟨hb + 1, 0, none⟩ = some (.int .i64 x.1.tos) ∧ WS.cell? ⟨hb + 1, 1, none⟩ = some (.int .i64 x.1.id) ∧ WS.cell? ⟨hb + 1, 2, none⟩ = some (.int .i64 x.1.off) ∧ WS.cell? ⟨hb + 1, 3, none⟩ = some (.int .i64 x.1.ttl) ∧ WS.cell? ⟨hb + 1, 4, none⟩ = some (.int .i64 x.1.proto) ∧ WS.cell? ⟨hb + 1, 5, none⟩ = some (.bool x.1.df) ∧ WS.cell? ⟨hb + 1, 6, none⟩ = some (.bool x.1.mf) ∧ WS.cell? ⟨hb + 1, 7, none⟩ = some (.string x.1.src) ∧ WS.cell? ⟨hb + 1, 8, none⟩ = some (.string x.1.dst) ∧ WS.cell? ⟨hb + 1, 9, none⟩ = some (.string x.1.opt) ∧ WS.cell? ⟨hb + 1, 10, none⟩ = some (.string x.2)) (by kernel_rfl) ?_ (fun hHeld => ?_)
    · exact LC.out _ (Below.refl _ _).drew
    have B0 := Lib.hid (Below.refl W.heap.size W).drew
    refine tk 1 (some 173) rfl rfl ?_
    simp only [Act.put, List.setIfInBounds_toArray, List.set_cons_zero, List.set_cons_succ]
    refine tk 3 (some 175) rfl rfl ?_
    simp only [Act.put, List.setIfInBounds_toArray, List.set_cons_zero, List.set_cons_succ]
    refine wpAnyH_ready (rs := [0, 4]) (by kernel_rfl) (by simp) ?_
    refine AllReadyH.cons rfl (fun K hK => ?_) ?_
    · go_simp
      refine hK.out _ _ (LC.out _ (B0.out.alloc B0.out.size _)) (fun held1 => ?_)
      clear hK K
      have M1 := Lib.hid (Made.lit B0.out 85 11 (W.heap.size) (by simp))
      have B1 := Lib.hid (B0.out.alloc B0.out.size (.cells #[] 85))
      try simp only [Act.put, List.setIfInBounds_toArray, List.set_cons_zero, List.set_cons_succ]
      refine wpAnyH_ready (rs := [2, 4]) (by kernel_rfl) (by simp) ?_
      refine AllReadyH.cons rfl (fun K hK => ?_) ?_
      · rw [if_pos (by kernel_rfl)]
        refine wp_append_row (.tmp 172) (.tmp 173) 73 rfl 85 i0 _ 11 112 (by kernel_rfl) hi0 hz0 hz1 hz2 rfl (by decide) rfl M1.out.own rfl (OR.out _ B1.out) (pccells_one ps) (by unfold maxLen; omega) (by omega) (fun v2 w2 ho hg hat => ?_)
        refine hK.out _ _ (LC.out _ (Made.app M1.out ho hg hat).bel) (fun held2 => ?_)
        clear hK K
        have M2 := Lib.hid (Made.app M1.out ho hg hat)
        have B2 := Lib.hid M2.out.bel
        clear ho hg hat
        try simp only [Act.put, List.setIfInBounds_toArray, List.set_cons_zero, List.set_cons_succ]
        refine wpAnyH_ready (rs := [4]) (by kernel_rfl) (by simp) ?_
        refine AllReadyH.cons rfl (fun K hK => ?_) AllReadyH.nil
        go_simp
        refine hK.out _ _ (LC.out _ (B2.out.alloc B2.out.size _)) (fun held3 => ?_)
        clear hK K
        have X3 := Lib.hid (new_one B2.out 85 11 (w2.heap.size) (by simp) #[.int .i64 x.1.tos, .int .i64 x.1.id, .int .i64 x.1.off, .int .i64 x.1.ttl, .int .i64 x.1.proto, .bool x.1.df, .bool x.1.mf, .string x.1.src, .string x.1.dst, .string x.1.opt, .string x.2] rfl)
        have M3 := Lib.hid (made_alloc M2.out (.cells #[.int .i64 x.1.tos, .int .i64 x.1.id, .int .i64 x.1.off, .int .i64 x.1.ttl, .int .i64 x.1.proto, .bool x.1.df, .bool x.1.mf, .string x.1.src, .string x.1.dst, .string x.1.opt, .string x.2] 85))
        have NE3 := Lib.hid (ne_new M2.out.own 1 1 (w2.heap.size) (by simp))
        have B3 := Lib.hid (B2.out.alloc B2.out.size (.cells #[.int .i64 x.1.tos, .int .i64 x.1.id, .int .i64 x.1.off, .int .i64 x.1.ttl, .int .i64 x.1.proto, .bool x.1.df, .bool x.1.mf, .string x.1.src, .string x.1.dst, .string x.1.opt, .string x.2] 85))
        try simp only [Act.put, List.setIfInBounds_toArray, List.set_cons_zero, List.set_cons_succ]
        refine wpAnyH_ready (rs := [5]) (by kernel_rfl) (by simp) ?_
        refine AllReadyH.cons rfl (fun K hK => ?_) AllReadyH.nil
        rw [if_pos (by kernel_rfl)]
        refine wp_append_row (.tmp 174) (.tmp 176) 73 rfl 85 i0 _ 11 112 (by kernel_rfl) hi0 hz0 hz1 hz2 rfl (by decide) rfl M3.out.own rfl X3.out (piece_one x) (by unfold maxLen; omega) (by omega) (fun v4 w4 ho hg hat => ?_)
        refine hK.out _ _ (LC.out _ (Made.app M3.out ho hg hat).bel) (fun held4 => ?_)
        clear hK K
        have M4 := Lib.hid (Made.app M3.out ho hg hat)
        have B4 := Lib.hid M4.out.bel
        clear ho hg hat
        try simp only [Act.put, List.setIfInBounds_toArray, List.set_cons_zero, List.set_cons_succ]
        refine tk 6 (some 14) rfl rfl ?_
        simp only [Act.put, List.setIfInBounds_toArray, List.set_cons_zero, List.set_cons_succ]
        refine wpAnyH_done (by kernel_rfl) ?_ _
        go_wp2_with fail
        refine Met.intro (HJ.out _ _ ?_)
        repeat apply Exists.intro
        refine ⟨?_, rfl⟩
        exact Lib.hid ⟨row_done M4.out, M4.out.far, M4.out.bel⟩
      refine AllReadyH.cons rfl (fun K hK => ?_) AllReadyH.nil
      go_simp
      refine hK.out _ _ (LC.out _ (B1.out.alloc B1.out.size _)) (fun held5 => ?_)
      clear hK K
      have X5 := Lib.hid (new_one B1.out 85 11 (W.heap.size + 1) (by simp) #[.int .i64 x.1.tos, .int .i64 x.1.id, .int .i64 x.1.off, .int .i64 x.1.ttl, .int .i64 x.1.proto, .bool x.1.df, .bool x.1.mf, .string x.1.src, .string x.1.dst, .string x.1.opt, .string x.2] rfl)
      have M5 := Lib.hid (made_alloc M1.out (.cells #[.int .i64 x.1.tos, .int .i64 x.1.id, .int .i64 x.1.off, .int .i64 x.1.ttl, .int .i64 x.1.proto, .bool x.1.df, .bool x.1.mf, .string x.1.src, .string x.1.dst, .string x.1.opt, .string x.2] 85))
      have NE5 := Lib.hid (ne_new M1.out.own 1 1 (W.heap.size + 1) (by simp))
      have B5 := Lib.hid (B1.out.alloc B1.out.size (.cells #[.int .i64 x.1.tos, .int .i64 x.1.id, .int .i64 x.1.off, .int .i64 x.1.ttl, .int .i64 x.1.proto, .bool x.1.df, .bool x.1.mf, .string x.1.src, .string x.1.dst, .string x.1.opt, .string x.2] 85))
      try simp only [Act.put, List.setIfInBounds_toArray, List.set_cons_zero, List.set_cons_succ]
      refine wpAnyH_ready (rs := [2]) (by kernel_rfl) (by simp) ?_
      refine AllReadyH.cons rfl (fun K hK => ?_) AllReadyH.nil
      rw [if_pos (by kernel_rfl)]
      refine wp_append_row (.tmp 172) (.tmp 173) 73 rfl 85 i0 _ 11 112 (by kernel_rfl) hi0 hz0 hz1 hz2 rfl (by decide) rfl M5.out.own rfl (OR.out _ B5.out) (pccells_one ps) (by unfold maxLen; omega) (by omega) (fun v6 w6 ho hg hat => ?_)
      refine hK.out _ _ (LC.out _ (Made.app M5.out ho hg hat).bel) (fun held6 => ?_)
      clear hK K
      have M6 := Lib.hid (Made.app M5.out ho hg hat)
      have B6 := Lib.hid M6.out.bel
      have X6 := Lib.hid (own_other X5.out hg NE5.out)
      clear ho hg hat
      try simp only [Act.put, List.setIfInBounds_toArray, List.set_cons_zero, List.set_cons_succ]
      refine wpAnyH_ready (rs := [5]) (by kernel_rfl) (by simp) ?_
      refine AllReadyH.cons rfl (fun K hK => ?_) AllReadyH.nil
      rw [if_pos (by kernel_rfl)]
      refine wp_append_row (.tmp 174) (.tmp 176) 73 rfl 85 i0 _ 11 112 (by kernel_rfl) hi0 hz0 hz1 hz2 rfl (by decide) rfl M6.out.own rfl X6.out (piece_one x) (by unfold maxLen; omega) (by omega) (fun v7 w7 ho hg hat => ?_)
      refine hK.out _ _ (LC.out _ (Made.app M6.out ho hg hat).bel) (fun held7 => ?_)
      clear hK K
      have M7 := Lib.hid (Made.app M6.out ho hg hat)
      have B7 := Lib.hid M7.out.bel
      clear ho hg hat
      try simp only [Act.put, List.setIfInBounds_toArray, List.set_cons_zero, List.set_cons_succ]
      refine tk 6 (some 14) rfl rfl ?_
      simp only [Act.put, List.setIfInBounds_toArray, List.set_cons_zero, List.set_cons_succ]
      refine wpAnyH_done (by kernel_rfl) ?_ _
      go_wp2_with fail
      refine Met.intro (HJ.out _ _ ?_)
      repeat apply Exists.intro
      refine ⟨?_, rfl⟩
      exact Lib.hid ⟨row_done M7.out, M7.out.far, M7.out.bel⟩
    refine AllReadyH.cons rfl (fun K hK => ?_) AllReadyH.nil
    go_simp
    refine hK.out _ _ (LC.out _ (B0.out.alloc B0.out.size _)) (fun held8 => ?_)
    clear hK K
    have X8 := Lib.hid (new_one B0.out 85 11 (W.heap.size) (by simp) #[.int .i64 x.1.tos, .int .i64 x.1.id, .int .i64 x.1.off, .int .i64 x.1.ttl, .int .i64 x.1.proto, .bool x.1.df, .bool x.1.mf, .string x.1.src, .string x.1.dst, .string x.1.opt, .string x.2] rfl)
    have B8 := Lib.hid (B0.out.alloc B0.out.size (.cells #[.int .i64 x.1.tos, .int .i64 x.1.id, .int .i64 x.1.off, .int .i64 x.1.ttl, .int .i64 x.1.proto, .bool x.1.df, .bool x.1.mf, .string x.1.src, .string x.1.dst, .string x.1.opt, .string x.2] 85))
    try simp only [Act.put, List.setIfInBounds_toArray, List.set_cons_zero, List.set_cons_succ]
    refine wpAnyH_ready (rs := [0]) (by kernel_rfl) (by simp) ?_
    refine AllReadyH.cons rfl (fun K hK => ?_) AllReadyH.nil
    go_simp
    refine hK.out _ _ (LC.out _ (B8.out.alloc B8.out.size _)) (fun held9 => ?_)
    clear hK K
    have M9 := Lib.hid (Made.lit B8.out 85 11 (W.heap.size + 1) (by simp))
    have X9 := Lib.hid (X8.out.alloc (.cells #[] 85))
    have NE9 := Lib.hid (ne_old X8.out 0 0 (W.heap.size + 1) (by simp))
    have B9 := Lib.hid (B8.out.alloc B8.out.size (.cells #[] 85))
    try simp only [Act.put, List.setIfInBounds_toArray, List.set_cons_zero, List.set_cons_succ]
    refine wpAnyH_ready (rs := [2]) (by kernel_rfl) (by simp) ?_
    refine AllReadyH.cons rfl (fun K hK => ?_) AllReadyH.nil
    rw [if_pos (by kernel_rfl)]
    refine wp_append_row (.tmp 172) (.tmp 173) 73 rfl 85 i0 _ 11 112 (by kernel_rfl) hi0 hz0 hz1 hz2 rfl (by decide) rfl M9.out.own rfl (OR.out _ B9.out) (pccells_one ps) (by unfold maxLen; omega) (by omega) (fun v10 w10 ho hg hat => ?_)
    refine hK.out _ _ (LC.out _ (Made.app M9.out ho hg hat).bel) (fun held10 => ?_)
    clear hK K
    have M10 := Lib.hid (Made.app M9.out ho hg hat)
    have B10 := Lib.hid M10.out.bel
    have X10 := Lib.hid (own_other X9.out hg NE9.out)
    clear ho hg hat
    try simp only [Act.put, List.setIfInBounds_toArray, List.set_cons_zero, List.set_cons_succ]
    refine wpAnyH_ready (rs := [5]) (by kernel_rfl) (by simp) ?_
    refine AllReadyH.cons rfl (fun K hK => ?_) AllReadyH.nil
    rw [if_pos (by kernel_rfl)]
    refine wp_append_row (.tmp 174) (.tmp 176) 73 rfl 85 i0 _ 11 112 (by kernel_rfl) hi0 hz0 hz1 hz2 rfl (by decide) rfl M10.out.own rfl X10.out (piece_one x) (by unfold maxLen; omega) (by omega) (fun v11 w11 ho hg hat => ?_)
    refine hK.out _ _ (LC.out _ (Made.app M10.out ho hg hat).bel) (fun held11 => ?_)
    clear hK K
    have M11 := Lib.hid (Made.app M10.out ho hg hat)
    have B11 := Lib.hid M11.out.bel
    clear ho hg hat
    try simp only [Act.put, List.setIfInBounds_toArray, List.set_cons_zero, List.set_cons_succ]
    refine tk 6 (some 14) rfl rfl ?_
    simp only [Act.put, List.setIfInBounds_toArray, List.set_cons_zero, List.set_cons_succ]
    refine wpAnyH_done (by kernel_rfl) ?_ _
    go_wp2_with fail
    refine Met.intro (HJ.out _ _ ?_)
    repeat apply Exists.intro
    refine ⟨?_, rfl⟩
    exact Lib.hid ⟨row_done M11.out, M11.out.far, M11.out.bel⟩

end Go.Proofs.Ytoijomdgcgbpbaa
