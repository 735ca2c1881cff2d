/-
  The document's Add, from the question whether there is room.
-/
import Derived.Test.YtoijomdgcgbpbaaReasmRT11
namespace Go.Proofs.Ytoijomdgcgbpbaa
open Go.RowKit
set_option linter.unusedVariables false
set_option linter.unusedSimpArgs false


set_option maxRecDepth 100000 in
set_option maxHeartbeats 4000000 in
theorem radd_t10 {R : Nat → Prop} {mb hb vcap : Nat} {KI : Int} {s : S16} {va : Option Addr} {vo : Value} {ms : List (R16 × Value)} {l : List E16} {x : H4 × ByteArray} {ps : List (H4 × ByteArray)} {w W : World} {A : (ByteArray × Nat) × List E16} {u1 u2 u3 u4 u5 u8 u12 u13 u14 u15 u16 u17 u18 u19 u20 u21 u22 u23 u24 u25 u26 u27 u28 u29 u30 u31 u32 u33 u34 u35 u36 u37 u38 u39 u40 u41 u42 u43 u44 u45 u46 u47 u48 u49 u50 u51 u52 u53 u54 u55 u56 u57 u58 u59 u60 u61 u62 u63 u64 u65 u66 u67 u68 u69 u70 u71 u72 u73 u74 u75 u76 u77 u78 u79 u80 u81 u82 u83 u84 u85 u86 u87 u88 u89 u90 u91 u92 u93 u94 u95 u96 u97 u98 u99 u100 u101 u102 u103 u104 u105 u106 u107 u108 u109 u110 u111 u112 u113 u114 u115 u116 u117 u118 u119 u120 u121 u122 u123 u124 u125 u126 u127 u128 u129 u130 u131 u132 u133 u134 u135 u136 u137 u138 u139 u140 u141 u142 u143 u144 u145 u146 u147 u148 u149 u150 u151 u152 u153 u154 u155 u156 u157 u158 u159 u160 u161 u162 u163 u164 u165 u166 u167 u168 u169 u170 u171 u172 u173 u174 u175 u176 u177 u178 u179 u180 u181 u182 u183 u184 u185 u186 u187 u188 u189 u190 u191 u192 u193 u194 u195 u196 u197 u198 u199 u200 u201 u202 u203 u204 u205 u206 u207 u208 u209 u210 u211 u212 u213 : Value}
    (la : La16 R w W mb hb s (.slice va ms.length vcap) ms x vo ps) (fo : ((∃ (i : Nat) (hi : i < ms.length), KI = (i : Nat) ∧ rfind (ms.map (·.1)) x.1.key = i ∧ rold (ms.map (·.1)) x.1 = (ms[i]'hi).1) ∨ (KI = -1 ∧ rfind (ms.map (·.1)) x.1.key = ms.length ∧ rold (ms.map (·.1)) x.1 = ⟨x.1, [], false, 0⟩))) (hps : ps = (rold (ms.map (·.1)) x.1).ps) (rel : Rels l (ms.map (·.1))) (t : Tab16 s.e.toNat s.b.toNat s.l.toNat l) (hs : s.Right)
    (hrno : rno s.e.toNat s.b.toNat (ms.map (·.1)) x = if (rfind (ms.map (·.1)) x.1.key = ms.length ∧ ms.length = s.e.toNat) ∨ s.b.toNat < rbytes (ms.map (·.1)) + x.2.size then 11 else 0)
    (hA : A = if rno s.e.toNat s.b.toNat (ms.map (·.1)) x ≠ 0 then ((⟨#[]⟩, rno s.e.toNat s.b.toNat (ms.map (·.1)) x), l) else made16 l x.1 (pcOf x)) (hok : x.1.Ok) (hsz : x.2.size ≤ 65535) (hpl : ps.length ≤ 65536) (hml : ms.length ≤ 64) :
    Code.wp Try.prog (rcode16 10) (bodyPost Try.prog Try.f16 (RAdd16 R w mb s A)) ⟨List.toArray ((.pointer (some ⟨mb, 0, none⟩)) :: u1 :: u2 :: u3 :: u4 :: u5 :: (.pointer (some ⟨hb, 0, none⟩)) :: (.string x.2) :: u8 :: (.pointer (some ⟨hb + 1, 0, none⟩)) :: (.int .i64 KI) :: (vo) :: u12 :: u13 :: u14 :: u15 :: u16 :: u17 :: u18 :: u19 :: u20 :: u21 :: u22 :: u23 :: u24 :: u25 :: u26 :: u27 :: u28 :: u29 :: u30 :: u31 :: u32 :: u33 :: u34 :: u35 :: u36 :: u37 :: u38 :: u39 :: u40 :: u41 :: u42 :: u43 :: u44 :: u45 :: u46 :: u47 :: u48 :: u49 :: u50 :: u51 :: u52 :: u53 :: u54 :: u55 :: u56 :: u57 :: u58 :: u59 :: u60 :: u61 :: u62 :: u63 :: u64 :: u65 :: u66 :: u67 :: u68 :: u69 :: u70 :: u71 :: u72 :: u73 :: u74 :: u75 :: u76 :: u77 :: u78 :: u79 :: u80 :: u81 :: u82 :: u83 :: u84 :: u85 :: u86 :: u87 :: u88 :: u89 :: u90 :: u91 :: u92 :: u93 :: u94 :: u95 :: u96 :: u97 :: u98 :: u99 :: u100 :: u101 :: u102 :: u103 :: u104 :: u105 :: u106 :: u107 :: u108 :: u109 :: u110 :: u111 :: u112 :: u113 :: u114 :: u115 :: u116 :: u117 :: u118 :: u119 :: u120 :: u121 :: u122 :: u123 :: u124 :: u125 :: u126 :: u127 :: u128 :: u129 :: u130 :: u131 :: u132 :: u133 :: u134 :: u135 :: u136 :: u137 :: u138 :: u139 :: u140 :: u141 :: u142 :: u143 :: u144 :: u145 :: u146 :: u147 :: u148 :: u149 :: u150 :: u151 :: u152 :: u153 :: u154 :: u155 :: u156 :: u157 :: u158 :: u159 :: u160 :: u161 :: u162 :: u163 :: u164 :: u165 :: u166 :: u167 :: u168 :: u169 :: u170 :: u171 :: u172 :: u173 :: u174 :: u175 :: u176 :: u177 :: u178 :: u179 :: u180 :: u181 :: u182 :: u183 :: u184 :: u185 :: u186 :: u187 :: u188 :: u189 :: u190 :: u191 :: u192 :: u193 :: u194 :: u195 :: u196 :: u197 :: u198 :: u199 :: u200 :: u201 :: u202 :: u203 :: u204 :: u205 :: u206 :: u207 :: u208 :: u209 :: u210 :: u211 :: u212 :: u213 :: []), []⟩ W := by
  have LM := Lib.hid la
  have FO := Lib.hid fo
  have HPS := Lib.hid hps
  have REL := Lib.hid rel
  have T := Lib.hid t
  have RNO := Lib.hid hrno
  have HA := Lib.hid hA
  have HOK := Lib.hid hok
  have hbl : rbytes (ms.map (·.1)) ≤ 1048576 := by
    have h1 := t.bytes
    rw [rel.bytes] at h1
    have := t.store
    omega
  have hbig := t.len
  rw [rel.length, List.length_map] at hbig
  clear la fo hps rel t hrno hA hok
  have HBY := Lib.hid (fun W (h : La16 R w W mb hb s (.slice va ms.length vcap) ms x vo ps) => rbytes16_any W h.ad.tab hml hbl (fun m hm => Rels.few T.out REL.out _ (List.mem_map_of_mem hm)))
  unfold Tells at HBY
  have LAS := Lib.hid (fun W (h : La16 R w W mb hb s (.slice va ms.length vcap) ms x vo ps) => show (fun WS => WS.cell? ⟨mb, 3, none⟩ = some (.slice va ms.length vcap) ∧ WS.cell? ⟨mb, 0, none⟩ = some (.int .i64 s.e) ∧ WS.cell? ⟨mb, 1, none⟩ = some (.int .i64 s.b) ∧ Hid (La16 R w WS mb hb s (.slice va ms.length vcap) ms x vo ps)) W from ⟨h.ad.tab.tb.cell 3, h.ad.tab.tb.cell 0, h.ad.tab.tb.cell 1, Lib.hid h⟩)
  have hsr := hs
  unfold S16.Right at hsr
  clear hs
  obtain ⟨full, hfull⟩ : ∃ full, full = decide ((rfind (ms.map (·.1)) x.1.key = ms.length ∧ ms.length = s.e.toNat) ∨ s.b.toNat < rbytes (ms.map (·.1)) + x.2.size) := ⟨_, rfl⟩
  have HFU := Lib.hid hfull
  clear hfull
  generalize hRB : rbytes (ms.map (·.1)) = RB at *
  have HRB := Lib.hid hRB
  clear hRB
  have ew : IntKind.i64.wrap ((RB : Int) + (x.2.size : Int)) = (RB : Int) + (x.2.size : Int) := IntWalk.i64_in _ (by omega)
  conv => arg 2; whnf
  go_step
  rename_i KR hKR
  refine wp_cut (fun a' wx => ∃ u4 u5 u124 u125 u126 u127 u128 u129 u130 u131 u132 u133 u134 u135 u136 u137 u138 u139 u140 u141 u142 u143 u144 u145 u146 u147 u148 u149 u150 u151 : Value, (full = false ∧ Hid (La16 R w wx mb hb s (.slice va ms.length vcap) ms x vo ps)) ∧ a' = ⟨List.toArray ((.pointer (some ⟨mb, 0, none⟩)) :: u1 :: u2 :: u3 :: u4 :: u5 :: (.pointer (some ⟨hb, 0, none⟩)) :: (.string x.2) :: u8 :: (.pointer (some ⟨hb + 1, 0, none⟩)) :: (.int .i64 KI) :: (vo) :: u12 :: u13 :: u14 :: u15 :: u16 :: u17 :: u18 :: u19 :: u20 :: u21 :: u22 :: u23 :: u24 :: u25 :: u26 :: u27 :: u28 :: u29 :: u30 :: u31 :: u32 :: u33 :: u34 :: u35 :: u36 :: u37 :: u38 :: u39 :: u40 :: u41 :: u42 :: u43 :: u44 :: u45 :: u46 :: u47 :: u48 :: u49 :: u50 :: u51 :: u52 :: u53 :: u54 :: u55 :: u56 :: u57 :: u58 :: u59 :: u60 :: u61 :: u62 :: u63 :: u64 :: u65 :: u66 :: u67 :: u68 :: u69 :: u70 :: u71 :: u72 :: u73 :: u74 :: u75 :: u76 :: u77 :: u78 :: u79 :: u80 :: u81 :: u82 :: u83 :: u84 :: u85 :: u86 :: u87 :: u88 :: u89 :: u90 :: u91 :: u92 :: u93 :: u94 :: u95 :: u96 :: u97 :: u98 :: u99 :: u100 :: u101 :: u102 :: u103 :: u104 :: u105 :: u106 :: u107 :: u108 :: u109 :: u110 :: u111 :: u112 :: u113 :: u114 :: u115 :: u116 :: u117 :: u118 :: u119 :: u120 :: u121 :: u122 :: u123 :: u124 :: u125 :: u126 :: u127 :: u128 :: u129 :: u130 :: u131 :: u132 :: u133 :: u134 :: u135 :: u136 :: u137 :: u138 :: u139 :: u140 :: u141 :: u142 :: u143 :: u144 :: u145 :: u146 :: u147 :: u148 :: u149 :: u150 :: u151 :: u152 :: u153 :: u154 :: u155 :: u156 :: u157 :: u158 :: u159 :: u160 :: u161 :: u162 :: u163 :: u164 :: u165 :: u166 :: u167 :: u168 :: u169 :: u170 :: u171 :: u172 :: u173 :: u174 :: u175 :: u176 :: u177 :: u178 :: u179 :: u180 :: u181 :: u182 :: u183 :: u184 :: u185 :: u186 :: u187 :: u188 :: u189 :: u190 :: u191 :: u192 :: u193 :: u194 :: u195 :: u196 :: u197 :: u198 :: u199 :: u200 :: u201 :: u202 :: u203 :: u204 :: u205 :: u206 :: u207 :: u208 :: u209 :: u210 :: u211 :: u212 :: u213 :: []), []⟩) ?_ ?_
  · intro _ wc hinv
    obtain ⟨u4, hinv⟩ := hinv
    obtain ⟨u5, hinv⟩ := hinv
    obtain ⟨u124, hinv⟩ := hinv
    obtain ⟨u125, hinv⟩ := hinv
    obtain ⟨u126, hinv⟩ := hinv
    obtain ⟨u127, hinv⟩ := hinv
    obtain ⟨u128, hinv⟩ := hinv
    obtain ⟨u129, hinv⟩ := hinv
    obtain ⟨u130, hinv⟩ := hinv
    obtain ⟨u131, hinv⟩ := hinv
    obtain ⟨u132, hinv⟩ := hinv
    obtain ⟨u133, hinv⟩ := hinv
    obtain ⟨u134, hinv⟩ := hinv
    obtain ⟨u135, hinv⟩ := hinv
    obtain ⟨u136, hinv⟩ := hinv
    obtain ⟨u137, hinv⟩ := hinv
    obtain ⟨u138, hinv⟩ := hinv
    obtain ⟨u139, hinv⟩ := hinv
    obtain ⟨u140, hinv⟩ := hinv
    obtain ⟨u141, hinv⟩ := hinv
    obtain ⟨u142, hinv⟩ := hinv
    obtain ⟨u143, hinv⟩ := hinv
    obtain ⟨u144, hinv⟩ := hinv
    obtain ⟨u145, hinv⟩ := hinv
    obtain ⟨u146, hinv⟩ := hinv
    obtain ⟨u147, hinv⟩ := hinv
    obtain ⟨u148, hinv⟩ := hinv
    obtain ⟨u149, hinv⟩ := hinv
    obtain ⟨u150, hinv⟩ := hinv
    obtain ⟨u151, hinv⟩ := hinv
    obtain ⟨hcut, ha⟩ := hinv
    subst ha
    obtain ⟨rfl, la⟩ := hcut
    have hr : rno s.e.toNat s.b.toNat (ms.map (·.1)) x = 0 := by
      have h1 := of_decide_eq_false HFU.out.symm
      have hr := RNO.out
      rw [if_neg h1] at hr
      exact hr
    exact hKR _ _ (radd_t11 la.out FO.out HPS.out REL.out T.out hr (by rw [HA.out, hr]; rfl) HOK.out hsz hpl hml)
  · intro J KM hJ hM
    have HJ := Lib.hid hJ
    clear hJ
    have HO := HJ
    clear HJ hKR
    go_step
    rename_i KI2 hKI2
    refine wp_cut (fun a' wx => ∃ u124 u125 u126 u127 u128 u129 u130 u131 u132 u133 u134 u135 u136 u137 u138 u139 u140 u141 u142 u143 u144 u145 u146 u147 u148 u149 u150 u151 : Value, (u151 = .bool full ∧ Hid (La16 R w wx mb hb s (.slice va ms.length vcap) ms x vo ps)) ∧ a' = ⟨List.toArray ((.pointer (some ⟨mb, 0, none⟩)) :: u1 :: u2 :: u3 :: u4 :: u5 :: (.pointer (some ⟨hb, 0, none⟩)) :: (.string x.2) :: u8 :: (.pointer (some ⟨hb + 1, 0, none⟩)) :: (.int .i64 KI) :: (vo) :: u12 :: u13 :: u14 :: u15 :: u16 :: u17 :: u18 :: u19 :: u20 :: u21 :: u22 :: u23 :: u24 :: u25 :: u26 :: u27 :: u28 :: u29 :: u30 :: u31 :: u32 :: u33 :: u34 :: u35 :: u36 :: u37 :: u38 :: u39 :: u40 :: u41 :: u42 :: u43 :: u44 :: u45 :: u46 :: u47 :: u48 :: u49 :: u50 :: u51 :: u52 :: u53 :: u54 :: u55 :: u56 :: u57 :: u58 :: u59 :: u60 :: u61 :: u62 :: u63 :: u64 :: u65 :: u66 :: u67 :: u68 :: u69 :: u70 :: u71 :: u72 :: u73 :: u74 :: u75 :: u76 :: u77 :: u78 :: u79 :: u80 :: u81 :: u82 :: u83 :: u84 :: u85 :: u86 :: u87 :: u88 :: u89 :: u90 :: u91 :: u92 :: u93 :: u94 :: u95 :: u96 :: u97 :: u98 :: u99 :: u100 :: u101 :: u102 :: u103 :: u104 :: u105 :: u106 :: u107 :: u108 :: u109 :: u110 :: u111 :: u112 :: u113 :: u114 :: u115 :: u116 :: u117 :: u118 :: u119 :: u120 :: u121 :: u122 :: u123 :: u124 :: u125 :: u126 :: u127 :: u128 :: u129 :: u130 :: u131 :: u132 :: u133 :: u134 :: u135 :: u136 :: u137 :: u138 :: u139 :: u140 :: u141 :: u142 :: u143 :: u144 :: u145 :: u146 :: u147 :: u148 :: u149 :: u150 :: u151 :: u152 :: u153 :: u154 :: u155 :: u156 :: u157 :: u158 :: u159 :: u160 :: u161 :: u162 :: u163 :: u164 :: u165 :: u166 :: u167 :: u168 :: u169 :: u170 :: u171 :: u172 :: u173 :: u174 :: u175 :: u176 :: u177 :: u178 :: u179 :: u180 :: u181 :: u182 :: u183 :: u184 :: u185 :: u186 :: u187 :: u188 :: u189 :: u190 :: u191 :: u192 :: u193 :: u194 :: u195 :: u196 :: u197 :: u198 :: u199 :: u200 :: u201 :: u202 :: u203 :: u204 :: u205 :: u206 :: u207 :: u208 :: u209 :: u210 :: u211 :: u212 :: u213 :: []), []⟩) ?_ ?_
    · intro _ wc hinv
      obtain ⟨u124, hinv⟩ := hinv
      obtain ⟨u125, hinv⟩ := hinv
      obtain ⟨u126, hinv⟩ := hinv
      obtain ⟨u127, hinv⟩ := hinv
      obtain ⟨u128, hinv⟩ := hinv
      obtain ⟨u129, hinv⟩ := hinv
      obtain ⟨u130, hinv⟩ := hinv
      obtain ⟨u131, hinv⟩ := hinv
      obtain ⟨u132, hinv⟩ := hinv
      obtain ⟨u133, hinv⟩ := hinv
      obtain ⟨u134, hinv⟩ := hinv
      obtain ⟨u135, hinv⟩ := hinv
      obtain ⟨u136, hinv⟩ := hinv
      obtain ⟨u137, hinv⟩ := hinv
      obtain ⟨u138, hinv⟩ := hinv
      obtain ⟨u139, hinv⟩ := hinv
      obtain ⟨u140, hinv⟩ := hinv
      obtain ⟨u141, hinv⟩ := hinv
      obtain ⟨u142, hinv⟩ := hinv
      obtain ⟨u143, hinv⟩ := hinv
      obtain ⟨u144, hinv⟩ := hinv
      obtain ⟨u145, hinv⟩ := hinv
      obtain ⟨u146, hinv⟩ := hinv
      obtain ⟨u147, hinv⟩ := hinv
      obtain ⟨u148, hinv⟩ := hinv
      obtain ⟨u149, hinv⟩ := hinv
      obtain ⟨u150, hinv⟩ := hinv
      obtain ⟨u151, hinv⟩ := hinv
      obtain ⟨hcut, ha⟩ := hinv
      subst ha
      obtain ⟨rfl, la⟩ := hcut
      have LA8 := la
      clear la LM LAS HBY ew
      cases full with
      | true =>
        have AEE := Lib.hid (show A = ((⟨#[]⟩, 11), l) from by
          have h1 := of_decide_eq_true HFU.out.symm
          have hr := RNO.out
          rw [if_pos h1] at hr
          rw [HA.out, hr]
          rfl)
        go_wp2_with fail
        go_ret2
        refine ⟨by rw [AEE.out]; rfl, ?_⟩
        rw [AEE.out]
        exact LA8.out.ad.tab.same REL.out LA8.out.ad.bel
      | false =>
        go_wp2_with fail
        refine Met.intro (HO.out _ _ ?_)
        repeat apply Exists.intro
        refine ⟨?_, rfl⟩
        exact ⟨by simp, LA8⟩
    · intro J KM hJ hM
      have HJ := Lib.hid hJ
      clear hJ
      clear hKI2
      rcases FO.out with ⟨i, hi, rfl, hrf, hro⟩ | ⟨rfl, hrf, hro⟩
      · have t1 : decide ((i : Int) < 0) = false := decide_eq_false (by omega)
        by_cases hf2 : s.b < (RB : Int) + (x.2.size : Int)
        · have F2 : decide (s.b < (RB : Int) + (x.2.size : Int)) = true := decide_eq_true hf2
          have HFX := Lib.hid (show full = true by rw [HFU.out]; exact decide_eq_true (Or.inr (by omega)))
          clear hf2
          refine wp_region_held_drew (S := fun WS => WS.cell? ⟨mb, 3, none⟩ = some (.slice va ms.length vcap) ∧ WS.cell? ⟨mb, 0, none⟩ = some (.int .i64 s.e) ∧ WS.cell? ⟨mb, 1, none⟩ = some (.int .i64 s.b) ∧ Hid (La16 R w WS mb hb s (.slice va ms.length vcap) ms x vo ps)) (by kernel_rfl) ?_ (fun hHeld => ?_)
          · exact LAS.out _ LM.out.drew
          clear LM
          refine tk 0 (some 124) rfl rfl ?_
          simp only [Act.put, List.setIfInBounds_toArray, List.set_cons_zero, List.set_cons_succ]
          refine tk 1 (some 125) rfl rfl ?_
          simp only [Act.put, List.setIfInBounds_toArray, List.set_cons_zero, List.set_cons_succ]
          refine tk 2 (some 126) rfl rfl ?_
          simp only [Act.put, List.setIfInBounds_toArray, List.set_cons_zero, List.set_cons_succ]
          refine tkn 3 (some 127) rfl rfl ?_
          simp only [Act.put, List.setIfInBounds_toArray, List.set_cons_zero, List.set_cons_succ]
          refine tkn 4 (some 128) rfl rfl ?_
          simp only [Act.put, List.setIfInBounds_toArray, List.set_cons_zero, List.set_cons_succ]
          refine tkn 5 (some 129) rfl rfl ?_
          simp only [Act.put, List.setIfInBounds_toArray, List.set_cons_zero, List.set_cons_succ]
          refine tkn 6 (some 130) rfl rfl ?_
          simp only [Act.put, List.setIfInBounds_toArray, List.set_cons_zero, List.set_cons_succ]
          refine tkn 7 (some 131) rfl rfl ?_
          simp only [Act.put, List.setIfInBounds_toArray, List.set_cons_zero, List.set_cons_succ]
          refine tkn 8 (some 132) rfl rfl ?_
          simp only [Act.put, List.setIfInBounds_toArray, List.set_cons_zero, List.set_cons_succ]
          refine tkn 9 (some 133) rfl rfl ?_
          simp only [Act.put, List.setIfInBounds_toArray, List.set_cons_zero, List.set_cons_succ]
          refine tkn 10 (some 134) rfl rfl ?_
          simp only [Act.put, List.setIfInBounds_toArray, List.set_cons_zero, List.set_cons_succ]
          refine tkn 11 (some 135) rfl rfl ?_
          simp only [Act.put, List.setIfInBounds_toArray, List.set_cons_zero, List.set_cons_succ]
          refine tkn 12 (some 136) rfl rfl ?_
          simp only [Act.put, List.setIfInBounds_toArray, List.set_cons_zero, List.set_cons_succ]
          refine tkn 13 (some 137) rfl rfl ?_
          simp only [Act.put, List.setIfInBounds_toArray, List.set_cons_zero, List.set_cons_succ]
          refine tk 14 (some 138) rfl rfl ?_
          simp only [Act.put, List.setIfInBounds_toArray, List.set_cons_zero, List.set_cons_succ]
          refine tk 15 (some 139) rfl rfl ?_
          simp only [Act.put, List.setIfInBounds_toArray, List.set_cons_zero, List.set_cons_succ]
          refine tk 16 (some 140) rfl rfl ?_
          simp only [Act.put, List.setIfInBounds_toArray, List.set_cons_zero, List.set_cons_succ]
          refine tk 18 (some 142) rfl rfl ?_
          simp only [Act.put, List.setIfInBounds_toArray, List.set_cons_zero, List.set_cons_succ]
          refine tk 19 (some 143) rfl rfl ?_
          simp only [Act.put, List.setIfInBounds_toArray, List.set_cons_zero, List.set_cons_succ]
          refine tk 21 (some 145) rfl rfl ?_
          simp only [Act.put, List.setIfInBounds_toArray, List.set_cons_zero, List.set_cons_succ]
          refine tk 22 (some 146) rfl rfl ?_
          simp only [Act.put, List.setIfInBounds_toArray, List.set_cons_zero, List.set_cons_succ]
          refine tk 23 (some 147) rfl rfl ?_
          simp only [Act.put, List.setIfInBounds_toArray, List.set_cons_zero, List.set_cons_succ]
          refine tk 24 (some 148) rfl rfl ?_
          simp only [Act.put, List.setIfInBounds_toArray, List.set_cons_zero, List.set_cons_succ]
          refine tk 25 (some 149) rfl rfl ?_
          simp only [Act.put, List.setIfInBounds_toArray, List.set_cons_zero, List.set_cons_succ]
          refine wpAnyH_ready (rs := [17]) (by kernel_rfl) (by simp) ?_
          refine AllReadyH.cons rfl (fun K hK => ?_) AllReadyH.nil
          go_simp
          refine (HBY.out _ hHeld.2.2.2.out).mono ?_
          rintro e w' ⟨rfl, hb'⟩
          refine hK.out _ _ ?_ (fun held17 => ?_)
          · exact LAS.out _ (hHeld.2.2.2.out.below hb')
          clear hK K
          try simp only [Act.put, List.setIfInBounds_toArray, List.set_cons_zero, List.set_cons_succ]
          refine tk 20 (some 144) rfl rfl ?_
          simp only [Act.put, List.setIfInBounds_toArray, List.set_cons_zero, List.set_cons_succ]
          refine tk 26 (some 150) rfl rfl ?_
          simp only [Act.put, List.setIfInBounds_toArray, List.set_cons_zero, List.set_cons_succ]
          refine tk 27 (some 151) rfl rfl ?_
          simp only [Act.put, List.setIfInBounds_toArray, List.set_cons_zero, List.set_cons_succ]
          refine wpAnyH_done (by kernel_rfl) ?_ _
          go_wp2_with fail
          refine Met.intro (HJ.out _ _ ?_)
          repeat apply Exists.intro
          refine ⟨?_, rfl⟩
          exact ⟨by rw [HFX.out], held17.2.2.2⟩
        · have F2 : decide (s.b < (RB : Int) + (x.2.size : Int)) = false := decide_eq_false hf2
          have HFX := Lib.hid (show full = false by rw [HFU.out]; exact decide_eq_false (by rintro (⟨h1, h2⟩ | h2) <;> omega))
          clear hf2
          refine wp_region_held_drew (S := fun WS => WS.cell? ⟨mb, 3, none⟩ = some (.slice va ms.length vcap) ∧ WS.cell? ⟨mb, 0, none⟩ = some (.int .i64 s.e) ∧ WS.cell? ⟨mb, 1, none⟩ = some (.int .i64 s.b) ∧ Hid (La16 R w WS mb hb s (.slice va ms.length vcap) ms x vo ps)) (by kernel_rfl) ?_ (fun hHeld => ?_)
          · exact LAS.out _ LM.out.drew
          clear LM
          refine tk 0 (some 124) rfl rfl ?_
          simp only [Act.put, List.setIfInBounds_toArray, List.set_cons_zero, List.set_cons_succ]
          refine tk 1 (some 125) rfl rfl ?_
          simp only [Act.put, List.setIfInBounds_toArray, List.set_cons_zero, List.set_cons_succ]
          refine tk 2 (some 126) rfl rfl ?_
          simp only [Act.put, List.setIfInBounds_toArray, List.set_cons_zero, List.set_cons_succ]
          refine tkn 3 (some 127) rfl rfl ?_
          simp only [Act.put, List.setIfInBounds_toArray, List.set_cons_zero, List.set_cons_succ]
          refine tkn 4 (some 128) rfl rfl ?_
          simp only [Act.put, List.setIfInBounds_toArray, List.set_cons_zero, List.set_cons_succ]
          refine tkn 5 (some 129) rfl rfl ?_
          simp only [Act.put, List.setIfInBounds_toArray, List.set_cons_zero, List.set_cons_succ]
          refine tkn 6 (some 130) rfl rfl ?_
          simp only [Act.put, List.setIfInBounds_toArray, List.set_cons_zero, List.set_cons_succ]
          refine tkn 7 (some 131) rfl rfl ?_
          simp only [Act.put, List.setIfInBounds_toArray, List.set_cons_zero, List.set_cons_succ]
          refine tkn 8 (some 132) rfl rfl ?_
          simp only [Act.put, List.setIfInBounds_toArray, List.set_cons_zero, List.set_cons_succ]
          refine tkn 9 (some 133) rfl rfl ?_
          simp only [Act.put, List.setIfInBounds_toArray, List.set_cons_zero, List.set_cons_succ]
          refine tkn 10 (some 134) rfl rfl ?_
          simp only [Act.put, List.setIfInBounds_toArray, List.set_cons_zero, List.set_cons_succ]
          refine tkn 11 (some 135) rfl rfl ?_
          simp only [Act.put, List.setIfInBounds_toArray, List.set_cons_zero, List.set_cons_succ]
          refine tkn 12 (some 136) rfl rfl ?_
          simp only [Act.put, List.setIfInBounds_toArray, List.set_cons_zero, List.set_cons_succ]
          refine tkn 13 (some 137) rfl rfl ?_
          simp only [Act.put, List.setIfInBounds_toArray, List.set_cons_zero, List.set_cons_succ]
          refine tk 14 (some 138) rfl rfl ?_
          simp only [Act.put, List.setIfInBounds_toArray, List.set_cons_zero, List.set_cons_succ]
          refine tk 15 (some 139) rfl rfl ?_
          simp only [Act.put, List.setIfInBounds_toArray, List.set_cons_zero, List.set_cons_succ]
          refine tk 16 (some 140) rfl rfl ?_
          simp only [Act.put, List.setIfInBounds_toArray, List.set_cons_zero, List.set_cons_succ]
          refine tk 18 (some 142) rfl rfl ?_
          simp only [Act.put, List.setIfInBounds_toArray, List.set_cons_zero, List.set_cons_succ]
          refine tk 19 (some 143) rfl rfl ?_
          simp only [Act.put, List.setIfInBounds_toArray, List.set_cons_zero, List.set_cons_succ]
          refine tk 21 (some 145) rfl rfl ?_
          simp only [Act.put, List.setIfInBounds_toArray, List.set_cons_zero, List.set_cons_succ]
          refine tk 22 (some 146) rfl rfl ?_
          simp only [Act.put, List.setIfInBounds_toArray, List.set_cons_zero, List.set_cons_succ]
          refine tk 23 (some 147) rfl rfl ?_
          simp only [Act.put, List.setIfInBounds_toArray, List.set_cons_zero, List.set_cons_succ]
          refine tk 24 (some 148) rfl rfl ?_
          simp only [Act.put, List.setIfInBounds_toArray, List.set_cons_zero, List.set_cons_succ]
          refine tk 25 (some 149) rfl rfl ?_
          simp only [Act.put, List.setIfInBounds_toArray, List.set_cons_zero, List.set_cons_succ]
          refine wpAnyH_ready (rs := [17]) (by kernel_rfl) (by simp) ?_
          refine AllReadyH.cons rfl (fun K hK => ?_) AllReadyH.nil
          go_simp
          refine (HBY.out _ hHeld.2.2.2.out).mono ?_
          rintro e w' ⟨rfl, hb'⟩
          refine hK.out _ _ ?_ (fun held17 => ?_)
          · exact LAS.out _ (hHeld.2.2.2.out.below hb')
          clear hK K
          try simp only [Act.put, List.setIfInBounds_toArray, List.set_cons_zero, List.set_cons_succ]
          refine tk 20 (some 144) rfl rfl ?_
          simp only [Act.put, List.setIfInBounds_toArray, List.set_cons_zero, List.set_cons_succ]
          refine tk 26 (some 150) rfl rfl ?_
          simp only [Act.put, List.setIfInBounds_toArray, List.set_cons_zero, List.set_cons_succ]
          refine tk 27 (some 151) rfl rfl ?_
          simp only [Act.put, List.setIfInBounds_toArray, List.set_cons_zero, List.set_cons_succ]
          refine wpAnyH_done (by kernel_rfl) ?_ _
          go_wp2_with fail
          refine Met.intro (HJ.out _ _ ?_)
          repeat apply Exists.intro
          refine ⟨?_, rfl⟩
          exact ⟨by rw [HFX.out], held17.2.2.2⟩
      · by_cases hf1 : s.e ≤ (ms.length : Int)
        · have F1 : decide (s.e ≤ (ms.length : Int)) = true := decide_eq_true hf1
          have HFX := Lib.hid (show full = true by rw [HFU.out]; exact decide_eq_true (Or.inl ⟨hrf, by omega⟩))
          clear hf1
          refine wp_region_held_drew (S := fun WS => WS.cell? ⟨mb, 3, none⟩ = some (.slice va ms.length vcap) ∧ WS.cell? ⟨mb, 0, none⟩ = some (.int .i64 s.e) ∧ WS.cell? ⟨mb, 1, none⟩ = some (.int .i64 s.b) ∧ Hid (La16 R w WS mb hb s (.slice va ms.length vcap) ms x vo ps)) (by kernel_rfl) ?_ (fun hHeld => ?_)
          · exact LAS.out _ LM.out.drew
          clear LM
          refine tk 0 (some 124) rfl rfl ?_
          simp only [Act.put, List.setIfInBounds_toArray, List.set_cons_zero, List.set_cons_succ]
          refine tk 1 (some 125) rfl rfl ?_
          simp only [Act.put, List.setIfInBounds_toArray, List.set_cons_zero, List.set_cons_succ]
          refine tk 2 (some 126) rfl rfl ?_
          simp only [Act.put, List.setIfInBounds_toArray, List.set_cons_zero, List.set_cons_succ]
          refine tk 3 (some 127) rfl rfl ?_
          simp only [Act.put, List.setIfInBounds_toArray, List.set_cons_zero, List.set_cons_succ]
          refine tk 4 (some 128) rfl rfl ?_
          simp only [Act.put, List.setIfInBounds_toArray, List.set_cons_zero, List.set_cons_succ]
          refine tk 5 (some 129) rfl rfl ?_
          simp only [Act.put, List.setIfInBounds_toArray, List.set_cons_zero, List.set_cons_succ]
          refine tk 6 (some 130) rfl rfl ?_
          simp only [Act.put, List.setIfInBounds_toArray, List.set_cons_zero, List.set_cons_succ]
          refine tk 7 (some 131) rfl rfl ?_
          simp only [Act.put, List.setIfInBounds_toArray, List.set_cons_zero, List.set_cons_succ]
          refine tk 8 (some 132) rfl rfl ?_
          simp only [Act.put, List.setIfInBounds_toArray, List.set_cons_zero, List.set_cons_succ]
          refine tk 9 (some 133) rfl rfl ?_
          simp only [Act.put, List.setIfInBounds_toArray, List.set_cons_zero, List.set_cons_succ]
          refine tk 10 (some 134) rfl rfl ?_
          simp only [Act.put, List.setIfInBounds_toArray, List.set_cons_zero, List.set_cons_succ]
          refine tk 11 (some 135) rfl rfl ?_
          simp only [Act.put, List.setIfInBounds_toArray, List.set_cons_zero, List.set_cons_succ]
          refine tk 12 (some 136) rfl rfl ?_
          simp only [Act.put, List.setIfInBounds_toArray, List.set_cons_zero, List.set_cons_succ]
          refine tk 13 (some 137) rfl rfl ?_
          simp only [Act.put, List.setIfInBounds_toArray, List.set_cons_zero, List.set_cons_succ]
          refine tk 14 (some 138) rfl rfl ?_
          simp only [Act.put, List.setIfInBounds_toArray, List.set_cons_zero, List.set_cons_succ]
          refine tk 15 (some 139) rfl rfl ?_
          simp only [Act.put, List.setIfInBounds_toArray, List.set_cons_zero, List.set_cons_succ]
          refine tkn 16 (some 140) rfl rfl ?_
          simp only [Act.put, List.setIfInBounds_toArray, List.set_cons_zero, List.set_cons_succ]
          refine tkn 17 (some 141) rfl rfl ?_
          simp only [Act.put, List.setIfInBounds_toArray, List.set_cons_zero, List.set_cons_succ]
          refine tkn 18 (some 142) rfl rfl ?_
          simp only [Act.put, List.setIfInBounds_toArray, List.set_cons_zero, List.set_cons_succ]
          refine tkn 19 (some 143) rfl rfl ?_
          simp only [Act.put, List.setIfInBounds_toArray, List.set_cons_zero, List.set_cons_succ]
          refine tkn 20 (some 144) rfl rfl ?_
          simp only [Act.put, List.setIfInBounds_toArray, List.set_cons_zero, List.set_cons_succ]
          refine tkn 21 (some 145) rfl rfl ?_
          simp only [Act.put, List.setIfInBounds_toArray, List.set_cons_zero, List.set_cons_succ]
          refine tkn 22 (some 146) rfl rfl ?_
          simp only [Act.put, List.setIfInBounds_toArray, List.set_cons_zero, List.set_cons_succ]
          refine tkn 23 (some 147) rfl rfl ?_
          simp only [Act.put, List.setIfInBounds_toArray, List.set_cons_zero, List.set_cons_succ]
          refine tkn 24 (some 148) rfl rfl ?_
          simp only [Act.put, List.setIfInBounds_toArray, List.set_cons_zero, List.set_cons_succ]
          refine tkn 25 (some 149) rfl rfl ?_
          simp only [Act.put, List.setIfInBounds_toArray, List.set_cons_zero, List.set_cons_succ]
          refine tkn 26 (some 150) rfl rfl ?_
          simp only [Act.put, List.setIfInBounds_toArray, List.set_cons_zero, List.set_cons_succ]
          refine tk 27 (some 151) rfl rfl ?_
          simp only [Act.put, List.setIfInBounds_toArray, List.set_cons_zero, List.set_cons_succ]
          refine wpAnyH_done (by kernel_rfl) ?_ _
          go_wp2_with fail
          refine Met.intro (HJ.out _ _ ?_)
          repeat apply Exists.intro
          refine ⟨?_, rfl⟩
          exact ⟨by rw [HFX.out], hHeld.2.2.2⟩
        · have F1 : decide (s.e ≤ (ms.length : Int)) = false := decide_eq_false hf1
          by_cases hf2 : s.b < (RB : Int) + (x.2.size : Int)
          · have F2 : decide (s.b < (RB : Int) + (x.2.size : Int)) = true := decide_eq_true hf2
            have HFX := Lib.hid (show full = true by rw [HFU.out]; exact decide_eq_true (Or.inr (by omega)))
            clear hf2
            refine wp_region_held_drew (S := fun WS => WS.cell? ⟨mb, 3, none⟩ = some (.slice va ms.length vcap) ∧ WS.cell? ⟨mb, 0, none⟩ = some (.int .i64 s.e) ∧ WS.cell? ⟨mb, 1, none⟩ = some (.int .i64 s.b) ∧ Hid (La16 R w WS mb hb s (.slice va ms.length vcap) ms x vo ps)) (by kernel_rfl) ?_ (fun hHeld => ?_)
            · exact LAS.out _ LM.out.drew
            clear LM
            refine tk 0 (some 124) rfl rfl ?_
            simp only [Act.put, List.setIfInBounds_toArray, List.set_cons_zero, List.set_cons_succ]
            refine tk 1 (some 125) rfl rfl ?_
            simp only [Act.put, List.setIfInBounds_toArray, List.set_cons_zero, List.set_cons_succ]
            refine tk 2 (some 126) rfl rfl ?_
            simp only [Act.put, List.setIfInBounds_toArray, List.set_cons_zero, List.set_cons_succ]
            refine tk 3 (some 127) rfl rfl ?_
            simp only [Act.put, List.setIfInBounds_toArray, List.set_cons_zero, List.set_cons_succ]
            refine tk 4 (some 128) rfl rfl ?_
            simp only [Act.put, List.setIfInBounds_toArray, List.set_cons_zero, List.set_cons_succ]
            refine tk 5 (some 129) rfl rfl ?_
            simp only [Act.put, List.setIfInBounds_toArray, List.set_cons_zero, List.set_cons_succ]
            refine tk 6 (some 130) rfl rfl ?_
            simp only [Act.put, List.setIfInBounds_toArray, List.set_cons_zero, List.set_cons_succ]
            refine tk 7 (some 131) rfl rfl ?_
            simp only [Act.put, List.setIfInBounds_toArray, List.set_cons_zero, List.set_cons_succ]
            refine tk 8 (some 132) rfl rfl ?_
            simp only [Act.put, List.setIfInBounds_toArray, List.set_cons_zero, List.set_cons_succ]
            refine tk 9 (some 133) rfl rfl ?_
            simp only [Act.put, List.setIfInBounds_toArray, List.set_cons_zero, List.set_cons_succ]
            refine tk 10 (some 134) rfl rfl ?_
            simp only [Act.put, List.setIfInBounds_toArray, List.set_cons_zero, List.set_cons_succ]
            refine tk 11 (some 135) rfl rfl ?_
            simp only [Act.put, List.setIfInBounds_toArray, List.set_cons_zero, List.set_cons_succ]
            refine tk 12 (some 136) rfl rfl ?_
            simp only [Act.put, List.setIfInBounds_toArray, List.set_cons_zero, List.set_cons_succ]
            refine tk 13 (some 137) rfl rfl ?_
            simp only [Act.put, List.setIfInBounds_toArray, List.set_cons_zero, List.set_cons_succ]
            refine tk 14 (some 138) rfl rfl ?_
            simp only [Act.put, List.setIfInBounds_toArray, List.set_cons_zero, List.set_cons_succ]
            refine tk 15 (some 139) rfl rfl ?_
            simp only [Act.put, List.setIfInBounds_toArray, List.set_cons_zero, List.set_cons_succ]
            refine tk 16 (some 140) rfl rfl ?_
            simp only [Act.put, List.setIfInBounds_toArray, List.set_cons_zero, List.set_cons_succ]
            refine tk 18 (some 142) rfl rfl ?_
            simp only [Act.put, List.setIfInBounds_toArray, List.set_cons_zero, List.set_cons_succ]
            refine tk 19 (some 143) rfl rfl ?_
            simp only [Act.put, List.setIfInBounds_toArray, List.set_cons_zero, List.set_cons_succ]
            refine tk 21 (some 145) rfl rfl ?_
            simp only [Act.put, List.setIfInBounds_toArray, List.set_cons_zero, List.set_cons_succ]
            refine tk 22 (some 146) rfl rfl ?_
            simp only [Act.put, List.setIfInBounds_toArray, List.set_cons_zero, List.set_cons_succ]
            refine tk 23 (some 147) rfl rfl ?_
            simp only [Act.put, List.setIfInBounds_toArray, List.set_cons_zero, List.set_cons_succ]
            refine tk 24 (some 148) rfl rfl ?_
            simp only [Act.put, List.setIfInBounds_toArray, List.set_cons_zero, List.set_cons_succ]
            refine tk 25 (some 149) rfl rfl ?_
            simp only [Act.put, List.setIfInBounds_toArray, List.set_cons_zero, List.set_cons_succ]
            refine wpAnyH_ready (rs := [17]) (by kernel_rfl) (by simp) ?_
            refine AllReadyH.cons rfl (fun K hK => ?_) AllReadyH.nil
            go_simp
            refine (HBY.out _ hHeld.2.2.2.out).mono ?_
            rintro e w' ⟨rfl, hb'⟩
            refine hK.out _ _ ?_ (fun held17 => ?_)
            · exact LAS.out _ (hHeld.2.2.2.out.below hb')
            clear hK K
            try simp only [Act.put, List.setIfInBounds_toArray, List.set_cons_zero, List.set_cons_succ]
            refine tk 20 (some 144) rfl rfl ?_
            simp only [Act.put, List.setIfInBounds_toArray, List.set_cons_zero, List.set_cons_succ]
            refine tk 26 (some 150) rfl rfl ?_
            simp only [Act.put, List.setIfInBounds_toArray, List.set_cons_zero, List.set_cons_succ]
            refine tk 27 (some 151) rfl rfl ?_
            simp only [Act.put, List.setIfInBounds_toArray, List.set_cons_zero, List.set_cons_succ]
            refine wpAnyH_done (by kernel_rfl) ?_ _
            go_wp2_with fail
            refine Met.intro (HJ.out _ _ ?_)
            repeat apply Exists.intro
            refine ⟨?_, rfl⟩
            exact ⟨by rw [HFX.out], held17.2.2.2⟩
          · have F2 : decide (s.b < (RB : Int) + (x.2.size : Int)) = false := decide_eq_false hf2
            have HFX := Lib.hid (show full = false by rw [HFU.out]; exact decide_eq_false (by rintro (⟨h1, h2⟩ | h2) <;> omega))
            clear hf2
            refine wp_region_held_drew (S := fun WS => WS.cell? ⟨mb, 3, none⟩ = some (.slice va ms.length vcap) ∧ WS.cell? ⟨mb, 0, none⟩ = some (.int .i64 s.e) ∧ WS.cell? ⟨mb, 1, none⟩ = some (.int .i64 s.b) ∧ Hid (La16 R w WS mb hb s (.slice va ms.length vcap) ms x vo ps)) (by kernel_rfl) ?_ (fun hHeld => ?_)
            · exact LAS.out _ LM.out.drew
            clear LM
            refine tk 0 (some 124) rfl rfl ?_
            simp only [Act.put, List.setIfInBounds_toArray, List.set_cons_zero, List.set_cons_succ]
            refine tk 1 (some 125) rfl rfl ?_
            simp only [Act.put, List.setIfInBounds_toArray, List.set_cons_zero, List.set_cons_succ]
            refine tk 2 (some 126) rfl rfl ?_
            simp only [Act.put, List.setIfInBounds_toArray, List.set_cons_zero, List.set_cons_succ]
            refine tk 3 (some 127) rfl rfl ?_
            simp only [Act.put, List.setIfInBounds_toArray, List.set_cons_zero, List.set_cons_succ]
            refine tk 4 (some 128) rfl rfl ?_
            simp only [Act.put, List.setIfInBounds_toArray, List.set_cons_zero, List.set_cons_succ]
            refine tk 5 (some 129) rfl rfl ?_
            simp only [Act.put, List.setIfInBounds_toArray, List.set_cons_zero, List.set_cons_succ]
            refine tk 6 (some 130) rfl rfl ?_
            simp only [Act.put, List.setIfInBounds_toArray, List.set_cons_zero, List.set_cons_succ]
            refine tk 7 (some 131) rfl rfl ?_
            simp only [Act.put, List.setIfInBounds_toArray, List.set_cons_zero, List.set_cons_succ]
            refine tk 8 (some 132) rfl rfl ?_
            simp only [Act.put, List.setIfInBounds_toArray, List.set_cons_zero, List.set_cons_succ]
            refine tk 9 (some 133) rfl rfl ?_
            simp only [Act.put, List.setIfInBounds_toArray, List.set_cons_zero, List.set_cons_succ]
            refine tk 10 (some 134) rfl rfl ?_
            simp only [Act.put, List.setIfInBounds_toArray, List.set_cons_zero, List.set_cons_succ]
            refine tk 11 (some 135) rfl rfl ?_
            simp only [Act.put, List.setIfInBounds_toArray, List.set_cons_zero, List.set_cons_succ]
            refine tk 12 (some 136) rfl rfl ?_
            simp only [Act.put, List.setIfInBounds_toArray, List.set_cons_zero, List.set_cons_succ]
            refine tk 13 (some 137) rfl rfl ?_
            simp only [Act.put, List.setIfInBounds_toArray, List.set_cons_zero, List.set_cons_succ]
            refine tk 14 (some 138) rfl rfl ?_
            simp only [Act.put, List.setIfInBounds_toArray, List.set_cons_zero, List.set_cons_succ]
            refine tk 15 (some 139) rfl rfl ?_
            simp only [Act.put, List.setIfInBounds_toArray, List.set_cons_zero, List.set_cons_succ]
            refine tk 16 (some 140) rfl rfl ?_
            simp only [Act.put, List.setIfInBounds_toArray, List.set_cons_zero, List.set_cons_succ]
            refine tk 18 (some 142) rfl rfl ?_
            simp only [Act.put, List.setIfInBounds_toArray, List.set_cons_zero, List.set_cons_succ]
            refine tk 19 (some 143) rfl rfl ?_
            simp only [Act.put, List.setIfInBounds_toArray, List.set_cons_zero, List.set_cons_succ]
            refine tk 21 (some 145) rfl rfl ?_
            simp only [Act.put, List.setIfInBounds_toArray, List.set_cons_zero, List.set_cons_succ]
            refine tk 22 (some 146) rfl rfl ?_
            simp only [Act.put, List.setIfInBounds_toArray, List.set_cons_zero, List.set_cons_succ]
            refine tk 23 (some 147) rfl rfl ?_
            simp only [Act.put, List.setIfInBounds_toArray, List.set_cons_zero, List.set_cons_succ]
            refine tk 24 (some 148) rfl rfl ?_
            simp only [Act.put, List.setIfInBounds_toArray, List.set_cons_zero, List.set_cons_succ]
            refine tk 25 (some 149) rfl rfl ?_
            simp only [Act.put, List.setIfInBounds_toArray, List.set_cons_zero, List.set_cons_succ]
            refine wpAnyH_ready (rs := [17]) (by kernel_rfl) (by simp) ?_
            refine AllReadyH.cons rfl (fun K hK => ?_) AllReadyH.nil
            go_simp
            refine (HBY.out _ hHeld.2.2.2.out).mono ?_
            rintro e w' ⟨rfl, hb'⟩
            refine hK.out _ _ ?_ (fun held17 => ?_)
            · exact LAS.out _ (hHeld.2.2.2.out.below hb')
            clear hK K
            try simp only [Act.put, List.setIfInBounds_toArray, List.set_cons_zero, List.set_cons_succ]
            refine tk 20 (some 144) rfl rfl ?_
            simp only [Act.put, List.setIfInBounds_toArray, List.set_cons_zero, List.set_cons_succ]
            refine tk 26 (some 150) rfl rfl ?_
            simp only [Act.put, List.setIfInBounds_toArray, List.set_cons_zero, List.set_cons_succ]
            refine tk 27 (some 151) rfl rfl ?_
            simp only [Act.put, List.setIfInBounds_toArray, List.set_cons_zero, List.set_cons_succ]
            refine wpAnyH_done (by kernel_rfl) ?_ _
            go_wp2_with fail
            refine Met.intro (HJ.out _ _ ?_)
            repeat apply Exists.intro
            refine ⟨?_, rfl⟩
            exact ⟨by rw [HFX.out], held17.2.2.2⟩

end Go.Proofs.Ytoijomdgcgbpbaa
