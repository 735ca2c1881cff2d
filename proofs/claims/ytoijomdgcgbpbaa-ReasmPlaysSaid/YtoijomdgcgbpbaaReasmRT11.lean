/-
  The document's Add, from the question whether there is an entry.
-/
import Derived.Test.YtoijomdgcgbpbaaReasmRT12
namespace Go.Proofs.Ytoijomdgcgbpbaa
open Go.RowKit
set_option linter.unusedVariables false
set_option linter.unusedSimpArgs false


set_option maxRecDepth 100000 in
set_option maxHeartbeats 4000000 in
theorem radd_t11 {R : Nat → Prop} {mb hb vcap : Nat} {KI : Int} {s : S16} {va : Option Addr} {vo : Value} {ms : List (R16 × Value)} {l : List E16} {x : H4 × ByteArray} {ps : List (H4 × ByteArray)} {w W : World} {A : (ByteArray × Nat) × List E16} {u1 u2 u3 u4 u5 u7 u8 u12 u13 u14 u15 u16 u17 u18 u19 u20 u21 u22 u23 u24 u25 u26 u27 u28 u29 u30 u31 u32 u33 u34 u35 u36 u37 u38 u39 u40 u41 u42 u43 u44 u45 u46 u47 u48 u49 u50 u51 u52 u53 u54 u55 u56 u57 u58 u59 u60 u61 u62 u63 u64 u65 u66 u67 u68 u69 u70 u71 u72 u73 u74 u75 u76 u77 u78 u79 u80 u81 u82 u83 u84 u85 u86 u87 u88 u89 u90 u91 u92 u93 u94 u95 u96 u97 u98 u99 u100 u101 u102 u103 u104 u105 u106 u107 u108 u109 u110 u111 u112 u113 u114 u115 u116 u117 u118 u119 u120 u121 u122 u123 u124 u125 u126 u127 u128 u129 u130 u131 u132 u133 u134 u135 u136 u137 u138 u139 u140 u141 u142 u143 u144 u145 u146 u147 u148 u149 u150 u151 u152 u153 u154 u155 u156 u157 u158 u159 u160 u161 u162 u163 u164 u165 u166 u167 u168 u169 u170 u171 u172 u173 u174 u175 u176 u177 u178 u179 u180 u181 u182 u183 u184 u185 u186 u187 u188 u189 u190 u191 u192 u193 u194 u195 u196 u197 u198 u199 u200 u201 u202 u203 u204 u205 u206 u207 u208 u209 u210 u211 u212 u213 : Value}
    (la : La16 R w W mb hb s (.slice va ms.length vcap) ms x vo ps) (fo : ((∃ (i : Nat) (hi : i < ms.length), KI = (i : Nat) ∧ rfind (ms.map (·.1)) x.1.key = i ∧ rold (ms.map (·.1)) x.1 = (ms[i]'hi).1) ∨ (KI = -1 ∧ rfind (ms.map (·.1)) x.1.key = ms.length ∧ rold (ms.map (·.1)) x.1 = ⟨x.1, [], false, 0⟩))) (hps : ps = (rold (ms.map (·.1)) x.1).ps) (rel : Rels l (ms.map (·.1))) (t : Tab16 s.e.toNat s.b.toNat s.l.toNat l)
    (hno : rno s.e.toNat s.b.toNat (ms.map (·.1)) x = 0) (hA : A = made16 l x.1 (pcOf x)) (hok : x.1.Ok) (hsz : x.2.size ≤ 65535) (hpl : ps.length ≤ 65536) (hml : ms.length ≤ 64) :
    Code.wp Try.prog (rcode16 11) (bodyPost Try.prog Try.f16 (RAdd16 R w mb s A)) ⟨List.toArray ((.pointer (some ⟨mb, 0, none⟩)) :: u1 :: u2 :: u3 :: u4 :: u5 :: (.pointer (some ⟨hb, 0, none⟩)) :: u7 :: u8 :: (.pointer (some ⟨hb + 1, 0, none⟩)) :: (.int .i64 KI) :: (vo) :: u12 :: u13 :: u14 :: u15 :: u16 :: u17 :: u18 :: u19 :: u20 :: u21 :: u22 :: u23 :: u24 :: u25 :: u26 :: u27 :: u28 :: u29 :: u30 :: u31 :: u32 :: u33 :: u34 :: u35 :: u36 :: u37 :: u38 :: u39 :: u40 :: u41 :: u42 :: u43 :: u44 :: u45 :: u46 :: u47 :: u48 :: u49 :: u50 :: u51 :: u52 :: u53 :: u54 :: u55 :: u56 :: u57 :: u58 :: u59 :: u60 :: u61 :: u62 :: u63 :: u64 :: u65 :: u66 :: u67 :: u68 :: u69 :: u70 :: u71 :: u72 :: u73 :: u74 :: u75 :: u76 :: u77 :: u78 :: u79 :: u80 :: u81 :: u82 :: u83 :: u84 :: u85 :: u86 :: u87 :: u88 :: u89 :: u90 :: u91 :: u92 :: u93 :: u94 :: u95 :: u96 :: u97 :: u98 :: u99 :: u100 :: u101 :: u102 :: u103 :: u104 :: u105 :: u106 :: u107 :: u108 :: u109 :: u110 :: u111 :: u112 :: u113 :: u114 :: u115 :: u116 :: u117 :: u118 :: u119 :: u120 :: u121 :: u122 :: u123 :: u124 :: u125 :: u126 :: u127 :: u128 :: u129 :: u130 :: u131 :: u132 :: u133 :: u134 :: u135 :: u136 :: u137 :: u138 :: u139 :: u140 :: u141 :: u142 :: u143 :: u144 :: u145 :: u146 :: u147 :: u148 :: u149 :: u150 :: u151 :: u152 :: u153 :: u154 :: u155 :: u156 :: u157 :: u158 :: u159 :: u160 :: u161 :: u162 :: u163 :: u164 :: u165 :: u166 :: u167 :: u168 :: u169 :: u170 :: u171 :: u172 :: u173 :: u174 :: u175 :: u176 :: u177 :: u178 :: u179 :: u180 :: u181 :: u182 :: u183 :: u184 :: u185 :: u186 :: u187 :: u188 :: u189 :: u190 :: u191 :: u192 :: u193 :: u194 :: u195 :: u196 :: u197 :: u198 :: u199 :: u200 :: u201 :: u202 :: u203 :: u204 :: u205 :: u206 :: u207 :: u208 :: u209 :: u210 :: u211 :: u212 :: u213 :: []), []⟩ W := by
  have LA8 := Lib.hid la
  have FO := Lib.hid fo
  have HPS := Lib.hid hps
  have REL := Lib.hid rel
  have T := Lib.hid t
  have HNO := Lib.hid hno
  have HA := Lib.hid hA
  have HOK := Lib.hid hok
  clear la fo hps rel t hno hA hok
  conv => arg 2; whnf
  go_step
  rename_i KR hKR
  refine wp_cut (fun a' wx => ∃ u10 u152 u153 u154 u155 u156 u157 u158 u159 u160 u161 u162 u163 u164 u165 u166 u167 u168 u169 u170 u171 : Value, (∃ (i : Nat) (v1 : Value) (ms1 : List (R16 × Value)) (hi : i < ms1.length), u10 = .int .i64 (i : Nat) ∧ rfind (ms.map (·.1)) x.1.key = i ∧ ms1.map (·.1) = (ms.map (·.1)).take i ++ rold (ms.map (·.1)) x.1 :: (ms.map (·.1)).drop (i + 1) ∧ (ms1[i]'hi).1 = rold (ms.map (·.1)) x.1 ∧ Hid (Ba16 R w wx mb hb s v1 ms1 x vo ps)) ∧ a' = ⟨List.toArray ((.pointer (some ⟨mb, 0, none⟩)) :: u1 :: u2 :: u3 :: u4 :: u5 :: (.pointer (some ⟨hb, 0, none⟩)) :: u7 :: u8 :: (.pointer (some ⟨hb + 1, 0, none⟩)) :: u10 :: (vo) :: u12 :: u13 :: u14 :: u15 :: u16 :: u17 :: u18 :: u19 :: u20 :: u21 :: u22 :: u23 :: u24 :: u25 :: u26 :: u27 :: u28 :: u29 :: u30 :: u31 :: u32 :: u33 :: u34 :: u35 :: u36 :: u37 :: u38 :: u39 :: u40 :: u41 :: u42 :: u43 :: u44 :: u45 :: u46 :: u47 :: u48 :: u49 :: u50 :: u51 :: u52 :: u53 :: u54 :: u55 :: u56 :: u57 :: u58 :: u59 :: u60 :: u61 :: u62 :: u63 :: u64 :: u65 :: u66 :: u67 :: u68 :: u69 :: u70 :: u71 :: u72 :: u73 :: u74 :: u75 :: u76 :: u77 :: u78 :: u79 :: u80 :: u81 :: u82 :: u83 :: u84 :: u85 :: u86 :: u87 :: u88 :: u89 :: u90 :: u91 :: u92 :: u93 :: u94 :: u95 :: u96 :: u97 :: u98 :: u99 :: u100 :: u101 :: u102 :: u103 :: u104 :: u105 :: u106 :: u107 :: u108 :: u109 :: u110 :: u111 :: u112 :: u113 :: u114 :: u115 :: u116 :: u117 :: u118 :: u119 :: u120 :: u121 :: u122 :: u123 :: u124 :: u125 :: u126 :: u127 :: u128 :: u129 :: u130 :: u131 :: u132 :: u133 :: u134 :: u135 :: u136 :: u137 :: u138 :: u139 :: u140 :: u141 :: u142 :: u143 :: u144 :: u145 :: u146 :: u147 :: u148 :: u149 :: u150 :: u151 :: u152 :: u153 :: u154 :: u155 :: u156 :: u157 :: u158 :: u159 :: u160 :: u161 :: u162 :: u163 :: u164 :: u165 :: u166 :: u167 :: u168 :: u169 :: u170 :: u171 :: u172 :: u173 :: u174 :: u175 :: u176 :: u177 :: u178 :: u179 :: u180 :: u181 :: u182 :: u183 :: u184 :: u185 :: u186 :: u187 :: u188 :: u189 :: u190 :: u191 :: u192 :: u193 :: u194 :: u195 :: u196 :: u197 :: u198 :: u199 :: u200 :: u201 :: u202 :: u203 :: u204 :: u205 :: u206 :: u207 :: u208 :: u209 :: u210 :: u211 :: u212 :: u213 :: []), []⟩) ?_ ?_
  · intro _ wc hinv
    obtain ⟨u10, hinv⟩ := hinv
    obtain ⟨u152, hinv⟩ := hinv
    obtain ⟨u153, hinv⟩ := hinv
    obtain ⟨u154, hinv⟩ := hinv
    obtain ⟨u155, hinv⟩ := hinv
    obtain ⟨u156, hinv⟩ := hinv
    obtain ⟨u157, hinv⟩ := hinv
    obtain ⟨u158, hinv⟩ := hinv
    obtain ⟨u159, hinv⟩ := hinv
    obtain ⟨u160, hinv⟩ := hinv
    obtain ⟨u161, hinv⟩ := hinv
    obtain ⟨u162, hinv⟩ := hinv
    obtain ⟨u163, hinv⟩ := hinv
    obtain ⟨u164, hinv⟩ := hinv
    obtain ⟨u165, hinv⟩ := hinv
    obtain ⟨u166, hinv⟩ := hinv
    obtain ⟨u167, hinv⟩ := hinv
    obtain ⟨u168, hinv⟩ := hinv
    obtain ⟨u169, hinv⟩ := hinv
    obtain ⟨u170, hinv⟩ := hinv
    obtain ⟨u171, hinv⟩ := hinv
    obtain ⟨hcut, ha⟩ := hinv
    subst ha
    obtain ⟨i, v1, ms1, hi, rfl, hrf, hml1, hm1, ba⟩ := hcut
    exact hKR _ _ (radd_t12 ba.out hi hm1 HPS.out hml1 REL.out T.out hrf HNO.out HA.out HOK.out hsz hpl)
  · intro J KM hJ hM
    have HJ := Lib.hid hJ
    clear hJ
    clear hKR
    rcases FO.out with ⟨i, hi, rfl, hrf, hro⟩ | ⟨rfl, hrf, hro⟩
    · have t1 : decide ((i : Int) < 0) = false := decide_eq_false (by omega)
      go_wp2_with fail
      refine Met.intro (HJ.out _ _ ?_)
      repeat apply Exists.intro
      refine ⟨?_, rfl⟩
      refine ⟨i, _, ms, hi, rfl, hrf, ?_, hro.symm, LA8.out.ba⟩
      have hi2 : i < (ms.map (·.1)).length := by rw [List.length_map]; exact hi
      have e := list_at (ms.map (·.1)) hi2
      rw [List.getElem_map, ← hro] at e
      exact e
    · skip
      have t1 : decide ((-1 : Int) < 0) = true := by decide
      have TBK : Blk W mb _ _ := LA8.out.ad.tab.tb
      have c3 := TBK.cell 3
      simp only [List.getElem?_toArray, List.getElem?_cons_zero, List.getElem?_cons_succ] at c3
      go_upto_region 27 with (fail)
      clear c3
      have HTB := Lib.hid TBK
      have HHB := Lib.hid (show Blk W hb _ _ from LA8.out.ad.h)
      have NEB := Lib.hid (show hb ≠ mb from fun e => by
        have h1 := HHB.out
        have h2 := HTB.out
        unfold Blk at h1 h2
        rw [e, h2] at h1
        simp at h1)
      clear TBK
      have CS := Lib.hid (fun WS (HW : Blk WS hb x.1.cells 43) => show (fun WS => WS.cell? ⟨hb, 0, none⟩ = some (.int .i64 x.1.tos) ∧ WS.cell? ⟨hb, 1, none⟩ = some (.int .i64 x.1.id) ∧ WS.cell? ⟨hb, 2, none⟩ = some (.int .i64 x.1.off) ∧ WS.cell? ⟨hb, 3, none⟩ = some (.int .i64 x.1.ttl) ∧ WS.cell? ⟨hb, 4, none⟩ = some (.int .i64 x.1.proto) ∧ WS.cell? ⟨hb, 5, none⟩ = some (.bool x.1.df) ∧ WS.cell? ⟨hb, 6, none⟩ = some (.bool x.1.mf) ∧ WS.cell? ⟨hb, 7, none⟩ = some (.string x.1.src) ∧ WS.cell? ⟨hb, 8, none⟩ = some (.string x.1.dst) ∧ WS.cell? ⟨hb, 9, none⟩ = some (.string x.1.opt)) WS from ⟨HW.cell 0, HW.cell 1, HW.cell 2, HW.cell 3, HW.cell 4, HW.cell 5, HW.cell 6, HW.cell 7, HW.cell 8, HW.cell 9⟩)
      have LC := Lib.hid (fun WS (b : Below W.heap.size W WS) => show (fun WS => WS.cell? ⟨hb, 0, none⟩ = some (.int .i64 x.1.tos) ∧ WS.cell? ⟨hb, 1, none⟩ = some (.int .i64 x.1.id) ∧ WS.cell? ⟨hb, 2, none⟩ = some (.int .i64 x.1.off) ∧ WS.cell? ⟨hb, 3, none⟩ = some (.int .i64 x.1.ttl) ∧ WS.cell? ⟨hb, 4, none⟩ = some (.int .i64 x.1.proto) ∧ WS.cell? ⟨hb, 5, none⟩ = some (.bool x.1.df) ∧ WS.cell? ⟨hb, 6, none⟩ = some (.bool x.1.mf) ∧ WS.cell? ⟨hb, 7, none⟩ = some (.string x.1.src) ∧ WS.cell? ⟨hb, 8, none⟩ = some (.string x.1.dst) ∧ WS.cell? ⟨hb, 9, none⟩ = some (.string x.1.opt)) WS from CS.out WS ((b.block _ HHB.out.lt).trans HHB.out))
      have TC := Lib.hid (fun WS (b : Below W.heap.size W WS) => show WS.cell? ⟨mb, 3, none⟩ = some (.slice va ms.length vcap) from by
        have HW : Blk WS mb _ _ := (b.block _ HTB.out.lt).trans HTB.out
        exact HW.cell 3)
      have OR := Lib.hid (fun WS (b : Below W.heap.size W WS) => row_below LA8.out.ad.tab.row b)
      have ON := Lib.hid (recells_ones ms (fun m hm => by
        obtain ⟨a, c, e⟩ := owns_len (LA8.out.ad.tab.ps m hm)
        exact ⟨a, _, c, e⟩))
      obtain ⟨i0, hi0, hz0, hz1, hz2⟩ := info_parts Try.infoE
      refine wp_region_held_drew (S := fun WS => WS.cell? ⟨hb, 0, none⟩ = some (.int .i64 x.1.tos) ∧ WS.cell? ⟨hb, 1, none⟩ = some (.int .i64 x.1.id) ∧ WS.cell? ⟨hb, 2, none⟩ = some (.int .i64 x.1.off) ∧ WS.cell? ⟨hb, 3, none⟩ = some (.int .i64 x.1.ttl) ∧ WS.cell? ⟨hb, 4, none⟩ = some (.int .i64 x.1.proto) ∧ WS.cell? ⟨hb, 5, none⟩ = some (.bool x.1.df) ∧ WS.cell? ⟨hb, 6, none⟩ = some (.bool x.1.mf) ∧ WS.cell? ⟨hb, 7, none⟩ = some (.string x.1.src) ∧ WS.cell? ⟨hb, 8, none⟩ = some (.string x.1.dst) ∧ WS.cell? ⟨hb, 9, none⟩ = some (.string x.1.opt)) (by kernel_rfl) ?_ (fun hHeld => ?_)
      · exact LC.out _ (Below.refl _ _).drew
      have B0 := Lib.hid (Below.refl W.heap.size W).drew
      refine tk 0 (some 159) rfl rfl ?_
      simp only [Act.put, List.setIfInBounds_toArray, List.set_cons_zero, List.set_cons_succ]
      refine tk 2 (some 161) rfl rfl ?_
      simp only [Act.put, List.setIfInBounds_toArray, List.set_cons_zero, List.set_cons_succ]
      refine tk 3 (some 162) rfl rfl ?_
      simp only [Act.put, List.setIfInBounds_toArray, List.set_cons_zero, List.set_cons_succ]
      refine tk 4 (some 163) rfl rfl ?_
      simp only [Act.put, List.setIfInBounds_toArray, List.set_cons_zero, List.set_cons_succ]
      refine tk 7 (some 166) rfl rfl ?_
      simp only [Act.put, List.setIfInBounds_toArray, List.set_cons_zero, List.set_cons_succ]
      refine tk 8 (some 167) rfl rfl ?_
      simp only [Act.put, List.setIfInBounds_toArray, List.set_cons_zero, List.set_cons_succ]
      refine wpAnyH_ready (rs := [1, 5, 9]) (by kernel_rfl) (by simp) ?_
      refine AllReadyH.cons rfl (fun K hK => ?_) ?_
      · go_simp
        refine hK.out _ _ (LC.out _ (B0.out.alloc B0.out.size _)) (fun held1 => ?_)
        clear hK K
        have M1 := Lib.hid (Made.lit B0.out 75 13 (W.heap.size) (by simp))
        have B1 := Lib.hid (B0.out.alloc B0.out.size (.cells #[] 75))
        try simp only [Act.put, List.setIfInBounds_toArray, List.set_cons_zero, List.set_cons_succ]
        refine wpAnyH_ready (rs := [5, 9]) (by kernel_rfl) (by simp) ?_
        refine AllReadyH.cons rfl (fun K hK => ?_) ?_
        · rw [if_pos (by kernel_rfl)]
          refine wp_of_run (v := .slice va ms.length vcap) (run_at_cell (fun w hSw => by (go_simp <;> with_reducible rfl)) (TC.out _ B1.out)) ?_
          refine hK.out _ _ (LC.out _ B1.out) (fun held2 => ?_)
          clear hK K
          try simp only [Act.put, List.setIfInBounds_toArray, List.set_cons_zero, List.set_cons_succ]
          refine wpAnyH_ready (rs := [6, 9]) (by kernel_rfl) (by simp) ?_
          refine AllReadyH.cons rfl (fun K hK => ?_) ?_
          · rw [if_pos (by kernel_rfl)]
            refine wp_append_row (.tmp 160) (.tmp 164) 33 rfl 75 i0 _ 13 136 (by kernel_rfl) hi0 hz0 hz1 hz2 rfl (by decide) rfl M1.out.own rfl (OR.out _ B1.out) ON.out (by unfold maxLen; omega) (by omega) (fun v3 w3 ho hg hat => ?_)
            refine hK.out _ _ (LC.out _ (Made.app M1.out ho hg hat).bel) (fun held3 => ?_)
            clear hK K
            have M3 := Lib.hid (Made.app M1.out ho hg hat)
            have B3 := Lib.hid M3.out.bel
            clear ho hg hat
            try simp only [Act.put, List.setIfInBounds_toArray, List.set_cons_zero, List.set_cons_succ]
            refine wpAnyH_ready (rs := [9]) (by kernel_rfl) (by simp) ?_
            refine AllReadyH.cons rfl (fun K hK => ?_) AllReadyH.nil
            go_simp
            refine hK.out _ _ (LC.out _ (B3.out.alloc B3.out.size _)) (fun held4 => ?_)
            clear hK K
            have X4 := Lib.hid (new_one B3.out 75 13 (w3.heap.size) (by simp) #[.int .i64 x.1.tos, .int .i64 x.1.id, .int .i64 x.1.off, .int .i64 x.1.ttl, .int .i64 x.1.proto, .bool x.1.df, .bool x.1.mf, .string x.1.src, .string x.1.dst, .string x.1.opt, .slice none 0 0, .bool false, .int .i64 0] rfl)
            have M4 := Lib.hid (made_alloc M3.out (.cells #[.int .i64 x.1.tos, .int .i64 x.1.id, .int .i64 x.1.off, .int .i64 x.1.ttl, .int .i64 x.1.proto, .bool x.1.df, .bool x.1.mf, .string x.1.src, .string x.1.dst, .string x.1.opt, .slice none 0 0, .bool false, .int .i64 0] 75))
            have NE4 := Lib.hid (ne_new M3.out.own 1 1 (w3.heap.size) (by simp))
            have B4 := Lib.hid (B3.out.alloc B3.out.size (.cells #[.int .i64 x.1.tos, .int .i64 x.1.id, .int .i64 x.1.off, .int .i64 x.1.ttl, .int .i64 x.1.proto, .bool x.1.df, .bool x.1.mf, .string x.1.src, .string x.1.dst, .string x.1.opt, .slice none 0 0, .bool false, .int .i64 0] 75))
            try simp only [Act.put, List.setIfInBounds_toArray, List.set_cons_zero, List.set_cons_succ]
            refine wpAnyH_ready (rs := [10]) (by kernel_rfl) (by simp) ?_
            refine AllReadyH.cons rfl (fun K hK => ?_) AllReadyH.nil
            rw [if_pos (by kernel_rfl)]
            refine wp_append_row (.tmp 165) (.tmp 168) 33 rfl 75 i0 _ 13 136 (by kernel_rfl) hi0 hz0 hz1 hz2 rfl (by decide) rfl M4.out.own rfl X4.out (entry_one (⟨x.1, [], false, 0⟩, .slice none 0 0) ⟨_, _, _, rfl⟩) (by unfold maxLen; omega) (by omega) (fun v5 w5 ho hg hat => ?_)
            refine hK.out _ _ (LC.out _ (Made.app M4.out ho hg hat).bel) (fun held5 => ?_)
            clear hK K
            have M5 := Lib.hid (Made.app M4.out ho hg hat)
            have B5 := Lib.hid M5.out.bel
            clear ho hg hat
            try simp only [Act.put, List.setIfInBounds_toArray, List.set_cons_zero, List.set_cons_succ]
            refine tk 11 (some 170) rfl rfl ?_
            simp only [Act.put, List.setIfInBounds_toArray, List.set_cons_zero, List.set_cons_succ]
            refine tk 12 (some 171) rfl rfl ?_
            simp only [Act.put, List.setIfInBounds_toArray, List.set_cons_zero, List.set_cons_succ]
            refine wpAnyH_ready (rs := [13]) (by kernel_rfl) (by simp) ?_
            refine AllReadyH.cons rfl (fun K hK => ?_) AllReadyH.nil
            have MZ := Lib.hid M5.out.norm
            have HT9 : Blk _ mb _ _ := (B5.out.block _ HTB.out.lt).trans HTB.out
            have HH9 : Blk _ hb _ _ := (B5.out.block _ HHB.out.lt).trans HHB.out
            have s3 := HT9.cell 3
            have f3 := HT9.frozen 3
            have HK9 := Lib.hid (HH9.set_other (p := ⟨mb, 3, none⟩) NEB.out v5)
            simp only [List.getElem?_toArray, List.getElem?_cons_zero, List.getElem?_cons_succ] at s3
            clear HT9 HH9
            rw [if_pos (by kernel_rfl)]
            refine (wp_store_slice (.tmp 171) (.tmp 169) ?ho5 ⟨mb, 3, none⟩ ?hs5 ?hx5 MZ.out.slice s3 f3 ?k5 : _)
            case ho5 => rfl
            case hs5 => rfl
            case hx5 => rfl
            refine hK.out _ _ (CS.out _ HK9.out) (fun held9 => ?_)
            clear hK K s3 f3
            try simp only [Act.put, List.setIfInBounds_toArray, List.set_cons_zero, List.set_cons_succ]
            refine wpAnyH_done (by kernel_rfl) ?_ _
            go_wp2_with fail
            refine Met.intro (HJ.out _ _ ?_)
            repeat apply Exists.intro
            refine ⟨?_, rfl⟩
            exact ⟨ms.length, _, ms ++ [(⟨x.1, [], false, 0⟩, .slice none 0 0)], (by simp), rfl, hrf, (by rw [mid_new, hro]), (by rw [List.getElem_append_right (Nat.le_refl _)]; simp [hro]), Lib.hid (LA8.out.grown MZ.out)⟩
          refine AllReadyH.cons rfl (fun K hK => ?_) AllReadyH.nil
          go_simp
          refine hK.out _ _ (LC.out _ (B1.out.alloc B1.out.size _)) (fun held6 => ?_)
          clear hK K
          have X6 := Lib.hid (new_one B1.out 75 13 (W.heap.size + 1) (by simp) #[.int .i64 x.1.tos, .int .i64 x.1.id, .int .i64 x.1.off, .int .i64 x.1.ttl, .int .i64 x.1.proto, .bool x.1.df, .bool x.1.mf, .string x.1.src, .string x.1.dst, .string x.1.opt, .slice none 0 0, .bool false, .int .i64 0] rfl)
          have M6 := Lib.hid (made_alloc M1.out (.cells #[.int .i64 x.1.tos, .int .i64 x.1.id, .int .i64 x.1.off, .int .i64 x.1.ttl, .int .i64 x.1.proto, .bool x.1.df, .bool x.1.mf, .string x.1.src, .string x.1.dst, .string x.1.opt, .slice none 0 0, .bool false, .int .i64 0] 75))
          have NE6 := Lib.hid (ne_new M1.out.own 1 1 (W.heap.size + 1) (by simp))
          have B6 := Lib.hid (B1.out.alloc B1.out.size (.cells #[.int .i64 x.1.tos, .int .i64 x.1.id, .int .i64 x.1.off, .int .i64 x.1.ttl, .int .i64 x.1.proto, .bool x.1.df, .bool x.1.mf, .string x.1.src, .string x.1.dst, .string x.1.opt, .slice none 0 0, .bool false, .int .i64 0] 75))
          try simp only [Act.put, List.setIfInBounds_toArray, List.set_cons_zero, List.set_cons_succ]
          refine wpAnyH_ready (rs := [6]) (by kernel_rfl) (by simp) ?_
          refine AllReadyH.cons rfl (fun K hK => ?_) AllReadyH.nil
          rw [if_pos (by kernel_rfl)]
          refine wp_append_row (.tmp 160) (.tmp 164) 33 rfl 75 i0 _ 13 136 (by kernel_rfl) hi0 hz0 hz1 hz2 rfl (by decide) rfl M6.out.own rfl (OR.out _ B6.out) ON.out (by unfold maxLen; omega) (by omega) (fun v7 w7 ho hg hat => ?_)
          refine hK.out _ _ (LC.out _ (Made.app M6.out ho hg hat).bel) (fun held7 => ?_)
          clear hK K
          have M7 := Lib.hid (Made.app M6.out ho hg hat)
          have B7 := Lib.hid M7.out.bel
          have X7 := Lib.hid (own_other X6.out hg NE6.out)
          clear ho hg hat
          try simp only [Act.put, List.setIfInBounds_toArray, List.set_cons_zero, List.set_cons_succ]
          refine wpAnyH_ready (rs := [10]) (by kernel_rfl) (by simp) ?_
          refine AllReadyH.cons rfl (fun K hK => ?_) AllReadyH.nil
          rw [if_pos (by kernel_rfl)]
          refine wp_append_row (.tmp 165) (.tmp 168) 33 rfl 75 i0 _ 13 136 (by kernel_rfl) hi0 hz0 hz1 hz2 rfl (by decide) rfl M7.out.own rfl X7.out (entry_one (⟨x.1, [], false, 0⟩, .slice none 0 0) ⟨_, _, _, rfl⟩) (by unfold maxLen; omega) (by omega) (fun v8 w8 ho hg hat => ?_)
          refine hK.out _ _ (LC.out _ (Made.app M7.out ho hg hat).bel) (fun held8 => ?_)
          clear hK K
          have M8 := Lib.hid (Made.app M7.out ho hg hat)
          have B8 := Lib.hid M8.out.bel
          clear ho hg hat
          try simp only [Act.put, List.setIfInBounds_toArray, List.set_cons_zero, List.set_cons_succ]
          refine tk 11 (some 170) rfl rfl ?_
          simp only [Act.put, List.setIfInBounds_toArray, List.set_cons_zero, List.set_cons_succ]
          refine tk 12 (some 171) rfl rfl ?_
          simp only [Act.put, List.setIfInBounds_toArray, List.set_cons_zero, List.set_cons_succ]
          refine wpAnyH_ready (rs := [13]) (by kernel_rfl) (by simp) ?_
          refine AllReadyH.cons rfl (fun K hK => ?_) AllReadyH.nil
          have MZ := Lib.hid M8.out.norm
          have HT9 : Blk _ mb _ _ := (B8.out.block _ HTB.out.lt).trans HTB.out
          have HH9 : Blk _ hb _ _ := (B8.out.block _ HHB.out.lt).trans HHB.out
          have s3 := HT9.cell 3
          have f3 := HT9.frozen 3
          have HK9 := Lib.hid (HH9.set_other (p := ⟨mb, 3, none⟩) NEB.out v8)
          simp only [List.getElem?_toArray, List.getElem?_cons_zero, List.getElem?_cons_succ] at s3
          clear HT9 HH9
          rw [if_pos (by kernel_rfl)]
          refine (wp_store_slice (.tmp 171) (.tmp 169) ?ho8 ⟨mb, 3, none⟩ ?hs8 ?hx8 MZ.out.slice s3 f3 ?k8 : _)
          case ho8 => rfl
          case hs8 => rfl
          case hx8 => rfl
          refine hK.out _ _ (CS.out _ HK9.out) (fun held9 => ?_)
          clear hK K s3 f3
          try simp only [Act.put, List.setIfInBounds_toArray, List.set_cons_zero, List.set_cons_succ]
          refine wpAnyH_done (by kernel_rfl) ?_ _
          go_wp2_with fail
          refine Met.intro (HJ.out _ _ ?_)
          repeat apply Exists.intro
          refine ⟨?_, rfl⟩
          exact ⟨ms.length, _, ms ++ [(⟨x.1, [], false, 0⟩, .slice none 0 0)], (by simp), rfl, hrf, (by rw [mid_new, hro]), (by rw [List.getElem_append_right (Nat.le_refl _)]; simp [hro]), Lib.hid (LA8.out.grown MZ.out)⟩
        refine AllReadyH.cons rfl (fun K hK => ?_) AllReadyH.nil
        go_simp
        refine hK.out _ _ (LC.out _ (B1.out.alloc B1.out.size _)) (fun held9 => ?_)
        clear hK K
        have X9 := Lib.hid (new_one B1.out 75 13 (W.heap.size + 1) (by simp) #[.int .i64 x.1.tos, .int .i64 x.1.id, .int .i64 x.1.off, .int .i64 x.1.ttl, .int .i64 x.1.proto, .bool x.1.df, .bool x.1.mf, .string x.1.src, .string x.1.dst, .string x.1.opt, .slice none 0 0, .bool false, .int .i64 0] rfl)
        have M9 := Lib.hid (made_alloc M1.out (.cells #[.int .i64 x.1.tos, .int .i64 x.1.id, .int .i64 x.1.off, .int .i64 x.1.ttl, .int .i64 x.1.proto, .bool x.1.df, .bool x.1.mf, .string x.1.src, .string x.1.dst, .string x.1.opt, .slice none 0 0, .bool false, .int .i64 0] 75))
        have NE9 := Lib.hid (ne_new M1.out.own 1 1 (W.heap.size + 1) (by simp))
        have B9 := Lib.hid (B1.out.alloc B1.out.size (.cells #[.int .i64 x.1.tos, .int .i64 x.1.id, .int .i64 x.1.off, .int .i64 x.1.ttl, .int .i64 x.1.proto, .bool x.1.df, .bool x.1.mf, .string x.1.src, .string x.1.dst, .string x.1.opt, .slice none 0 0, .bool false, .int .i64 0] 75))
        try simp only [Act.put, List.setIfInBounds_toArray, List.set_cons_zero, List.set_cons_succ]
        refine wpAnyH_ready (rs := [5]) (by kernel_rfl) (by simp) ?_
        refine AllReadyH.cons rfl (fun K hK => ?_) AllReadyH.nil
        rw [if_pos (by kernel_rfl)]
        refine wp_of_run (v := .slice va ms.length vcap) (run_at_cell (fun w hSw => by (go_simp <;> with_reducible rfl)) (TC.out _ B9.out)) ?_
        refine hK.out _ _ (LC.out _ B9.out) (fun held10 => ?_)
        clear hK K
        try simp only [Act.put, List.setIfInBounds_toArray, List.set_cons_zero, List.set_cons_succ]
        refine wpAnyH_ready (rs := [6]) (by kernel_rfl) (by simp) ?_
        refine AllReadyH.cons rfl (fun K hK => ?_) AllReadyH.nil
        rw [if_pos (by kernel_rfl)]
        refine wp_append_row (.tmp 160) (.tmp 164) 33 rfl 75 i0 _ 13 136 (by kernel_rfl) hi0 hz0 hz1 hz2 rfl (by decide) rfl M9.out.own rfl (OR.out _ B9.out) ON.out (by unfold maxLen; omega) (by omega) (fun v11 w11 ho hg hat => ?_)
        refine hK.out _ _ (LC.out _ (Made.app M9.out ho hg hat).bel) (fun held11 => ?_)
        clear hK K
        have M11 := Lib.hid (Made.app M9.out ho hg hat)
        have B11 := Lib.hid M11.out.bel
        have X11 := Lib.hid (own_other X9.out hg NE9.out)
        clear ho hg hat
        try simp only [Act.put, List.setIfInBounds_toArray, List.set_cons_zero, List.set_cons_succ]
        refine wpAnyH_ready (rs := [10]) (by kernel_rfl) (by simp) ?_
        refine AllReadyH.cons rfl (fun K hK => ?_) AllReadyH.nil
        rw [if_pos (by kernel_rfl)]
        refine wp_append_row (.tmp 165) (.tmp 168) 33 rfl 75 i0 _ 13 136 (by kernel_rfl) hi0 hz0 hz1 hz2 rfl (by decide) rfl M11.out.own rfl X11.out (entry_one (⟨x.1, [], false, 0⟩, .slice none 0 0) ⟨_, _, _, rfl⟩) (by unfold maxLen; omega) (by omega) (fun v12 w12 ho hg hat => ?_)
        refine hK.out _ _ (LC.out _ (Made.app M11.out ho hg hat).bel) (fun held12 => ?_)
        clear hK K
        have M12 := Lib.hid (Made.app M11.out ho hg hat)
        have B12 := Lib.hid M12.out.bel
        clear ho hg hat
        try simp only [Act.put, List.setIfInBounds_toArray, List.set_cons_zero, List.set_cons_succ]
        refine tk 11 (some 170) rfl rfl ?_
        simp only [Act.put, List.setIfInBounds_toArray, List.set_cons_zero, List.set_cons_succ]
        refine tk 12 (some 171) rfl rfl ?_
        simp only [Act.put, List.setIfInBounds_toArray, List.set_cons_zero, List.set_cons_succ]
        refine wpAnyH_ready (rs := [13]) (by kernel_rfl) (by simp) ?_
        refine AllReadyH.cons rfl (fun K hK => ?_) AllReadyH.nil
        have MZ := Lib.hid M12.out.norm
        have HT9 : Blk _ mb _ _ := (B12.out.block _ HTB.out.lt).trans HTB.out
        have HH9 : Blk _ hb _ _ := (B12.out.block _ HHB.out.lt).trans HHB.out
        have s3 := HT9.cell 3
        have f3 := HT9.frozen 3
        have HK9 := Lib.hid (HH9.set_other (p := ⟨mb, 3, none⟩) NEB.out v12)
        simp only [List.getElem?_toArray, List.getElem?_cons_zero, List.getElem?_cons_succ] at s3
        clear HT9 HH9
        rw [if_pos (by kernel_rfl)]
        refine (wp_store_slice (.tmp 171) (.tmp 169) ?ho12 ⟨mb, 3, none⟩ ?hs12 ?hx12 MZ.out.slice s3 f3 ?k12 : _)
        case ho12 => rfl
        case hs12 => rfl
        case hx12 => rfl
        refine hK.out _ _ (CS.out _ HK9.out) (fun held9 => ?_)
        clear hK K s3 f3
        try simp only [Act.put, List.setIfInBounds_toArray, List.set_cons_zero, List.set_cons_succ]
        refine wpAnyH_done (by kernel_rfl) ?_ _
        go_wp2_with fail
        refine Met.intro (HJ.out _ _ ?_)
        repeat apply Exists.intro
        refine ⟨?_, rfl⟩
        exact ⟨ms.length, _, ms ++ [(⟨x.1, [], false, 0⟩, .slice none 0 0)], (by simp), rfl, hrf, (by rw [mid_new, hro]), (by rw [List.getElem_append_right (Nat.le_refl _)]; simp [hro]), Lib.hid (LA8.out.grown MZ.out)⟩
      refine AllReadyH.cons rfl (fun K hK => ?_) ?_
      · rw [if_pos (by kernel_rfl)]
        refine wp_of_run (v := .slice va ms.length vcap) (run_at_cell (fun w hSw => by (go_simp <;> with_reducible rfl)) (TC.out _ B0.out)) ?_
        refine hK.out _ _ (LC.out _ B0.out) (fun held13 => ?_)
        clear hK K
        try simp only [Act.put, List.setIfInBounds_toArray, List.set_cons_zero, List.set_cons_succ]
        refine wpAnyH_ready (rs := [1, 9]) (by kernel_rfl) (by simp) ?_
        refine AllReadyH.cons rfl (fun K hK => ?_) ?_
        · go_simp
          refine hK.out _ _ (LC.out _ (B0.out.alloc B0.out.size _)) (fun held14 => ?_)
          clear hK K
          have M14 := Lib.hid (Made.lit B0.out 75 13 (W.heap.size) (by simp))
          have B14 := Lib.hid (B0.out.alloc B0.out.size (.cells #[] 75))
          try simp only [Act.put, List.setIfInBounds_toArray, List.set_cons_zero, List.set_cons_succ]
          refine wpAnyH_ready (rs := [6, 9]) (by kernel_rfl) (by simp) ?_
          refine AllReadyH.cons rfl (fun K hK => ?_) ?_
          · rw [if_pos (by kernel_rfl)]
            refine wp_append_row (.tmp 160) (.tmp 164) 33 rfl 75 i0 _ 13 136 (by kernel_rfl) hi0 hz0 hz1 hz2 rfl (by decide) rfl M14.out.own rfl (OR.out _ B14.out) ON.out (by unfold maxLen; omega) (by omega) (fun v15 w15 ho hg hat => ?_)
            refine hK.out _ _ (LC.out _ (Made.app M14.out ho hg hat).bel) (fun held15 => ?_)
            clear hK K
            have M15 := Lib.hid (Made.app M14.out ho hg hat)
            have B15 := Lib.hid M15.out.bel
            clear ho hg hat
            try simp only [Act.put, List.setIfInBounds_toArray, List.set_cons_zero, List.set_cons_succ]
            refine wpAnyH_ready (rs := [9]) (by kernel_rfl) (by simp) ?_
            refine AllReadyH.cons rfl (fun K hK => ?_) AllReadyH.nil
            go_simp
            refine hK.out _ _ (LC.out _ (B15.out.alloc B15.out.size _)) (fun held16 => ?_)
            clear hK K
            have X16 := Lib.hid (new_one B15.out 75 13 (w15.heap.size) (by simp) #[.int .i64 x.1.tos, .int .i64 x.1.id, .int .i64 x.1.off, .int .i64 x.1.ttl, .int .i64 x.1.proto, .bool x.1.df, .bool x.1.mf, .string x.1.src, .string x.1.dst, .string x.1.opt, .slice none 0 0, .bool false, .int .i64 0] rfl)
            have M16 := Lib.hid (made_alloc M15.out (.cells #[.int .i64 x.1.tos, .int .i64 x.1.id, .int .i64 x.1.off, .int .i64 x.1.ttl, .int .i64 x.1.proto, .bool x.1.df, .bool x.1.mf, .string x.1.src, .string x.1.dst, .string x.1.opt, .slice none 0 0, .bool false, .int .i64 0] 75))
            have NE16 := Lib.hid (ne_new M15.out.own 1 1 (w15.heap.size) (by simp))
            have B16 := Lib.hid (B15.out.alloc B15.out.size (.cells #[.int .i64 x.1.tos, .int .i64 x.1.id, .int .i64 x.1.off, .int .i64 x.1.ttl, .int .i64 x.1.proto, .bool x.1.df, .bool x.1.mf, .string x.1.src, .string x.1.dst, .string x.1.opt, .slice none 0 0, .bool false, .int .i64 0] 75))
            try simp only [Act.put, List.setIfInBounds_toArray, List.set_cons_zero, List.set_cons_succ]
            refine wpAnyH_ready (rs := [10]) (by kernel_rfl) (by simp) ?_
            refine AllReadyH.cons rfl (fun K hK => ?_) AllReadyH.nil
            rw [if_pos (by kernel_rfl)]
            refine wp_append_row (.tmp 165) (.tmp 168) 33 rfl 75 i0 _ 13 136 (by kernel_rfl) hi0 hz0 hz1 hz2 rfl (by decide) rfl M16.out.own rfl X16.out (entry_one (⟨x.1, [], false, 0⟩, .slice none 0 0) ⟨_, _, _, rfl⟩) (by unfold maxLen; omega) (by omega) (fun v17 w17 ho hg hat => ?_)
            refine hK.out _ _ (LC.out _ (Made.app M16.out ho hg hat).bel) (fun held17 => ?_)
            clear hK K
            have M17 := Lib.hid (Made.app M16.out ho hg hat)
            have B17 := Lib.hid M17.out.bel
            clear ho hg hat
            try simp only [Act.put, List.setIfInBounds_toArray, List.set_cons_zero, List.set_cons_succ]
            refine tk 11 (some 170) rfl rfl ?_
            simp only [Act.put, List.setIfInBounds_toArray, List.set_cons_zero, List.set_cons_succ]
            refine tk 12 (some 171) rfl rfl ?_
            simp only [Act.put, List.setIfInBounds_toArray, List.set_cons_zero, List.set_cons_succ]
            refine wpAnyH_ready (rs := [13]) (by kernel_rfl) (by simp) ?_
            refine AllReadyH.cons rfl (fun K hK => ?_) AllReadyH.nil
            have MZ := Lib.hid M17.out.norm
            have HT9 : Blk _ mb _ _ := (B17.out.block _ HTB.out.lt).trans HTB.out
            have HH9 : Blk _ hb _ _ := (B17.out.block _ HHB.out.lt).trans HHB.out
            have s3 := HT9.cell 3
            have f3 := HT9.frozen 3
            have HK9 := Lib.hid (HH9.set_other (p := ⟨mb, 3, none⟩) NEB.out v17)
            simp only [List.getElem?_toArray, List.getElem?_cons_zero, List.getElem?_cons_succ] at s3
            clear HT9 HH9
            rw [if_pos (by kernel_rfl)]
            refine (wp_store_slice (.tmp 171) (.tmp 169) ?ho17 ⟨mb, 3, none⟩ ?hs17 ?hx17 MZ.out.slice s3 f3 ?k17 : _)
            case ho17 => rfl
            case hs17 => rfl
            case hx17 => rfl
            refine hK.out _ _ (CS.out _ HK9.out) (fun held9 => ?_)
            clear hK K s3 f3
            try simp only [Act.put, List.setIfInBounds_toArray, List.set_cons_zero, List.set_cons_succ]
            refine wpAnyH_done (by kernel_rfl) ?_ _
            go_wp2_with fail
            refine Met.intro (HJ.out _ _ ?_)
            repeat apply Exists.intro
            refine ⟨?_, rfl⟩
            exact ⟨ms.length, _, ms ++ [(⟨x.1, [], false, 0⟩, .slice none 0 0)], (by simp), rfl, hrf, (by rw [mid_new, hro]), (by rw [List.getElem_append_right (Nat.le_refl _)]; simp [hro]), Lib.hid (LA8.out.grown MZ.out)⟩
          refine AllReadyH.cons rfl (fun K hK => ?_) AllReadyH.nil
          go_simp
          refine hK.out _ _ (LC.out _ (B14.out.alloc B14.out.size _)) (fun held18 => ?_)
          clear hK K
          have X18 := Lib.hid (new_one B14.out 75 13 (W.heap.size + 1) (by simp) #[.int .i64 x.1.tos, .int .i64 x.1.id, .int .i64 x.1.off, .int .i64 x.1.ttl, .int .i64 x.1.proto, .bool x.1.df, .bool x.1.mf, .string x.1.src, .string x.1.dst, .string x.1.opt, .slice none 0 0, .bool false, .int .i64 0] rfl)
          have M18 := Lib.hid (made_alloc M14.out (.cells #[.int .i64 x.1.tos, .int .i64 x.1.id, .int .i64 x.1.off, .int .i64 x.1.ttl, .int .i64 x.1.proto, .bool x.1.df, .bool x.1.mf, .string x.1.src, .string x.1.dst, .string x.1.opt, .slice none 0 0, .bool false, .int .i64 0] 75))
          have NE18 := Lib.hid (ne_new M14.out.own 1 1 (W.heap.size + 1) (by simp))
          have B18 := Lib.hid (B14.out.alloc B14.out.size (.cells #[.int .i64 x.1.tos, .int .i64 x.1.id, .int .i64 x.1.off, .int .i64 x.1.ttl, .int .i64 x.1.proto, .bool x.1.df, .bool x.1.mf, .string x.1.src, .string x.1.dst, .string x.1.opt, .slice none 0 0, .bool false, .int .i64 0] 75))
          try simp only [Act.put, List.setIfInBounds_toArray, List.set_cons_zero, List.set_cons_succ]
          refine wpAnyH_ready (rs := [6]) (by kernel_rfl) (by simp) ?_
          refine AllReadyH.cons rfl (fun K hK => ?_) AllReadyH.nil
          rw [if_pos (by kernel_rfl)]
          refine wp_append_row (.tmp 160) (.tmp 164) 33 rfl 75 i0 _ 13 136 (by kernel_rfl) hi0 hz0 hz1 hz2 rfl (by decide) rfl M18.out.own rfl (OR.out _ B18.out) ON.out (by unfold maxLen; omega) (by omega) (fun v19 w19 ho hg hat => ?_)
          refine hK.out _ _ (LC.out _ (Made.app M18.out ho hg hat).bel) (fun held19 => ?_)
          clear hK K
          have M19 := Lib.hid (Made.app M18.out ho hg hat)
          have B19 := Lib.hid M19.out.bel
          have X19 := Lib.hid (own_other X18.out hg NE18.out)
          clear ho hg hat
          try simp only [Act.put, List.setIfInBounds_toArray, List.set_cons_zero, List.set_cons_succ]
          refine wpAnyH_ready (rs := [10]) (by kernel_rfl) (by simp) ?_
          refine AllReadyH.cons rfl (fun K hK => ?_) AllReadyH.nil
          rw [if_pos (by kernel_rfl)]
          refine wp_append_row (.tmp 165) (.tmp 168) 33 rfl 75 i0 _ 13 136 (by kernel_rfl) hi0 hz0 hz1 hz2 rfl (by decide) rfl M19.out.own rfl X19.out (entry_one (⟨x.1, [], false, 0⟩, .slice none 0 0) ⟨_, _, _, rfl⟩) (by unfold maxLen; omega) (by omega) (fun v20 w20 ho hg hat => ?_)
          refine hK.out _ _ (LC.out _ (Made.app M19.out ho hg hat).bel) (fun held20 => ?_)
          clear hK K
          have M20 := Lib.hid (Made.app M19.out ho hg hat)
          have B20 := Lib.hid M20.out.bel
          clear ho hg hat
          try simp only [Act.put, List.setIfInBounds_toArray, List.set_cons_zero, List.set_cons_succ]
          refine tk 11 (some 170) rfl rfl ?_
          simp only [Act.put, List.setIfInBounds_toArray, List.set_cons_zero, List.set_cons_succ]
          refine tk 12 (some 171) rfl rfl ?_
          simp only [Act.put, List.setIfInBounds_toArray, List.set_cons_zero, List.set_cons_succ]
          refine wpAnyH_ready (rs := [13]) (by kernel_rfl) (by simp) ?_
          refine AllReadyH.cons rfl (fun K hK => ?_) AllReadyH.nil
          have MZ := Lib.hid M20.out.norm
          have HT9 : Blk _ mb _ _ := (B20.out.block _ HTB.out.lt).trans HTB.out
          have HH9 : Blk _ hb _ _ := (B20.out.block _ HHB.out.lt).trans HHB.out
          have s3 := HT9.cell 3
          have f3 := HT9.frozen 3
          have HK9 := Lib.hid (HH9.set_other (p := ⟨mb, 3, none⟩) NEB.out v20)
          simp only [List.getElem?_toArray, List.getElem?_cons_zero, List.getElem?_cons_succ] at s3
          clear HT9 HH9
          rw [if_pos (by kernel_rfl)]
          refine (wp_store_slice (.tmp 171) (.tmp 169) ?ho20 ⟨mb, 3, none⟩ ?hs20 ?hx20 MZ.out.slice s3 f3 ?k20 : _)
          case ho20 => rfl
          case hs20 => rfl
          case hx20 => rfl
          refine hK.out _ _ (CS.out _ HK9.out) (fun held9 => ?_)
          clear hK K s3 f3
          try simp only [Act.put, List.setIfInBounds_toArray, List.set_cons_zero, List.set_cons_succ]
          refine wpAnyH_done (by kernel_rfl) ?_ _
          go_wp2_with fail
          refine Met.intro (HJ.out _ _ ?_)
          repeat apply Exists.intro
          refine ⟨?_, rfl⟩
          exact ⟨ms.length, _, ms ++ [(⟨x.1, [], false, 0⟩, .slice none 0 0)], (by simp), rfl, hrf, (by rw [mid_new, hro]), (by rw [List.getElem_append_right (Nat.le_refl _)]; simp [hro]), Lib.hid (LA8.out.grown MZ.out)⟩
        refine AllReadyH.cons rfl (fun K hK => ?_) AllReadyH.nil
        go_simp
        refine hK.out _ _ (LC.out _ (B0.out.alloc B0.out.size _)) (fun held21 => ?_)
        clear hK K
        have X21 := Lib.hid (new_one B0.out 75 13 (W.heap.size) (by simp) #[.int .i64 x.1.tos, .int .i64 x.1.id, .int .i64 x.1.off, .int .i64 x.1.ttl, .int .i64 x.1.proto, .bool x.1.df, .bool x.1.mf, .string x.1.src, .string x.1.dst, .string x.1.opt, .slice none 0 0, .bool false, .int .i64 0] rfl)
        have B21 := Lib.hid (B0.out.alloc B0.out.size (.cells #[.int .i64 x.1.tos, .int .i64 x.1.id, .int .i64 x.1.off, .int .i64 x.1.ttl, .int .i64 x.1.proto, .bool x.1.df, .bool x.1.mf, .string x.1.src, .string x.1.dst, .string x.1.opt, .slice none 0 0, .bool false, .int .i64 0] 75))
        try simp only [Act.put, List.setIfInBounds_toArray, List.set_cons_zero, List.set_cons_succ]
        refine wpAnyH_ready (rs := [1]) (by kernel_rfl) (by simp) ?_
        refine AllReadyH.cons rfl (fun K hK => ?_) AllReadyH.nil
        go_simp
        refine hK.out _ _ (LC.out _ (B21.out.alloc B21.out.size _)) (fun held22 => ?_)
        clear hK K
        have M22 := Lib.hid (Made.lit B21.out 75 13 (W.heap.size + 1) (by simp))
        have X22 := Lib.hid (X21.out.alloc (.cells #[] 75))
        have NE22 := Lib.hid (ne_old X21.out 0 0 (W.heap.size + 1) (by simp))
        have B22 := Lib.hid (B21.out.alloc B21.out.size (.cells #[] 75))
        try simp only [Act.put, List.setIfInBounds_toArray, List.set_cons_zero, List.set_cons_succ]
        refine wpAnyH_ready (rs := [6]) (by kernel_rfl) (by simp) ?_
        refine AllReadyH.cons rfl (fun K hK => ?_) AllReadyH.nil
        rw [if_pos (by kernel_rfl)]
        refine wp_append_row (.tmp 160) (.tmp 164) 33 rfl 75 i0 _ 13 136 (by kernel_rfl) hi0 hz0 hz1 hz2 rfl (by decide) rfl M22.out.own rfl (OR.out _ B22.out) ON.out (by unfold maxLen; omega) (by omega) (fun v23 w23 ho hg hat => ?_)
        refine hK.out _ _ (LC.out _ (Made.app M22.out ho hg hat).bel) (fun held23 => ?_)
        clear hK K
        have M23 := Lib.hid (Made.app M22.out ho hg hat)
        have B23 := Lib.hid M23.out.bel
        have X23 := Lib.hid (own_other X22.out hg NE22.out)
        clear ho hg hat
        try simp only [Act.put, List.setIfInBounds_toArray, List.set_cons_zero, List.set_cons_succ]
        refine wpAnyH_ready (rs := [10]) (by kernel_rfl) (by simp) ?_
        refine AllReadyH.cons rfl (fun K hK => ?_) AllReadyH.nil
        rw [if_pos (by kernel_rfl)]
        refine wp_append_row (.tmp 165) (.tmp 168) 33 rfl 75 i0 _ 13 136 (by kernel_rfl) hi0 hz0 hz1 hz2 rfl (by decide) rfl M23.out.own rfl X23.out (entry_one (⟨x.1, [], false, 0⟩, .slice none 0 0) ⟨_, _, _, rfl⟩) (by unfold maxLen; omega) (by omega) (fun v24 w24 ho hg hat => ?_)
        refine hK.out _ _ (LC.out _ (Made.app M23.out ho hg hat).bel) (fun held24 => ?_)
        clear hK K
        have M24 := Lib.hid (Made.app M23.out ho hg hat)
        have B24 := Lib.hid M24.out.bel
        clear ho hg hat
        try simp only [Act.put, List.setIfInBounds_toArray, List.set_cons_zero, List.set_cons_succ]
        refine tk 11 (some 170) rfl rfl ?_
        simp only [Act.put, List.setIfInBounds_toArray, List.set_cons_zero, List.set_cons_succ]
        refine tk 12 (some 171) rfl rfl ?_
        simp only [Act.put, List.setIfInBounds_toArray, List.set_cons_zero, List.set_cons_succ]
        refine wpAnyH_ready (rs := [13]) (by kernel_rfl) (by simp) ?_
        refine AllReadyH.cons rfl (fun K hK => ?_) AllReadyH.nil
        have MZ := Lib.hid M24.out.norm
        have HT9 : Blk _ mb _ _ := (B24.out.block _ HTB.out.lt).trans HTB.out
        have HH9 : Blk _ hb _ _ := (B24.out.block _ HHB.out.lt).trans HHB.out
        have s3 := HT9.cell 3
        have f3 := HT9.frozen 3
        have HK9 := Lib.hid (HH9.set_other (p := ⟨mb, 3, none⟩) NEB.out v24)
        simp only [List.getElem?_toArray, List.getElem?_cons_zero, List.getElem?_cons_succ] at s3
        clear HT9 HH9
        rw [if_pos (by kernel_rfl)]
        refine (wp_store_slice (.tmp 171) (.tmp 169) ?ho24 ⟨mb, 3, none⟩ ?hs24 ?hx24 MZ.out.slice s3 f3 ?k24 : _)
        case ho24 => rfl
        case hs24 => rfl
        case hx24 => rfl
        refine hK.out _ _ (CS.out _ HK9.out) (fun held9 => ?_)
        clear hK K s3 f3
        try simp only [Act.put, List.setIfInBounds_toArray, List.set_cons_zero, List.set_cons_succ]
        refine wpAnyH_done (by kernel_rfl) ?_ _
        go_wp2_with fail
        refine Met.intro (HJ.out _ _ ?_)
        repeat apply Exists.intro
        refine ⟨?_, rfl⟩
        exact ⟨ms.length, _, ms ++ [(⟨x.1, [], false, 0⟩, .slice none 0 0)], (by simp), rfl, hrf, (by rw [mid_new, hro]), (by rw [List.getElem_append_right (Nat.le_refl _)]; simp [hro]), Lib.hid (LA8.out.grown MZ.out)⟩
      refine AllReadyH.cons rfl (fun K hK => ?_) AllReadyH.nil
      go_simp
      refine hK.out _ _ (LC.out _ (B0.out.alloc B0.out.size _)) (fun held25 => ?_)
      clear hK K
      have X25 := Lib.hid (new_one B0.out 75 13 (W.heap.size) (by simp) #[.int .i64 x.1.tos, .int .i64 x.1.id, .int .i64 x.1.off, .int .i64 x.1.ttl, .int .i64 x.1.proto, .bool x.1.df, .bool x.1.mf, .string x.1.src, .string x.1.dst, .string x.1.opt, .slice none 0 0, .bool false, .int .i64 0] rfl)
      have B25 := Lib.hid (B0.out.alloc B0.out.size (.cells #[.int .i64 x.1.tos, .int .i64 x.1.id, .int .i64 x.1.off, .int .i64 x.1.ttl, .int .i64 x.1.proto, .bool x.1.df, .bool x.1.mf, .string x.1.src, .string x.1.dst, .string x.1.opt, .slice none 0 0, .bool false, .int .i64 0] 75))
      try simp only [Act.put, List.setIfInBounds_toArray, List.set_cons_zero, List.set_cons_succ]
      refine wpAnyH_ready (rs := [1, 5]) (by kernel_rfl) (by simp) ?_
      refine AllReadyH.cons rfl (fun K hK => ?_) ?_
      · go_simp
        refine hK.out _ _ (LC.out _ (B25.out.alloc B25.out.size _)) (fun held26 => ?_)
        clear hK K
        have M26 := Lib.hid (Made.lit B25.out 75 13 (W.heap.size + 1) (by simp))
        have X26 := Lib.hid (X25.out.alloc (.cells #[] 75))
        have NE26 := Lib.hid (ne_old X25.out 0 0 (W.heap.size + 1) (by simp))
        have B26 := Lib.hid (B25.out.alloc B25.out.size (.cells #[] 75))
        try simp only [Act.put, List.setIfInBounds_toArray, List.set_cons_zero, List.set_cons_succ]
        refine wpAnyH_ready (rs := [5]) (by kernel_rfl) (by simp) ?_
        refine AllReadyH.cons rfl (fun K hK => ?_) AllReadyH.nil
        rw [if_pos (by kernel_rfl)]
        refine wp_of_run (v := .slice va ms.length vcap) (run_at_cell (fun w hSw => by (go_simp <;> with_reducible rfl)) (TC.out _ B26.out)) ?_
        refine hK.out _ _ (LC.out _ B26.out) (fun held27 => ?_)
        clear hK K
        try simp only [Act.put, List.setIfInBounds_toArray, List.set_cons_zero, List.set_cons_succ]
        refine wpAnyH_ready (rs := [6]) (by kernel_rfl) (by simp) ?_
        refine AllReadyH.cons rfl (fun K hK => ?_) AllReadyH.nil
        rw [if_pos (by kernel_rfl)]
        refine wp_append_row (.tmp 160) (.tmp 164) 33 rfl 75 i0 _ 13 136 (by kernel_rfl) hi0 hz0 hz1 hz2 rfl (by decide) rfl M26.out.own rfl (OR.out _ B26.out) ON.out (by unfold maxLen; omega) (by omega) (fun v28 w28 ho hg hat => ?_)
        refine hK.out _ _ (LC.out _ (Made.app M26.out ho hg hat).bel) (fun held28 => ?_)
        clear hK K
        have M28 := Lib.hid (Made.app M26.out ho hg hat)
        have B28 := Lib.hid M28.out.bel
        have X28 := Lib.hid (own_other X26.out hg NE26.out)
        clear ho hg hat
        try simp only [Act.put, List.setIfInBounds_toArray, List.set_cons_zero, List.set_cons_succ]
        refine wpAnyH_ready (rs := [10]) (by kernel_rfl) (by simp) ?_
        refine AllReadyH.cons rfl (fun K hK => ?_) AllReadyH.nil
        rw [if_pos (by kernel_rfl)]
        refine wp_append_row (.tmp 165) (.tmp 168) 33 rfl 75 i0 _ 13 136 (by kernel_rfl) hi0 hz0 hz1 hz2 rfl (by decide) rfl M28.out.own rfl X28.out (entry_one (⟨x.1, [], false, 0⟩, .slice none 0 0) ⟨_, _, _, rfl⟩) (by unfold maxLen; omega) (by omega) (fun v29 w29 ho hg hat => ?_)
        refine hK.out _ _ (LC.out _ (Made.app M28.out ho hg hat).bel) (fun held29 => ?_)
        clear hK K
        have M29 := Lib.hid (Made.app M28.out ho hg hat)
        have B29 := Lib.hid M29.out.bel
        clear ho hg hat
        try simp only [Act.put, List.setIfInBounds_toArray, List.set_cons_zero, List.set_cons_succ]
        refine tk 11 (some 170) rfl rfl ?_
        simp only [Act.put, List.setIfInBounds_toArray, List.set_cons_zero, List.set_cons_succ]
        refine tk 12 (some 171) rfl rfl ?_
        simp only [Act.put, List.setIfInBounds_toArray, List.set_cons_zero, List.set_cons_succ]
        refine wpAnyH_ready (rs := [13]) (by kernel_rfl) (by simp) ?_
        refine AllReadyH.cons rfl (fun K hK => ?_) AllReadyH.nil
        have MZ := Lib.hid M29.out.norm
        have HT9 : Blk _ mb _ _ := (B29.out.block _ HTB.out.lt).trans HTB.out
        have HH9 : Blk _ hb _ _ := (B29.out.block _ HHB.out.lt).trans HHB.out
        have s3 := HT9.cell 3
        have f3 := HT9.frozen 3
        have HK9 := Lib.hid (HH9.set_other (p := ⟨mb, 3, none⟩) NEB.out v29)
        simp only [List.getElem?_toArray, List.getElem?_cons_zero, List.getElem?_cons_succ] at s3
        clear HT9 HH9
        rw [if_pos (by kernel_rfl)]
        refine (wp_store_slice (.tmp 171) (.tmp 169) ?ho29 ⟨mb, 3, none⟩ ?hs29 ?hx29 MZ.out.slice s3 f3 ?k29 : _)
        case ho29 => rfl
        case hs29 => rfl
        case hx29 => rfl
        refine hK.out _ _ (CS.out _ HK9.out) (fun held9 => ?_)
        clear hK K s3 f3
        try simp only [Act.put, List.setIfInBounds_toArray, List.set_cons_zero, List.set_cons_succ]
        refine wpAnyH_done (by kernel_rfl) ?_ _
        go_wp2_with fail
        refine Met.intro (HJ.out _ _ ?_)
        repeat apply Exists.intro
        refine ⟨?_, rfl⟩
        exact ⟨ms.length, _, ms ++ [(⟨x.1, [], false, 0⟩, .slice none 0 0)], (by simp), rfl, hrf, (by rw [mid_new, hro]), (by rw [List.getElem_append_right (Nat.le_refl _)]; simp [hro]), Lib.hid (LA8.out.grown MZ.out)⟩
      refine AllReadyH.cons rfl (fun K hK => ?_) AllReadyH.nil
      rw [if_pos (by kernel_rfl)]
      refine wp_of_run (v := .slice va ms.length vcap) (run_at_cell (fun w hSw => by (go_simp <;> with_reducible rfl)) (TC.out _ B25.out)) ?_
      refine hK.out _ _ (LC.out _ B25.out) (fun held30 => ?_)
      clear hK K
      try simp only [Act.put, List.setIfInBounds_toArray, List.set_cons_zero, List.set_cons_succ]
      refine wpAnyH_ready (rs := [1]) (by kernel_rfl) (by simp) ?_
      refine AllReadyH.cons rfl (fun K hK => ?_) AllReadyH.nil
      go_simp
      refine hK.out _ _ (LC.out _ (B25.out.alloc B25.out.size _)) (fun held31 => ?_)
      clear hK K
      have M31 := Lib.hid (Made.lit B25.out 75 13 (W.heap.size + 1) (by simp))
      have X31 := Lib.hid (X25.out.alloc (.cells #[] 75))
      have NE31 := Lib.hid (ne_old X25.out 0 0 (W.heap.size + 1) (by simp))
      have B31 := Lib.hid (B25.out.alloc B25.out.size (.cells #[] 75))
      try simp only [Act.put, List.setIfInBounds_toArray, List.set_cons_zero, List.set_cons_succ]
      refine wpAnyH_ready (rs := [6]) (by kernel_rfl) (by simp) ?_
      refine AllReadyH.cons rfl (fun K hK => ?_) AllReadyH.nil
      rw [if_pos (by kernel_rfl)]
      refine wp_append_row (.tmp 160) (.tmp 164) 33 rfl 75 i0 _ 13 136 (by kernel_rfl) hi0 hz0 hz1 hz2 rfl (by decide) rfl M31.out.own rfl (OR.out _ B31.out) ON.out (by unfold maxLen; omega) (by omega) (fun v32 w32 ho hg hat => ?_)
      refine hK.out _ _ (LC.out _ (Made.app M31.out ho hg hat).bel) (fun held32 => ?_)
      clear hK K
      have M32 := Lib.hid (Made.app M31.out ho hg hat)
      have B32 := Lib.hid M32.out.bel
      have X32 := Lib.hid (own_other X31.out hg NE31.out)
      clear ho hg hat
      try simp only [Act.put, List.setIfInBounds_toArray, List.set_cons_zero, List.set_cons_succ]
      refine wpAnyH_ready (rs := [10]) (by kernel_rfl) (by simp) ?_
      refine AllReadyH.cons rfl (fun K hK => ?_) AllReadyH.nil
      rw [if_pos (by kernel_rfl)]
      refine wp_append_row (.tmp 165) (.tmp 168) 33 rfl 75 i0 _ 13 136 (by kernel_rfl) hi0 hz0 hz1 hz2 rfl (by decide) rfl M32.out.own rfl X32.out (entry_one (⟨x.1, [], false, 0⟩, .slice none 0 0) ⟨_, _, _, rfl⟩) (by unfold maxLen; omega) (by omega) (fun v33 w33 ho hg hat => ?_)
      refine hK.out _ _ (LC.out _ (Made.app M32.out ho hg hat).bel) (fun held33 => ?_)
      clear hK K
      have M33 := Lib.hid (Made.app M32.out ho hg hat)
      have B33 := Lib.hid M33.out.bel
      clear ho hg hat
      try simp only [Act.put, List.setIfInBounds_toArray, List.set_cons_zero, List.set_cons_succ]
      refine tk 11 (some 170) rfl rfl ?_
      simp only [Act.put, List.setIfInBounds_toArray, List.set_cons_zero, List.set_cons_succ]
      refine tk 12 (some 171) rfl rfl ?_
      simp only [Act.put, List.setIfInBounds_toArray, List.set_cons_zero, List.set_cons_succ]
      refine wpAnyH_ready (rs := [13]) (by kernel_rfl) (by simp) ?_
      refine AllReadyH.cons rfl (fun K hK => ?_) AllReadyH.nil
      have MZ := Lib.hid M33.out.norm
      have HT9 : Blk _ mb _ _ := (B33.out.block _ HTB.out.lt).trans HTB.out
      have HH9 : Blk _ hb _ _ := (B33.out.block _ HHB.out.lt).trans HHB.out
      have s3 := HT9.cell 3
      have f3 := HT9.frozen 3
      have HK9 := Lib.hid (HH9.set_other (p := ⟨mb, 3, none⟩) NEB.out v33)
      simp only [List.getElem?_toArray, List.getElem?_cons_zero, List.getElem?_cons_succ] at s3
      clear HT9 HH9
      rw [if_pos (by kernel_rfl)]
      refine (wp_store_slice (.tmp 171) (.tmp 169) ?ho33 ⟨mb, 3, none⟩ ?hs33 ?hx33 MZ.out.slice s3 f3 ?k33 : _)
      case ho33 => rfl
      case hs33 => rfl
      case hx33 => rfl
      refine hK.out _ _ (CS.out _ HK9.out) (fun held9 => ?_)
      clear hK K s3 f3
      try simp only [Act.put, List.setIfInBounds_toArray, List.set_cons_zero, List.set_cons_succ]
      refine wpAnyH_done (by kernel_rfl) ?_ _
      go_wp2_with fail
      refine Met.intro (HJ.out _ _ ?_)
      repeat apply Exists.intro
      refine ⟨?_, rfl⟩
      exact ⟨ms.length, _, ms ++ [(⟨x.1, [], false, 0⟩, .slice none 0 0)], (by simp), rfl, hrf, (by rw [mid_new, hro]), (by rw [List.getElem_append_right (Nat.le_refl _)]; simp [hro]), Lib.hid (LA8.out.grown MZ.out)⟩

end Go.Proofs.Ytoijomdgcgbpbaa
