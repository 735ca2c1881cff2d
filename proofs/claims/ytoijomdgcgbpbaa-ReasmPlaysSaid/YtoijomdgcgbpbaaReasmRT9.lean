/-
  The document's Add, from its second loop over the old pieces.
-/
import Derived.Test.YtoijomdgcgbpbaaReasmRT10
namespace Go.Proofs.Ytoijomdgcgbpbaa
open Go.RowKit
set_option linter.unusedVariables false
set_option linter.unusedSimpArgs false


set_option maxRecDepth 100000 in
set_option maxHeartbeats 4000000 in
theorem radd_t9 {R : Nat → Prop} {mb hb cap : Nat} {KI : Int} {s : S16} {oa : Option Addr} {v : Value} {ms : List (R16 × Value)} {l : List E16} {x : H4 × ByteArray} {ps : List (H4 × ByteArray)} {w W : World} {A : (ByteArray × Nat) × List E16} {u1 u2 u3 u4 u5 u8 u12 u13 u14 u15 u16 u17 u18 u19 u20 u21 u22 u23 u24 u25 u26 u27 u28 u29 u30 u31 u32 u33 u34 u35 u36 u37 u38 u39 u40 u41 u42 u43 u44 u45 u46 u47 u48 u49 u50 u51 u52 u53 u54 u55 u56 u57 u58 u59 u60 u61 u62 u63 u64 u65 u66 u67 u68 u69 u70 u71 u72 u73 u74 u75 u76 u77 u78 u79 u80 u81 u82 u83 u84 u85 u86 u87 u88 u89 u90 u91 u92 u93 u94 u95 u96 u97 u98 u99 u100 u101 u102 u103 u104 u105 u106 u107 u108 u109 u110 u111 u112 u113 u114 u115 u116 u117 u118 u119 u120 u121 u122 u123 u124 u125 u126 u127 u128 u129 u130 u131 u132 u133 u134 u135 u136 u137 u138 u139 u140 u141 u142 u143 u144 u145 u146 u147 u148 u149 u150 u151 u152 u153 u154 u155 u156 u157 u158 u159 u160 u161 u162 u163 u164 u165 u166 u167 u168 u169 u170 u171 u172 u173 u174 u175 u176 u177 u178 u179 u180 u181 u182 u183 u184 u185 u186 u187 u188 u189 u190 u191 u192 u193 u194 u195 u196 u197 u198 u199 u200 u201 u202 u203 u204 u205 u206 u207 u208 u209 u210 u211 u212 u213 : Value}
    (la : La16 R w W mb hb s v ms x (.slice oa ps.length cap) ps) (fo : ((∃ (i : Nat) (hi : i < ms.length), KI = (i : Nat) ∧ rfind (ms.map (·.1)) x.1.key = i ∧ rold (ms.map (·.1)) x.1 = (ms[i]'hi).1) ∨ (KI = -1 ∧ rfind (ms.map (·.1)) x.1.key = ms.length ∧ rold (ms.map (·.1)) x.1 = ⟨x.1, [], false, 0⟩))) (hps : ps = (rold (ms.map (·.1)) x.1).ps) (rel : Rels l (ms.map (·.1))) (t : Tab16 s.e.toNat s.b.toNat s.l.toNat l) (hs : s.Right)
    (hA : A = if rno s.e.toNat s.b.toNat (ms.map (·.1)) x ≠ 0 then ((⟨#[]⟩, rno s.e.toNat s.b.toNat (ms.map (·.1)) x), l) else made16 l x.1 (pcOf x)) (hok : x.1.Ok) (hsz : x.2.size ≤ 65535) (hpl : ps.length ≤ 65536) (hml : ms.length ≤ 64)
    (hmt : (pcOf x).mayBe = true) (hnd : (rold (ms.map (·.1)) x.1).done = false) (each : ∀ u ∈ ps, 0 ≤ u.1.off ∧ u.1.off ≤ 8191 ∧ u.2.size ≤ 65535) (hal : (ps.any fun y => alike16 (pcOf x) (pcOf y)) = false) :
    Code.wp Try.prog (rcode16 9) (bodyPost Try.prog Try.f16 (RAdd16 R w mb s A)) ⟨List.toArray ((.pointer (some ⟨mb, 0, none⟩)) :: u1 :: u2 :: u3 :: u4 :: u5 :: (.pointer (some ⟨hb, 0, none⟩)) :: (.string x.2) :: u8 :: (.pointer (some ⟨hb + 1, 0, none⟩)) :: (.int .i64 KI) :: (.slice oa ps.length cap) :: u12 :: u13 :: u14 :: u15 :: u16 :: u17 :: u18 :: u19 :: u20 :: u21 :: u22 :: u23 :: u24 :: u25 :: u26 :: u27 :: u28 :: u29 :: u30 :: u31 :: u32 :: u33 :: u34 :: u35 :: u36 :: u37 :: u38 :: u39 :: u40 :: u41 :: u42 :: u43 :: u44 :: u45 :: u46 :: u47 :: u48 :: u49 :: u50 :: u51 :: u52 :: u53 :: u54 :: u55 :: u56 :: u57 :: u58 :: u59 :: u60 :: u61 :: u62 :: u63 :: u64 :: u65 :: u66 :: u67 :: u68 :: u69 :: u70 :: u71 :: u72 :: u73 :: u74 :: u75 :: u76 :: u77 :: u78 :: u79 :: u80 :: u81 :: u82 :: u83 :: u84 :: u85 :: u86 :: u87 :: u88 :: u89 :: u90 :: u91 :: u92 :: u93 :: u94 :: u95 :: u96 :: u97 :: u98 :: u99 :: u100 :: u101 :: u102 :: u103 :: u104 :: u105 :: u106 :: u107 :: u108 :: u109 :: u110 :: u111 :: u112 :: u113 :: u114 :: u115 :: u116 :: u117 :: u118 :: u119 :: u120 :: u121 :: u122 :: u123 :: u124 :: u125 :: u126 :: u127 :: u128 :: u129 :: u130 :: u131 :: u132 :: u133 :: u134 :: u135 :: u136 :: u137 :: u138 :: u139 :: u140 :: u141 :: u142 :: u143 :: u144 :: u145 :: u146 :: u147 :: u148 :: u149 :: u150 :: u151 :: u152 :: u153 :: u154 :: u155 :: u156 :: u157 :: u158 :: u159 :: u160 :: u161 :: u162 :: u163 :: u164 :: u165 :: u166 :: u167 :: u168 :: u169 :: u170 :: u171 :: u172 :: u173 :: u174 :: u175 :: u176 :: u177 :: u178 :: u179 :: u180 :: u181 :: u182 :: u183 :: u184 :: u185 :: u186 :: u187 :: u188 :: u189 :: u190 :: u191 :: u192 :: u193 :: u194 :: u195 :: u196 :: u197 :: u198 :: u199 :: u200 :: u201 :: u202 :: u203 :: u204 :: u205 :: u206 :: u207 :: u208 :: u209 :: u210 :: u211 :: u212 :: u213 :: []), []⟩ W := by
  have LK := Lib.hid la
  have FO := Lib.hid fo
  have HPS := Lib.hid hps
  have REL := Lib.hid rel
  have T := Lib.hid t
  have HS := Lib.hid hs
  have AE := Lib.hid hA
  have HOK := Lib.hid hok
  have MT := Lib.hid hmt
  have ND := Lib.hid hnd
  have EACH := Lib.hid each
  have PC := Lib.hid (Pc16.mk hok.off hsz)
  clear la fo hps rel t hs hA hok hmt hnd each
  have NAL := Lib.hid hal
  clear hal
  conv => arg 2; whnf
  go_step
  rename_i KR hKR
  refine wp_cut (fun a' wx => ∃ u4 u5 u13 u111 u112 u113 u114 u115 u116 u117 u118 u119 u120 u121 u122 u123 : Value, (Hid ((ps.any fun y => clash16 (pcOf x) (pcOf y)) = false) ∧ Hid (La16 R w wx mb hb s v ms x (.slice oa ps.length cap) ps)) ∧ a' = ⟨List.toArray ((.pointer (some ⟨mb, 0, none⟩)) :: u1 :: u2 :: u3 :: u4 :: u5 :: (.pointer (some ⟨hb, 0, none⟩)) :: (.string x.2) :: u8 :: (.pointer (some ⟨hb + 1, 0, none⟩)) :: (.int .i64 KI) :: (.slice oa ps.length cap) :: u12 :: u13 :: u14 :: u15 :: u16 :: u17 :: u18 :: u19 :: u20 :: u21 :: u22 :: u23 :: u24 :: u25 :: u26 :: u27 :: u28 :: u29 :: u30 :: u31 :: u32 :: u33 :: u34 :: u35 :: u36 :: u37 :: u38 :: u39 :: u40 :: u41 :: u42 :: u43 :: u44 :: u45 :: u46 :: u47 :: u48 :: u49 :: u50 :: u51 :: u52 :: u53 :: u54 :: u55 :: u56 :: u57 :: u58 :: u59 :: u60 :: u61 :: u62 :: u63 :: u64 :: u65 :: u66 :: u67 :: u68 :: u69 :: u70 :: u71 :: u72 :: u73 :: u74 :: u75 :: u76 :: u77 :: u78 :: u79 :: u80 :: u81 :: u82 :: u83 :: u84 :: u85 :: u86 :: u87 :: u88 :: u89 :: u90 :: u91 :: u92 :: u93 :: u94 :: u95 :: u96 :: u97 :: u98 :: u99 :: u100 :: u101 :: u102 :: u103 :: u104 :: u105 :: u106 :: u107 :: u108 :: u109 :: u110 :: u111 :: u112 :: u113 :: u114 :: u115 :: u116 :: u117 :: u118 :: u119 :: u120 :: u121 :: u122 :: u123 :: u124 :: u125 :: u126 :: u127 :: u128 :: u129 :: u130 :: u131 :: u132 :: u133 :: u134 :: u135 :: u136 :: u137 :: u138 :: u139 :: u140 :: u141 :: u142 :: u143 :: u144 :: u145 :: u146 :: u147 :: u148 :: u149 :: u150 :: u151 :: u152 :: u153 :: u154 :: u155 :: u156 :: u157 :: u158 :: u159 :: u160 :: u161 :: u162 :: u163 :: u164 :: u165 :: u166 :: u167 :: u168 :: u169 :: u170 :: u171 :: u172 :: u173 :: u174 :: u175 :: u176 :: u177 :: u178 :: u179 :: u180 :: u181 :: u182 :: u183 :: u184 :: u185 :: u186 :: u187 :: u188 :: u189 :: u190 :: u191 :: u192 :: u193 :: u194 :: u195 :: u196 :: u197 :: u198 :: u199 :: u200 :: u201 :: u202 :: u203 :: u204 :: u205 :: u206 :: u207 :: u208 :: u209 :: u210 :: u211 :: u212 :: u213 :: []), []⟩) ?_ ?_
  · intro _ wc hinv
    obtain ⟨u4, hinv⟩ := hinv
    obtain ⟨u5, hinv⟩ := hinv
    obtain ⟨u13, hinv⟩ := hinv
    obtain ⟨u111, hinv⟩ := hinv
    obtain ⟨u112, hinv⟩ := hinv
    obtain ⟨u113, hinv⟩ := hinv
    obtain ⟨u114, hinv⟩ := hinv
    obtain ⟨u115, hinv⟩ := hinv
    obtain ⟨u116, hinv⟩ := hinv
    obtain ⟨u117, hinv⟩ := hinv
    obtain ⟨u118, hinv⟩ := hinv
    obtain ⟨u119, hinv⟩ := hinv
    obtain ⟨u120, hinv⟩ := hinv
    obtain ⟨u121, hinv⟩ := hinv
    obtain ⟨u122, hinv⟩ := hinv
    obtain ⟨u123, hinv⟩ := hinv
    obtain ⟨hcut, ha⟩ := hinv
    subst ha
    obtain ⟨NC, la⟩ := hcut
    have hr : rno s.e.toNat s.b.toNat (ms.map (·.1)) x = if (rfind (ms.map (·.1)) x.1.key = ms.length ∧ ms.length = s.e.toNat) ∨ s.b.toNat < rbytes (ms.map (·.1)) + x.2.size then 11 else 0 := by
      unfold rno
      rw [if_neg (by rw [MT.out]; simp), if_neg (by rw [ND.out]; simp), ← HPS.out, if_neg (by rw [NAL.out]; simp), if_neg (by rw [NC.out]; simp), List.length_map]
    obtain ⟨va, vcap, hv⟩ := owns_len la.out.ad.tab.row
    subst hv
    exact hKR _ _ (radd_t10 la.out FO.out HPS.out REL.out T.out HS.out hr AE.out HOK.out hsz hpl hml)
  · intro J KM hJ hM
    have HJ := Lib.hid hJ
    clear hJ
    clear hKR
    have AC := Lib.hid (show ∀ (k : Nat) (hk : k < ps.length), clash16 (pcOf x) (pcOf (ps[k]'hk)) = true → A = ((⟨#[]⟩, 14), l) from fun k hk e => by
      have hr : rno s.e.toNat s.b.toNat (ms.map (·.1)) x = 14 := by
        unfold rno
        rw [if_neg (by rw [MT.out]; simp), if_neg (by rw [ND.out]; simp), ← HPS.out, if_neg (by rw [NAL.out]; simp), if_pos]
        rw [List.any_eq_true]
        exact ⟨_, List.getElem_mem hk, e⟩
      rw [AE.out, hr]
      rfl)
    go_wp2_with fail
    go_loopw [13] (fun y wr => ∃ k : Nat, y = .int .i64 (k : Nat) ∧ k ≤ ps.length ∧ (∀ j (hj : j < ps.length), j < k → clash16 (pcOf x) (pcOf (ps[j]'hj)) = false) ∧ La16 R w wr mb hb s v ms x (.slice oa ps.length cap) ps) (fun y _ => ps.length - (intOf y).toNat)
    case atStart => exact ⟨0, rfl, Nat.zero_le _, (fun j _ h => absurd h (Nat.not_lt_zero _)), LK.out⟩
    case round =>
      obtain ⟨k, rfl, hk, hno, hla⟩ := hrel
      have NO := Lib.hid hno
      clear LK
      have LK := Lib.hid hla
      clear hno hla
      by_cases hlt : k < ps.length
      · obtain ⟨g, cap', hv, hg, hc⟩ := RRow.piece LK.out.row hlt
        simp only [Value.slice.injEq, true_and] at hv
        obtain ⟨rfl, rfl⟩ := hv
        clear hc
        have hpy : Pc16 (ps[k]'hlt) := ⟨⟨(EACH.out _ (List.getElem_mem hlt)).1, (EACH.out _ (List.getElem_mem hlt)).2.1⟩, (EACH.out _ (List.getElem_mem hlt)).2.2⟩
        have FT := Lib.hid (fun W => rfit16_any (ps[k]'hlt) x W hpy PC.out)
        unfold Tells pccells at FT
        have ATEN := Lib.hid (AC.out k hlt)
        have NOK := Lib.hid (show clash16 (pcOf x) (pcOf (ps[k]'hlt)) = false → ∀ j (hj : j < ps.length), j < k + 1 → clash16 (pcOf x) (pcOf (ps[j]'hj)) = false from fun e j hj h => by
          by_cases ej : j = k
          · subst ej; exact e
          · exact NO.out j hj (by omega))
        obtain ⟨y, hy⟩ : ∃ y, y = ps[k]'hlt := ⟨_, rfl⟩
        rw [← hy] at FT ATEN NOK
        have LAS := Lib.hid (fun W (h : La16 R w W mb hb s v ms x (.slice (some ⟨g, 0, none⟩) ps.length cap) ps) => La16.all h hlt hy.symm)
        have HY := Lib.hid hy
        clear hy hpy
        generalize hcl : clash16 (pcOf x) (pcOf y) = cl at *
        have t1 : decide ((k : Int) < (ps.length : Int)) = true := decide_eq_true (by omega)
        have u0 : (0 : Int) ≤ (k : Int) := by omega
        have u1 : (k : Int) < (ps.length : Int) := by omega
        have ew : IntKind.i64.wrap ((k : Int) + 1) = ((k + 1 : Nat) : Int) := by rw [IntWalk.i64_in _ (by omega)]; omega
        have HLT := Lib.hid hlt
        clear hcl
        go_upto_region 21 with (fail)
        cases cl with
        | false =>
          refine wp_region_held_drew (S := fun W => W.cell? ⟨g, k * 11, none⟩ = some (.int .i64 y.1.tos) ∧ W.cell? ⟨g, k * 11 + 1, none⟩ = some (.int .i64 y.1.id) ∧ W.cell? ⟨g, k * 11 + 2, none⟩ = some (.int .i64 y.1.off) ∧ W.cell? ⟨g, k * 11 + 3, none⟩ = some (.int .i64 y.1.ttl) ∧ W.cell? ⟨g, k * 11 + 4, none⟩ = some (.int .i64 y.1.proto) ∧ W.cell? ⟨g, k * 11 + 5, none⟩ = some (.bool y.1.df) ∧ W.cell? ⟨g, k * 11 + 6, none⟩ = some (.bool y.1.mf) ∧ W.cell? ⟨g, k * 11 + 7, none⟩ = some (.string y.1.src) ∧ W.cell? ⟨g, k * 11 + 8, none⟩ = some (.string y.1.dst) ∧ W.cell? ⟨g, k * 11 + 9, none⟩ = some (.string y.1.opt) ∧ W.cell? ⟨g, k * 11 + 10, none⟩ = some (.string y.2) ∧ W.cell? ⟨hb + 1, 0, none⟩ = some (.int .i64 x.1.tos) ∧ W.cell? ⟨hb + 1, 1, none⟩ = some (.int .i64 x.1.id) ∧ W.cell? ⟨hb + 1, 2, none⟩ = some (.int .i64 x.1.off) ∧ W.cell? ⟨hb + 1, 3, none⟩ = some (.int .i64 x.1.ttl) ∧ W.cell? ⟨hb + 1, 4, none⟩ = some (.int .i64 x.1.proto) ∧ W.cell? ⟨hb + 1, 5, none⟩ = some (.bool x.1.df) ∧ W.cell? ⟨hb + 1, 6, none⟩ = some (.bool x.1.mf) ∧ W.cell? ⟨hb + 1, 7, none⟩ = some (.string x.1.src) ∧ W.cell? ⟨hb + 1, 8, none⟩ = some (.string x.1.dst) ∧ W.cell? ⟨hb + 1, 9, none⟩ = some (.string x.1.opt) ∧ W.cell? ⟨hb + 1, 10, none⟩ = some (.string x.2) ∧ W.cell? ⟨hb, 6, none⟩ = some (.bool x.1.mf) ∧ Hid (La16 R w W mb hb s v ms x (.slice (some ⟨g, 0, none⟩) ps.length cap) ps)) (by kernel_rfl) ?_ (fun hHeld => ?_)
          · exact LAS.out _ LK.out.drew
          clear LK
          refine tk 0 (some 117) rfl rfl ?_
          simp only [Act.put, List.setIfInBounds_toArray, List.set_cons_zero, List.set_cons_succ]
          refine tk 1 (some 118) rfl rfl ?_
          simp only [Act.put, List.setIfInBounds_toArray, List.set_cons_zero, List.set_cons_succ]
          refine tk 2 (some 119) rfl rfl ?_
          simp only [Act.put, List.setIfInBounds_toArray, List.set_cons_zero, List.set_cons_succ]
          refine tk 3 (some 120) rfl rfl ?_
          simp only [Act.put, List.setIfInBounds_toArray, List.set_cons_zero, List.set_cons_succ]
          refine tk 4 (some 121) rfl rfl ?_
          simp only [Act.put, List.setIfInBounds_toArray, List.set_cons_zero, List.set_cons_succ]
          refine wpAnyH_ready (rs := [5]) (by kernel_rfl) (by simp) ?_
          refine AllReadyH.cons rfl (fun K hK => ?_) AllReadyH.nil
          go_simp
          refine (FT.out _).mono ?_
          rintro e w' ⟨rfl, hb'⟩
          refine hK.out _ _ ?_ (fun held5 => ?_)
          · exact LAS.out _ (hHeld.2.2.2.2.2.2.2.2.2.2.2.2.2.2.2.2.2.2.2.2.2.2.2.out.below hb')
          clear hK K
          try simp only [Act.put, List.setIfInBounds_toArray, List.set_cons_zero, List.set_cons_succ]
          refine tk 6 (some 123) rfl rfl ?_
          simp only [Act.put, List.setIfInBounds_toArray, List.set_cons_zero, List.set_cons_succ]
          refine wpAnyH_done (by kernel_rfl) ?_ _
          have LK2 := Lib.hid held5.2.2.2.2.2.2.2.2.2.2.2.2.2.2.2.2.2.2.2.2.2.2.2.out
          clear held5
          go_wp2_with fail
          refine ⟨⟨k + 1, rfl, HLT.out, NOK.out (rfl), LK2.out⟩, ?_⟩
          have := HLT.out
          simp [intOf]
          omega
        | true =>
          have AEE := Lib.hid (ATEN.out rfl)
          refine wp_region_held_drew (S := fun W => W.cell? ⟨g, k * 11, none⟩ = some (.int .i64 y.1.tos) ∧ W.cell? ⟨g, k * 11 + 1, none⟩ = some (.int .i64 y.1.id) ∧ W.cell? ⟨g, k * 11 + 2, none⟩ = some (.int .i64 y.1.off) ∧ W.cell? ⟨g, k * 11 + 3, none⟩ = some (.int .i64 y.1.ttl) ∧ W.cell? ⟨g, k * 11 + 4, none⟩ = some (.int .i64 y.1.proto) ∧ W.cell? ⟨g, k * 11 + 5, none⟩ = some (.bool y.1.df) ∧ W.cell? ⟨g, k * 11 + 6, none⟩ = some (.bool y.1.mf) ∧ W.cell? ⟨g, k * 11 + 7, none⟩ = some (.string y.1.src) ∧ W.cell? ⟨g, k * 11 + 8, none⟩ = some (.string y.1.dst) ∧ W.cell? ⟨g, k * 11 + 9, none⟩ = some (.string y.1.opt) ∧ W.cell? ⟨g, k * 11 + 10, none⟩ = some (.string y.2) ∧ W.cell? ⟨hb + 1, 0, none⟩ = some (.int .i64 x.1.tos) ∧ W.cell? ⟨hb + 1, 1, none⟩ = some (.int .i64 x.1.id) ∧ W.cell? ⟨hb + 1, 2, none⟩ = some (.int .i64 x.1.off) ∧ W.cell? ⟨hb + 1, 3, none⟩ = some (.int .i64 x.1.ttl) ∧ W.cell? ⟨hb + 1, 4, none⟩ = some (.int .i64 x.1.proto) ∧ W.cell? ⟨hb + 1, 5, none⟩ = some (.bool x.1.df) ∧ W.cell? ⟨hb + 1, 6, none⟩ = some (.bool x.1.mf) ∧ W.cell? ⟨hb + 1, 7, none⟩ = some (.string x.1.src) ∧ W.cell? ⟨hb + 1, 8, none⟩ = some (.string x.1.dst) ∧ W.cell? ⟨hb + 1, 9, none⟩ = some (.string x.1.opt) ∧ W.cell? ⟨hb + 1, 10, none⟩ = some (.string x.2) ∧ W.cell? ⟨hb, 6, none⟩ = some (.bool x.1.mf) ∧ Hid (La16 R w W mb hb s v ms x (.slice (some ⟨g, 0, none⟩) ps.length cap) ps)) (by kernel_rfl) ?_ (fun hHeld => ?_)
          · exact LAS.out _ LK.out.drew
          clear LK
          refine tk 0 (some 117) rfl rfl ?_
          simp only [Act.put, List.setIfInBounds_toArray, List.set_cons_zero, List.set_cons_succ]
          refine tk 1 (some 118) rfl rfl ?_
          simp only [Act.put, List.setIfInBounds_toArray, List.set_cons_zero, List.set_cons_succ]
          refine tk 2 (some 119) rfl rfl ?_
          simp only [Act.put, List.setIfInBounds_toArray, List.set_cons_zero, List.set_cons_succ]
          refine tk 3 (some 120) rfl rfl ?_
          simp only [Act.put, List.setIfInBounds_toArray, List.set_cons_zero, List.set_cons_succ]
          refine tk 4 (some 121) rfl rfl ?_
          simp only [Act.put, List.setIfInBounds_toArray, List.set_cons_zero, List.set_cons_succ]
          refine wpAnyH_ready (rs := [5]) (by kernel_rfl) (by simp) ?_
          refine AllReadyH.cons rfl (fun K hK => ?_) AllReadyH.nil
          go_simp
          refine (FT.out _).mono ?_
          rintro e w' ⟨rfl, hb'⟩
          refine hK.out _ _ ?_ (fun held5 => ?_)
          · exact LAS.out _ (hHeld.2.2.2.2.2.2.2.2.2.2.2.2.2.2.2.2.2.2.2.2.2.2.2.out.below hb')
          clear hK K
          try simp only [Act.put, List.setIfInBounds_toArray, List.set_cons_zero, List.set_cons_succ]
          refine tk 6 (some 123) rfl rfl ?_
          simp only [Act.put, List.setIfInBounds_toArray, List.set_cons_zero, List.set_cons_succ]
          refine wpAnyH_done (by kernel_rfl) ?_ _
          have LK2 := Lib.hid held5.2.2.2.2.2.2.2.2.2.2.2.2.2.2.2.2.2.2.2.2.2.2.2.out
          clear held5
          go_wp2_with fail
          go_ret2
          refine ⟨by rw [AEE.out]; rfl, ?_⟩
          rw [AEE.out]
          exact LK2.out.ad.tab.same REL.out LK2.out.ad.bel
      · have t1 : decide ((k : Int) < (ps.length : Int)) = false := decide_eq_false (by omega)
        obtain rfl : k = ps.length := by omega
        have NA := Lib.hid (show (ps.any fun y => clash16 (pcOf x) (pcOf y)) = false by
          rw [List.any_eq_false]
          intro y hy
          obtain ⟨j, hj, rfl⟩ := List.getElem_of_mem hy
          rw [NO.out j hj hj]
          simp)
        clear NO
        go_wp2_with fail
        refine Met.intro (HJ.out _ _ ?_)
        repeat apply Exists.intro
        refine ⟨?_, rfl⟩
        exact ⟨NA, LK⟩

end Go.Proofs.Ytoijomdgcgbpbaa
