/-
  The document's Parse.
-/
import Derived.Test.YtpappmbnblaccaaGreatDoorRef04Number
import Derived.Test.YtpappmbnblaccaaGreatDoorRef04Print16
import Derived.OwnWalk
namespace Go.Proofs.YtpappmbnblaccaaGreatDoor
open Go.RowKit
set_option linter.unusedVariables false

theorem refparse_no (s : List UInt8) (h4 : (sp 46 s).length ≠ 4) (h : ∀ a, a.length = 16 → s ≠ text16 a) : addrOf s = none := addrOf_none fun a ha e => by
  rcases ha with ha | ha
  · rw [e, text_4 ha, sp_text4 a ha] at h4
    simp [ha] at h4
  · exact h a ha (by rw [e, text_16 ha])

theorem sp_count (c : UInt8) : ∀ s : List UInt8, (sp c s).length ≤ s.length + 1
  | [] => by simp [sp]
  | y :: s => by
    have ih := sp_count c s
    rw [sp]
    split
    · simp; omega
    · cases hs : sp c s with
      | nil => exact absurd hs (sp_ne c s)
      | cons a t => rw [hs] at ih; simp at ih ⊢; omega
theorem fill_len (L : Nat) (hL : 1 ≤ L) : ∀ (p : List (List UInt8)) (b : List UInt8), fill L p = some b → b.length ≤ 16 * p.length
  | [], b, h => by rw [fill] at h; have := Option.some.inj h; subst this; simp
  | w :: p, b, h => by
    rw [fill] at h
    obtain ⟨x, hx, h2⟩ := Option.bind_eq_some_iff.1 h
    obtain ⟨y, hy, rfl⟩ := Option.map_eq_some_iff.1 h2
    have := fill_len L hL p y hy
    have hx2 : x.length ≤ 16 := by
      unfold fillW at hx
      split at hx
      · have := Option.some.inj hx; subst this; simp; omega
      · split at hx
        · split at hx
          · have := Option.some.inj hx; subst this; simp
          · cases hx
        · cases hx
    simp
    omega

/-- The words that are read, wherever they begin in their block. -/
structure Pw18 (W : World) (g off : Nat) (q : List ByteArray) : Prop where
  lt : g < W.heap.size
  cell : ∀ i, (h : i < q.length) → W.cell? ⟨g, off + i, none⟩ = some (.string (q[i]'h))
theorem isEmpty_nil (x : ByteArray) (h : x.data.toList = []) : x = ⟨#[]⟩ := text_ext h
theorem isEmpty_no (x : ByteArray) (h : x.data.toList ≠ []) : x.toList.isEmpty = false := by rw [isEmpty_list]; simpa using h

theorem Bs17.form {w W : World} {v : Value} {l : List UInt8} (h : Bs17 w W v l) : ∃ a c, v = .slice a l.length c := by
  rcases h.row.2 with ⟨rfl, h0⟩ | ⟨g, cap, cur, rfl, _⟩
  · exact ⟨none, 0, by rw [h0]⟩
  · exact ⟨_, _, rfl⟩
theorem conv_below {w W W' : World} {v : Value} {l : List UInt8} (h : Bs17 w W v l) (hb : Below W.heap.size W W') (hl : l ≠ []) : (convert 57 9 v).run Tryz.prog W' = .ok (.string ⟨l.toArray⟩) W' := by
  obtain ⟨a, c, _, hcv⟩ := (h.below hb).conv hl
  exact hcv
theorem bc_two (n : Nat) (h : n ≤ 65535) : byteCells [UInt8.ofNat (n / 256), UInt8.ofNat n] = [.int .u8 ((n : Int) / 256), .int .u8 ((n : Int) % 256)] := by
  simp only [byteCells, List.map_cons, List.map_nil, UInt8.toNat_ofNat']
  have e1 : n / 256 % 2 ^ 8 = n / 256 := by omega
  rw [e1]
  simp

set_option maxRecDepth 100000 in
set_option maxHeartbeats 2000000 in
theorem rparse16_one (s : ByteArray) (hs : s.size ≤ 50) (h4 : (sp 46 s.data.toList).length ≠ 4) (w : World) (hn : (sp 58 s.data.toList).length = 1) : Calls Tryz.prog 20 #[.string s] w (Tells (addrV (addrOf s.data.toList)) w) := by
  obtain ⟨i0, hi0, hz0⟩ := Option.map_eq_some_iff.1 Tryz.infoByte
  simp only [Prod.mk.injEq] at hz0
  obtain ⟨hz0, hz1, hz2⟩ := hz0
  have h50 : (s.size : Int) ≤ 50 := by omega
  have HNO := Lib.hid (refparse_no s.data.toList h4)
  have HSC := Lib.hid (sp_count 58 s.data.toList)
  have HSZ : Hid (s.data.toList.length = s.size) := Lib.hid (by rw [Array.length_toList]; rfl)
  go_enter Tryz.func20, Tryz.ntmps20
  go_wp2_with fail
  refine (parts_any s 46 (by omega) w).mono ?_
  rintro e w1 ⟨v, l, rfl, hwd, hl⟩
  have hl4 : ((l.length : Int) == 4) = false := by
    have : l.length ≠ 4 := fun e => h4 (by rw [← hl]; simpa [lists] using e)
    simp; omega
  obtain ⟨a0, c0, rfl⟩ := hwd.form
  have HB1 := Lib.hid hwd.bel
  clear hwd hl h4
  go_wp2_with fail
  refine (parts_any s 58 (by omega) w1).mono ?_
  rintro e w2 ⟨v, q, rfl, hwd, hl⟩
  have hq0 : q ≠ [] := by intro e; rw [e] at hl; exact sp_ne 58 _ hl.symm
  obtain ⟨g, c, rfl, hg1, hg2, hcell, hlc⟩ := hwd.lies hq0
  have HL := Lib.hid hl
  have HB2 := Lib.hid (HB1.out.trans (hwd.bel.mono HB1.out.size))
  have HQZ : Hid (∀ x ∈ q, x.size ≤ 50) := Lib.hid (lists_size fun x hx => by
    rw [hl] at hx
    have := sp_piece 58 _ x hx
    have h9 := HSZ.out
    omega)
  have hqn : 1 ≤ q.length := List.length_pos_iff.2 hq0
  have hqm : q.length ≤ 51 := by
    have h1 := congrArg List.length hl
    have h2 := HSC.out
    have h9 := HSZ.out
    simp only [lists, List.length_map] at h1
    omega
  have HC := Lib.hid hcell
  clear hwd hl hcell hg1 hl4 hq0
  have n1 : q.length = 1 := by have h1 := congrArg List.length HL.out; simp only [lists, List.length_map] at h1; omega
  have HP : Hid (Pw18 w2 g 0 q) := Lib.hid ⟨hg2, fun i hi => by rw [Nat.zero_add]; exact HC.out i hi⟩
  have HT : Hid (lists q = tr2 (tr1 (sp 58 s.data.toList))) := Lib.hid (by
    rw [HL.out]
    unfold tr1
    rw [if_neg (by omega)]
    unfold tr2
    rw [if_neg (by omega)])
  obtain ⟨p, hp⟩ : ∃ p, p = q := ⟨_, rfl⟩
  rw [← hp] at HP HT HQZ hqm hqn n1 hlc ⊢
  clear HC HL hp hn
  have hp1 : (p.length : Int) ≤ 1 := by omega
  have hp51 : p.length ≤ 51 := hqm
  clear n1
  · go_wp2_with fail
    go_loopw [10, 11, 12] (fun sb sg si wr => ∃ (k gn : Nat) (bs : List UInt8), k ≤ p.length ∧ si = .int .i64 (k : Int) ∧ sg = .int .i64 (gn : Int) ∧ gn ≤ k ∧ bs.length ≤ 816 ∧ Hid (Bs17 w2 wr sb bs) ∧ Hid (fill p.length ((lists p).take k) = some bs) ∧ Hid (((lists p).take k).count [] = gn)) (fun _ _ si _ => 100 - (intOf si).toNat)
    case atStart => exact ⟨0, 0, [], by omega, rfl, rfl, by omega, by simp, Lib.hid ⟨⟨rfl, Or.inl ⟨rfl, rfl⟩⟩, Below.refl _ _⟩, Lib.hid rfl, Lib.hid rfl⟩
    case round =>
      obtain ⟨k, gn, bs, hk, rfl, rfl, hgn, hbs, HB, HF, HG⟩ := hrel
      have HBEL := Lib.hid (HB2.out.trans (HB.out.bel.mono HB2.out.size))
      have hsz := HB.out.bel.size
      by_cases hlt : k < p.length
      · have hc := (HB.out.bel.cell (p := ⟨g, 0 + k, none⟩) HP.out.lt).trans (HP.out.cell k hlt)
        rw [Nat.zero_add] at hc
        have hxz := HQZ.out _ (List.getElem_mem hlt)
        have htk : (lists p).take (k + 1) = (lists p).take k ++ [(p[k]'hlt).data.toList] := by
          rw [List.take_succ_eq_append_getElem (by simpa [lists] using hlt)]
          simp [lists]
        have HNX : Hid (∀ y, fillW p.length (p[k]'hlt).data.toList = some y → fill p.length ((lists p).take (k + 1)) = some (bs ++ y)) := Lib.hid fun y hy => by
          rw [htk]
          exact fill_snoc HF.out hy
        have HCT : Hid (((lists p).take (k + 1)).count [] = gn + if (p[k]'hlt).data.toList = [] then 1 else 0) := Lib.hid (by
          rw [htk, List.count_append, HG.out]
          congr 1
          by_cases h : (p[k]'hlt).data.toList = []
          · rw [if_pos h, h]; rfl
          · rw [if_neg h]
            exact List.count_eq_zero.2 fun hm => h (List.mem_singleton.1 hm).symm)
        have HBAD : Hid (fillW p.length (p[k]'hlt).data.toList = none → addrOf s.data.toList = none) := Lib.hid fun hb => HNO.out fun a ha e => by
          have h1 := (fill_text a ha).1
          rw [← e, ← HT.out] at h1
          have h2 := fill_bad (L := (lists p).length) (p := lists p) (i := k) (by simpa [lists] using hlt) (by simpa [lists] using hb)
          rw [h1] at h2
          cases h2
        clear htk
        generalize p[k]'hlt = x at *
        by_cases hx : x.data.toList = []
        · have hx0 : x = ⟨#[]⟩ := text_ext hx
          subst hx0
          have HF1 := Lib.hid (HNX.out _ (by unfold fillW; rw [if_pos hx]))
          have HG1 : Hid (((lists p).take (k + 1)).count [] = gn + 1) := Lib.hid (HCT.out.trans (by rw [if_pos hx]))
          clear hx
          go_wp2_with fail
          go_loopw [10, 13] (fun sb sj wr => ∃ (j : Nat), p.length ≤ j ∧ (j ≤ 9 ∨ j = p.length) ∧ sj = .int .i64 (j : Int) ∧ Hid (Bs17 w2 wr sb (bs ++ List.replicate (2 * (j - p.length)) 0))) (fun _ sj _ => 100 - (intOf sj).toNat)
          case atStart => exact ⟨p.length, Nat.le_refl _, Or.inr rfl, rfl, Lib.hid (by rw [Nat.sub_self]; simpa using HB.out)⟩
          case round =>
            obtain ⟨j, hj1, hj2, rfl, HBJ⟩ := hrel
            have hszj := HBJ.out.bel.size
            by_cases hjl : j < 9
            · obtain ⟨B, hB⟩ : ∃ B, B = bs ++ List.replicate (2 * (j - p.length)) 0 := ⟨_, rfl⟩
              have hBl : B.length ≤ 900 := by rw [hB]; simp; omega
              rw [← hB] at HBJ
              have HBE : Hid (B ++ [0, 0] = bs ++ List.replicate (2 * (j + 1 - p.length)) 0) := Lib.hid (by
                rw [hB, List.append_assoc, show 2 * (j + 1 - p.length) = 2 * (j - p.length) + 2 by omega, ← List.replicate_append_replicate]
                rfl)
              clear hB
              rename_i wj _ _ _ _ _ _ _ _ _ _
              go_wp2_with (at_builtin; refine wpList_append_lies _ rfl _ _ 57 rfl w2.heap.size 5 i0 (.int .u8 0) 1 1 (by kernel_rfl) hi0 hz0 hz1 hz2 rfl (by decide) _ _ _ rfl (row_alloc0 HBJ.out.row _) ⟨_, 0, none⟩ 2 2 [.int .u8 0, .int .u8 0] rfl rfl (news2 _ _ _ _) (by simp [Value.oneCell']) (by decide) (by unfold maxLen; omega) (by omega) (by simp; omega) _ rfl ?_; intro g3 cap3 w4 hown hgrow hat3 hlt3; have HA := Lib.hid (HBJ.out.next (m := [0, 0]) ((Below.refl _ _).alloc (Nat.le_refl _) _) rfl (by exact hown) hgrow); clear hown hgrow hat3 hlt3)
              rw [HBE.out] at HA
              exact ⟨⟨j + 1, by omega, Or.inl (by omega), rfl, HA⟩, by simp [intOf]; omega⟩
            · have hje : 2 * (j - p.length) = 2 * (9 - p.length) := by omega
              rw [hje] at HBJ
              go_wp2_with fail
              exact ⟨⟨k + 1, gn + 1, _, by omega, rfl, rfl, by omega, by have h7 := fill_len p.length (by omega) _ _ HF1.out; rw [List.length_take] at h7; have h8 : (lists p).length = p.length := (by simp [lists]); omega, HBJ, HF1, HG1⟩, by simp [intOf]; omega⟩
        · have hxe := isEmpty_no x hx
          have HG1 : Hid (((lists p).take (k + 1)).count [] = gn) := Lib.hid (HCT.out.trans (by rw [if_neg hx]; rfl))
          have J := rvalue_any 16 (Or.inr rfl) x (by omega) wr
          have HW : Hid (fillW p.length x.data.toList = match val 16 x.data.toList with | some n => if n ≤ 65535 then some [UInt8.ofNat (n / 256), UInt8.ofNat n] else none | none => none) := Lib.hid (by unfold fillW; rw [if_neg hx]; rfl)
          clear hx
          go_wp2_with fail
          refine J.mono ?_
          rintro e w3 ⟨rfl, hb3⟩
          have HB3 := Lib.hid (HB.out.below hb3)
          have HBEL3 := Lib.hid (HB2.out.trans (HB3.out.bel.mono HB2.out.size))
          have hsz3 := HB3.out.bel.size
          clear hb3 hc
          cases hv : val 16 x.data.toList with
          | none =>
            have HE := Lib.hid (HBAD.out (by rw [HW.out, hv]))
            unfold valV
            clear hv
            go_wp2_with fail
            go_ret2
            exact ⟨by rw [HE.out]; rfl, HBEL3.out⟩
          | some n =>
            unfold valV
            by_cases hn : n ≤ 65535
            · have HF1 := Lib.hid (HNX.out [UInt8.ofNat (n / 256), UInt8.ofNat n] (by rw [HW.out, hv]; simp only; rw [if_pos hn]))
              have hn1 : (n : Int) ≤ 65535 := by omega
              clear hv
              go_wp2_with (at_builtin; refine wpList_append_lies _ rfl _ _ 57 rfl w2.heap.size 5 i0 (.int .u8 0) 1 1 (by kernel_rfl) hi0 hz0 hz1 hz2 rfl (by decide) _ _ _ rfl (row_alloc0 HB3.out.row _) ⟨w3.heap.size, 0, none⟩ 2 2 [_, _] rfl rfl (news2 w3 _ _ _) (by simp [Value.oneCell']) (by decide) (by unfold maxLen; omega) (by omega) (by simp; omega) _ rfl ?_; intro g3 cap3 w4 hown hgrow hat3 hlt3; have HA := Lib.hid (HB3.out.next (m := [UInt8.ofNat (n / 256), UInt8.ofNat n]) ((Below.refl w3.heap.size w3).alloc (Nat.le_refl _) _) rfl (by rw [bc_two n (by omega)]; exact hown) hgrow); clear hown hgrow hat3 hlt3)
              exact ⟨⟨k + 1, gn, _, by omega, rfl, rfl, by omega, by have h7 := fill_len p.length (by omega) _ _ HF1.out; rw [List.length_take] at h7; have h8 : (lists p).length = p.length := (by simp [lists]); omega, HA, HF1, HG1⟩, by simp [intOf]; omega⟩
            · have HE := Lib.hid (HBAD.out (by rw [HW.out, hv]; simp only; rw [if_neg hn]))
              have hn1 : (65535 : Int) < (n : Int) := by omega
              clear hv
              go_wp2_with fail
              go_ret2
              exact ⟨by rw [HE.out]; rfl, HBEL3.out⟩
      · obtain rfl : k = p.length := by omega
        have hall : (lists p).take p.length = lists p := List.take_of_length_le (by simp [lists])
        rw [hall] at HF HG
        have hll : (lists p).length = p.length := by simp [lists]
        have HTX : Hid (∀ a, a.length = 16 → s.data.toList = text16 a → bs = a ∧ gn ≤ 1) := Lib.hid fun a ha e => by
          have h1 := fill_text a ha
          rw [← e, ← HT.out, hll, HF.out, HG.out] at h1
          exact ⟨Option.some.inj h1.1, h1.2⟩
        clear hall hll
        by_cases h16 : bs.length = 16
        · obtain ⟨ad, c5, hv, hcv⟩ := HB.out.conv (by intro e; rw [e] at h16; simp at h16)
          subst hv
          rw [h16] at hcv ⊢
          by_cases hg1 : gn ≤ 1
          · have hg1' : (gn : Int) ≤ 1 := by omega
            have J := rprint16_any ⟨bs.toArray⟩ (by rw [list_size]; exact h16) wr
            by_cases ht : text16 bs = s.data.toList
            · have HE : Hid (addrOf s.data.toList = some bs) := Lib.hid (by rw [← ht, ← text_16 h16]; exact addrOf_text (Or.inr h16))
              have hX : (⟨(text16 (⟨bs.toArray⟩ : ByteArray).data.toList).toArray⟩ : ByteArray) = s := text_ext ht
              rw [hX] at J
              clear ht hX
              go_wp2_with fail
              refine J.mono ?_
              rintro e w3 ⟨rfl, hb3⟩
              have hcv3 := conv_below HB.out hb3 (by intro e; rw [e] at h16; simp at h16)
              rw [h16] at hcv3
              go_wp2_with fail
              go_ret2
              exact ⟨by rw [HE.out]; rfl, HBEL.out.trans (hb3.mono HBEL.out.size)⟩
            · have HE : Hid (addrOf s.data.toList = none) := Lib.hid (HNO.out fun a ha e => ht (by rw [(HTX.out a ha e).1, e]))
              obtain ⟨X, hX⟩ : ∃ X : ByteArray, X = ⟨(text16 (⟨bs.toArray⟩ : ByteArray).data.toList).toArray⟩ := ⟨_, rfl⟩
              have tX : (X.toList == s.toList) = false := by
                rw [beq_eq_false_iff_ne, ByteArray.toList_eq, ByteArray.toList_eq, hX]
                exact ht
              rw [← hX] at J
              clear ht hX
              go_wp2_with fail
              refine J.mono ?_
              rintro e w3 ⟨rfl, hb3⟩
              go_wp2_with fail
              go_ret2
              exact ⟨by rw [HE.out]; rfl, HBEL.out.trans (hb3.mono HBEL.out.size)⟩
          · have HE : Hid (addrOf s.data.toList = none) := Lib.hid (HNO.out fun a ha e => hg1 (HTX.out a ha e).2)
            have hg1' : (1 : Int) < (gn : Int) := by omega
            go_wp2_with fail
            go_ret2
            exact ⟨by rw [HE.out]; rfl, HBEL.out⟩
        · have HE : Hid (addrOf s.data.toList = none) := Lib.hid (HNO.out fun a ha e => h16 (by rw [(HTX.out a ha e).1]; exact ha))
          have hne : ((bs.length : Int) != 16) = true := by simp; omega
          obtain ⟨ad, c5, hv⟩ := HB.out.form
          subst hv
          go_wp2_with fail
          go_ret2
          exact ⟨by rw [HE.out]; rfl, HBEL.out⟩

end Go.Proofs.YtpappmbnblaccaaGreatDoor
