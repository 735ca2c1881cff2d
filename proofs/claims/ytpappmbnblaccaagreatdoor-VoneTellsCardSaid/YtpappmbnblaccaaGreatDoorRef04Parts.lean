/-
  The document's parts: words between signs.
-/
import Derived.Test.YtpappmbnblaccaaGreatDoorAddrW16
import Derived.OwnWalk
namespace Go.Proofs.YtpappmbnblaccaaGreatDoor
open Go.RowKit
set_option linter.unusedVariables false

theorem sp_snoc_eq (c : UInt8) (l : List UInt8) : sp c (l ++ [c]) = sp c l ++ [[]] := sp_at c l []
theorem sp_snoc_ne (c x : UInt8) (hx : x ≠ c) : ∀ (l : List UInt8) (A : List (List UInt8)) (z : List UInt8), sp c l = A ++ [z] → sp c (l ++ [x]) = A ++ [z ++ [x]]
  | [], A, z, h => by
    have hA : A = [] ∧ z = [] := by
      cases A with
      | nil => simp [sp] at h; exact ⟨rfl, h⟩
      | cons a t => simp [sp] at h
    obtain ⟨rfl, rfl⟩ := hA
    simp [sp, hx]
  | y :: l, A, z, h => by
    have hne := sp_ne c l
    have hlast := List.dropLast_concat_getLast hne
    have ih := sp_snoc_ne c x hx l _ _ hlast.symm
    rw [List.cons_append, sp, ih]
    rw [sp] at h
    by_cases hy : y = c
    · rw [if_pos hy] at h ⊢
      rw [← hlast, ← List.cons_append] at h
      obtain ⟨h1, h2⟩ := List.append_inj' h rfl
      rw [← h1, ← List.cons.inj h2 |>.1]
      rfl
    · rw [if_neg hy] at h ⊢
      generalize hD : (sp c l).dropLast = D at *
      generalize (sp c l).getLast hne = g at *
      rw [← hlast] at h
      cases D with
      | nil =>
        simp only [List.nil_append] at h ⊢
        cases A with
        | nil => simp at h; rw [← h]; rfl
        | cons a t => simp at h
      | cons d t =>
        simp only [List.cons_append] at h ⊢
        cases A with
        | nil => simp at h
        | cons a u =>
          simp only [List.cons_append, List.cons.injEq] at h ⊢
          obtain ⟨h1, h2⟩ := h
          obtain ⟨h3, h4⟩ := List.append_inj' h2 rfl
          rw [← h1, ← h3, ← (List.cons.inj h4).1]
          exact ⟨rfl, rfl⟩

theorem Wd.appended {w W W0 W' : World} {v v' : Value} {l l' : List ByteArray} (h : Wd w W v l) (h0 : Below W.heap.size W W0) (hr : W'.ownsRow w.heap.size 9 1 v' l'.length (scells l')) (hg : W0.grownBy W' v.ownBlock) : Wd w W' v' l' :=
  ⟨hr, (h.bel.trans (h0.mono h.bel.size)).trans ⟨hg.os, hg.tape, hg.output, hg.size, fun k hk => hg.block k (Nat.lt_of_lt_of_le (Nat.lt_of_lt_of_le hk h.bel.size) h0.size) fun e => by
    have := (h.row.lt k e.symm).1
    omega⟩⟩
theorem Wd.set {w W : World} {g cap : Nat} {l : List ByteArray} (h : Wd w W (.slice (some ⟨g, 0, none⟩) l.length cap) l) (i : Nat) (x : ByteArray) : Wd w (W.setCell ⟨g, i, none⟩ (.string x)) (.slice (some ⟨g, 0, none⟩) l.length cap) (l.set i x) := by
  have hlt := h.row.lt g rfl
  refine ⟨⟨by rw [scells_len, Nat.mul_one], ?_⟩, h.bel.setCell hlt.1 _⟩
  rcases h.row.2 with ⟨e, _⟩ | ⟨g', cap', cur, e, h3, hg, hle, hmx, hcs, htk⟩
  · cases e
  · simp at e
    obtain ⟨rfl, rfl⟩ := e
    refine Or.inr ⟨g, cap, cur.setIfInBounds i (.string x), by rw [List.length_set], h3, ?_, by rw [List.length_set]; exact hle, hmx, by simpa using hcs, ?_⟩
    · simp [World.setCell, Array.getElem?_modify, hg]
    · rw [List.length_set, Array.toList_setIfInBounds, List.take_set, htk]
      simp [scells, List.map_set]

/-! The walk. -/
theorem wd_frozen {w W : World} {g n cap : Nat} {l : List ByteArray} (h : Wd w W (.slice (some ⟨g, 0, none⟩) n cap) l) (i : Nat) : W.frozen? ⟨g, i, none⟩ = false := by
  rcases h.row.2 with ⟨e, _⟩ | ⟨g', cap', cur, e, _, hg, _⟩
  · cases e
  · simp at e
    obtain ⟨rfl, _⟩ := e
    simp [World.frozen?, hg]
theorem run_slice_str (W : World) (s : ByteArray) (i j : Nat) (X : ByteArray) (hX : X = s.extract i j) (hij : i ≤ j) (hj : j ≤ s.size) :
    (Instr.slice 9 (.string s) (some (.int .i64 (i : Int))) (some (.int .i64 (j : Int))) none).run Tryz.prog W = .ok (.string X) W := by
  subst hX
  rw [run_slice_string W 9 s .i64 .i64 (i : Int) (j : Int) Tryz.underlying9 (by omega) (by omega) (by omega)]
  simp

set_option maxRecDepth 100000 in
set_option maxHeartbeats 1000000 in
theorem parts_any (s : ByteArray) (c : UInt8) (hs : s.size ≤ 100000) (w : World) : Calls Tryz.prog 32 #[.string s, .int .u8 (c.toNat : Int)] w (WEnd w (sp c s.data.toList)) := by
  obtain ⟨i0, hi0, hz0⟩ := Option.map_eq_some_iff.1 Tryz.infoS17
  simp only [Prod.mk.injEq] at hz0
  obtain ⟨hz0, hz1, hz2⟩ := hz0
  have H0 : Hid (Wd w (w.alloc (.cells #[.string ⟨#[]⟩] 9)) (.slice (some ⟨w.heap.size, 0, none⟩) 1 1) [⟨#[]⟩]) := Lib.hid ⟨⟨rfl, Or.inr ⟨w.heap.size, 1, _, rfl, Nat.le_refl _, Blk.new w _ _, Nat.le_refl _, by unfold maxLen; omega, rfl, rfl⟩⟩, (Below.refl _ _).alloc (Nat.le_refl _) _⟩
  generalize hN : w.heap.size = N at H0
  go_enter Tryz.func32, Tryz.ntmps32
  go_wp2_with fail
  try rw [hN]
  generalize w.alloc (.cells #[.string ⟨#[]⟩] 9) = W0 at *
  go_loopw [5, 6] (fun sv si wr => ∃ (k g cap : Nat) (L : List ByteArray) (z : ByteArray), k ≤ s.size ∧ L.length ≤ k ∧ z.size ≤ k ∧ si = .int .i64 (k : Int) ∧ sv = .slice (some ⟨g, 0, none⟩) (L ++ [z]).length cap ∧ Hid (Wd w wr (.slice (some ⟨g, 0, none⟩) (L ++ [z]).length cap) (L ++ [z])) ∧ Hid (sp c (s.data.toList.take k) = lists L ++ [z.data.toList])) (fun _ si _ => 1000000 - (intOf si).toNat)
  case atStart => exact ⟨0, N, 1, [], ⟨#[]⟩, by omega, by simp, by show 0 ≤ 0; omega, rfl, rfl, H0, Lib.hid rfl⟩
  case round =>
    obtain ⟨k, g, cap, L, z, hk, hL, hzs, rfl, rfl, HW, HS⟩ := hrel
    have hn : (L ++ [z]).length = L.length + 1 := by simp
    by_cases hlt : k < s.size
    · have hc0 : ∀ W, (Instr.index 9 (.string s) (.int .i64 (k : Int))).run Tryz.prog W = .ok (.int .u8 ((s[k]'hlt).toNat : Int)) W := fun W => by
        rw [run_index_string W 9 s .i64 _ Tryz.underlying9, dif_pos ⟨by omega, by omega⟩]
        rfl
      have htk : s.data.toList.take (k + 1) = s.data.toList.take k ++ [s[k]'hlt] := List.take_succ_eq_append_getElem (by rw [Array.length_toList]; exact hlt)
      have hsz := HW.out.bel.size
      by_cases hx : s[k]'hlt = c
      · rw [hx] at hc0 htk
        have HT : Hid (sp c (s.data.toList.take (k + 1)) = lists (L ++ [z]) ++ [(⟨#[]⟩ : ByteArray).data.toList]) := Lib.hid (by
          rw [htk, sp_snoc_eq, HS.out]
          simp [lists])
        have te : ((c.toNat : Int) == (c.toNat : Int)) = true := by simp
        clear htk hx
        have HR := Lib.hid (HW.out.below ((Below.refl wr.heap.size wr).alloc (Nat.le_refl _) (.cells #[.string ⟨#[]⟩] 9)))
        rw [hn]
        go_wp2_with (at_builtin; refine wpList_append_lies _ rfl _ _ 40 rfl w.heap.size 9 i0 (.string ⟨#[]⟩) 1 16 (by kernel_rfl) hi0 hz0 hz1 hz2 rfl (by decide) _ _ _ rfl (by have h := HR.out.row; rw [hn] at h; exact h) ⟨wr.heap.size, 0, none⟩ 1 1 [.string ⟨#[]⟩] rfl rfl (new18 wr _ _) (by simp [Value.oneCell']) (by decide) (by unfold maxLen; omega) (by omega) (by have := HR.out.bel.size; omega) _ rfl ?_; intro g3 cap3 w4 hown hgrow hat3 hlt3; have HA := Lib.hid (HW.out.appended (l' := (L ++ [z]) ++ [⟨#[]⟩]) ((Below.refl wr.heap.size wr).alloc (Nat.le_refl _) (.cells #[.string ⟨#[]⟩] 9)) (by rw [scells_app, List.length_append, hn]; exact hown) hgrow); clear hown hgrow hat3 hlt3)
        refine ⟨⟨k + 1, g3, cap3, L ++ [z], ⟨#[]⟩, by omega, by rw [hn]; omega, by show 0 ≤ _; omega, rfl, by rw [List.length_append, hn]; rfl, Lib.hid ?_, HT⟩, by simp [intOf]; omega⟩
        have h := HA.out
        have e9 : (L ++ [z] ++ [(⟨#[]⟩ : ByteArray)]).length = L.length + 1 + 1 := by simp
        rw [e9]
        exact h
      · have HT : Hid (sp c (s.data.toList.take (k + 1)) = lists L ++ [z.data.toList ++ [s[k]'hlt]]) := Lib.hid (by
          rw [htk]
          exact sp_snoc_ne c _ hx _ _ _ HS.out)
        have te : (((s[k]'hlt).toNat : Int) == (c.toNat : Int)) = false := by
          have : (s[k]'hlt).toNat ≠ (c : UInt8).toNat := fun e => hx (UInt8.toNat_inj.1 e)
          exact beq_false_of_ne (by omega)
        obtain ⟨X, hX⟩ : ∃ X : ByteArray, X = s.extract k (k + 1) := ⟨_, rfl⟩
        have hXl : X.data.toList = [s[k]'hlt] := by
          rw [hX, extract_list, htk, List.drop_append_of_le_length (by rw [List.length_take, Array.length_toList]; have e : s.data.size = s.size := rfl; omega), List.drop_eq_nil_of_le (by rw [List.length_take]; omega)]
          rfl
        have HX := Lib.hid hXl
        have hXs : X.size = 1 := by
          have h := congrArg List.length hXl
          rw [Array.length_toList] at h
          exact h
        have hsl : ∀ W, (Instr.slice 9 (.string s) (some (.int .i64 (k : Int))) (some (.int .i64 ((k : Int) + 1))) none).run Tryz.prog W = .ok (.string X) W := fun W => by
          exact run_slice_str W s k (k + 1) X hX (by omega) (by omega)
        have hlt' := HW.out.row.lt g rfl
        have hcz : wr.cell? ⟨g, L.length, none⟩ = some (.string z) := by
          obtain ⟨g', c', e, _, _, hcell, _⟩ := HW.out.lies (by simp)
          simp at e
          obtain ⟨rfl, _⟩ := e
          have := hcell L.length (by simp)
          simpa using this
        have hfz : wr.frozen? ⟨g, L.length, none⟩ = false := wd_frozen HW.out _
        have a1 : ¬ (9223372036854775807 < z.size + 1) := by omega
        have HP : Hid (Wd w (wr.setCell ⟨g, L.length, none⟩ (.string (z ++ X))) (.slice (some ⟨g, 0, none⟩) (L ++ [z]).length cap) (L ++ [z ++ X])) := Lib.hid (by
          have h := HW.out.set L.length (z ++ X)
          rw [List.set_append_right _ _ (Nat.le_refl _)] at h
          simpa using h)
        rw [hn] at HP ⊢
        clear htk hX hXl
        have hw1 : IntKind.i64.wrap ((k : Int) + 1) = (k : Int) + 1 := by rw [IntKind.wrap_i64]; omega
        go_wp2_with fail
        go_region
        go_wp2_with fail
        refine ⟨⟨k + 1, g, cap, L, z ++ X, by omega, by omega, by rw [cat_size, hXs]; omega, rfl, by simp, Lib.hid ?_, Lib.hid ?_⟩, by simp [intOf]; omega⟩
        · have h := HP.out
          have e9 : (L ++ [z ++ X]).length = L.length + 1 := by simp
          rw [e9]
          exact ⟨h.row, h.bel.drew⟩
        · rw [HT.out, cat_list, HX.out]
    · obtain rfl : k = s.size := by omega
      go_wp2_with fail
      go_ret
      refine ⟨_, L ++ [z], rfl, HW.out, ?_⟩
      have h := HS.out
      rw [List.take_of_length_le (by rw [Array.length_toList]; exact Nat.le_refl _)] at h
      rw [h]
      simp [lists]

end Go.Proofs.YtpappmbnblaccaaGreatDoor
