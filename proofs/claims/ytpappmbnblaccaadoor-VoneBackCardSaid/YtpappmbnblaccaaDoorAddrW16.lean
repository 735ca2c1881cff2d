/-
  wordsOf16: what stands between colons, with noughts where two colons leave them out.
-/
import Derived.Test.YtpappmbnblaccaaDoorAddrWords
import Derived.Lib.AppendZeros
namespace Go.Proofs.YtpappmbnblaccaaDoor
open Go.RowKit
set_option linter.unusedVariables false

theorem cut_le (s sep : List UInt8) : (Lib.cut s sep).1.length ≤ s.length ∧ (Lib.cut s sep).2.1.length ≤ s.length := by
  unfold Lib.cut
  split
  · simp
    omega
  · simp
theorem splitK_len (sep : List UInt8) (save : Nat) : ∀ (k : Nat) (s : List UInt8), (Lib.splitK sep save k s).length ≤ k + 1
  | 0, s => by simp [Lib.splitK]
  | k + 1, s => by
    rw [Lib.splitK]
    split
    · simp
    · have := splitK_len sep save k (s.drop ((Lib.index s sep).toNat + sep.length))
      simpa using this
theorem pt_len (c : UInt8) (most : Nat) (s : List UInt8) : (pt c most s).length ≤ most + 1 := by
  unfold pt
  split
  · simp
  · have := splitK_len [c] 0 (min (most + 1) (s.length + 1) - 1) s
    omega
theorem row_kept {W W' : World} {base : Nat} {T : TypeId} {v : Value} {n : Nat} {xs : List Value} (h : W.ownsRow base T 1 v n xs) (hk : ∀ g, v.ownBlock = some g → W'.heap[g]? = W.heap[g]?) : W'.ownsRow base T 1 v n xs := by
  refine ⟨h.1, ?_⟩
  rcases h.2 with h2 | ⟨g, cap, cur, rfl, hb, hg, r⟩
  · exact Or.inl h2
  · exact Or.inr ⟨g, cap, cur, rfl, hb, (hk g rfl).trans hg, r⟩

/-- Two slices of texts that were made since w, one beside the other. -/
structure Pr18 (w W : World) (v : Value) (l : List ByteArray) (u : Value) (m : List ByteArray) : Prop where
  row1 : W.ownsRow w.heap.size 9 1 v l.length (scells l)
  row2 : W.ownsRow w.heap.size 9 1 u m.length (scells m)
  apart : ∀ g, v.ownBlock = some g → u.ownBlock ≠ some g
  bel : Below w.heap.size w W
theorem Pr18.start {w w1 w2 : World} {v : Value} {l : List ByteArray} {u : Value} {m : List ByteArray} (h1 : Wd w w1 v l) (h2 : Wd w1 w2 u m) : Pr18 w w2 v l u m := by
  refine ⟨(h1.below h2.bel).row, (h2.base h1.bel).row, fun g e1 e2 => ?_, (h1.below h2.bel).bel⟩
  have := (h1.row.lt g e1).2
  have := (h2.row.lt g e2).1
  omega
theorem Pr18.below {w W W' : World} {v : Value} {l : List ByteArray} {u : Value} {m : List ByteArray} (h : Pr18 w W v l u m) (hb : Below W.heap.size W W') : Pr18 w W' v l u m :=
  ⟨row_kept h.row1 fun g e => hb.block g (h.row1.lt g e).2, row_kept h.row2 fun g e => hb.block g (h.row2.lt g e).2, h.apart, h.bel.trans (hb.mono h.bel.size)⟩
theorem Pr18.appended {w W W' : World} {v v' : Value} {l l' : List ByteArray} {u : Value} {m : List ByteArray} (h : Pr18 w W v l u m) (hr : W'.ownsRow w.heap.size 9 1 v' l'.length (scells l')) (hg : W.grownBy W' v.ownBlock) (hv : ∀ g, v'.ownBlock = some g → v.ownBlock = some g ∨ W.heap.size ≤ g) : Pr18 w W' v' l' u m := by
  refine ⟨hr, row_kept h.row2 fun g e => hg.block g (h.row2.lt g e).2 fun x => h.apart g x.symm e, fun g e1 e2 => ?_, h.bel.trans ⟨hg.os, hg.tape, hg.output, hg.size, fun k hk => hg.block k (Nat.lt_of_lt_of_le hk h.bel.size) fun e => ?_⟩⟩
  · rcases hv g e1 with x | x
    · exact h.apart g x e2
    · have := (h.row2.lt g e2).2
      omega
  · have := (h.row1.lt k e.symm).1
    omega

theorem new18 (W : World) (x : Value) (T : TypeId) : ∀ (j : Nat) (u : Value), [x][j]? = some u → (W.alloc (.cells #[x] T)).cell? ((⟨W.heap.size, 0, none⟩ : Addr).add j) = some u :=
  World.news_of_block (Blk.new W #[x] T)
/-- A row behind a row, whether there is any of it or not. -/
theorem append_row18 {w : World} {base : Nat} {v : Value} {l : List ByteArray} (hown : w.ownsRow base 9 1 v l.length (scells l)) {u : Value} {m : List ByteArray} (hu : w.ownsRow base 9 1 u m.length (scells m)) (h : l.length + m.length ≤ 100000) (hb : base ≤ w.heap.size) (ty : TypeId) :
    ∃ v' w', (Builtin.append_ #[37, 37] ty #[v, u]).run Tryd.prog w = .ok v' w' ∧ w'.ownsRow base 9 1 v' (l ++ m).length (scells (l ++ m)) ∧ w.grownBy w' v.ownBlock ∧ ∀ g, v'.ownBlock = some g → v.ownBlock = some g ∨ w.heap.size ≤ g := by
  obtain ⟨i0, hi0, hz0⟩ := Option.map_eq_some_iff.1 Tryd.infoS17
  simp only [Prod.mk.injEq] at hz0
  obtain ⟨hz0, hz1, hz2⟩ := hz0
  have ht : Tryd.prog.underlying 37 = some (.slice 9) := by kernel_rfl
  rw [List.length_append, scells_app]
  rcases hu.2 with ⟨rfl, h0⟩ | ⟨g, cap, cur, rfl, _⟩
  · have hm : m = [] := List.length_eq_zero_iff.1 h0
    subst hm
    exact ⟨v, w, run_append_owned_none w base 37 ty 9 i0 1 ht hi0 v _ _ hown, by simpa [scells] using hown, ⟨rfl, rfl, rfl, Nat.le_refl _, fun _ _ _ => rfl⟩, fun g e => Or.inl e⟩
  · obtain ⟨v', w', hr, h2, h3, _, h5⟩ := run_append_own_at (P := Tryd.prog) w base 37 ty 9 i0 (.string ⟨#[]⟩) 1 16 ht hi0 hz0 hz1 hz2 rfl (by decide) v _ _ hown ⟨g, 0, none⟩ m.length cap (scells m) (by rw [scells_len, Nat.mul_one]) (hu.cells rfl) (scells_one m) (by unfold maxLen; omega) (by omega) hb
    refine ⟨v', w', hr, h2, h3, fun g e => ?_⟩
    rcases h5 with h5 | h5
    · exact Or.inl (by rw [← h5]; exact e)
    · rw [h5, Option.some.injEq] at e
      exact Or.inr (by omega)

set_option maxRecDepth 100000 in
theorem words16_any (s : ByteArray) (hs : s.size ≤ 1000) (w : World) (hg : G17 w) : Calls Tryd.prog 74 #[.string s] w (WEnd w (w16 s.data.toList)) := by
  have JC := cut_any s ⟨#[58, 58]⟩ (by omega) w hg
  have hle := cut_le s.data.toList [58, 58]
  rw [Array.length_toList] at hle
  have hsz : s.data.size = s.size := rfl
  have hw : w16 s.data.toList = if (Lib.cut s.data.toList [58, 58]).2.2 = false then pt 58 8 (Lib.cut s.data.toList [58, 58]).1 else
    pt 58 8 (Lib.cut s.data.toList [58, 58]).1 ++ List.replicate (8 - ((pt 58 8 (Lib.cut s.data.toList [58, 58]).1).length + (pt 58 8 (Lib.cut s.data.toList [58, 58]).2.1).length)) [48] ++ pt 58 8 (Lib.cut s.data.toList [58, 58]).2.1 := rfl
  have HW := Lib.hid hw
  clear hw
  have e58 : (⟨#[58, 58]⟩ : ByteArray).data.toList = [58, 58] := rfl
  rw [e58] at JC
  generalize Lib.cut s.data.toList [58, 58] = C at *
  obtain ⟨F, B, sh⟩ := C
  simp only at hle JC
  obtain ⟨i0, hi0, hz0⟩ := Option.map_eq_some_iff.1 Tryd.infoS17
  simp only [Prod.mk.injEq] at hz0
  obtain ⟨hz0, hz1, hz2⟩ := hz0
  go_enter Tryd.func74, Tryd.ntmps74
  go_wp2_with fail
  refine JC.mono ?_
  rintro e w1 ⟨rfl, hb1⟩
  have hg1 := hg.on hb1
  go_wp2_with fail
  refine (parted_any ⟨F.toArray⟩ 58 8 (by omega) (by rw [list_size]; omega) w1 hg1).mono ?_
  rintro e w2 ⟨v, l, rfl, hwd, hl⟩
  have hg2 := hg1.on hwd.bel
  obtain ⟨a, c, rfl⟩ := hwd.form
  have HWD := Lib.hid (hwd.base hb1)
  clear hwd hb1
  by_cases hsh : sh = false
  · subst hsh
    go_wp2_with fail
    go_ret
    exact ⟨_, l, rfl, HWD.out, by rw [HW.out, if_pos trivial]; exact hl⟩
  · have hsh1 : sh = true := by simpa using hsh
    subst hsh1
    go_wp2_with fail
    refine (parted_any ⟨B.toArray⟩ 58 8 (by omega) (by rw [list_size]; omega) w2 hg2).mono ?_
    rintro e w3 ⟨u, m, rfl, hwd2, hm⟩
    obtain ⟨a2, c2, rfl⟩ := hwd2.form
    have HP := Lib.hid (Pr18.start HWD.out hwd2)
    have hbase := HP.out.bel.size
    clear hwd2
    have HL := Lib.hid hl
    have HM := Lib.hid hm
    have hL9 : l.length ≤ 9 := by have := pt_len 58 8 F; rw [← hl] at this; simpa [lists] using this
    have hM9 : m.length ≤ 9 := by have := pt_len 58 8 B; rw [← hm] at this; simpa [lists] using this
    clear hl hm
    go_wp2_with fail
    go_loopw [6] (fun sv wr => ∃ (a : Option Addr) (c k : Nat) (l' : List ByteArray), sv = .slice a l'.length c ∧ l'.length ≤ 9 ∧ Hid (l'.length = l.length + k) ∧ (k = 0 ∨ l'.length + m.length ≤ 8) ∧ Hid (l' = l ++ List.replicate k ⟨#[48]⟩) ∧ Hid (Pr18 w wr sv l' (.slice a2 m.length c2) m)) (fun sv _ => 100 - (match sv with | .slice _ n _ => n | _ => 0))
    case atStart => exact ⟨a, c, 0, l, rfl, hL9, Lib.hid rfl, Or.inl rfl, Lib.hid (by simp), HP⟩
    case round =>
      obtain ⟨a3, c3, k, l', rfl, hl9, HK, hk8, HE, HP3⟩ := hrel
      have hwr := HP3.out.bel.size
      by_cases hlt : l'.length + m.length < 8
      · have HN := Lib.hid (HP3.out.below ((Below.refl wr.heap.size wr).alloc (Nat.le_refl _) (.cells #[.string ⟨#[48]⟩] 9)))
        have hlt' : (l'.length : Int) + (m.length : Int) < 8 := by omega
        go_wp2_with (at_builtin; refine wpList_append_lies _ rfl _ _ 37 rfl w.heap.size 9 i0 (.string ⟨#[]⟩) 1 16 (by kernel_rfl) hi0 hz0 hz1 hz2 rfl (by decide) _ _ _ rfl HN.out.row1 ⟨wr.heap.size, 0, none⟩ 1 1 [.string ⟨#[48]⟩] rfl rfl (new18 wr _ _) (by simp [Value.oneCell']) (by decide) (by unfold maxLen; omega) (by omega) (by have := HN.out.bel.size; omega) _ rfl ?_; intro g3 cap3 w4 hown hgrow hat3 hlt3; have HA := Lib.hid (HN.out.appended (l' := l' ++ [⟨#[48]⟩]) (by rw [scells_app, List.length_append]; exact hown) hgrow (fun g e => by have e' : g3 = g := (by simpa [Value.ownBlock] using e); subst e'; exact hat3.imp id fun x => Nat.le_of_eq x.symm)); clear hown hgrow hat3 hlt3)
        refine ⟨⟨_, cap3, k + 1, l' ++ [⟨#[48]⟩], by rw [List.length_append]; rfl, by simp; omega, Lib.hid (by rw [List.length_append, HK.out]; rfl), Or.inr (by simp; omega), Lib.hid (by rw [HE.out, List.replicate_succ', List.append_assoc]), HA⟩, ?_⟩
        show 100 - (l'.length + 1) < 100 - l'.length
        omega
      · have hge : ¬ ((l'.length : Int) + (m.length : Int) < 8) := by omega
        obtain ⟨v', w4, hr, hown, hgr, hat⟩ := append_row18 HP3.out.row1 HP3.out.row2 (by omega) hwr 37
        go_wp2_with (at_builtin; refine Lib.wpList_append_run _ rfl _ _ _ _ rfl _ _ rfl rfl _ _ hr ?_)
        go_ret
        refine ⟨_, l' ++ m, rfl, ⟨hown, ?_⟩, ?_⟩
        · exact HP3.out.bel.trans ⟨hgr.os, hgr.tape, hgr.output, hgr.size, fun k hk => hgr.block k (Nat.lt_of_lt_of_le hk hwr) fun e => by have := (HP3.out.row1.lt k e.symm).1; omega⟩
        · have e1 : k = 8 - ((pt 58 8 F).length + (pt 58 8 B).length) := by
            have h1 : (pt 58 8 F).length = l.length := by rw [← HL.out]; simp [lists]
            have h2 : (pt 58 8 B).length = m.length := by rw [← HM.out]; simp [lists]
            have := HK.out
            omega
          rw [HW.out, if_neg (by simp), ← e1, ← HL.out, ← HM.out, HE.out]
          simp [lists]

end Go.Proofs.YtpappmbnblaccaaDoor
