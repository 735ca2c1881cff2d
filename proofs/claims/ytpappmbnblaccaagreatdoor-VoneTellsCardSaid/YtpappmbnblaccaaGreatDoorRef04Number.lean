/-
  The document's Number, and its Parse where a text has four words between dots.
-/
import Derived.Test.YtpappmbnblaccaaGreatDoorRef04Value
import Derived.Test.YtpappmbnblaccaaGreatDoorRef04Parts
import Derived.Test.YtpappmbnblaccaaGreatDoorRef04Fill
import Derived.Test.YtpappmbnblaccaaGreatDoorAddrParse
import Derived.OwnWalk
namespace Go.Proofs.YtpappmbnblaccaaGreatDoor
open Go.RowKit
set_option linter.unusedVariables false

theorem rnumber_any (s : ByteArray) (most : Nat) (hm : most ≤ 65535) (hs : s.size ≤ 100000) (w : World) : Calls Tryz.prog 21 #[.string s, .int .i64 (most : Int)] w (Tells (numV (numOf most s.data.toList)) w) := by
  have J := rvalue_any 10 (Or.inl rfl) s hs w
  go_enter Tryz.func21, Tryz.ntmps21
  go_wp2_with fail
  refine J.mono ?_
  rintro e w1 ⟨rfl, hb⟩
  cases hv : val 10 s.data.toList with
  | none =>
    have HN : Hid (numOf most s.data.toList = none) := Lib.hid (by unfold numOf; rw [hv]; rfl)
    unfold valV
    go_wp2_with fail
    go_ret2
    exact ⟨by rw [HN.out]; rfl, hb⟩
  | some n =>
    have hn : (val 10 s.data.toList).filter (fun n => decide (n ≤ most)) = if n ≤ most then some n else none := by
      rw [hv]
      by_cases h : n ≤ most
      · rw [if_pos h]; simp [h]
      · rw [if_neg h]; simp; omega
    have HN : Hid (numOf most s.data.toList = if n ≤ most then some n else none) := Lib.hid hn
    clear hn hv
    unfold valV
    by_cases h : n ≤ most
    · have HN2 := Lib.hid (HN.out.trans (if_pos h))
      have h1 : (n : Int) ≤ (most : Int) := by omega
      go_wp2_with fail
      go_ret2
      exact ⟨by rw [HN2.out]; rfl, hb⟩
    · have HN2 := Lib.hid (HN.out.trans (if_neg h))
      have h1 : (most : Int) < (n : Int) := by omega
      go_wp2_with fail
      go_ret2
      exact ⟨by rw [HN2.out]; rfl, hb⟩

/-- A slice of bytes that was made since w. -/
structure Bs17 (w W : World) (v : Value) (l : List UInt8) : Prop where
  row : W.ownsRow w.heap.size 5 1 v l.length (byteCells l)
  bel : Below w.heap.size w W
theorem Bs17.below {w W W' : World} {v : Value} {l : List UInt8} (h : Bs17 w W v l) (hb : Below W.heap.size W W') : Bs17 w W' v l :=
  ⟨row_kept h.row fun g e => hb.block g (h.row.lt g e).2, h.bel.trans (hb.mono h.bel.size)⟩
theorem Bs17.next {w W W0 W' : World} {v v' : Value} {l m : List UInt8} (h : Bs17 w W v l) (h0 : Below W.heap.size W W0) {n : Nat} (hn : n = m.length) (hr : W'.ownsRow w.heap.size 5 1 v' (l.length + n) (byteCells l ++ byteCells m)) (hg : W0.grownBy W' v.ownBlock) : Bs17 w W' v' (l ++ m) := by
  subst hn
  refine ⟨?_, (h.bel.trans (h0.mono h.bel.size)).trans ⟨hg.os, hg.tape, hg.output, hg.size, fun k hk => hg.block k (Nat.lt_of_lt_of_le (Nat.lt_of_lt_of_le hk h.bel.size) h0.size) fun e => ?_⟩⟩
  · rw [List.length_append, byteCells_append]
    exact hr
  · have := (h.row.lt k e.symm).1
    omega
theorem Bs17.conv {w W : World} {v : Value} {l : List UInt8} (h : Bs17 w W v l) (hl : l ≠ []) : ∃ a c, v = .slice (some a) l.length c ∧ (convert 57 9 v).run Tryz.prog W = .ok (.string ⟨l.toArray⟩) W := by
  rcases h.row.2 with ⟨_, h0⟩ | ⟨g, cap, cur, rfl, _⟩
  · exact absurd (List.length_eq_zero_iff.1 h0) hl
  · refine ⟨_, _, rfl, run_convert_bytes_back (P := Tryz.prog) _ 57 9 5 ⟨g, 0, none⟩ cap l Tryz.underlying57 Tryz.underlying5 Tryz.underlying9 fun q hq => ?_⟩
    rw [addr_add, World.ownsRow.cellAt h.row q (by omega)]
    simp [byteCells, hq]
theorem news2 (W : World) (x y : Value) (T : TypeId) : ∀ (j : Nat) (u : Value), [x, y][j]? = some u → (W.alloc (.cells #[x, y] T)).cell? ((⟨W.heap.size, 0, none⟩ : Addr).add j) = some u :=
  World.news_of_block (Blk.new W #[x, y] T)

theorem row_alloc0 {W : World} {base : Nat} {T : TypeId} {v : Value} {n : Nat} {xs : List Value} (h : W.ownsRow base T 1 v n xs) (o : Obj) : (W.alloc o).ownsRow base T 1 v n xs :=
  row_kept h fun g e => Below.heap_alloc W o g (h.lt g e).2
theorem bc_one (n : Nat) (h : n ≤ 255) : byteCells [UInt8.ofNat n] = [.int .u8 (n : Int)] := by
  simp only [byteCells, List.map_cons, List.map_nil, UInt8.toNat_ofNat']
  rw [Nat.mod_eq_of_lt (by omega)]
theorem sp_piece (c : UInt8) : ∀ (s : List UInt8), ∀ x ∈ sp c s, x.length ≤ s.length
  | [], x, h => by simp [sp] at h; subst h; simp
  | y :: s, x, h => by
    have ih := sp_piece c s
    rw [sp] at h
    split at h
    · rcases List.mem_cons.1 h with rfl | h
      · simp
      · have := ih x h; simp; omega
    · cases hs : sp c s with
      | nil => exact absurd hs (sp_ne c s)
      | cons a t =>
        rw [hs] at h ih
        rcases List.mem_cons.1 h with rfl | h
        · have := ih a (by simp); simp; omega
        · have := ih x (List.mem_cons_of_mem _ h); simp; omega

set_option maxRecDepth 100000 in
set_option maxHeartbeats 1000000 in
theorem rparse4_any (s : ByteArray) (hs : s.size ≤ 50) (h4 : (sp 46 s.data.toList).length = 4) (w : World) : Calls Tryz.prog 20 #[.string s] w (Tells (addrV (addrOf s.data.toList)) w) := by
  obtain ⟨i0, hi0, hz0⟩ := Option.map_eq_some_iff.1 Tryz.infoByte
  simp only [Prod.mk.injEq] at hz0
  obtain ⟨hz0, hz1, hz2⟩ := hz0
  have h50 : (s.size : Int) ≤ 50 := by omega
  go_enter Tryz.func20, Tryz.ntmps20
  go_wp2_with fail
  refine (parts_any s 46 (by omega) w).mono ?_
  rintro e w1 ⟨v, l, rfl, hwd, hl⟩
  have hl4 : l.length = 4 := by rw [← hl] at h4; simpa [lists] using h4
  obtain ⟨g, c, rfl, hg1, hg2, hcell, hlc⟩ := hwd.lies (by intro e; rw [e] at hl4; simp at hl4)
  have HL := Lib.hid hl
  have HLc := Lib.hid hl4
  have HR0 : Hid (Rw18 w1 w1.heap.size g l) := Lib.hid ⟨hg2, by omega, hcell⟩
  have HB0 : Hid (Bs17 w1 w1 (.slice none 0 0) []) := Lib.hid ⟨⟨rfl, Or.inl ⟨rfl, rfl⟩⟩, Below.refl _ _⟩
  have HBW := Lib.hid hwd.bel
  have HPZ : Hid (∀ x ∈ l, x.size ≤ 50) := Lib.hid (lists_size fun x hx => by
    rw [hl] at hx
    have := sp_piece 46 _ x hx
    rw [Array.length_toList] at this
    exact Nat.le_trans this hs)
  rw [hl4]
  rw [hl4] at hlc
  clear hwd hl hl4 hcell h4 hg1
  go_wp2_with fail
  go_loopw [5, 6] (fun sb si wr => ∃ (k : Nat) (bs : List UInt8), k ≤ 4 ∧ si = .int .i64 (k : Int) ∧ bs.length = k ∧ Hid (Bs17 w1 wr sb bs) ∧ Hid (lists (l.take k) = bs.map fun c => digs 10 c.toNat)) (fun _ si _ => 4 - (intOf si).toNat)
  case atStart => exact ⟨0, [], by omega, rfl, rfl, HB0, Lib.hid rfl⟩
  case round =>
    obtain ⟨k, bs, hk, rfl, hbl, HB, HT⟩ := hrel
    have hsz := HB.out.bel.size
    by_cases hlt : k < 4
    · have hkl : k < l.length := by have := HLc.out; omega
      have hc := (HB.out.bel.cell (p := ⟨g, k, none⟩) hg2).trans (HR0.out.cell k hkl)
      have hpz := HPZ.out _ (List.getElem_mem hkl)
      have J := rvalue_any 10 (Or.inl rfl) (l[k]'hkl) (by omega) wr
      have HK : Hid (∀ n, val 10 (l[k]'hkl).data.toList = some n → n ≤ 255 → lists (l.take (k + 1)) = (bs ++ [UInt8.ofNat n]).map fun c => digs 10 c.toNat) := Lib.hid fun n hn h255 => by
        rw [List.take_succ_eq_append_getElem hkl, List.map_append, ← HT.out]
        unfold lists
        rw [List.map_append, List.map_cons, List.map_nil, List.map_cons, List.map_nil, val_back (by omega) hn, UInt8.toNat_ofNat', Nat.mod_eq_of_lt (by omega)]
      have HBad : Hid ((∀ n, val 10 (l[k]'hkl).data.toList = some n → 255 < n) → addrOf s.data.toList = none) := Lib.hid fun hbad => addrOf_none fun a ha e => by
        rcases ha with ha | ha
        · have h1 := HL.out
          rw [e, text_4 ha, sp_text4 a ha] at h1
          obtain ⟨hka, h2⟩ := words4_at h1 hkl
          have h3 := (a[k]'hka).toNat_lt
          have := hbad (a[k]'hka).toNat (by rw [h2]; exact val_digs (by omega) (by omega) (by omega))
          omega
        · have h1 := congrArg List.length HL.out
          rw [e, text_16 ha, sp_dot16] at h1
          have h2 := HLc.out
          simp only [lists, List.length_map] at h1
          omega
      generalize l[k]'hkl = x at *
      go_wp2_with fail
      refine J.mono ?_
      rintro e w2 ⟨rfl, hb2⟩
      have HB2 := Lib.hid (HB.out.below hb2)
      have HBEL := Lib.hid (HBW.out.trans (HB2.out.bel.mono HBW.out.size))
      have hs2 := HB2.out.bel.size
      clear hb2 hc
      cases hv : val 10 x.data.toList with
      | none =>
        have HF := Lib.hid (HBad.out fun n hn => by rw [hv] at hn; cases hn)
        unfold valV
        clear hv
        go_wp2_with fail
        go_ret2
        exact ⟨by rw [HF.out]; rfl, HBEL.out⟩
      | some n =>
        unfold valV
        by_cases h255 : n ≤ 255
        · have HX := Lib.hid (HK.out n hv h255)
          have hn1 : (n : Int) ≤ 255 := by omega
          clear hv
          go_wp2_with (at_builtin; refine wpList_append_lies _ rfl _ _ 57 rfl w1.heap.size 5 i0 (.int .u8 0) 1 1 (by kernel_rfl) hi0 hz0 hz1 hz2 rfl (by decide) _ _ _ rfl (row_alloc0 HB2.out.row _) ⟨w2.heap.size, 0, none⟩ 1 1 [.int .u8 (n : Int)] rfl rfl (new18 w2 _ _) (by simp [Value.oneCell']) (by decide) (by unfold maxLen; omega) (by omega) (by simp; omega) _ rfl ?_; intro g3 cap3 w4 hown hgrow hat3 hlt3; have HA := Lib.hid (HB2.out.next (m := [UInt8.ofNat n]) ((Below.refl w2.heap.size w2).alloc (Nat.le_refl _) _) rfl (by rw [bc_one n (by omega)]; exact hown) hgrow); clear hown hgrow hat3 hlt3)
          exact ⟨⟨k + 1, bs ++ [UInt8.ofNat n], by omega, rfl, by rw [List.length_append, hbl]; rfl, Lib.hid (by have h := HA.out; rw [hbl] at h; exact h), HX⟩, by simp [intOf]; omega⟩
        · have HF := Lib.hid (HBad.out fun m hm => by rw [hv] at hm; have := Option.some.inj hm; omega)
          have hn1 : (255 : Int) < (n : Int) := by omega
          clear hv
          go_wp2_with fail
          go_ret2
          exact ⟨by rw [HF.out]; rfl, HBEL.out⟩
    · obtain rfl : k = 4 := by omega
      have hall : l.take 4 = l := List.take_of_length_le (by have := HLc.out; omega)
      have HF : Hid (addrOf s.data.toList = some bs) := Lib.hid (by
        have h1 := HT.out
        rw [hall, HL.out] at h1
        have h2 := text4_of h1
        rw [h2, ← text_4 hbl]
        exact addrOf_text (Or.inl hbl))
      have HBEL := Lib.hid (HBW.out.trans (HB.out.bel.mono HBW.out.size))
      obtain ⟨ad, c5, hv, hcv⟩ := HB.out.conv (by intro e; rw [e] at hbl; simp at hbl)
      subst hv
      rw [hbl] at hcv ⊢
      go_wp2_with fail
      go_ret2
      exact ⟨by rw [HF.out]; rfl, HBEL.out⟩

end Go.Proofs.YtpappmbnblaccaaGreatDoor
