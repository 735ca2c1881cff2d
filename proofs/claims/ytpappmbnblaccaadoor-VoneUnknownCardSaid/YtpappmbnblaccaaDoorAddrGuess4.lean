/-
  guess4: four bytes, if a text is like those.
-/
import Derived.Test.YtpappmbnblaccaaDoorAddrW16
namespace Go.Proofs.YtpappmbnblaccaaDoor
open Go.RowKit
set_option linter.unusedVariables false

theorem splitK_piece (sep : List UInt8) : ∀ (k : Nat) (s : List UInt8), ∀ x ∈ Lib.splitK sep 0 k s, x.length ≤ s.length
  | 0, s, x, h => by simp [Lib.splitK] at h; subst h; omega
  | k + 1, s, x, h => by
    rw [Lib.splitK] at h
    split at h
    · simp at h; subst h; omega
    · rcases List.mem_cons.1 h with rfl | h
      · simp; omega
      · have := splitK_piece sep k _ x h
        simp at this
        omega
theorem pt_piece (c : UInt8) (most : Nat) (s : List UInt8) : ∀ x ∈ pt c most s, x.length ≤ s.length := by
  unfold pt
  split
  · intro x h; simp at h
  · exact splitK_piece [c] _ s
theorem lists_size {l : List ByteArray} {n : Nat} (h : ∀ x ∈ lists l, x.length ≤ n) : ∀ x ∈ l, x.size ≤ n := by
  intro x hx
  have := h x.data.toList (List.mem_map_of_mem hx)
  rw [Array.length_toList] at this
  exact this
/-- How a guess ends: with bytes; with the address, where the text is that of one. -/
def GEnd (w : World) (K : List UInt8 → Prop) (e : Ending) (w' : World) : Prop := ∃ r : ByteArray, e = .returned (.string r) ∧ Below w.heap.size w w' ∧ r.size ≤ 16 ∧ ∀ a, K a → r.data.toList = a

theorem Wd.kb {w W W' : World} {v : Value} {l : List ByteArray} {S : Nat → Prop} (h : Wd w W v l) (k : Kb S W W') (hs : ∀ g, v.ownBlock = some g → ¬ S g) (hw : ∀ g, S g → w.heap.size ≤ g) : Wd w W' v l :=
  ⟨row_kept h.row fun g e => k.block g (h.row.lt g e).2 (hs g e), h.bel.trans ⟨k.os, k.tape, k.output, k.size, fun i hi => k.block i (Nat.lt_of_lt_of_le hi h.bel.size) fun x => by have := hw i x; omega⟩⟩

/-- Where the words lie that are read. -/
structure Rw18 (W : World) (N g : Nat) (l : List ByteArray) : Prop where
  lt : g < W.heap.size
  ne : g ≠ N
  cell : ∀ i, (h : i < l.length) → W.cell? ⟨g, i, none⟩ = some (.string (l[i]'h))
theorem Rw18.below {W W' : World} {N g : Nat} {l : List ByteArray} (h : Rw18 W N g l) (hb : Below W.heap.size W W') : Rw18 W' N g l :=
  ⟨Nat.lt_of_lt_of_le h.lt hb.size, h.ne, fun i hi => (hb.cell (p := ⟨g, i, none⟩) h.lt).trans (h.cell i hi)⟩
theorem Rw18.set {W : World} {N g : Nat} {l : List ByteArray} (h : Rw18 W N g l) (p : Addr) (hp : p.block = N) (x : Value) : Rw18 (W.setCell p x) N g l :=
  ⟨by simpa [World.setCell] using h.lt, h.ne, fun i hi => by
    rw [← h.cell i hi]
    exact World.cell?_of_block (Below.heap_setCell W p x g (by rw [hp]; exact h.ne))⟩
/-- What guess4 has read of so many words. -/
structure G4 (w W : World) (N g : Nat) (l : List ByteArray) (k : Nat) (bs : List UInt8) : Prop where
  blk : ByteBlk W N bs
  len : bs.length = 4
  row : Rw18 W N g l
  told : ∀ j, (h : j < k) → (h4 : j < l.length) → ∃ n : Nat, numOf 255 (l[j]'h4).data.toList = some n ∧ bs[j]? = some (UInt8.ofNat n)
  bel : Below N w W
theorem G4.below {w W W' : World} {N g : Nat} {l : List ByteArray} {k : Nat} {bs : List UInt8} (h : G4 w W N g l k bs) (hb : Below W.heap.size W W') : G4 w W' N g l k bs :=
  ⟨h.blk.kb (S := fun i => W.heap.size ≤ i) ⟨hb.os, hb.tape, hb.output, hb.size, fun i hi _ => hb.block i hi⟩ (by have := h.blk.lt; omega), h.len, h.row.below hb, h.told, h.bel.trans (hb.mono (Nat.le_of_lt h.blk.lt))⟩
theorem G4.next {w W : World} {N g : Nat} {l : List ByteArray} {k : Nat} {bs : List UInt8} (h : G4 w W N g l k bs) (hk : k < 4) (n : Nat) (hn : ∀ h4, numOf 255 (l[k]'h4).data.toList = some n) (x : Value) (hx : x = .int .u8 ((UInt8.ofNat n).toNat : Int)) : G4 w (W.setCell ⟨N, k, none⟩ x) N g l (k + 1) (bs.set k (UInt8.ofNat n)) := by
  refine ⟨h.blk.set _ _ _ hx, by simp [h.len], h.row.set _ rfl x, fun j hj h4 => ?_, h.bel.setCell (Nat.le_refl _) _⟩
  by_cases e : j = k
  · subst e
    exact ⟨n, hn h4, List.getElem?_set_self (by rw [h.len]; exact hk)⟩
  · obtain ⟨m, h1, h2⟩ := h.told j (by omega) h4
    exact ⟨m, h1, by rw [List.getElem?_set_ne (Ne.symm e)]; exact h2⟩
theorem words4_at {a : List UInt8} {l : List ByteArray} (hl : lists l = a.map fun c => digs 10 c.toNat) {j : Nat} (h4 : j < l.length) : ∃ ha : j < a.length, (l[j]'h4).data.toList = digs 10 (a[j]'ha).toNat := by
  have hlen : l.length = a.length := by have := congrArg List.length hl; simpa [lists] using this
  refine ⟨by omega, ?_⟩
  have := congrArg (fun x => x[j]?) hl
  simp only [lists, List.getElem?_map, List.getElem?_eq_getElem h4, List.getElem?_eq_getElem (show j < a.length by omega), Option.map_some] at this
  exact Option.some.inj this

set_option maxRecDepth 100000 in
theorem guess4_any (s : ByteArray) (hs : s.size ≤ 1000) (w : World) (hg : G17 w) : Calls Tryd.prog 61 #[.string s] w (GEnd w fun a => a.length = 4 ∧ s.data.toList = text4 a) := by
  have hB0 : ByteBlk (w.alloc (.cells #[.int .u8 0, .int .u8 0, .int .u8 0, .int .u8 0] 101)) w.heap.size (List.replicate 4 0) := ⟨_, _, _, Blk.new w _ _, fun j hj => by
    have : j < 4 := by simpa using hj
    match j, this with
    | 0, _ => rfl
    | 1, _ => rfl
    | 2, _ => rfl
    | 3, _ => rfl, Or.inr rfl⟩
  have hbel0 : Below w.heap.size w (w.alloc (.cells #[.int .u8 0, .int .u8 0, .int .u8 0, .int .u8 0] 101)) := (Below.refl _ _).alloc (Nat.le_refl _) _
  generalize hN : w.heap.size = N at *
  go_enter Tryd.func61, Tryd.ntmps61
  go_wp2_with fail
  have hNle : w.heap.size ≤ N := Nat.le_of_eq hN
  generalize w.alloc (.cells #[.int .u8 0, .int .u8 0, .int .u8 0, .int .u8 0] 101) = W0 at *
  have hg0 := hg.on (hbel0.mono hNle)
  refine (parted_any s 46 4 (by omega) (by omega) W0 hg0).mono ?_
  rintro e w1 ⟨v, l, rfl, hwd, hl⟩
  have HL := Lib.hid hl
  have HZ : Hid (∀ x ∈ l, x.size ≤ 1000) := Lib.hid (lists_size fun x hx => by
    rw [hl] at hx
    have := pt_piece 46 4 _ x hx
    have e : s.data.toList.length = s.size := by rw [Array.length_toList]; rfl
    omega)
  by_cases h4 : l.length = 4
  · obtain ⟨g, c, rfl, hg1, hg2, hcell, hlc⟩ := hwd.lies (by intro e; rw [e] at h4; simp at h4)
    have H0 : Hid (G4 w w1 N g l 0 (List.replicate 4 0)) := Lib.hid ⟨hB0.kb (S := fun i => W0.heap.size ≤ i) ⟨hwd.bel.os, hwd.bel.tape, hwd.bel.output, hwd.bel.size, fun i hi _ => hwd.bel.block i hi⟩ (by have := hB0.lt; omega), rfl, ⟨hg2, by have := hB0.lt; omega, hcell⟩, fun j h => absurd h (by omega), hbel0.trans (hwd.bel.mono (Nat.le_of_lt hB0.lt))⟩
    have HLc := Lib.hid h4
    rw [h4] at hlc ⊢
    clear hB0 hbel0 hcell hwd hl hN h4 hg1 hg2 hg0
    go_wp2_with fail
    go_loopw [16] (fun si wr => ∃ (k : Nat) (bs : List UInt8), si = .int .i64 (k : Int) ∧ k ≤ 4 ∧ Hid (G4 w wr N g l k bs)) (fun si _ => 4 - (intOf si).toNat)
    case atStart => exact ⟨0, _, rfl, by omega, H0⟩
    case round =>
      obtain ⟨k, bs, rfl, hk, HG⟩ := hrel
      have hgr := hg.on (HG.out.bel.mono hNle)
      by_cases hlt : k < 4
      · have hkl : k < l.length := by have := HLc.out; omega
        have hc := HG.out.row.cell k hkl
        have hxz := HZ.out _ (List.getElem_mem hkl)
        have HK : Hid (∀ a, a.length = 4 → s.data.toList = text4 a → ∃ ha : k < a.length, (l[k]'hkl).data.toList = digs 10 (a[k]'ha).toNat) := Lib.hid fun a ha he => by
          have := HL.out
          rw [he, pt_text4 a ha] at this
          exact words4_at this hkl
        have HNX : Hid (∀ n, numOf 255 (l[k]'hkl).data.toList = some n → ∀ h4, numOf 255 (l[k]'h4).data.toList = some n) := Lib.hid fun n hn _ => hn
        generalize l[k]'hkl = x at *
        have J := number_any x 255 (by omega) (by omega) wr hgr
        cases hn : numOf 255 x.data.toList with
        | none =>
          rw [hn] at J
          unfold numV at J
          have HNN := Lib.hid hn
          clear hn hgr
          go_wp2_with fail
          refine J.mono ?_
          rintro e w3 ⟨rfl, hb3⟩
          go_wp2_with fail
          go_ret
          refine ⟨⟨#[]⟩, rfl, (HG.out.bel.mono hNle).trans (hb3.mono (by have := HG.out.bel.size; omega)), by show 0 ≤ 16; omega, fun a ha => ?_⟩
          obtain ⟨hak, he⟩ := HK.out a ha.1 ha.2
          have := (a[k]'hak).toNat_lt
          have h2 := HNN.out
          rw [he, numOf_digs (by omega) (by omega)] at h2
          cases h2
        | some n =>
          have hn255 := (numOf_some hn).1
          rw [hn] at J
          unfold numV at J
          have HNN := Lib.hid hn
          clear hn hgr
          go_wp2_with fail
          refine J.mono ?_
          rintro e w3 ⟨rfl, hb3⟩
          have HG3 := Lib.hid (HG.out.below hb3)
          have hc3 := HG3.out.blk.cell k (by rw [HG3.out.len]; exact hlt)
          have hz3 := HG3.out.blk.frozen k (by rw [HG3.out.len]; exact hlt)
          generalize ((bs[k]'(by rw [HG3.out.len]; exact hlt)).toNat : Int) = old at hc3
          clear hb3 hc
          go_wp2_with fail
          refine ⟨⟨k + 1, _, rfl, by omega, Lib.hid (HG3.out.next hlt n (HNX.out n HNN.out) _ ?_)⟩, by simp [intOf]; omega⟩
          rw [UInt8.toNat_ofNat']
          congr 1
          omega
      · obtain rfl : k = 4 := by omega
        have hcv := HG.out.blk.text (n := 4) (cap := 4) HG.out.len.symm
        go_wp2_with fail
        go_ret
        refine ⟨⟨bs.toArray⟩, rfl, HG.out.bel.mono hNle, by rw [list_size, HG.out.len]; omega, fun a ha => ?_⟩
        have hl4 := HL.out
        rw [ha.2, pt_text4 a ha.1] at hl4
        show bs = a
        apply List.ext_getElem?
        intro j
        by_cases hj : j < 4
        · obtain ⟨n, h1, h2⟩ := HG.out.told j hj (by have := HLc.out; omega)
          obtain ⟨hja, he⟩ := words4_at hl4 (show j < l.length by have := HLc.out; omega)
          have := (a[j]'hja).toNat_lt
          rw [he, numOf_digs (by omega) (by omega)] at h1
          obtain rfl := Option.some.inj h1
          rw [h2, List.getElem?_eq_getElem hja, UInt8.ofNat_toNat]
        · rw [List.getElem?_eq_none (by rw [HG.out.len]; omega), List.getElem?_eq_none (by rw [ha.1]; omega)]
  · have hb := hwd.bel
    have hs0 := hbel0.size
    obtain ⟨a, c, rfl⟩ := hwd.form
    have t1 : ((l.length : Int) != 4) = true := by simp; omega
    have HB := Lib.hid ((hbel0.mono hNle).trans (hb.mono hs0))
    have H4 := Lib.hid h4
    clear hwd hb hl h4 hbel0 hB0
    go_wp2_with fail
    go_ret
    refine ⟨⟨#[]⟩, rfl, HB.out, by show 0 ≤ 16; omega, fun a ha => ?_⟩
    have hl4 := HL.out
    rw [ha.2, pt_text4 a ha.1] at hl4
    have := congrArg List.length hl4
    simp [lists, ha.1] at this
    exact absurd this H4.out

end Go.Proofs.YtpappmbnblaccaaDoor
