/-
  guess16: sixteen bytes, if a text is like those.
-/
import Derived.Test.YtpappmbnblaccaaDoorAddrGuess4
import Derived.Test.YtpappmbnblaccaaDoorHexRead
namespace Go.Proofs.YtpappmbnblaccaaDoor
open Go.RowKit
set_option linter.unusedVariables false

theorem w16_piece (s : List UInt8) : ∀ x ∈ w16 s, x.length ≤ s.length + 1 := by
  intro x hx
  have hle := cut_le s [58, 58]
  have hp := fun t => pt_piece 58 8 t x
  unfold w16 at hx
  split at hx
  · have := hp _ hx
    omega
  · rcases List.mem_append.1 hx with hx | hx
    · rcases List.mem_append.1 hx with hx | hx
      · have := hp _ hx
        omega
      · rw [List.eq_of_mem_replicate hx]
        simp
    · have := hp _ hx
      omega
/-- What guess16 has read of so many words. -/
structure G16 (w W : World) (N g : Nat) (l : List ByteArray) (k : Nat) (bs : List UInt8) : Prop where
  blk : ByteBlk W N bs
  len : bs.length = 16
  row : Rw18 W N g l
  told : ∀ j, (h : j < k) → (h8 : j < l.length) → ∃ n : Nat, pu 0 (l[j]'h8).data.toList = some n ∧ bs[2 * j]? = some (UInt8.ofNat (n / 256)) ∧ bs[2 * j + 1]? = some (UInt8.ofNat n)
  bel : Below N w W
theorem G16.below {w W W' : World} {N g : Nat} {l : List ByteArray} {k : Nat} {bs : List UInt8} (h : G16 w W N g l k bs) (hb : Below W.heap.size W W') : G16 w W' N g l k bs :=
  ⟨h.blk.kb (S := fun i => W.heap.size ≤ i) ⟨hb.os, hb.tape, hb.output, hb.size, fun i hi _ => hb.block i hi⟩ (by have := h.blk.lt; omega), h.len, h.row.below hb, h.told, h.bel.trans (hb.mono (Nat.le_of_lt h.blk.lt))⟩
theorem G16.next {w W : World} {N g : Nat} {l : List ByteArray} {k : Nat} {bs : List UInt8} (h : G16 w W N g l k bs) (hk : k < 8) (n : Nat) (hn : ∀ h8, pu 0 (l[k]'h8).data.toList = some n) (x y : Value) (hx : x = .int .u8 ((UInt8.ofNat (n / 256)).toNat : Int)) (hy : y = .int .u8 ((UInt8.ofNat n).toNat : Int)) :
    G16 w ((W.setCell ⟨N, 2 * k, none⟩ x).setCell ⟨N, 2 * k + 1, none⟩ y) N g l (k + 1) ((bs.set (2 * k) (UInt8.ofNat (n / 256))).set (2 * k + 1) (UInt8.ofNat n)) := by
  have hl := h.len
  refine ⟨(h.blk.set _ _ _ hx).set _ _ _ hy, by simp [h.len], (h.row.set _ rfl x).set _ rfl y, fun j hj h8 => ?_, (h.bel.setCell (Nat.le_refl _) _).setCell (Nat.le_refl _) _⟩
  by_cases e : j = k
  · subst e
    refine ⟨n, hn h8, ?_, List.getElem?_set_self (by simp; omega)⟩
    rw [List.getElem?_set_ne (by omega), List.getElem?_set_self (by omega)]
  · obtain ⟨m, h1, h2, h3⟩ := h.told j (by omega) h8
    refine ⟨m, h1, ?_, ?_⟩
    · rw [List.getElem?_set_ne (by omega), List.getElem?_set_ne (by omega)]; exact h2
    · rw [List.getElem?_set_ne (by omega), List.getElem?_set_ne (by omega)]; exact h3
theorem words16_at {ns : List Nat} {l : List ByteArray} (hl : lists l = hexs ns) {j : Nat} (h8 : j < l.length) : ∃ ha : j < ns.length, (l[j]'h8).data.toList = digs 16 (ns[j]'ha) := by
  have hlen : l.length = ns.length := by have := congrArg List.length hl; simpa [lists, hexs] using this
  refine ⟨by omega, ?_⟩
  have := congrArg (fun x => x[j]?) hl
  simp only [lists, hexs, List.getElem?_map, List.getElem?_eq_getElem h8, List.getElem?_eq_getElem (show j < ns.length by omega), Option.map_some] at this
  exact Option.some.inj this

set_option maxRecDepth 100000 in
theorem guess16_any (s : ByteArray) (hs : s.size ≤ 1000) (w : World) (hg : G17 w) : Calls Tryd.prog 62 #[.string s] w (GEnd w fun a => a.length = 16 ∧ s.data.toList = text16 a) := by
  have hB0 : ByteBlk (w.alloc (.cells #[.int .u8 0, .int .u8 0, .int .u8 0, .int .u8 0, .int .u8 0, .int .u8 0, .int .u8 0, .int .u8 0, .int .u8 0, .int .u8 0, .int .u8 0, .int .u8 0, .int .u8 0, .int .u8 0, .int .u8 0, .int .u8 0] 103)) w.heap.size (List.replicate 16 0) := ⟨_, _, _, Blk.new w _ _, fun j hj => by
    have hj' : j < 16 := by simpa using hj
    have hz : (#[.int .u8 0, .int .u8 0, .int .u8 0, .int .u8 0, .int .u8 0, .int .u8 0, .int .u8 0, .int .u8 0, .int .u8 0, .int .u8 0, .int .u8 0, .int .u8 0, .int .u8 0, .int .u8 0, .int .u8 0, .int .u8 0] : Array Value) = Array.replicate 16 (Value.int .u8 0) := rfl
    rw [hz, Array.getElem?_replicate, if_pos hj', List.getElem_replicate]
    rfl, Or.inr rfl⟩
  have hbel0 : Below w.heap.size w (w.alloc (.cells #[.int .u8 0, .int .u8 0, .int .u8 0, .int .u8 0, .int .u8 0, .int .u8 0, .int .u8 0, .int .u8 0, .int .u8 0, .int .u8 0, .int .u8 0, .int .u8 0, .int .u8 0, .int .u8 0, .int .u8 0, .int .u8 0] 103)) := (Below.refl _ _).alloc (Nat.le_refl _) _
  generalize hN : w.heap.size = N at *
  go_enter Tryd.func62, Tryd.ntmps62
  go_wp2_with fail
  have hNle : w.heap.size ≤ N := Nat.le_of_eq hN
  generalize w.alloc (.cells #[.int .u8 0, .int .u8 0, .int .u8 0, .int .u8 0, .int .u8 0, .int .u8 0, .int .u8 0, .int .u8 0, .int .u8 0, .int .u8 0, .int .u8 0, .int .u8 0, .int .u8 0, .int .u8 0, .int .u8 0, .int .u8 0] 103) = W0 at *
  have hg0 := hg.on (hbel0.mono hNle)
  refine (words16_any s (by omega) W0 hg0).mono ?_
  rintro e w1 ⟨v, l, rfl, hwd, hl⟩
  have HL := Lib.hid hl
  have HZ : Hid (∀ x ∈ l, x.size ≤ 1001) := Lib.hid (lists_size fun x hx => by
    rw [hl] at hx
    have := w16_piece _ x hx
    have e : s.data.toList.length = s.size := by rw [Array.length_toList]; rfl
    omega)
  by_cases h8 : l.length = 8
  · obtain ⟨g, c, rfl, hg1, hg2, hcell, hlc⟩ := hwd.lies (by intro e; rw [e] at h8; simp at h8)
    have H0 : Hid (G16 w w1 N g l 0 (List.replicate 16 0)) := Lib.hid ⟨hB0.kb (S := fun i => W0.heap.size ≤ i) ⟨hwd.bel.os, hwd.bel.tape, hwd.bel.output, hwd.bel.size, fun i hi _ => hwd.bel.block i hi⟩ (by have := hB0.lt; omega), rfl, ⟨hg2, by have := hB0.lt; omega, hcell⟩, fun j h => absurd h (by omega), hbel0.trans (hwd.bel.mono (Nat.le_of_lt hB0.lt))⟩
    have HLc := Lib.hid h8
    rw [h8] at hlc ⊢
    clear hB0 hbel0 hcell hwd hl hN h8 hg1 hg2 hg0
    go_wp2_with fail
    go_loopw [16] (fun si wr => ∃ (k : Nat) (bs : List UInt8), si = .int .i64 (k : Int) ∧ k ≤ 8 ∧ Hid (G16 w wr N g l k bs)) (fun si _ => 8 - (intOf si).toNat)
    case atStart => exact ⟨0, _, rfl, by omega, H0⟩
    case round =>
      obtain ⟨k, bs, rfl, hk, HG⟩ := hrel
      have hgr := hg.on (HG.out.bel.mono hNle)
      by_cases hlt : k < 8
      · have hkl : k < l.length := by have := HLc.out; omega
        have hc := HG.out.row.cell k hkl
        have hxz := HZ.out _ (List.getElem_mem hkl)
        have HK : Hid (∀ a, a.length = 16 → s.data.toList = text16 a → ∃ n, n ≤ 65535 ∧ (l[k]'hkl).data.toList = digs 16 n) := Lib.hid fun a ha he => by
          have := HL.out
          rw [he, w16_text16 a ha] at this
          obtain ⟨hn, e⟩ := words16_at this hkl
          exact ⟨_, (nums_len a ha).2.2 _ (List.getElem_mem hn), e⟩
        have HNX : Hid (∀ n, pu 0 (l[k]'hkl).data.toList = some n → ∀ h8, pu 0 (l[k]'h8).data.toList = some n) := Lib.hid fun n hn _ => hn
        generalize l[k]'hkl = x at *
        go_wp2_with fail
        refine (pu_any x (by omega) wr hgr).mono ?_
        rintro e w3 ⟨hend, hb3⟩
        rcases hend with ⟨n, hne, hn, rfl⟩ | ⟨hbad, y, T, p, rfl⟩
        · have hn16 := pu_le _ _ _ (by omega) hn
          have HNN := Lib.hid hn
          have HG3 := Lib.hid (HG.out.below hb3)
          have hc3 := HG3.out.blk.cell (2 * k) (by rw [HG3.out.len]; omega)
          have hz3 := HG3.out.blk.frozen (2 * k) (by rw [HG3.out.len]; omega)
          have hc4 := HG3.out.blk.cell (2 * k + 1) (by rw [HG3.out.len]; omega)
          have hz4 := HG3.out.blk.frozen (2 * k + 1) (by rw [HG3.out.len]; omega)
          generalize ((bs[2 * k]'(by rw [HG3.out.len]; omega)).toNat : Int) = old at hc3
          generalize ((bs[2 * k + 1]'(by rw [HG3.out.len]; omega)).toNat : Int) = old2 at hc4
          clear hb3 hc hn hne
          go_wp2_with fail
          refine ⟨⟨k + 1, _, rfl, by omega, Lib.hid (HG3.out.next hlt n (HNX.out n HNN.out) _ _ ?_ ?_)⟩, by simp [intOf]; omega⟩
          · rw [UInt8.toNat_ofNat']
            congr 1
            omega
          · rw [UInt8.toNat_ofNat']
            congr 1
        · have HNN := Lib.hid hbad
          clear hbad
          have HB3 := Lib.hid ((HG.out.bel.mono hNle).trans (hb3.mono (by have := HG.out.bel.size; omega)))
          clear hb3
          go_wp2_with fail
          go_ret
          refine ⟨⟨#[]⟩, rfl, HB3.out, by show 0 ≤ 16; omega, fun a ha => ?_⟩
          obtain ⟨n, hn, he⟩ := HK.out a ha.1 ha.2
          have h2 := HNN.out
          rw [he, pu_digs n hn] at h2
          rcases h2 with h2 | h2
          · exact absurd h2 digs_ne
          · cases h2
      · obtain rfl : k = 8 := by omega
        have hcv := HG.out.blk.text (n := 16) (cap := 16) HG.out.len.symm
        go_wp2_with fail
        go_ret
        refine ⟨⟨bs.toArray⟩, rfl, HG.out.bel.mono hNle, by rw [list_size, HG.out.len]; omega, fun a ha => ?_⟩
        have hl8 := HL.out
        rw [ha.2, w16_text16 a ha.1] at hl8
        obtain ⟨n1, n2, n3⟩ := nums_len a ha.1
        show bs = a
        have hat : ∀ j, j < 8 → bs[2 * j]? = a[2 * j]? ∧ bs[2 * j + 1]? = a[2 * j + 1]? := by
          intro j hj
          obtain ⟨n, h1, h2, h3⟩ := HG.out.told j hj (by have := HLc.out; omega)
          obtain ⟨hja, he⟩ := words16_at hl8 (show j < l.length by have := HLc.out; omega)
          rw [he, pu_digs _ (n3 _ (List.getElem_mem hja))] at h1
          obtain rfl := Option.some.inj h1
          have hna := nums_at a j (by rw [ha.1]; omega)
          rw [List.getElem?_eq_getElem hja] at hna
          have hnv := Option.some.inj hna
          have hx := (a[2 * j]'(by rw [ha.1]; omega)).toNat_lt
          have hy := (a[2 * j + 1]'(by rw [ha.1]; omega)).toNat_lt
          rw [h2, h3, hnv, List.getElem?_eq_getElem (show 2 * j < a.length by rw [ha.1]; omega), List.getElem?_eq_getElem (show 2 * j + 1 < a.length by rw [ha.1]; omega)]
          generalize a[2 * j]'(by rw [ha.1]; omega) = p at *
          generalize a[2 * j + 1]'(by rw [ha.1]; omega) = q at *
          refine ⟨congrArg some ?_, congrArg some ?_⟩
          · rw [show (p.toNat * 256 + q.toNat) / 256 = p.toNat by omega, UInt8.ofNat_toNat]
          · apply UInt8.toNat_inj.1
            rw [UInt8.toNat_ofNat']
            omega
        apply List.ext_getElem?
        intro j
        by_cases hj : j < 16
        · have := hat (j / 2) (by omega)
          by_cases hp : j % 2 = 0
          · rw [show j = 2 * (j / 2) by omega]; exact this.1
          · rw [show j = 2 * (j / 2) + 1 by omega]; exact this.2
        · rw [List.getElem?_eq_none (by rw [HG.out.len]; omega), List.getElem?_eq_none (by rw [ha.1]; omega)]
  · have hb := hwd.bel
    have hs0 := hbel0.size
    obtain ⟨a, c, rfl⟩ := hwd.form
    have t1 : ((l.length : Int) != 8) = true := by simp; omega
    have HB := Lib.hid ((hbel0.mono hNle).trans (hb.mono hs0))
    have H8 := Lib.hid h8
    clear hwd hb hl h8 hbel0 hB0
    go_wp2_with fail
    go_ret
    refine ⟨⟨#[]⟩, rfl, HB.out, by show 0 ≤ 16; omega, fun a ha => ?_⟩
    have hl8 := HL.out
    rw [ha.2, w16_text16 a ha.1] at hl8
    have := congrArg List.length hl8
    simp [lists, hexs, (nums_len a ha.1).1] at this
    exact absurd this H8.out

end Go.Proofs.YtpappmbnblaccaaDoor
