/-
  textOf16: the text of sixteen bytes.
-/
import Derived.Test.YtpappmbnblaccaaDoorAddrLeft
import Derived.Test.YtpappmbnblaccaaDoorAddrPrint4
import Derived.Test.YtpappmbnblaccaaDoorHexWrite
import Derived.OwnWalk
import Derived.Deep.RegionHeld3
namespace Go.Proofs.YtpappmbnblaccaaDoor
open Go.RowKit
set_option linter.unusedVariables false

/-- Where the numbers and the words of sixteen bytes stand, so many of them written. -/
structure Tx16 (w W : World) (N : Nat) (ns : List Nat) (k : Nat) (m : List Nat) (l : List ByteArray) : Prop where
  nrow : Blk W N (cells8 m) 72
  mlen : m.length = 8
  mtold : ∀ j, j < k → m[j]? = ns[j]?
  row : SRow W (N + 1) l 73
  len : l.length = 8
  told : ∀ j, (h : j < k) → (h8 : j < ns.length) → l[j]? = some ⟨(digs 16 (ns[j]'h8)).toArray⟩
  bel : Below N w W

theorem tx16_start (w : World) (ns : List Nat) : Tx16 w ((w.alloc (.cells (cells8 (List.replicate 8 0)) 72)).alloc (.cells ((List.replicate 8 (⟨#[]⟩ : ByteArray)).map Value.string).toArray 73)) w.heap.size ns 0 (List.replicate 8 0) (List.replicate 8 ⟨#[]⟩) := by
  have h1 : Below w.heap.size w (w.alloc (.cells (cells8 (List.replicate 8 0)) 72)) := (Below.refl _ _).alloc (Nat.le_refl _) _
  refine ⟨(Blk.new w _ _).alloc _, rfl, fun j h => absurd h (by omega), ?_, rfl, fun j h => absurd h (by omega), h1.alloc (by simp) _⟩
  have := Blk.new (w.alloc (.cells (cells8 (List.replicate 8 0)) 72)) ((List.replicate 8 (⟨#[]⟩ : ByteArray)).map Value.string).toArray 73
  rw [show (w.alloc (.cells (cells8 (List.replicate 8 0)) 72)).heap.size = w.heap.size + 1 by simp] at this
  exact this

theorem Tx16.drew {w W : World} {N : Nat} {ns : List Nat} {k : Nat} {m : List Nat} {l : List ByteArray} (h : Tx16 w W N ns k m l) : Tx16 w W.drew N ns k m l :=
  ⟨Blk.drew h.nrow, h.mlen, h.mtold, Blk.drew h.row, h.len, h.told, h.bel.drew⟩
theorem keepB17 {w W W' : World} (hb : Below W.heap.size W W') (r : Hid (Below w.heap.size w W)) : Hid (Below w.heap.size w W') := Lib.hid (r.out.trans (hb.mono r.out.size))
theorem Tryd.infoS17 : (Tryd.prog.info? 9).map (fun i => (i.zero, i.size, i.bytes)) = some (some (.string ⟨#[]⟩), 1, 16) := by kernel_rfl
/-- Words out of a row, joined. -/
theorem join_row (W : World) (N : Nat) (l : List ByteArray) (T : TypeId) (hr : SRow W N l T) (i n c : Nat) (h : i + n ≤ l.length) (hc : n ≤ c) (h100 : l.length ≤ 100) (hx : ∀ x ∈ l, x.size ≤ 100) :
    Calls Tryd.prog 17 #[.slice (some ⟨N, i, none⟩) n c, .string ⟨#[58]⟩] W (Tells (.string ⟨(jn 58 (((l.map (·.data.toList)).drop i).take n)).toArray⟩) W) := by
  have e : ((l.map (·.data.toList)).drop i).take n = ((l.drop i).take n).map (·.data.toList) := by rw [List.map_take, List.map_drop]
  have hlen : ((l.drop i).take n).length = n := by simp; omega
  have hj : Lib.join (((l.drop i).take n).map (·.data.toList)) (⟨#[58]⟩ : ByteArray).data.toList = jn 58 (((l.map (·.data.toList)).drop i).take n) := by rw [e]; exact jn_eq 58 _
  have hb := jn_len 58 100 (((l.drop i).take n).map (·.data.toList)) (by
    intro x hx1
    obtain ⟨y, hy, rfl⟩ := List.mem_map.1 hx1
    have := hx y (List.mem_of_mem_drop (List.mem_of_mem_take hy))
    rw [Array.length_toList]
    exact this)
  rw [List.length_map, hlen] at hb
  have J := join_any N i c ((l.drop i).take n) ⟨#[58]⟩ W (fun j x hj1 => by
    have hjn : j < n := by have := (List.getElem?_eq_some_iff.1 hj1).1; omega
    rw [List.getElem?_take_of_lt hjn, List.getElem?_drop] at hj1
    exact hr.get (i + j) hj1) (Blk.lt hr) (by omega) (by omega) (by rw [hj, e]; omega)
  rw [hj, hlen] at J
  exact J
/-- The words from a place on, wherever an empty slice of them lies. -/
theorem join_from (W : World) (N : Nat) (l : List ByteArray) (T : TypeId) (hr : SRow W N l T) (a : Addr) (t : Nat) (ht : t ≤ l.length) (ha : t < l.length → a = ⟨N, t, none⟩) (h100 : l.length ≤ 100) (hx : ∀ x ∈ l, x.size ≤ 100) :
    Calls Tryd.prog 17 #[.slice (some a) (l.length - t) (l.length - t), .string ⟨#[58]⟩] W (Tells (.string ⟨(jn 58 ((l.map (·.data.toList)).drop t)).toArray⟩) W) := by
  by_cases h : t < l.length
  · rw [ha h]
    have := join_row W N l T hr t (l.length - t) (l.length - t) (by omega) (Nat.le_refl _) h100 hx
    rw [List.take_of_length_le (by simp)] at this
    exact this
  · have e : l.length - t = 0 := by omega
    rw [e, List.drop_eq_nil_of_le (by simp; omega)]
    exact (Tryd.strings_Join_none (some a) 0 ⟨#[58]⟩ W).mono fun e w' ⟨h1, h2⟩ => ⟨h1, h2 ▸ Below.refl _ _⟩
theorem u64_or8 (x y : Nat) (hx : x < 256) (hy : y < 256) : bits .or .u64 ((x : Int) * 256) (y : Int) = ((x * 256 + y : Nat) : Int) := by
  have h1 : (BitVec.ofInt 64 ((x : Int) * 256)) = BitVec.ofNat 64 (x * 256) := by rw [← BitVec.ofInt_natCast]; congr 1
  have h2 : (BitVec.ofInt 64 (y : Int)) = BitVec.ofNat 64 y := by rw [BitVec.ofInt_natCast]
  show IntKind.u64.wrap ((BitVec.ofInt 64 ((x : Int) * 256) ||| BitVec.ofInt 64 (y : Int)).toNat : Nat) = _
  rw [h1, h2, BitVec.toNat_or, BitVec.toNat_ofNat, BitVec.toNat_ofNat]
  have e1 : x * 256 % 2 ^ 64 = x <<< 8 := by rw [Nat.shiftLeft_eq]; omega
  have e2 : y % 2 ^ 64 = y := by omega
  rw [e1, e2, ← Nat.shiftLeft_add_eq_or_of_lt (i := 8) hy, Nat.shiftLeft_eq, IntKind.wrap_u64]
  omega
theorem Tx16.put {w W : World} {N : Nat} {ns : List Nat} {k : Nat} {m : List Nat} {l : List ByteArray} (h : Tx16 w W N ns k m l) (hk : k < 8) (v : Nat) (x : Value) (hx : x = .int .u64 (v : Int)) :
    Tx16 w (W.setCell ⟨N, k, none⟩ x) N ns k (m.set k v) l := by
  subst hx
  refine ⟨?_, by simp [h.mlen], fun j hj => ?_, Blk.set_other h.row (by simp) _, h.len, h.told, h.bel.setCell (Nat.le_refl _) _⟩
  · have := Blk.set h.nrow k (.int .u64 (v : Int))
    unfold cells8
    rw [List.map_set, ← List.setIfInBounds_toArray]
    exact this
  · rw [List.getElem?_set_ne (by omega)]
    exact h.mtold j hj
theorem Tx16.next {w W W' : World} {N : Nat} {ns : List Nat} {k : Nat} {m : List Nat} {l : List ByteArray} (h : Tx16 w W N ns k m l) (hk : k < 8) {v : Nat} (hm : m[k]? = some v) (hv : ns[k]? = some v) (hb : Below W.heap.size W W') (x : ByteArray) (hx : x = ⟨(digs 16 v).toArray⟩) :
    Tx16 w (W'.setCell ⟨N + 1, k, none⟩ (.string x)) N ns (k + 1) m (l.set k x) := by
  have hN : N + 1 < W.heap.size := Blk.lt h.row
  refine ⟨Blk.set_other ((hb.block N (by omega)).trans h.nrow) (by simp) _, h.mlen, fun j hj => ?_, (h.row.below hb).set k x, by simp [h.len], fun j hj h8 => ?_, (h.bel.trans (hb.mono (by omega))).setCell (by simp) _⟩
  · by_cases e : j = k
    · subst e; rw [hm, hv]
    · exact h.mtold j (by omega)
  · by_cases e : j = k
    · subst e
      rw [List.getElem?_set_self (by rw [h.len]; exact hk), hx]
      rw [List.getElem?_eq_getElem h8] at hv
      rw [Option.some.inj hv]
    · rw [List.getElem?_set_ne (Ne.symm e)]
      exact h.told j (by omega) h8

set_option maxRecDepth 100000 in
theorem text16_any (a : ByteArray) (ha : a.size = 16) (w : World) (hg : G17 w) : Calls Tryd.prog 30 #[.string a] w (Tells (.string ⟨(text16 a.data.toList).toArray⟩) w) := by
  have H0 := Lib.hid (tx16_start w (nums a.data.toList))
  obtain ⟨hn8, hun, h16⟩ := nums_len a.data.toList (by rw [Array.length_toList]; exact ha)
  have hat : ∀ k, (h : k < 8) → (nums a.data.toList)[k]? = some ((a[2 * k]'(by omega)).toNat * 256 + (a[2 * k + 1]'(by omega)).toNat) := fun k h =>
    nums_at a.data.toList k (by rw [Array.length_toList]; show _ < a.size; omega)
  have HAT := Lib.hid hat
  clear hat
  have ht : text16 a.data.toList = text8 (nums a.data.toList) (left0 (nums a.data.toList) 8).1 (left0 (nums a.data.toList) 8).2 := rfl
  have hlen := text_len (a := a.data.toList) (Or.inr (by rw [Array.length_toList]; exact ha))
  rw [text_16 (by rw [Array.length_toList]; exact ha)] at hlen
  rw [ht] at hlen ⊢
  clear ht hun
  generalize nums a.data.toList = ns at *
  generalize hN : w.heap.size = N at *
  go_enter Tryd.func30, Tryd.ntmps30
  go_wp2_with fail
  have hNle : w.heap.size ≤ N := Nat.le_of_eq hN
  have hW : (w.alloc (.cells #[.int .u64 0, .int .u64 0, .int .u64 0, .int .u64 0, .int .u64 0, .int .u64 0, .int .u64 0, .int .u64 0] 72)).alloc (.cells #[.string ⟨#[]⟩, .string ⟨#[]⟩, .string ⟨#[]⟩, .string ⟨#[]⟩, .string ⟨#[]⟩, .string ⟨#[]⟩, .string ⟨#[]⟩, .string ⟨#[]⟩] 73) =
    (w.alloc (.cells (cells8 (List.replicate 8 0)) 72)).alloc (.cells ((List.replicate 8 (⟨#[]⟩ : ByteArray)).map Value.string).toArray 73) := rfl
  rw [hW]
  generalize (w.alloc (.cells (cells8 (List.replicate 8 0)) 72)).alloc (.cells ((List.replicate 8 (⟨#[]⟩ : ByteArray)).map Value.string).toArray 73) = W at *
  clear hW hN
  go_loopw [8] (fun si wr => ∃ (k : Nat) (m : List Nat) (l : List ByteArray), si = .int .i64 (k : Int) ∧ k ≤ 8 ∧ Hid (Tx16 w wr N ns k m l)) (fun si _ => 8 - (intOf si).toNat)
  case atStart => exact ⟨0, _, _, rfl, by omega, H0⟩
  case round =>
    obtain ⟨k, m, l, rfl, hk, HT⟩ := hrel
    have hgr := hg.on (HT.out.bel.mono hNle)
    have hlen8 := HT.out.len
    have hN0 : N + 1 < wr.heap.size := Blk.lt HT.out.row
    by_cases hlt : k < 8
    · have hka : 2 * k + 1 < a.size := by omega
      have hk1 := HAT.out k hlt
      have hx := (a[2 * k]'(by omega)).toNat_lt
      have hy := (a[2 * k + 1]'hka).toNat_lt
      have hmc := (HT.out.nrow.cell k).trans (cells8_get m k (by rw [HT.out.mlen]; omega))
      have hmz := HT.out.nrow.frozen k
      generalize ((m[k]'(by rw [HT.out.mlen]; omega) : Nat) : Int) = old at hmc
      have hi1 : ∀ W, (Instr.index 9 (.string a) (.int .i64 (2 * (k : Int)))).run Tryd.prog W = .ok (.int .u8 ((a[2 * k]'(by omega)).toNat : Int)) W := fun W => by
        rw [run_index_string W 9 a .i64 _ Tryd.underlying9, dif_pos ⟨by omega, by omega⟩]
        simp only [show (2 * (k : Int)).toNat = 2 * k by omega]
      have hi2 : ∀ W, (Instr.index 9 (.string a) (.int .i64 (2 * (k : Int) + 1))).run Tryd.prog W = .ok (.int .u8 ((a[2 * k + 1]'hka).toNat : Int)) W := fun W => by
        rw [run_index_string W 9 a .i64 _ Tryd.underlying9, dif_pos ⟨by omega, by omega⟩]
        simp only [show (2 * (k : Int) + 1).toNat = 2 * k + 1 by omega]
      generalize (a[2 * k]'(by omega)).toNat = x at *
      generalize (a[2 * k + 1]'hka).toNat = y at *
      go_wp2_with fail
      go_region
      have hor := u64_or8 x y hx hy
      rw [hor]
      generalize hv : x * 256 + y = v at *
      have hv16 : v ≤ 65535 := by omega
      have HP := Lib.hid (HT.out.put hlt v _ rfl).drew
      generalize hW2 : (wr.setCell ⟨N, k, none⟩ (.int .u64 (v : Int))).drew = W2 at *
      have hg2 := hg.on (HP.out.bel.mono hNle)
      have hc2 : W2.cell? ⟨N, k, none⟩ = some (.int .u64 (v : Int)) := by
        rw [HP.out.nrow.cell k, cells8_get _ k (by simp [HT.out.mlen]; omega)]
        simp
      have HM : Hid ((m.set k v)[k]? = some v) := Lib.hid (List.getElem?_set_self (by rw [HT.out.mlen]; exact hlt))
      clear hor hmc hmz hi1 hi2 hW2 hv
      go_wp2_with fail
      refine (hex_any v hv16 _ hg2).mono ?_
      rintro e w1 ⟨rfl, hb1⟩
      have hc := (HP.out.row.below hb1).cell k (by omega)
      have hz := Blk.frozen (HP.out.row.below hb1) k
      have HN := Lib.hid (HP.out.next hlt HM.out hk1 hb1 _ rfl)
      generalize (l[k]'(by omega)) = old2 at hc
      clear hb1 hc2
      go_wp2_with fail
      exact ⟨⟨k + 1, _, _, rfl, by omega, HN⟩, by simp [intOf]; omega⟩
    · obtain rfl : k = 8 := by omega
      have hmn : m = ns := List.ext_getElem? fun j => by
        by_cases hj : j < 8
        · exact HT.out.mtold j hj
        · rw [List.getElem?_eq_none (by rw [HT.out.mlen]; omega), List.getElem?_eq_none (by omega)]
      have hl : l.map (·.data.toList) = hexs ns := by
        apply List.ext_getElem?
        intro j
        by_cases hj : j < 8
        · have := HT.out.told j hj (by omega)
          rw [List.getElem?_map, this, hexs, List.getElem?_map, List.getElem?_eq_getElem (by omega)]
          rfl
        · rw [List.getElem?_eq_none (by simp; omega), List.getElem?_eq_none (by simp [hexs]; omega)]
      have hb := Lib.hid (hmn ▸ HT.out.nrow)
      have hinfo : (Tryd.prog.info? 72).map (·.size) = some (cells8 ns).size := by
        have h8 : (Tryd.prog.info? 72).map (·.size) = some 8 := by kernel_rfl
        have : (cells8 ns).size = 8 := by simp [cells8, hn8]
        rw [this]
        exact h8
      have hgp := gap_of ns hn8
      have HL := left_any ns hn8 h16 wr
      generalize (left0 ns 8).1 = f at *
      generalize (left0 ns 8).2 = t at *
      have hroom : f ≤ 8 ∧ t ≤ 8 ∨ f = t := by have := hgp.room; omega
      go_wp2_with (refine wpList_load_row rfl 72 (.tmp 3) rfl N rfl 72 (cells8 ns) (0, 0) _ hb.out Tryd.underlying72 rfl hinfo ?_)
      refine HL.mono ?_
      rintro e w1 ⟨rfl, hb1⟩
      have hsz : ∀ x ∈ l, x.size ≤ 100 := by
        intro x hx
        have : x.data.toList ∈ l.map (·.data.toList) := List.mem_map_of_mem hx
        rw [hl] at this
        have := hexs_len ns h16 _ this
        rw [Array.length_toList] at this
        show x.data.size ≤ 100
        omega
      have HR := Lib.hid (HT.out.row.below hb1)
      have HB1 := Lib.hid ((HT.out.bel.mono hNle).trans (hb1.mono (by have := HT.out.bel.size; omega)))
      by_cases hft : f = t
      · subst hft
        have HT8 : Hid (Value.string ⟨(text8 ns f f).toArray⟩ = Value.string ⟨(jn 58 (hexs ns)).toArray⟩) := Lib.hid (by unfold text8; rw [if_pos rfl])
        have J := join_row w1 (N + 1) l _ HR.out 0 8 8 (by omega) (Nat.le_refl _) (by omega) hsz
        rw [List.drop_zero, hl, List.take_of_length_le (by simp [hexs]; omega)] at J
        clear hb1 hlen
        go_wp2_with fail
        refine J.mono ?_
        rintro e w2 ⟨rfl, hb2⟩
        go_wp2_with fail
        go_ret
        exact ⟨HT8.out.symm ▸ rfl, HB1.out.trans (hb2.mono HB1.out.size)⟩
      · have hr2 := hgp.room
        have ht8 : text8 ns f t = jn 58 (hexs (ns.take f)) ++ [58, 58] ++ jn 58 (hexs (ns.drop t)) := by unfold text8; rw [if_neg hft]
        have hal : Tryd.prog.arrayLen 73 = 8 := by kernel_rfl
        have hue : Tryd.prog.underlying 73 = some (.array (Tryd.prog.arrayLen 73) (Tryd.prog.elem 73)) := by simp [Program.arrayLen, Program.elem, Tryd.underlying73]
        obtain ⟨A, hA, hsl⟩ : ∃ A : Addr, (t < 8 → A = ⟨N + 1, t, none⟩) ∧ ∀ W, (Instr.sliceAt 73 (.pointer (some ⟨N + 1, 0, none⟩)) (some (.int .i64 (t : Int))) none none).run Tryd.prog W = .ok (.slice (some A) (8 - t) (8 - t)) W := by
          have hel : Tryd.prog.elem 73 = 9 := by kernel_rfl
          have hsz1 : ∀ W, (sizeOf 9).run Tryd.prog W = .ok 1 W := fun W => by
            obtain ⟨i, hi, hz⟩ := Option.map_eq_some_iff.1 Tryd.infoS17
            simp only [Prod.mk.injEq] at hz
            simp [sizeOf, typeInfo, hi, hz.2.1]
          refine ⟨if 8 = t then ⟨N + 1, 0, none⟩ else ⟨N + 1, t, none⟩, fun h => if_neg (by omega), fun W => ?_⟩
          rw [run_sliceAt_array_l W 73 ⟨N + 1, 0, none⟩ hue .i64 (t : Int) (by omega) (by rw [hal]; omega), hal, hel, hsz1]
          simp only [Result.andThen_ok, slicedAt, Int.toNat_natCast]
          have e : (⟨N + 1, 0, none⟩ : Addr).add (t * 1) = ⟨N + 1, t, none⟩ := by rw [addr_add, Nat.mul_one]
          rw [e]
        have hsf : ∀ W, (Instr.sliceAt 73 (.pointer (some ⟨N + 1, 0, none⟩)) none (some (.int .i64 (f : Int))) none).run Tryd.prog W = .ok (.slice (some ⟨N + 1, 0, none⟩) f 8) W := fun W => by
          have hel : Tryd.prog.elem 73 = 9 := by kernel_rfl
          have hsz1 : ∀ W, (sizeOf 9).run Tryd.prog W = .ok 1 W := fun W => by
            obtain ⟨i, hi, hz⟩ := Option.map_eq_some_iff.1 Tryd.infoS17
            simp only [Prod.mk.injEq] at hz
            simp [sizeOf, typeInfo, hi, hz.2.1]
          rw [run_sliceAt_array_h W 73 ⟨N + 1, 0, none⟩ hue .i64 (f : Int) (by omega) (by rw [hal]; omega), hal, hel, hsz1]
          simp [slicedAt, addr_add]
        have J1 : Hid (∀ W, Hid (Below w1.heap.size w1 W) → Calls Tryd.prog 17 #[.slice (some ⟨N + 1, 0, none⟩) f 8, .string ⟨#[58]⟩] W (Tells (.string ⟨(jn 58 (hexs (ns.take f))).toArray⟩) W)) := Lib.hid fun W hW => by
          have := join_row W (N + 1) l _ (HR.out.below hW.out) 0 f 8 (by omega) (by omega) (by omega) hsz
          rw [List.drop_zero, hl, hexs, ← List.map_take] at this
          exact this
        have J2 : Hid (∀ W, Hid (Below w1.heap.size w1 W) → Calls Tryd.prog 17 #[.slice (some A) (8 - t) (8 - t), .string ⟨#[58]⟩] W (Tells (.string ⟨(jn 58 (hexs (ns.drop t))).toArray⟩) W)) := Lib.hid fun W hW => by
          have := join_from W (N + 1) l _ (HR.out.below hW.out) A t (by omega) (fun h => hA (by omega)) (by omega) hsz
          rw [hl, hlen8, hexs, ← List.map_drop] at this
          exact this
        have hx12 : (jn 58 (hexs (ns.take f))).length + 2 + (jn 58 (hexs (ns.drop t))).length ≤ 40 := by rw [ht8] at hlen; simp at hlen; omega
        have HT8 : Hid (Value.string ⟨(text8 ns f t).toArray⟩ = Value.string ((⟨(jn 58 (hexs (ns.take f))).toArray⟩ : ByteArray) ++ ⟨#[58, 58]⟩ ++ ⟨(jn 58 (hexs (ns.drop t))).toArray⟩)) := Lib.hid (by
          congr 1
          apply text_ext
          rw [ht8, cat_list, cat_list])
        obtain ⟨X1, hX1⟩ : ∃ X1 : ByteArray, X1 = ⟨(jn 58 (hexs (ns.take f))).toArray⟩ := ⟨_, rfl⟩
        obtain ⟨X2, hX2⟩ : ∃ X2 : ByteArray, X2 = ⟨(jn 58 (hexs (ns.drop t))).toArray⟩ := ⟨_, rfl⟩
        rw [← hX1] at J1 HT8
        rw [← hX2] at J2 HT8
        have z1 : X1.size + 2 + X2.size ≤ 40 := by rw [hX1, hX2, list_size, list_size]; exact hx12
        have a1 : ¬ (9223372036854775807 < X1.size + 2) := by omega
        have a2 : ¬ (9223372036854775807 < X1.size + 2 + X2.size) := by omega
        clear hb1 hlen hA ht8 HL hgp hroom hx12 hX1 hX2
        go_wp2_with fail
        go_region_held3 (fun W => Hid (Below w1.heap.size w1 W))
          (first | exact Lib.hid (below_drewN (Below.refl w1.heap.size w1) 1) | exact keepB17 (by assumption) (by assumption))
          (first
            | (go_at_call 17; ((with_reducible refine (J1.out _ (by assumption)).mono ?_); rintro e w' ⟨rfl, hb⟩))
            | (go_at_call 17; ((with_reducible refine (J2.out _ (by assumption)).mono ?_); rintro e w' ⟨rfl, hb⟩)))
        rename_i held
        go_wp2_with fail
        go_ret
        exact ⟨HT8.out.symm ▸ rfl, HB1.out.trans (held.out.mono HB1.out.size)⟩

end Go.Proofs.YtpappmbnblaccaaDoor
