/-
  The writer: numbers and texts, appended to what it holds.
-/
import Derived.Test.YtoijomdgcgbpbaaGround
import Derived.Deep.RegionHeld3
import Derived.Deep.RegionLaw
import Derived.Deep.AppendLies
import Derived.Lib.AppendStr
namespace Go.Proofs.Ytoijomdgcgbpbaa
open Go.RowKit
set_option linter.unusedVariables false

theorem Try.infoW : (Try.prog.info? 5).map (fun i => (i.zero, i.size, i.bytes)) = some (some (.int .u8 0), 1, 1) := by kernel_rfl

/-- Bytes as cells. -/
def cellsOf (bs : List UInt8) : List Value := bs.map fun c => Value.int .u8 (c.toNat : Int)

/-- The writer's block: its one cell is a slice of bytes that is owned, and lies from base on. -/
structure Wr (w : World) (b base : Nat) (bs : List UInt8) : Prop where
  blk : ∃ v, Blk w b #[v] 141 ∧ w.ownsRow base 5 1 v bs.length (cellsOf bs)
  lt : b < base
  le : base ≤ w.heap.size

/-- The first i of them. -/
def beTo (n size i : Nat) : List UInt8 := (List.range i).map fun i => UInt8.ofNat (n / 256 ^ (size - 1 - i) % 256)
theorem beTo_succ (n size i : Nat) : beTo n size (i + 1) = beTo n size i ++ [UInt8.ofNat (n / 256 ^ (size - 1 - i) % 256)] := by
  simp [beTo, List.range_succ]
theorem beTo_all (n size : Nat) : beTo n size size = be n size := rfl
theorem beTo_length (n size i : Nat) : (beTo n size i).length = i := by simp [beTo]

theorem wrap_u8 (x : Nat) : IntKind.u8.wrap (x : Int) = ((x % 256 : Nat) : Int) := by
  have e : ((x : Int) % (2 ^ IntKind.u8.bits : Int)) = ((x % 256 : Nat) : Int) := by
    show (x : Int) % 256 = _
    omega
  simp [IntKind.wrap, e, IntKind.signed]
theorem byte_at (n size k : Nat) (hk : k < size) :
    IntKind.u8.wrap ((n : Int) / 2 ^ (8 * ((size : Int) - 1 - k)).toNat) = ((UInt8.ofNat (n / 256 ^ (size - 1 - k) % 256)).toNat : Int) := by
  have e1 : (8 * ((size : Int) - 1 - k)).toNat = 8 * (size - 1 - k) := by omega
  have e2 : ((n : Int) / 2 ^ (8 * (size - 1 - k))) = ((n / 256 ^ (size - 1 - k) : Nat) : Int) := by
    rw [Nat.pow_mul 2 8 (size - 1 - k) |> fun h => show (2 : Int) ^ (8 * (size - 1 - k)) = ((256 ^ (size - 1 - k) : Nat) : Int) from by
      rw [show (256 : Nat) = 2 ^ 8 from rfl, ← h]; norm_cast]
    norm_cast
  rw [e1, e2, wrap_u8]
  congr 1
  rw [UInt8.toNat_ofNat']
  omega
theorem cellsOf_snoc (bs : List UInt8) (c : UInt8) : cellsOf (bs ++ [c]) = cellsOf bs ++ [.int .u8 (c.toNat : Int)] := by simp [cellsOf]

/-- One byte more. -/
theorem Wr.step {w wr w1 : World} {b base g cap : Nat} {bs : List UInt8} {c : UInt8} {v x : Value} {o : Obj} (hw : Wr wr b base bs) (hv : Blk wr b #[v] 141) (hk : Kb (fun k => k = b ∨ base ≤ k) w wr) (hne : some b ≠ v.ownBlock)
    (hx : x = .slice (some ⟨g, 0, none⟩) (bs.length + 1) cap) (hsz : w.heap.size ≤ wr.heap.size) (hvo : ∀ k, v.ownBlock = some k → base ≤ k)
    (hown : w1.ownsRow base 5 1 x (bs.length + 1) (cellsOf bs ++ [.int .u8 (c.toNat : Int)])) (hg : ((wr.alloc o).drew).grownBy w1 v.ownBlock) :
    Wr (w1.setCell ⟨b, 0, none⟩ x) b base (bs ++ [c]) ∧ Kb (fun k => k = b ∨ base ≤ k) w (w1.setCell ⟨b, 0, none⟩ x) := by
  have hb : Blk w1 b #[v] 141 := (hg.block b (by have := hv.lt; simp; omega) hne).trans (hv.alloc o)
  have hle : wr.heap.size ≤ w1.heap.size := by have := hg.size; simp at this; omega
  refine ⟨⟨⟨x, by simpa using hb.set 0 x, ?_⟩, hw.lt, by have := hw.le; simp [World.setCell]; omega⟩, ?_⟩
  · rw [cellsOf_snoc, List.length_append, List.length_singleton]
    exact ownsRow_setCell_below hown (a := ⟨b, 0, none⟩) hw.lt x
  · refine Kb.setCell (S := fun k => k = b ∨ base ≤ k) (hk.trans ?_) (p := ⟨b, 0, none⟩) (fun _ => Or.inl rfl) _
    refine ⟨hg.os, hg.tape, hg.output, hle, fun k hk hs => ?_⟩
    rw [hg.block k (by simp; omega) (fun e => hs (Or.inr (hvo k e.symm)))]
    exact Below.heap_alloc wr o k hk

set_option maxRecDepth 100000 in
set_option maxHeartbeats 1000000 in
theorem wnumber_any (b base : Nat) (bs : List UInt8) (n size : Nat) (w : World) (hw : Wr w b base bs) (hn : n < 18446744073709551616) (hz : size ≤ 8) (hl : bs.length + size ≤ 140737488355328) :
    Calls Try.prog 97 #[.pointer (some ⟨b, 0, none⟩), .int .u64 n, .int .i64 size] w fun e w' => e = .returned (.tuple #[]) ∧ Wr w' b base (bs ++ be n size) ∧ Kb (fun k => k = b ∨ base ≤ k) w w' := by
  obtain ⟨i0, hi0, hz0, hz1, hz2⟩ := info_parts Try.infoW
  go_enter Try.func97, Try.ntmps97
  go_wp2_with fail
  go_loopw [8] (fun i wr => ∃ k : Nat, k ≤ size ∧ i = .int .i64 k ∧ Wr wr b base (bs ++ beTo n size k) ∧ Kb (fun k => k = b ∨ base ≤ k) w wr) (fun i _ => size - (intOf i).toNat)
  case atStart => exact ⟨0, Nat.zero_le _, rfl, by simpa [beTo] using hw, Kb.refl _ _⟩
  case round =>
    obtain ⟨k, hk, rfl, hwr, hkb⟩ := hrel
    by_cases hlt : k < size
    · obtain ⟨v, hv, hown⟩ := hwr.blk
      have cV := hv.cell 0
      have fV := hv.frozen 0
      simp at cV
      have e1 : IntKind.i64.wrap ((size : Int) - 1) = (size : Int) - 1 := IntWalk.i64_in _ (by omega)
      have e2 : IntKind.i64.wrap ((size : Int) - 1 - k) = (size : Int) - 1 - k := IntWalk.i64_in _ (by omega)
      have e3 : IntKind.i64.wrap (8 * ((size : Int) - 1 - k)) = 8 * ((size : Int) - 1 - k) := IntWalk.i64_in _ (by omega)
      have e4 : (0 : Int) ≤ 8 * ((size : Int) - 1 - k) := by omega
      have hne : some b ≠ v.ownBlock := fun e => by have h1 := (hown.lt b e.symm).1; have h2 := hwr.lt; omega
      have hvo : ∀ k, v.ownBlock = some k → base ≤ k := fun k e => (hown.lt k e).1
      have hvl := hv.lt
      have hle := hwr.le
      have hsz := hkb.size
      have hln : (bs ++ beTo n size k).length ≤ bs.length + k := by rw [List.length_append, beTo_length]; omega
      have HS := Lib.hid (beTo_succ n size k)
      have HB := Lib.hid (byte_at n size k hlt)
      generalize hcur : bs ++ beTo n size k = cur at *
      have HC := Lib.hid hcur
      have HW := Lib.hid hwr
      have HO := Lib.hid hown
      have HK := Lib.hid hkb
      have HV := Lib.hid hv
      have HN := Lib.hid hne
      have HVO := Lib.hid hvo
      clear hwr hown hkb hv hw hcur hne hvo
      go_wp2_with fail
      go_region_law ((refine step_append_lies _ (by rfl) _ _ _ (by rfl) base 5 i0 _ 1 1 Try.underlying57 hi0 hz0 hz1 hz2 rfl (by omega) v cur.length (cellsOf cur) (by rfl) ((HO.out.alloc _).drew) ⟨wr.heap.size, 0, none⟩ 1 1 [.int .u8 (IntKind.u8.wrap ((n : Int) / 2 ^ (8 * ((size : Int) - 1 - k)).toNat))] (by rfl) (by rfl) (World.news_of_block (cs := #[.int .u8 (IntKind.u8.wrap ((n : Int) / 2 ^ (8 * ((size : Int) - 1 - k)).toNat))]) (t := 5) (fr := (0, 0)) (heap_alloc_new wr _)) (by simp [Value.oneCell']) (by omega) (by unfold maxLen; omega) (by omega) (by simp; omega) (wr.heap.size + 1) (by simp) ?_; intro g cap w1 hown1 hgrow hat hlt1; have HG := Lib.hid hgrow; have HO1 := Lib.hid hown1; have cB := (hgrow.cell_far ⟨b, 0, none⟩ (by simp; omega) HN.out).trans ((HV.out.alloc _).cell 0); have fB := (hgrow.frozen_far ⟨b, 0, none⟩ (by simp; omega) HN.out).trans ((HV.out.alloc _).frozen 0); simp at cB; clear hgrow hown1))
      all_goals
        have HST := Lib.hid (Wr.step (c := UInt8.ofNat (n / 256 ^ (size - 1 - k) % 256)) HW.out HV.out HK.out HN.out rfl hsz HVO.out (by rw [← HB.out]; exact HO1.out) HG.out)
        clear e1 e2 e3 e4 cB fB cV fV HO1 HG HO
        go_wp2_with fail
        go_roundw
        case rel => exact ⟨k + 1, by omega, by go_num, by rw [HS.out, ← List.append_assoc, HC.out]; exact HST.out.1, HST.out.2⟩
        case measure => simp [intOf]; omega
    · have hkl := Lib.hid (show k = size by omega)
      have HW := Lib.hid hwr
      have HK := Lib.hid hkb
      clear hwr hkb hw
      go_wp2_with fail
      go_end0
      exact ⟨rfl, by have := hkl.out; subst this; exact HW.out, HK.out⟩


theorem own_slice {w : World} {base : Nat} {e : TypeId} {size : Nat} {v : Value} {n : Nat} {xs : List Value} (h : w.ownsRow base e size v n xs) : ∃ a m c, v = .slice a m c := by
  rcases h.2 with ⟨h, _⟩ | ⟨g, cap, cur, h, _⟩
  · exact ⟨_, _, _, h⟩
  · exact ⟨_, _, _, h⟩

/-- A text, written. -/
theorem Wr.text {w w1 : World} {b base : Nat} {bs : List UInt8} {s : ByteArray} {v x : Value} (hw : Wr w b base bs) (hv : Blk w b #[v] 141) (hne : some b ≠ v.ownBlock) (hvo : ∀ k, v.ownBlock = some k → base ≤ k)
    (hown : w1.ownsRow base 5 1 x (bs.length + s.size) (cellsOf bs ++ Lib.strCells s)) (hg : w.grownBy w1 v.ownBlock) :
    Wr (w1.setCell ⟨b, 0, none⟩ x) b base (bs ++ s.data.toList) ∧ Kb (fun k => k = b ∨ base ≤ k) w (w1.setCell ⟨b, 0, none⟩ x) := by
  have hb : Blk w1 b #[v] 141 := (hg.block b hv.lt hne).trans hv
  refine ⟨⟨⟨x, by simpa using hb.set 0 x, ?_⟩, hw.lt, by have h1 := hw.le; have h2 := hg.size; simp [World.setCell]; omega⟩, ?_⟩
  · have e : cellsOf (bs ++ s.data.toList) = cellsOf bs ++ Lib.strCells s := by simp [cellsOf, Lib.strCells]
    rw [e, List.length_append, show s.data.toList.length = s.size from by simp]
    exact ownsRow_setCell_below hown (a := ⟨b, 0, none⟩) hw.lt x
  · refine Kb.setCell (S := fun k => k = b ∨ base ≤ k) ?_ (p := ⟨b, 0, none⟩) (fun _ => Or.inl rfl) _
    exact ⟨hg.os, hg.tape, hg.output, hg.size, fun k hk hs => hg.block k hk (fun e => hs (Or.inr (hvo k e.symm)))⟩

set_option maxHeartbeats 1000000 in
theorem wtext_any (b base : Nat) (bs : List UInt8) (s : ByteArray) (w : World) (hw : Wr w b base bs) (hl : bs.length + s.size ≤ 140737488355328) :
    Calls Try.prog 91 #[.pointer (some ⟨b, 0, none⟩), .string s] w fun e w' => e = .returned (.tuple #[]) ∧ Wr w' b base (bs ++ s.data.toList) ∧ Kb (fun k => k = b ∨ base ≤ k) w w' := by
  obtain ⟨i0, hi0, hz0, hz1, hz2⟩ := info_parts Try.infoW
  obtain ⟨v, hv, hown⟩ := hw.blk
  have hne : some b ≠ v.ownBlock := fun e => by have h1 := (hown.lt b e.symm).1; have h2 := hw.lt; omega
  have hvo : ∀ k, v.ownBlock = some k → base ≤ k := fun k e => (hown.lt k e).1
  have cV := hv.cell 0
  have fV := hv.frozen 0
  simp at cV
  have hle := hw.le
  have hlb := hv.lt
  have HW := Lib.hid hw
  have HO := Lib.hid hown
  have HV := Lib.hid hv
  have HN := Lib.hid hne
  have HVO := Lib.hid hvo
  clear hw hown hv hne hvo
  go_enter Try.func91, Try.ntmps91
  go_wp2_with (at_builtin; refine Lib.wpList_append_own_string _ rfl _ _ 57 9 rfl base 5 i0 Try.underlying57 Try.underlying9 hi0 hz0 hz1 hz2 v bs.length (cellsOf bs) rfl HO.out s rfl (by unfold maxLen; omega) hl hle ?_; intro x w1 hown1 hgrow hnil; obtain ⟨xa, xn, xc, rfl⟩ := own_slice hown1; have HST := Lib.hid (Wr.text HW.out HV.out HN.out HVO.out hown1 hgrow); have cB := (hgrow.cell_far ⟨b, 0, none⟩ hlb HN.out).trans (HV.out.cell 0); have fB := (hgrow.frozen_far ⟨b, 0, none⟩ hlb HN.out).trans (HV.out.frozen 0); simp at cB; clear hown1 hgrow hnil)
  go_end0
  exact ⟨rfl, HST.out⟩

end Go.Proofs.Ytoijomdgcgbpbaa

/-
  The writer's numbers by their kinds; what any calls write.
-/
namespace Go.Proofs.Ytoijomdgcgbpbaa
open Go.RowKit
set_option linter.unusedVariables false

theorem wrap_u64_any (m : Int) : IntKind.u64.wrap m = m % 18446744073709551616 := by
  simp [IntKind.wrap, IntKind.signed, IntKind.bits]
theorem wrap_i64_any (m : Int) : IntKind.i64.wrap m = if 9223372036854775808 ≤ m % 18446744073709551616 then m % 18446744073709551616 - 18446744073709551616 else m % 18446744073709551616 := by
  simp [IntKind.wrap, IntKind.signed, IntKind.bits]
theorem wrap_back (n : Nat) (h : n < 18446744073709551616) : IntKind.u64.wrap (IntKind.i64.wrap (n : Int)) = n := by
  rw [wrap_u64_any, wrap_i64_any]
  split <;> omega
theorem wrap_u32w (n : Nat) : IntKind.u32.wrap (n : Int) = ((n % 4294967296 : Nat) : Int) := by
  simp [IntKind.wrap, IntKind.signed, IntKind.bits]

theorem be_mod (n size : Nat) : be (n % 256 ^ size) size = be n size := by
  unfold be
  apply List.map_congr_left
  intro i hi
  have hi' : i < size := List.mem_range.1 hi
  congr 1
  have e : 256 ^ size = 256 ^ (size - 1 - i) * (256 * 256 ^ i) := by
    rw [← Nat.pow_succ', ← Nat.pow_add]; congr 1; omega
  rw [e, Nat.mod_mul_right_div_self, Nat.mod_mul_right_mod]

set_option maxHeartbeats 400000 in
theorem wu8_any (b base : Nat) (bs : List UInt8) (m : Int) (n : Nat) (w : World) (hw : Wr w b base bs) (hm : IntKind.u64.wrap m = n) (hn : n < 18446744073709551616) (hl : bs.length + 8 ≤ 140737488355328) :
    Calls Try.prog 86 #[.pointer (some ⟨b, 0, none⟩), .int .i64 m] w fun e w' => e = .returned (.tuple #[]) ∧ Wr w' b base (bs ++ be n 1) ∧ Kb (fun k => k = b ∨ base ≤ k) w w' := by
  go_enter Try.func86, Try.ntmps86
  go_wp2_with fail
  refine (wnumber_any b base bs n 1 _ hw hn (by omega) (by omega)).mono ?_
  rintro e w' ⟨rfl, h1, h2⟩
  have H1 := Lib.hid h1
  have H2 := Lib.hid h2
  clear h1 h2
  go_wp2_with fail
  go_end0
  exact ⟨rfl, H1.out, H2.out⟩
set_option maxHeartbeats 400000 in
theorem wu16_any (b base : Nat) (bs : List UInt8) (m : Int) (n : Nat) (w : World) (hw : Wr w b base bs) (hm : IntKind.u64.wrap m = n) (hn : n < 18446744073709551616) (hl : bs.length + 8 ≤ 140737488355328) :
    Calls Try.prog 87 #[.pointer (some ⟨b, 0, none⟩), .int .i64 m] w fun e w' => e = .returned (.tuple #[]) ∧ Wr w' b base (bs ++ be n 2) ∧ Kb (fun k => k = b ∨ base ≤ k) w w' := by
  go_enter Try.func87, Try.ntmps87
  go_wp2_with fail
  refine (wnumber_any b base bs n 2 _ hw hn (by omega) (by omega)).mono ?_
  rintro e w' ⟨rfl, h1, h2⟩
  have H1 := Lib.hid h1
  have H2 := Lib.hid h2
  clear h1 h2
  go_wp2_with fail
  go_end0
  exact ⟨rfl, H1.out, H2.out⟩
theorem own_len {w : World} {base : Nat} {e : TypeId} {size : Nat} {v : Value} {n : Nat} {xs : List Value} (h : w.ownsRow base e size v n xs) : ∃ a c, v = .slice a n c := by
  rcases h.2 with ⟨h1, h0⟩ | ⟨g, cap, cur, h1, _⟩
  · subst h0; exact ⟨_, _, h1⟩
  · exact ⟨_, _, h1⟩


theorem row_conv {w : World} {base : Nat} {v : Value} {bs : List UInt8} (h : w.ownsRow base 5 1 v bs.length (cellsOf bs)) :
    (convert 57 9 v).run Try.prog w = .ok (.string ⟨bs.toArray⟩) w := by
  have hc := h.2
  rcases hc with ⟨rfl, h0⟩ | ⟨g, cap, cur, rfl, _⟩
  · rw [List.length_eq_zero_iff.1 h0]
    exact run_convert_bytes_nil w 57 5 Try.underlying57 Try.underlying5 0 0 9 Try.underlying9
  · refine run_convert_bytes_back w 57 9 5 ⟨g, 0, none⟩ cap bs Try.underlying57 Try.underlying5 Try.underlying9 fun j hj => ?_
    exact h.cells (g := g) rfl j _ (by simp [cellsOf, hj])

set_option maxHeartbeats 400000 in
theorem wstring_any (b base : Nat) (bs : List UInt8) (w : World) (hw : Wr w b base bs) :
    Calls Try.prog 90 #[.pointer (some ⟨b, 0, none⟩)] w fun e w' => e = .returned (.string ⟨bs.toArray⟩) ∧ w = w' := by
  obtain ⟨v, hv, hown⟩ := hw.blk
  have hcv := row_conv hown
  obtain ⟨va, vc, rfl⟩ := own_len hown
  have cV := hv.cell 0
  simp at cV
  clear hv hown hw
  go_enter Try.func90, Try.ntmps90
  go_wp2_with fail
  go_ret
  exact ⟨rfl, rfl⟩

end Go.Proofs.Ytoijomdgcgbpbaa
