/-
  The document's Get of a line.
-/
import Derived.Test.YtpappmbnblaccaaGreatDoorVonePlain
import Derived.Test.YtpappmbnblaccaaGreatDoorRef17Words
import Derived.Test.YtpappmbnblaccaaGreatDoorRef04ParseAny
import Derived.Deep.CutBlock
import Derived.Deep.DeepCutAuto
namespace Go.Proofs.YtpappmbnblaccaaGreatDoor
open Go.RowKit
set_option linter.unusedVariables false

/-- While it reads: the answer's block, the block of none. -/
structure Rg17 (w W : World) : Prop where
  a : Blk W w.heap.size S17.zero.cells 24
  z : Blk W (w.heap.size + 1) S17.zero.cells 24
  bel : Below w.heap.size w W
theorem Rg17.on {w W W' : World} (h : Rg17 w W) (hb : Below W.heap.size W W') : Rg17 w W' := ⟨h.a.on hb, h.z.on hb, h.bel.trans (hb.mono h.bel.size)⟩
theorem Rg17.new (w : World) : Rg17 w ((w.alloc (.cells S17.zero.cells 24)).alloc (.cells S17.zero.cells 24)) := by
  have e1 := Blk.new w S17.zero.cells 24
  have b1 : Below w.heap.size w (w.alloc (.cells S17.zero.cells 24)) := (Below.refl _ _).alloc (Nat.le_refl _) _
  have s1 : (w.alloc (.cells S17.zero.cells 24)).heap.size = w.heap.size + 1 := by simp
  generalize w.alloc (.cells S17.zero.cells 24) = w1 at *
  have e2 := Blk.new w1 S17.zero.cells 24
  rw [s1] at e2
  exact ⟨e1.alloc _, e2, b1.alloc (by omega) _⟩
theorem zero_cells : S17.zero.cells = #[.bool false, .int .i64 0, .string ⟨#[]⟩, .string ⟨#[]⟩, .int .i64 0, .int .i64 0, .slice none 0 0] := rfl

/-- A byte of a text, as the walk reads it. -/
theorem byte_at (s : ByteArray) (k : Nat) (hlt : k < s.size) (W : World) : (Instr.index 9 (.string s) (.int .i64 (k : Int))).run Tryz.prog W = .ok (.int .u8 ((s[k]'hlt).toNat : Int)) W := by
  rw [run_index_string W 9 s .i64 _ Tryz.underlying9, dif_pos ⟨by omega, by omega⟩]
  rfl

/-- The sign is right as far as it was read: to its end, or the text's. -/
theorem good_sign {b : ByteArray} {k : Nat} (h : b.data.toList.take k = pre17.take k) (hk : k = 6 ∨ k = b.size ∧ k ≤ 6) : b.data.toList.take 6 = pre17.take b.data.toList.length := by
  have e : b.data.toList.length = b.size := Array.length_toList
  rcases hk with rfl | ⟨rfl, hk⟩
  · have hl := congrArg List.length h
    rw [List.length_take, List.length_take, e] at hl
    have h6 : pre17.length = 6 := rfl
    rw [h, List.take_of_length_le (by omega), List.take_of_length_le (by rw [e]; omega)]
  · rw [e, ← h, List.take_of_length_le (by rw [e]; exact hk), List.take_of_length_le (by rw [e]; exact Nat.le_refl _)]
theorem bad_sign {b : ByteArray} {k : Nat} {x y : List UInt8} {c d : UInt8} (h1 : b.data.toList.take (k + 1) = x ++ [c]) (h2 : pre17.take (k + 1) = y ++ [d]) (hx : c ≠ d) (h6 : k ≤ 6) (hk6 : k < 6) (hlt : k < b.size) :
    getH17 b.data.toList = S17.zero ∧ getN17 b.data.toList = 0 ∧ getE17 b.data.toList = 13 := by
  have e0 : b.data.toList.length = b.size := Array.length_toList
  have hsg : b.data.toList.take 6 ≠ pre17.take b.data.toList.length := fun e => by
    have e2 := congrArg (List.take (k + 1)) e
    rw [List.take_take, List.take_take, Nat.min_eq_left (by omega), Nat.min_eq_left (by omega), h1, h2] at e2
    have := (List.append_inj' e2 rfl).2
    exact hx (List.cons.inj this).1
  have e : getE17 b.data.toList = 13 := by
    unfold getE17
    rw [if_pos hsg]
  unfold getH17 getN17
  rw [e]
  exact ⟨rfl, rfl, rfl⟩

/-- How far the document's Get reads for the end. -/
structure Nl17 (b : ByteArray) (n : Nat) : Prop where
  le : n ≤ b.size
  le2 : n ≤ 107
  no : ∀ j, j < n → b.data.toList[j]? ≠ some 10
  at_ : n = 107 ∨ n = b.size ∨ (n < 107 ∧ n < b.size ∧ b.data.toList[n]? = some 10)
theorem nlAt_none {b : ByteArray} {n : Nat} (h : Nl17 b n) (hn : n = 107 ∨ n = b.size) : nlAt b.data.toList = -1 := by
  have hge := nlAt_ge b.data.toList
  by_cases hneg : nlAt b.data.toList < 0
  · omega
  · exfalso
    obtain ⟨k, hk⟩ : ∃ k : Nat, nlAt b.data.toList = (k : Int) := ⟨(nlAt b.data.toList).toNat, by omega⟩
    have h2 := nlAt_is hk
    have hlt : k < b.data.toList.length := (List.getElem?_eq_some_iff.1 h2.2.1).1
    rw [Array.length_toList] at hlt
    have e : b.data.size = b.size := rfl
    exact h.no k (by omega) h2.2.1
theorem nlAt_some {b : ByteArray} {n : Nat} (h : Nl17 b n) (hn : n < 107 ∧ n < b.size ∧ b.data.toList[n]? = some 10) : nlAt b.data.toList = (n : Int) := by
  have hge := nlAt_ge b.data.toList
  by_cases hneg : nlAt b.data.toList < 0
  · exfalso
    have h1 := Lib.indexByte_none (show Lib.indexByte (b.data.toList.take 107) 10 = -1 by show nlAt _ = -1; omega) n
    rw [List.getElem?_take_of_lt hn.1] at h1
    exact h1 hn.2.2
  · obtain ⟨k, hk⟩ : ∃ k : Nat, nlAt b.data.toList = (k : Int) := ⟨(nlAt b.data.toList).toNat, by omega⟩
    have h2 := nlAt_is hk
    rcases Nat.lt_trichotomy k n with h3 | h3 | h3
    · exact absurd h2.2.1 (h.no k h3)
    · rw [hk, h3]
    · exact absurd hn.2.2 (h2.2.2 n h3)
theorem get_long {b : ByteArray} {n : Nat} (h : Nl17 b n) (hn : n = 107) (hs : b.data.toList.take 6 = pre17.take b.data.toList.length) : getH17 b.data.toList = S17.zero ∧ getN17 b.data.toList = 0 ∧ getE17 b.data.toList = 4 := by
  have h1 := nlAt_none h (Or.inl hn)
  have hle := h.le
  have e : getE17 b.data.toList = 4 := by
    unfold getE17
    rw [if_neg (fun x => x hs), if_pos (by omega), if_pos (by rw [Array.length_toList]; show 107 ≤ b.size; omega)]
  unfold getH17 getN17
  rw [e]
  exact ⟨rfl, rfl, rfl⟩
theorem get_more {b : ByteArray} {n : Nat} (h : Nl17 b n) (hn : n = b.size) (h7 : n ≠ 107) (hs : b.data.toList.take 6 = pre17.take b.data.toList.length) : getH17 b.data.toList = S17.zero ∧ getN17 b.data.toList = 0 ∧ getE17 b.data.toList = 10 := by
  have h1 := nlAt_none h (Or.inr hn)
  have hle := h.le2
  have e : getE17 b.data.toList = 10 := by
    unfold getE17
    rw [if_neg (fun x => x hs), if_pos (by omega), if_neg (by rw [Array.length_toList]; show ¬ 107 ≤ b.size; omega)]
  unfold getH17 getN17
  rw [e]
  exact ⟨rfl, rfl, rfl⟩
/-- A line's end is there: all hangs on what stands ahead. -/
theorem get_line {b : ByteArray} {n : Nat} (h : nlAt b.data.toList = (n : Int)) (hs : b.data.toList.take 6 = pre17.take b.data.toList.length) (o : Option S17) (ho : lineS ((b.data.toList.take (n + 1)).drop 6) = o) :
    getH17 b.data.toList = hdr o ∧ getN17 b.data.toList = (if o.isSome then n + 1 else 0) ∧ getE17 b.data.toList = (if o.isSome then 0 else 9) := by
  have e : getE17 b.data.toList = if o.isSome then 0 else 9 := by
    unfold getE17
    rw [if_neg (fun x => x hs), if_neg (by omega), h]
    show (match lineS ((b.data.toList.take (n + 1)).drop 6) with | some _ => (0 : Int) | none => 9) = _
    rw [ho]
    cases o <;> rfl
  unfold getH17 getN17
  rw [e, h]
  cases o with
  | none => exact ⟨rfl, rfl, rfl⟩
  | some H => exact ⟨by show (lineS ((b.data.toList.take (n + 1)).drop 6)).getD S17.zero = _; rw [ho]; rfl, rfl, rfl⟩

/-- What stands behind the sign, up to the end: its last two bytes. -/
theorem line_back {b : List UInt8} {m : Nat} (h6 : 6 ≤ m) (hl : m + 1 < b.length) : ((b.take (m + 1 + 1)).drop 6).length = m - 4 ∧ ((b.take (m + 1 + 1)).drop 6).drop (m - 4 - 2) = [b[m]'(by omega), b[m + 1]'hl] ∧ ((b.take (m + 1 + 1)).drop 6).take (m - 4 - 2) = (b.take m).drop 6 := by
  have hlen : ((b.take (m + 1 + 1)).drop 6).length = m - 4 := by rw [List.length_drop, List.length_take]; omega
  have e1 : b.take (m + 1 + 1) = b.take m ++ [b[m]'(by omega), b[m + 1]'hl] := by
    rw [List.take_succ_eq_append_getElem hl, List.take_succ_eq_append_getElem (show m < b.length by omega), List.append_assoc]
    rfl
  have hlm : (b.take m).length = m := by rw [List.length_take]; omega
  have e2 : (b.take (m + 1 + 1)).drop 6 = (b.take m).drop 6 ++ [b[m]'(by omega), b[m + 1]'hl] := by
    rw [e1, List.drop_append_of_le_length (by omega)]
  have hld : ((b.take m).drop 6).length = m - 4 - 2 := by rw [List.length_drop, hlm]; omega
  refine ⟨hlen, ?_, ?_⟩
  · rw [e2, ← hld, List.drop_left]
  · rw [e2, ← hld, List.take_left]
theorem line_end13 {b : List UInt8} {m : Nat} {c : UInt8} (h6 : 6 ≤ m + 1) (hl : m + 1 < b.length) (hc : b[m]? = some c) (hx : c ≠ 13) : lineS ((b.take (m + 1 + 1)).drop 6) = none := by
  unfold lineS
  rw [if_neg]
  rintro ⟨h, h2⟩
  rcases Nat.lt_or_ge m 6 with hm | hm
  · rw [List.length_drop, List.length_take] at h2
    omega
  · have hb := line_back hm hl
    rw [hb.1, hb.2.1] at h
    have e : b[m]'(by omega) = c := by
      rw [List.getElem?_eq_getElem (by omega)] at hc
      exact Option.some.inj hc
    rw [e] at h
    exact hx (List.cons.inj h).1

theorem line_m6 {b : List UInt8} {m : Nat} {c : UInt8} (hs : b.take 6 = pre17.take b.length) (h5 : 5 ≤ m) (hl : m + 1 < b.length) (hc : b[m]? = some c) (hx : c = 13) : 6 ≤ m := by
  rcases Nat.lt_or_ge m 6 with h | h
  · exfalso
    obtain rfl : m = 5 := by omega
    have e : (b.take 6)[5]? = some c := by rw [List.getElem?_take_of_lt (by omega)]; exact hc
    rw [hs, List.take_of_length_le (by show 6 ≤ _; omega)] at e
    have e2 : (pre17)[5]? = some 32 := rfl
    rw [e2] at e
    rw [← Option.some.inj e] at hx
    exact absurd hx (by decide)
  · exact h
theorem line_said {b : List UInt8} {m : Nat} {c : UInt8} (h6 : 6 ≤ m) (hl : m + 1 < b.length) (hc : b[m]? = some c) (hx : c = 13) (h10 : b[m + 1]? = some 10) : lineS ((b.take (m + 1 + 1)).drop 6) = saidS ((b.take m).drop 6) := by
  have hb := line_back h6 hl
  have e : b[m]'(by omega) = 13 := by
    rw [List.getElem?_eq_getElem (by omega)] at hc
    rw [Option.some.inj hc, hx]
  have e1 : b[m + 1]'hl = 10 := by
    rw [List.getElem?_eq_getElem hl] at h10
    exact Option.some.inj h10
  have h2 := hb.2.1
  rw [e, e1] at h2
  unfold lineS
  rw [hb.1, h2, if_pos ⟨rfl, by omega⟩, hb.2.2]

/-- Is a line's second word UNKNOWN? -/
def IsU (l : List UInt8) : Prop := l = uword ∨ (7 < l.length ∧ l.take 8 = uword ++ [32])
instance (l : List UInt8) : Decidable (IsU l) := by unfold IsU; infer_instance
theorem isU_iff {v w : List UInt8} {r : List (List UInt8)} (h : sp 32 v = w :: r) : IsU v ↔ w = uword := by
  constructor
  · rintro (rfl | ⟨h7, h8⟩)
    · rw [sp_word 32 uword (by decide)] at h
      exact (List.cons.inj h).1.symm
    · have e : v = uword ++ 32 :: v.drop 8 := by
        have := List.take_append_drop 8 v
        rw [h8] at this
        exact this.symm.trans (List.append_assoc _ _ _)
      rw [e, sp_at, sp_word 32 uword (by decide)] at h
      exact (List.cons.inj h).1.symm
  · rintro rfl
    have e := jn_sp 32 v
    rw [h] at e
    cases r with
    | nil => exact Or.inl e.symm
    | cons x r =>
      have e2 : v = uword ++ 32 :: jn 32 (x :: r) := e.symm
      refine Or.inr ⟨?_, ?_⟩
      · rw [e2]; simp [uword]
      · rw [e2]; rfl

theorem rg_set {w W : World} {X : Nat} {F : Int} (h : Rg17 w W) (hb : Blk W X (S17.cells ⟨false, F, ⟨#[]⟩, ⟨#[]⟩, 0, 0, none, 0, 0⟩) 24) (hX : w.heap.size + 1 < X) (ta tb : ByteArray) (p q : Int) :
    Rg17 w ((((W.setCell ⟨X, 2, none⟩ (.string ta)).setCell ⟨X, 3, none⟩ (.string tb)).setCell ⟨X, 4, none⟩ (.int .i64 p)).setCell ⟨X, 5, none⟩ (.int .i64 q)) ∧ Blk ((((W.setCell ⟨X, 2, none⟩ (.string ta)).setCell ⟨X, 3, none⟩ (.string tb)).setCell ⟨X, 4, none⟩ (.int .i64 p)).setCell ⟨X, 5, none⟩ (.int .i64 q)) X (S17.cells ⟨false, F, ta, tb, p, q, none, 0, 0⟩) 24 := by
  have n1 : w.heap.size ≠ X := by omega
  have n2 : w.heap.size + 1 ≠ X := by omega
  have n3 : w.heap.size ≤ X := by omega
  refine ⟨⟨?_, ?_, ?_⟩, ?_⟩
  · exact (((h.a.set_other (p := ⟨X, 2, none⟩) n1 _).set_other (p := ⟨X, 3, none⟩) n1 _).set_other (p := ⟨X, 4, none⟩) n1 _).set_other (p := ⟨X, 5, none⟩) n1 _
  · exact (((h.z.set_other (p := ⟨X, 2, none⟩) n2 _).set_other (p := ⟨X, 3, none⟩) n2 _).set_other (p := ⟨X, 4, none⟩) n2 _).set_other (p := ⟨X, 5, none⟩) n2 _
  · exact (((h.bel.setCell (p := ⟨X, 2, none⟩) n3 _).setCell (p := ⟨X, 3, none⟩) n3 _).setCell (p := ⟨X, 4, none⟩) n3 _).setCell (p := ⟨X, 5, none⟩) n3 _
  · refine Blk.seth17 (h := ⟨false, F, ta, tb, p, 0, none, 0, 0⟩) ?_ _ 5 _ rfl
    refine Blk.seth17 (h := ⟨false, F, ta, tb, 0, 0, none, 0, 0⟩) ?_ _ 4 _ rfl
    refine Blk.seth17 (h := ⟨false, F, ta, ⟨#[]⟩, 0, 0, none, 0, 0⟩) ?_ _ 3 _ rfl
    exact Blk.seth17 (h := ⟨false, F, ⟨#[]⟩, ⟨#[]⟩, 0, 0, none, 0, 0⟩) hb _ 2 _ rfl
theorem eT_none {α : Type} : eT (none : Option α) = 9 := rfl
theorem eT_some {α : Type} (x : α) : eT (some x) = 0 := rfl

set_option maxRecDepth 100000 in
set_option maxHeartbeats 4000000 in
theorem rget17_any (b : ByteArray) (hs : b.size ≤ 100000) (w : World) :
    Calls Tryz.prog 9 #[.string b] w (Tells (.tuple #[.agg (getH17 b.data.toList).cells, .int .i64 (getN17 b.data.toList : Nat), .int .i64 (getE17 b.data.toList)]) w) := by
  have R0 := Lib.hid (Rg17.new w)
  rw [zero_cells] at R0
  go_enter Tryz.func9, Tryz.ntmps9
  go_upto_block 0 with (fail)
  generalize (w.alloc _).alloc _ = w0 at *
  go_cut [6] (fun v6 wx => Hid (Rg17 w wx) ∧ Hid (b.data.toList.take 6 = pre17.take b.data.toList.length))
  case first =>
    go_wp2_with fail
    go_loopw [6] (fun si wr => ∃ k : Nat, si = .int .i64 (k : Int) ∧ k ≤ 6 ∧ k ≤ b.size ∧ Hid (Rg17 w wr) ∧ Hid (b.data.toList.take k = pre17.take k)) (fun si _ => 6 - (intOf si).toNat)
    case atStart => exact ⟨0, rfl, by omega, by omega, R0, Lib.hid rfl⟩
    case round =>
      obtain ⟨k, rfl, h6, hsz, HR, HP⟩ := hrel
      by_cases hlt : k < b.size
      · by_cases hk6 : k < 6
        · have hb := byte_at b k hlt
          have hq := byte_at ⟨#[80, 82, 79, 88, 89, 32]⟩ k hk6
          have htb : b.data.toList.take (k + 1) = b.data.toList.take k ++ [b[k]'hlt] := List.take_succ_eq_append_getElem (by rw [Array.length_toList]; exact hlt)
          have htp : pre17.take (k + 1) = pre17.take k ++ [(⟨#[80, 82, 79, 88, 89, 32]⟩ : ByteArray)[k]'hk6] := List.take_succ_eq_append_getElem (by exact hk6)
          generalize (b[k]'hlt) = c at *
          generalize ((⟨#[80, 82, 79, 88, 89, 32]⟩ : ByteArray)[k]'hk6) = d at *
          by_cases hx : c = d
          · have HT : Hid (b.data.toList.take (k + 1) = pre17.take (k + 1)) := Lib.hid (by rw [htb, htp, HP.out, hx])
            have t : ((c.toNat : Int) == (d.toNat : Int)) = true := by rw [hx]; simp
            clear htb htp hx
            go_wp2_with fail
            go_quiet (fail)
            go_wp2_with fail
            refine ⟨⟨k + 1, rfl, by omega, by omega, Lib.hid (HR.out.on (below_drewN (Below.refl _ _) nq)), HT⟩, by simp [intOf]; omega⟩
          · have t : ((c.toNat : Int) == (d.toNat : Int)) = false := beq_false_of_ne (fun e => hx (UInt8.toNat_inj.1 (by omega)))
            have HE : Hid (getH17 b.data.toList = S17.zero ∧ getN17 b.data.toList = 0 ∧ getE17 b.data.toList = 13) := Lib.hid (bad_sign (by rw [htb]) (by rw [htp]) hx h6 hk6 hlt)
            clear htb htp hx
            go_wp2_with fail
            go_quiet (fail)
            have R1 := Lib.hid (HR.out.on (below_drewN (Below.refl _ _) nq))
            generalize wr.drewN nq = w1 at *
            obtain ⟨z0, z1, z2, z3, z4, z5, z6⟩ := box17 (h := S17.zero) R1.out.a (Below.refl _ _)
            obtain ⟨y0, y1, y2, y3, y4, y5, y6⟩ := box17 (h := S17.zero) R1.out.z (Below.refl _ _)
            simp only [S17.zero] at z0 z1 z2 z3 z4 z5 z6 y0 y1 y2 y3 y4 y5 y6
            have f0 := Blk.frozen R1.out.a 0
            have f1 := Blk.frozen R1.out.a 1
            have f2 := Blk.frozen R1.out.a 2
            have f3 := Blk.frozen R1.out.a 3
            have f4 := Blk.frozen R1.out.a 4
            have f5 := Blk.frozen R1.out.a 5
            have f6 := Blk.frozen R1.out.a 6
            have ST2 := Lib.hid (⟨put17c_blk (g := S17.zero) R1.out.a S17.zero, put17c_below R1.out.bel S17.zero⟩ : _ ∧ _)
            go_wp2_with fail
            obtain ⟨B9, L9⟩ := ST2.out
            unfold put17c at B9 L9
            simp only [S17.zero] at B9 L9
            generalize World.setCell _ ⟨w.heap.size, 6, none⟩ _ = W at *
            clear z0 z1 z2 z3 z4 z5 z6 y0 y1 y2 y3 y4 y5 y6 f0 f1 f2 f3 f4 f5 f6
            obtain ⟨c0, c1, c2, c3, c4, c5, c6⟩ := box17 (h := S17.zero) B9 (Below.refl _ _)
            simp only [S17.zero] at c0 c1 c2 c3 c4 c5 c6
            refine ⟨rfl, .tuple #[.agg (hdr none).cells, .int .i64 0, .int .i64 13], ?_, by rw [HE.out.1, HE.out.2.1, HE.out.2.2]; rfl, L9⟩
            rw [hdr_cells0]
            simp [results, Tryz.results9, go_sem, c0, c1, c2, c3, c4, c5, c6]
        · have HS := Lib.hid (good_sign HP.out (by omega))
          obtain rfl : k = 6 := by omega
          go_wp2_with fail
          go_meet
          exact ⟨HR, HS⟩
      · have HS := Lib.hid (good_sign HP.out (by omega))
        obtain rfl : k = b.size := by omega
        go_wp2_with fail
        go_meet
        exact ⟨HR, HS⟩
  case rest =>
    obtain ⟨R1, HSG⟩ := hcut
    go_upto_block 2 with (fail)
    go_cut [7] (fun v7 wx => ∃ n : Nat, v7 = .int .i64 (n : Int) ∧ n ≤ b.size ∧ n ≤ 107 ∧ wx = wc ∧ Hid (Nl17 b n))
    case first =>
      go_wp2_with fail
      go_loop [7] (fun si => ∃ k : Nat, si = .int .i64 (k : Int) ∧ k ≤ b.size ∧ k ≤ 107 ∧ Hid (∀ j, j < k → b.data.toList[j]? ≠ some 10)) (fun si => 107 - (intOf si).toNat)
      case atStart => exact ⟨0, rfl, by omega, by omega, Lib.hid (fun j hj => absurd hj (by omega))⟩
      case round =>
        obtain ⟨k, rfl, hk1, hk2, HN⟩ := hrel
        by_cases hlt : k < b.size
        · by_cases h107 : k < 107
          · have hb := byte_at b k hlt
            have hat : b.data.toList[k]? = some (b[k]'hlt) := by
              rw [List.getElem?_eq_getElem (by rw [Array.length_toList]; exact hlt)]
              rfl
            generalize (b[k]'hlt) = c at *
            by_cases hx : c = 10
            · have HL := Lib.hid (⟨hk1, hk2, HN.out, Or.inr (Or.inr ⟨h107, hlt, by rw [hat, hx]⟩)⟩ : Nl17 b k)
              have t : ((c.toNat : Int) == 10) = true := by rw [hx]; rfl
              clear hat hx
              go_wp2_with fail
              go_meet
              exact ⟨k, rfl, hk1, hk2, rfl, HL⟩
            · have HN2 : Hid (∀ j, j < k + 1 → b.data.toList[j]? ≠ some 10) := Lib.hid (fun j hj => by
                rcases Nat.lt_succ_iff_lt_or_eq.1 hj with h | rfl
                · exact HN.out j h
                · rw [hat]; intro e; exact hx (Option.some.inj e))
              have t : ((c.toNat : Int) == 10) = false := beq_false_of_ne (fun e => hx (UInt8.toNat_inj.1 (by show c.toNat = 10; omega)))
              clear hat hx
              go_wp2_with fail
              refine ⟨⟨k + 1, rfl, by omega, by omega, HN2⟩, by simp [intOf]; omega⟩
          · have HL := Lib.hid (⟨hk1, hk2, HN.out, Or.inl (by omega)⟩ : Nl17 b k)
            have t : decide (k < 107) = false := by simpa using h107
            go_wp2_with fail
            go_meet
            exact ⟨k, rfl, hk1, hk2, rfl, HL⟩
        · have HL := Lib.hid (⟨hk1, hk2, HN.out, Or.inr (Or.inl (by omega))⟩ : Nl17 b k)
          have t : decide (k < b.size) = false := by simpa using hlt
          go_wp2_with fail
          go_meet
          exact ⟨k, rfl, hk1, hk2, rfl, HL⟩
    case rest =>
      obtain ⟨n, rfl, hn1, hn2, rfl, HN⟩ := hcut
      by_cases h107 : n = 107
      · have HE := Lib.hid (get_long HN.out h107 HSG.out)
        have t : ((n : Int) == 107) = true := by rw [h107]; rfl
        clear h107
        obtain ⟨z0, z1, z2, z3, z4, z5, z6⟩ := box17 (h := S17.zero) R1.out.a (Below.refl _ _)
        obtain ⟨y0, y1, y2, y3, y4, y5, y6⟩ := box17 (h := S17.zero) R1.out.z (Below.refl _ _)
        simp only [S17.zero] at z0 z1 z2 z3 z4 z5 z6 y0 y1 y2 y3 y4 y5 y6
        have f0 := Blk.frozen R1.out.a 0
        have f1 := Blk.frozen R1.out.a 1
        have f2 := Blk.frozen R1.out.a 2
        have f3 := Blk.frozen R1.out.a 3
        have f4 := Blk.frozen R1.out.a 4
        have f5 := Blk.frozen R1.out.a 5
        have f6 := Blk.frozen R1.out.a 6
        have ST2 := Lib.hid (⟨put17c_blk (g := S17.zero) R1.out.a S17.zero, put17c_below R1.out.bel S17.zero⟩ : _ ∧ _)
        go_wp2_with fail
        obtain ⟨B9, L9⟩ := ST2.out
        unfold put17c at B9 L9
        simp only [S17.zero] at B9 L9
        generalize World.setCell _ ⟨w.heap.size, 6, none⟩ _ = W at *
        clear z0 z1 z2 z3 z4 z5 z6 y0 y1 y2 y3 y4 y5 y6 f0 f1 f2 f3 f4 f5 f6
        obtain ⟨c0, c1, c2, c3, c4, c5, c6⟩ := box17 (h := S17.zero) B9 (Below.refl _ _)
        simp only [S17.zero] at c0 c1 c2 c3 c4 c5 c6
        refine ⟨rfl, .tuple #[.agg (hdr none).cells, .int .i64 0, .int .i64 4], ?_, by rw [HE.out.1, HE.out.2.1, HE.out.2.2]; rfl, L9⟩
        rw [hdr_cells0]
        simp [results, Tryz.results9, go_sem, c0, c1, c2, c3, c4, c5, c6]
      · by_cases hsz : n = b.size
        · have HE := Lib.hid (get_more HN.out hsz h107 HSG.out)
          have t : ((n : Int) == 107) = false := by simp; omega
          have t2 : ((n : Int) == (b.size : Int)) = true := by rw [hsz]; simp
          clear h107 hsz
          obtain ⟨z0, z1, z2, z3, z4, z5, z6⟩ := box17 (h := S17.zero) R1.out.a (Below.refl _ _)
          obtain ⟨y0, y1, y2, y3, y4, y5, y6⟩ := box17 (h := S17.zero) R1.out.z (Below.refl _ _)
          simp only [S17.zero] at z0 z1 z2 z3 z4 z5 z6 y0 y1 y2 y3 y4 y5 y6
          have f0 := Blk.frozen R1.out.a 0
          have f1 := Blk.frozen R1.out.a 1
          have f2 := Blk.frozen R1.out.a 2
          have f3 := Blk.frozen R1.out.a 3
          have f4 := Blk.frozen R1.out.a 4
          have f5 := Blk.frozen R1.out.a 5
          have f6 := Blk.frozen R1.out.a 6
          have ST2 := Lib.hid (⟨put17c_blk (g := S17.zero) R1.out.a S17.zero, put17c_below R1.out.bel S17.zero⟩ : _ ∧ _)
          go_wp2_with fail
          obtain ⟨B9, L9⟩ := ST2.out
          unfold put17c at B9 L9
          simp only [S17.zero] at B9 L9
          generalize World.setCell _ ⟨w.heap.size, 6, none⟩ _ = W at *
          clear z0 z1 z2 z3 z4 z5 z6 y0 y1 y2 y3 y4 y5 y6 f0 f1 f2 f3 f4 f5 f6
          obtain ⟨c0, c1, c2, c3, c4, c5, c6⟩ := box17 (h := S17.zero) B9 (Below.refl _ _)
          simp only [S17.zero] at c0 c1 c2 c3 c4 c5 c6
          refine ⟨rfl, .tuple #[.agg (hdr none).cells, .int .i64 0, .int .i64 10], ?_, by rw [HE.out.1, HE.out.2.1, HE.out.2.2]; rfl, L9⟩
          rw [hdr_cells0]
          simp [results, Tryz.results9, go_sem, c0, c1, c2, c3, c4, c5, c6]
        · have hat : n < 107 ∧ n < b.size ∧ b.data.toList[n]? = some 10 := by
            rcases HN.out.at_ with h | h | h
            · exact absurd h h107
            · exact absurd h hsz
            · exact h
          have hnl := nlAt_some HN.out hat
          have hfar := nlAt_far HSG.out hnl
          have HNL := Lib.hid hnl
          have HAT := Lib.hid hat
          have t : ((n : Int) == 107) = false := by simp; omega
          have t2 : ((n : Int) == (b.size : Int)) = false := by simp; omega
          obtain ⟨m, rfl⟩ : ∃ m, n = m + 1 := ⟨n - 1, by omega⟩
          have hm6 : 5 ≤ m := by omega
          have hms : m < b.size := by omega
          have hb := byte_at b m hms
          have hc : b.data.toList[m]? = some (b[m]'hms) := by
            rw [List.getElem?_eq_getElem (by rw [Array.length_toList]; exact hms)]
            rfl
          have HFAR := Lib.hid hfar
          clear hat hnl hfar h107 hsz HN
          generalize (b[m]'hms) = c at *
          have hcast : ((m + 1 : Nat) : Int) = (m : Int) + 1 := by omega
          rw [hcast] at t t2 ⊢
          clear hcast
          by_cases hx : c = 13
          · have t3 : ((c.toNat : Int) == 13) = true := by rw [hx]; rfl
            have hm := line_m6 HSG.out hm6 HFAR.out.2.1 hc hx
            have hls := line_said hm HFAR.out.2.1 hc hx HAT.out.2.2
            have hV : (b.extract 6 m).data.toList = (b.data.toList.take m).drop 6 := extract_list b 6 m
            have hVs : (b.extract 6 m).size ≤ 107 := by rw [ByteArray.size_extract]; omega
            have hsl : ∀ W, (Instr.slice 9 (.string b) (some (.int .i64 6)) (some (.int .i64 (m : Int))) none).run Tryz.prog W = .ok (.string (b.extract 6 m)) W := fun W => run_slice_str W b 6 m _ rfl hm (by omega)
            rw [← hV] at hls
            clear hV hc hx
            generalize b.extract 6 m = V at *
            have HLS := Lib.hid hls
            clear hls hm6 hms
            go_upto_region 19 with (fail)
            go_cut [87] (fun v87 wx => v87 = .bool (decide (IsU V.data.toList)) ∧ wx = wc)
            case first =>
              have e0 : V.data.toList.length = V.size := Array.length_toList
              by_cases e1 : V.data.toList = uword
              · have t1 : (V.toList == [85, 78, 75, 78, 79, 87, 78]) = true := by rw [text_beq]; exact decide_eq_true e1
                have HU : Hid (decide (IsU V.data.toList) = true) := Lib.hid (decide_eq_true (Or.inl e1))
                clear e1
                go_wp2_with fail
                go_meet
                exact ⟨by rw [HU.out], rfl⟩
              · have t1 : (V.toList == [85, 78, 75, 78, 79, 87, 78]) = false := by rw [text_beq]; exact decide_eq_false e1
                by_cases e2 : 7 < V.size
                · have t4 : decide (7 < V.size) = true := by simpa using e2
                  have e8 : (V.extract 0 8).data.toList = V.data.toList.take 8 := take_text V 8 e2
                  by_cases e3 : V.data.toList.take 8 = uword ++ [32]
                  · have t5 : ((V.extract 0 8).toList == [85, 78, 75, 78, 79, 87, 78, 32]) = true := by rw [text_beq, e8]; exact decide_eq_true e3
                    have HU : Hid (decide (IsU V.data.toList) = true) := Lib.hid (decide_eq_true (Or.inr ⟨by rw [e0]; exact e2, e3⟩))
                    clear e1 e3 e8 e0
                    go_wp2_with fail
                    go_meet
                    exact ⟨by rw [HU.out], rfl⟩
                  · have t5 : ((V.extract 0 8).toList == [85, 78, 75, 78, 79, 87, 78, 32]) = false := by rw [text_beq, e8]; exact decide_eq_false e3
                    have HU : Hid (decide (IsU V.data.toList) = false) := Lib.hid (decide_eq_false (fun x => x.elim e1 fun y => e3 y.2))
                    clear e1 e3 e8 e0
                    go_wp2_with fail
                    go_meet
                    exact ⟨by rw [HU.out], rfl⟩
                · have t4 : decide (7 < V.size) = false := by simpa using e2
                  have HU : Hid (decide (IsU V.data.toList) = false) := Lib.hid (decide_eq_false (fun x => x.elim e1 fun y => e2 (by rw [← e0]; exact y.1)))
                  clear e1 e0
                  go_wp2_with fail
                  go_meet
                  exact ⟨by rw [HU.out], rfl⟩
            case rest =>
              obtain ⟨rfl, rfl⟩ := hcut
              obtain ⟨w0, r, hsp⟩ : ∃ w0 r, sp 32 V.data.toList = w0 :: r := by
                cases h : sp 32 V.data.toList with
                | nil => exact absurd h (sp_ne _ _)
                | cons x y => exact ⟨x, y, rfl⟩
              have hsaid := saidS_words hsp
              have HUI := Lib.hid (isU_iff hsp)
              have HSP := Lib.hid hsp
              clear hsp
              by_cases hU : IsU V.data.toList
              · rw [if_pos (HUI.out.1 hU)] at hsaid
                have HE := Lib.hid (get_line HNL.out HSG.out (some S17.zero) (by rw [HLS.out, hsaid]))
                rw [decide_eq_true hU]
                clear hU hsaid t3 hsl hb
                obtain ⟨z0, z1, z2, z3, z4, z5, z6⟩ := box17 (h := S17.zero) R1.out.a (Below.refl _ _)
                obtain ⟨y0, y1, y2, y3, y4, y5, y6⟩ := box17 (h := S17.zero) R1.out.z (Below.refl _ _)
                simp only [S17.zero] at z0 z1 z2 z3 z4 z5 z6 y0 y1 y2 y3 y4 y5 y6
                have f0 := Blk.frozen R1.out.a 0
                have f1 := Blk.frozen R1.out.a 1
                have f2 := Blk.frozen R1.out.a 2
                have f3 := Blk.frozen R1.out.a 3
                have f4 := Blk.frozen R1.out.a 4
                have f5 := Blk.frozen R1.out.a 5
                have f6 := Blk.frozen R1.out.a 6
                have ST2 := Lib.hid (⟨put17c_blk (g := S17.zero) R1.out.a S17.zero, put17c_below R1.out.bel S17.zero⟩ : _ ∧ _)
                go_wp2_with fail
                obtain ⟨B9, L9⟩ := ST2.out
                unfold put17c at B9 L9
                simp only [S17.zero] at B9 L9
                generalize World.setCell _ ⟨w.heap.size, 6, none⟩ _ = W at *
                clear z0 z1 z2 z3 z4 z5 z6 y0 y1 y2 y3 y4 y5 y6 f0 f1 f2 f3 f4 f5 f6
                obtain ⟨c0, c1, c2, c3, c4, c5, c6⟩ := box17 (h := S17.zero) B9 (Below.refl _ _)
                simp only [S17.zero] at c0 c1 c2 c3 c4 c5 c6
                refine ⟨rfl, .tuple #[.agg (hdr none).cells, .int .i64 ((m : Int) + 1 + 1), .int .i64 0], ?_, by rw [HE.out.1, HE.out.2.1, HE.out.2.2]; rfl, L9⟩
                rw [hdr_cells0]
                simp [results, Tryz.results9, go_sem, c0, c1, c2, c3, c4, c5, c6]
              · rw [if_neg (fun x => hU (HUI.out.2 x))] at hsaid
                rw [decide_eq_false hU]
                have HSAID := Lib.hid hsaid
                clear hU hsaid t3 hsl hb
                go_wp2_with fail
                refine (words17r_any V (by omega) wc).mono ?_
                rintro e w1 ⟨val, l, rfl, hwd, hl⟩
                rw [HSP.out] at hl
                have R2 := R1.out.on hwd.bel
                have hlen : l.length = r.length + 1 := by have := congrArg List.length hl; unfold lists at this; simpa using this
                have hr8 : r.length ≤ 107 := by
                  have h1 := congrArg List.length HSP.out
                  rw [sp_length] at h1
                  have h2 : V.data.toList.count 32 ≤ V.data.toList.length := List.count_le_length
                  rw [Array.length_toList] at h2
                  have h3 : V.data.size = V.size := rfl
                  rw [List.length_cons] at h1
                  omega
                obtain ⟨g, cp, rfl, hg0, hg1, hcl, hcp⟩ := hwd.lies (by intro e; rw [e] at hlen; simp at hlen)
                have A1 := (Below.refl w1.heap.size w1).alloc (Nat.le_refl _) (.cells #[.bool false, .int .i64 0, .string ⟨#[]⟩, .string ⟨#[]⟩, .int .i64 0, .int .i64 0, .slice none 0 0] 24)
                have R3 := Lib.hid (R2.on A1)
                by_cases h5 : l.length = 5
                · obtain ⟨x0, x1, x2, x3, x4, rfl⟩ : ∃ x0 x1 x2 x3 x4, l = [x0, x1, x2, x3, x4] := by
                    match l, h5 with
                    | [x0, x1, x2, x3, x4], _ => exact ⟨x0, x1, x2, x3, x4, rfl⟩
                  have hx0 : x0.data.toList = w0 := (List.cons.inj hl).1
                  have hxr : lists [x1, x2, x3, x4] = r := (List.cons.inj hl).2
                  subst hx0 hxr
                  by_cases e4 : x0.data.toList = tword 1
                  · have t8 : (x0.toList == [84, 67, 80, 52]) = true := by rw [text_beq]; exact decide_eq_true e4
                    have t9 : (x0.toList == [84, 67, 80, 54]) = false := by rw [text_beq, e4]; decide
                    have HQ := Lib.hid (pick17_is 1 x1.data.toList x2.data.toList x3.data.toList x4.data.toList)
                    have hsz : ∀ y ∈ [x1, x2, x3, x4], y.size ≤ 107 := fun y hy => by
                      have hm : y.data.toList ∈ sp 32 V.data.toList := by rw [HSP.out]; exact List.mem_cons_of_mem _ (List.mem_map.2 ⟨y, hy, rfl⟩)
                      have := sp_short 32 V.data.toList _ hm
                      rw [Array.length_toList, Array.length_toList] at this
                      have e1 : y.data.size = y.size := rfl
                      have e2 : V.data.size = V.size := rfl
                      omega
                    have PA := Lib.hid (fun W => rparse_any x1 (by have := hsz x1 (by simp); omega) W)
                    have PB := Lib.hid (fun W => rparse_any x2 (by have := hsz x2 (by simp); omega) W)
                    have PC := Lib.hid (fun W => rnumber_any x3 65535 (by decide) (by have := hsz x3 (by simp); omega) W)
                    have PD := Lib.hid (fun W => rnumber_any x4 65535 (by decide) (by have := hsz x4 (by simp); omega) W)
                    simp only [addrV_eq, numV_eq] at PA PB PC PD
                    have HOC := Lib.hid (fun n => @numOf_le 65535 n x3.data.toList)
                    have HOD := Lib.hid (fun n => @numOf_le 65535 n x4.data.toList)
                    have HW : Hid (saidS V.data.toList = pick17 1 (addrOf x1.data.toList) (addrOf x2.data.toList) (numOf 65535 x3.data.toList) (numOf 65535 x4.data.toList)) := Lib.hid (by
                      rw [HSAID.out]
                      exact if_pos e4)
                    generalize addrOf x1.data.toList = oa at *
                    generalize addrOf x2.data.toList = ob at *
                    generalize numOf 65535 x3.data.toList = oc at *
                    generalize numOf 65535 x4.data.toList = od at *
                    have AF := (Below.refl w1.heap.size w1).alloc (Nat.le_refl _) (.cells #[.bool false, .int .i64 1, .string ⟨#[]⟩, .string ⟨#[]⟩, .int .i64 0, .int .i64 0, .slice none 0 0] 24)
                    have BX := Blk.new w1 #[.bool false, .int .i64 1, .string ⟨#[]⟩, .string ⟨#[]⟩, .int .i64 0, .int .i64 0, .slice none 0 0] 24
                    have RF := R2.on AF
                    have s0 := hcl 0 (by simp)
                    simp only [List.getElem_cons_zero] at s0
                    have p0 := (A1.cell (p := ⟨g, 0, none⟩) hg1).trans s0
                    have q0 := (AF.cell (p := ⟨g, 0, none⟩) hg1).trans s0
                    have q1 := (AF.cell (p := ⟨g, 1, none⟩) hg1).trans (hcl 1 (by simp))
                    have HCL := Lib.hid hcl
                    simp only [List.getElem_cons_zero, List.getElem_cons_succ] at q1
                    clear hcl hl hlen h5 A1 hwd HSAID HSP HUI HQ hsz e4
                    go_wp2_with fail
                    generalize w1.alloc _ = w2 at *
                    refine (PA.out _).mono ?_
                    rintro e w3 ⟨rfl, hb3⟩
                    have M3 := AF.trans (hb3.mono AF.size)
                    have X3 := BX.on hb3
                    have RG3 := RF.on hb3
                    have q2 := (M3.cell (p := ⟨g, 2, none⟩) hg1).trans (HCL.out 2 (by simp))
                    simp only [List.getElem_cons_zero, List.getElem_cons_succ] at q2
                    clear q0 q1 p0 s0 hb3 AF BX RF
                    go_wp2_with fail
                    refine (PB.out _).mono ?_
                    rintro e w4 ⟨rfl, hb4⟩
                    have M4 := M3.trans (hb4.mono M3.size)
                    have X4 := X3.on hb4
                    have RG4 := RG3.on hb4
                    have q3 := (M4.cell (p := ⟨g, 3, none⟩) hg1).trans (HCL.out 3 (by simp))
                    simp only [List.getElem_cons_zero, List.getElem_cons_succ] at q3
                    clear q2 hb4 M3 X3 RG3
                    go_wp2_with fail
                    refine (PC.out _).mono ?_
                    rintro e w5 ⟨rfl, hb5⟩
                    have M5 := M4.trans (hb5.mono M4.size)
                    have X5 := X4.on hb5
                    have RG5 := RG4.on hb5
                    have q4 := (M5.cell (p := ⟨g, 4, none⟩) hg1).trans (HCL.out 4 (by simp))
                    simp only [List.getElem_cons_zero, List.getElem_cons_succ] at q4
                    clear q3 hb5 M4 X4 RG4
                    go_wp2_with fail
                    refine (PD.out _).mono ?_
                    rintro e w6 ⟨rfl, hb6⟩
                    have XX := Lib.hid (X5.on hb6)
                    have RR := Lib.hid (RG5.on hb6)
                    clear q4 hb6 M5 X5 RG5 PA PB PC PD HCL
                    cases oa with
                    | none =>
                      simp only [eT_none]
                      have HE := Lib.hid (get_line HNL.out HSG.out none (by rw [HLS.out, HW.out]; rfl))
                      clear HW XX HOC HOD
                      obtain ⟨z0, z1, z2, z3, z4, z5, z6⟩ := box17 (h := S17.zero) RR.out.a (Below.refl _ _)
                      obtain ⟨y0, y1, y2, y3, y4, y5, y6⟩ := box17 (h := S17.zero) RR.out.z (Below.refl _ _)
                      simp only [S17.zero] at z0 z1 z2 z3 z4 z5 z6 y0 y1 y2 y3 y4 y5 y6
                      have f0 := Blk.frozen RR.out.a 0
                      have f1 := Blk.frozen RR.out.a 1
                      have f2 := Blk.frozen RR.out.a 2
                      have f3 := Blk.frozen RR.out.a 3
                      have f4 := Blk.frozen RR.out.a 4
                      have f5 := Blk.frozen RR.out.a 5
                      have f6 := Blk.frozen RR.out.a 6
                      have ST2 := Lib.hid (⟨put17c_blk (g := S17.zero) RR.out.a S17.zero, put17c_below RR.out.bel S17.zero⟩ : _ ∧ _)
                      go_wp2_with fail
                      obtain ⟨B9, L9⟩ := ST2.out
                      unfold put17c at B9 L9
                      simp only [S17.zero] at B9 L9
                      generalize World.setCell _ ⟨w.heap.size, 6, none⟩ _ = W at *
                      clear z0 z1 z2 z3 z4 z5 z6 y0 y1 y2 y3 y4 y5 y6 f0 f1 f2 f3 f4 f5 f6
                      obtain ⟨c0, c1, c2, c3, c4, c5, c6⟩ := box17 (h := S17.zero) B9 (Below.refl _ _)
                      simp only [S17.zero] at c0 c1 c2 c3 c4 c5 c6
                      refine ⟨rfl, .tuple #[.agg (hdr none).cells, .int .i64 0, .int .i64 9], ?_, by rw [HE.out.1, HE.out.2.1, HE.out.2.2]; rfl, L9⟩
                      rw [hdr_cells0]
                      simp [results, Tryz.results9, go_sem, c0, c1, c2, c3, c4, c5, c6]
                    | some xa =>
                      cases ob with
                      | none =>
                        simp only [eT_none, eT_some]
                        have HE := Lib.hid (get_line HNL.out HSG.out none (by rw [HLS.out, HW.out]; rfl))
                        clear HW XX HOC HOD
                        obtain ⟨z0, z1, z2, z3, z4, z5, z6⟩ := box17 (h := S17.zero) RR.out.a (Below.refl _ _)
                        obtain ⟨y0, y1, y2, y3, y4, y5, y6⟩ := box17 (h := S17.zero) RR.out.z (Below.refl _ _)
                        simp only [S17.zero] at z0 z1 z2 z3 z4 z5 z6 y0 y1 y2 y3 y4 y5 y6
                        have f0 := Blk.frozen RR.out.a 0
                        have f1 := Blk.frozen RR.out.a 1
                        have f2 := Blk.frozen RR.out.a 2
                        have f3 := Blk.frozen RR.out.a 3
                        have f4 := Blk.frozen RR.out.a 4
                        have f5 := Blk.frozen RR.out.a 5
                        have f6 := Blk.frozen RR.out.a 6
                        have ST2 := Lib.hid (⟨put17c_blk (g := S17.zero) RR.out.a S17.zero, put17c_below RR.out.bel S17.zero⟩ : _ ∧ _)
                        go_wp2_with fail
                        obtain ⟨B9, L9⟩ := ST2.out
                        unfold put17c at B9 L9
                        simp only [S17.zero] at B9 L9
                        generalize World.setCell _ ⟨w.heap.size, 6, none⟩ _ = W at *
                        clear z0 z1 z2 z3 z4 z5 z6 y0 y1 y2 y3 y4 y5 y6 f0 f1 f2 f3 f4 f5 f6
                        obtain ⟨c0, c1, c2, c3, c4, c5, c6⟩ := box17 (h := S17.zero) B9 (Below.refl _ _)
                        simp only [S17.zero] at c0 c1 c2 c3 c4 c5 c6
                        refine ⟨rfl, .tuple #[.agg (hdr none).cells, .int .i64 0, .int .i64 9], ?_, by rw [HE.out.1, HE.out.2.1, HE.out.2.2]; rfl, L9⟩
                        rw [hdr_cells0]
                        simp [results, Tryz.results9, go_sem, c0, c1, c2, c3, c4, c5, c6]
                      | some xb =>
                        cases oc with
                        | none =>
                          simp only [eT_none, eT_some]
                          have HE := Lib.hid (get_line HNL.out HSG.out none (by rw [HLS.out, HW.out]; rfl))
                          clear HW XX HOC HOD
                          obtain ⟨z0, z1, z2, z3, z4, z5, z6⟩ := box17 (h := S17.zero) RR.out.a (Below.refl _ _)
                          obtain ⟨y0, y1, y2, y3, y4, y5, y6⟩ := box17 (h := S17.zero) RR.out.z (Below.refl _ _)
                          simp only [S17.zero] at z0 z1 z2 z3 z4 z5 z6 y0 y1 y2 y3 y4 y5 y6
                          have f0 := Blk.frozen RR.out.a 0
                          have f1 := Blk.frozen RR.out.a 1
                          have f2 := Blk.frozen RR.out.a 2
                          have f3 := Blk.frozen RR.out.a 3
                          have f4 := Blk.frozen RR.out.a 4
                          have f5 := Blk.frozen RR.out.a 5
                          have f6 := Blk.frozen RR.out.a 6
                          have ST2 := Lib.hid (⟨put17c_blk (g := S17.zero) RR.out.a S17.zero, put17c_below RR.out.bel S17.zero⟩ : _ ∧ _)
                          go_wp2_with fail
                          obtain ⟨B9, L9⟩ := ST2.out
                          unfold put17c at B9 L9
                          simp only [S17.zero] at B9 L9
                          generalize World.setCell _ ⟨w.heap.size, 6, none⟩ _ = W at *
                          clear z0 z1 z2 z3 z4 z5 z6 y0 y1 y2 y3 y4 y5 y6 f0 f1 f2 f3 f4 f5 f6
                          obtain ⟨c0, c1, c2, c3, c4, c5, c6⟩ := box17 (h := S17.zero) B9 (Below.refl _ _)
                          simp only [S17.zero] at c0 c1 c2 c3 c4 c5 c6
                          refine ⟨rfl, .tuple #[.agg (hdr none).cells, .int .i64 0, .int .i64 9], ?_, by rw [HE.out.1, HE.out.2.1, HE.out.2.2]; rfl, L9⟩
                          rw [hdr_cells0]
                          simp [results, Tryz.results9, go_sem, c0, c1, c2, c3, c4, c5, c6]
                        | some pc =>
                          cases od with
                          | none =>
                            simp only [eT_none, eT_some]
                            have HE := Lib.hid (get_line HNL.out HSG.out none (by rw [HLS.out, HW.out]; rfl))
                            clear HW XX HOC HOD
                            obtain ⟨z0, z1, z2, z3, z4, z5, z6⟩ := box17 (h := S17.zero) RR.out.a (Below.refl _ _)
                            obtain ⟨y0, y1, y2, y3, y4, y5, y6⟩ := box17 (h := S17.zero) RR.out.z (Below.refl _ _)
                            simp only [S17.zero] at z0 z1 z2 z3 z4 z5 z6 y0 y1 y2 y3 y4 y5 y6
                            have f0 := Blk.frozen RR.out.a 0
                            have f1 := Blk.frozen RR.out.a 1
                            have f2 := Blk.frozen RR.out.a 2
                            have f3 := Blk.frozen RR.out.a 3
                            have f4 := Blk.frozen RR.out.a 4
                            have f5 := Blk.frozen RR.out.a 5
                            have f6 := Blk.frozen RR.out.a 6
                            have ST2 := Lib.hid (⟨put17c_blk (g := S17.zero) RR.out.a S17.zero, put17c_below RR.out.bel S17.zero⟩ : _ ∧ _)
                            go_wp2_with fail
                            obtain ⟨B9, L9⟩ := ST2.out
                            unfold put17c at B9 L9
                            simp only [S17.zero] at B9 L9
                            generalize World.setCell _ ⟨w.heap.size, 6, none⟩ _ = W at *
                            clear z0 z1 z2 z3 z4 z5 z6 y0 y1 y2 y3 y4 y5 y6 f0 f1 f2 f3 f4 f5 f6
                            obtain ⟨c0, c1, c2, c3, c4, c5, c6⟩ := box17 (h := S17.zero) B9 (Below.refl _ _)
                            simp only [S17.zero] at c0 c1 c2 c3 c4 c5 c6
                            refine ⟨rfl, .tuple #[.agg (hdr none).cells, .int .i64 0, .int .i64 9], ?_, by rw [HE.out.1, HE.out.2.1, HE.out.2.2]; rfl, L9⟩
                            rw [hdr_cells0]
                            simp [results, Tryz.results9, go_sem, c0, c1, c2, c3, c4, c5, c6]
                          | some pd =>
                            simp only [eT_some, Option.getD_some]
                            have hA : (aT (some xa)).size = xa.length := list_size _
                            have hB : (aT (some xb)).size = xb.length := list_size _
                            by_cases hsa : xa.length = 4
                            · have v1 : ((aT (some xa)).size : Int) = 4 := by rw [hA, hsa]; rfl
                              by_cases hsb : xb.length = 4
                              · have v2 : ((aT (some xb)).size : Int) = 4 := by rw [hB, hsb]; rfl
                                have HE := Lib.hid (get_line HNL.out HSG.out (some ⟨false, 1, aT (some xa), aT (some xb), (pc : Int), (pd : Int), none, 0, 0⟩) (by rw [HLS.out, HW.out]; exact if_pos ⟨hsa, hsb⟩))
                                clear hsa hsb hA hB HW HOC HOD
                                generalize aT (some xa) = ta at *
                                generalize aT (some xb) = tb at *
                                have hX := R2.z.lt
                                have XS := Lib.hid (rg_set RR.out XX.out hX ta tb (pc : Int) (pd : Int))
                                obtain ⟨b0, b1, b2, b3, b4, b5, b6⟩ := box17 (h := ⟨false, 1, ⟨#[]⟩, ⟨#[]⟩, 0, 0, none, 0, 0⟩) XX.out (Below.refl _ _)
                                simp only at b0 b1 b2 b3 b4 b5 b6
                                have k2 := Blk.frozen XX.out 2
                                have k3 := Blk.frozen XX.out 3
                                have k4 := Blk.frozen XX.out 4
                                have k5 := Blk.frozen XX.out 5
                                go_upto_region 39 with (fail)
                                clear b0 b1 b2 b3 b4 b5 b6 k2 k3 k4 k5
                                generalize World.setCell _ ⟨w1.heap.size, 5, none⟩ _ = W4 at *
                                obtain ⟨z0, z1, z2, z3, z4, z5, z6⟩ := box17 (h := S17.zero) XS.out.1.a (Below.refl _ _)
                                simp only [S17.zero] at z0 z1 z2 z3 z4 z5 z6
                                have f0 := Blk.frozen XS.out.1.a 0
                                have f1 := Blk.frozen XS.out.1.a 1
                                have f2 := Blk.frozen XS.out.1.a 2
                                have f3 := Blk.frozen XS.out.1.a 3
                                have f4 := Blk.frozen XS.out.1.a 4
                                have f5 := Blk.frozen XS.out.1.a 5
                                have f6 := Blk.frozen XS.out.1.a 6
                                obtain ⟨b0, b1, b2, b3, b4, b5, b6⟩ := box17 (h := ⟨false, 1, ta, tb, (pc : Int), (pd : Int), none, 0, 0⟩) XS.out.2 (Below.refl _ _)
                                simp only at b0 b1 b2 b3 b4 b5 b6
                                have ST2 := Lib.hid (⟨put17c_blk (g := S17.zero) XS.out.1.a ⟨false, 1, ta, tb, (pc : Int), (pd : Int), none, 0, 0⟩, put17c_below XS.out.1.bel ⟨false, 1, ta, tb, (pc : Int), (pd : Int), none, 0, 0⟩⟩ : _ ∧ _)
                                go_wp2_with fail
                                obtain ⟨B9, L9⟩ := ST2.out
                                unfold put17c at B9 L9
                                simp only at B9 L9
                                generalize World.setCell _ ⟨w.heap.size, 6, none⟩ _ = W at *
                                clear z0 z1 z2 z3 z4 z5 z6 b0 b1 b2 b3 b4 b5 b6 f0 f1 f2 f3 f4 f5 f6
                                obtain ⟨c0, c1, c2, c3, c4, c5, c6⟩ := box17 (h := ⟨false, 1, ta, tb, (pc : Int), (pd : Int), none, 0, 0⟩) B9 (Below.refl _ _)
                                simp only at c0 c1 c2 c3 c4 c5 c6
                                refine ⟨rfl, .tuple #[.agg (S17.cells ⟨false, 1, ta, tb, (pc : Int), (pd : Int), none, 0, 0⟩), .int .i64 ((m : Int) + 1 + 1), .int .i64 0], ?_, by rw [HE.out.1, HE.out.2.1, HE.out.2.2]; rfl, L9⟩
                                unfold S17.cells
                                simp [results, Tryz.results9, go_sem, c0, c1, c2, c3, c4, c5, c6]
                              · have u2 : (((aT (some xb)).size : Int) == 4) = false := by rw [hB]; simp; omega
                                have v2 : ¬ (((aT (some xb)).size : Int) = 4) := by rw [hB]; omega
                                have HE := Lib.hid (get_line HNL.out HSG.out none (by rw [HLS.out, HW.out]; exact if_neg (fun x => hsb x.2)))
                                clear hsa hsb hA hB HW XX HOC HOD
                                obtain ⟨z0, z1, z2, z3, z4, z5, z6⟩ := box17 (h := S17.zero) RR.out.a (Below.refl _ _)
                                obtain ⟨y0, y1, y2, y3, y4, y5, y6⟩ := box17 (h := S17.zero) RR.out.z (Below.refl _ _)
                                simp only [S17.zero] at z0 z1 z2 z3 z4 z5 z6 y0 y1 y2 y3 y4 y5 y6
                                have f0 := Blk.frozen RR.out.a 0
                                have f1 := Blk.frozen RR.out.a 1
                                have f2 := Blk.frozen RR.out.a 2
                                have f3 := Blk.frozen RR.out.a 3
                                have f4 := Blk.frozen RR.out.a 4
                                have f5 := Blk.frozen RR.out.a 5
                                have f6 := Blk.frozen RR.out.a 6
                                have ST2 := Lib.hid (⟨put17c_blk (g := S17.zero) RR.out.a S17.zero, put17c_below RR.out.bel S17.zero⟩ : _ ∧ _)
                                go_wp2_with fail
                                obtain ⟨B9, L9⟩ := ST2.out
                                unfold put17c at B9 L9
                                simp only [S17.zero] at B9 L9
                                generalize World.setCell _ ⟨w.heap.size, 6, none⟩ _ = W at *
                                clear z0 z1 z2 z3 z4 z5 z6 y0 y1 y2 y3 y4 y5 y6 f0 f1 f2 f3 f4 f5 f6
                                obtain ⟨c0, c1, c2, c3, c4, c5, c6⟩ := box17 (h := S17.zero) B9 (Below.refl _ _)
                                simp only [S17.zero] at c0 c1 c2 c3 c4 c5 c6
                                refine ⟨rfl, .tuple #[.agg (hdr none).cells, .int .i64 0, .int .i64 9], ?_, by rw [HE.out.1, HE.out.2.1, HE.out.2.2]; rfl, L9⟩
                                rw [hdr_cells0]
                                simp [results, Tryz.results9, go_sem, c0, c1, c2, c3, c4, c5, c6]
                            · have u1 : (((aT (some xa)).size : Int) == 4) = false := by rw [hA]; simp; omega
                              have v1 : ¬ (((aT (some xa)).size : Int) = 4) := by rw [hA]; omega
                              have HE := Lib.hid (get_line HNL.out HSG.out none (by rw [HLS.out, HW.out]; exact if_neg (fun x => hsa x.1)))
                              clear hsa hA hB HW XX HOC HOD
                              obtain ⟨z0, z1, z2, z3, z4, z5, z6⟩ := box17 (h := S17.zero) RR.out.a (Below.refl _ _)
                              obtain ⟨y0, y1, y2, y3, y4, y5, y6⟩ := box17 (h := S17.zero) RR.out.z (Below.refl _ _)
                              simp only [S17.zero] at z0 z1 z2 z3 z4 z5 z6 y0 y1 y2 y3 y4 y5 y6
                              have f0 := Blk.frozen RR.out.a 0
                              have f1 := Blk.frozen RR.out.a 1
                              have f2 := Blk.frozen RR.out.a 2
                              have f3 := Blk.frozen RR.out.a 3
                              have f4 := Blk.frozen RR.out.a 4
                              have f5 := Blk.frozen RR.out.a 5
                              have f6 := Blk.frozen RR.out.a 6
                              have ST2 := Lib.hid (⟨put17c_blk (g := S17.zero) RR.out.a S17.zero, put17c_below RR.out.bel S17.zero⟩ : _ ∧ _)
                              go_wp2_with fail
                              obtain ⟨B9, L9⟩ := ST2.out
                              unfold put17c at B9 L9
                              simp only [S17.zero] at B9 L9
                              generalize World.setCell _ ⟨w.heap.size, 6, none⟩ _ = W at *
                              clear z0 z1 z2 z3 z4 z5 z6 y0 y1 y2 y3 y4 y5 y6 f0 f1 f2 f3 f4 f5 f6
                              obtain ⟨c0, c1, c2, c3, c4, c5, c6⟩ := box17 (h := S17.zero) B9 (Below.refl _ _)
                              simp only [S17.zero] at c0 c1 c2 c3 c4 c5 c6
                              refine ⟨rfl, .tuple #[.agg (hdr none).cells, .int .i64 0, .int .i64 9], ?_, by rw [HE.out.1, HE.out.2.1, HE.out.2.2]; rfl, L9⟩
                              rw [hdr_cells0]
                              simp [results, Tryz.results9, go_sem, c0, c1, c2, c3, c4, c5, c6]
                  · have t8 : (x0.toList == [84, 67, 80, 52]) = false := by rw [text_beq]; exact decide_eq_false e4
                    by_cases e6 : x0.data.toList = tword 2
                    · have t9 : (x0.toList == [84, 67, 80, 54]) = true := by rw [text_beq]; exact decide_eq_true e6
                      have HQ := Lib.hid (pick17_is 2 x1.data.toList x2.data.toList x3.data.toList x4.data.toList)
                      have hsz : ∀ y ∈ [x1, x2, x3, x4], y.size ≤ 107 := fun y hy => by
                        have hm : y.data.toList ∈ sp 32 V.data.toList := by rw [HSP.out]; exact List.mem_cons_of_mem _ (List.mem_map.2 ⟨y, hy, rfl⟩)
                        have := sp_short 32 V.data.toList _ hm
                        rw [Array.length_toList, Array.length_toList] at this
                        have e1 : y.data.size = y.size := rfl
                        have e2 : V.data.size = V.size := rfl
                        omega
                      have PA := Lib.hid (fun W => rparse_any x1 (by have := hsz x1 (by simp); omega) W)
                      have PB := Lib.hid (fun W => rparse_any x2 (by have := hsz x2 (by simp); omega) W)
                      have PC := Lib.hid (fun W => rnumber_any x3 65535 (by decide) (by have := hsz x3 (by simp); omega) W)
                      have PD := Lib.hid (fun W => rnumber_any x4 65535 (by decide) (by have := hsz x4 (by simp); omega) W)
                      simp only [addrV_eq, numV_eq] at PA PB PC PD
                      have HOC := Lib.hid (fun n => @numOf_le 65535 n x3.data.toList)
                      have HOD := Lib.hid (fun n => @numOf_le 65535 n x4.data.toList)
                      have HW : Hid (saidS V.data.toList = pick17 2 (addrOf x1.data.toList) (addrOf x2.data.toList) (numOf 65535 x3.data.toList) (numOf 65535 x4.data.toList)) := Lib.hid (by
                        rw [HSAID.out]
                        exact (if_neg e4).trans (if_pos e6))
                      generalize addrOf x1.data.toList = oa at *
                      generalize addrOf x2.data.toList = ob at *
                      generalize numOf 65535 x3.data.toList = oc at *
                      generalize numOf 65535 x4.data.toList = od at *
                      have AF := (Below.refl w1.heap.size w1).alloc (Nat.le_refl _) (.cells #[.bool false, .int .i64 2, .string ⟨#[]⟩, .string ⟨#[]⟩, .int .i64 0, .int .i64 0, .slice none 0 0] 24)
                      have BX := Blk.new w1 #[.bool false, .int .i64 2, .string ⟨#[]⟩, .string ⟨#[]⟩, .int .i64 0, .int .i64 0, .slice none 0 0] 24
                      have RF := R2.on AF
                      have s0 := hcl 0 (by simp)
                      simp only [List.getElem_cons_zero] at s0
                      have p0 := (A1.cell (p := ⟨g, 0, none⟩) hg1).trans s0
                      have q0 := (AF.cell (p := ⟨g, 0, none⟩) hg1).trans s0
                      have q1 := (AF.cell (p := ⟨g, 1, none⟩) hg1).trans (hcl 1 (by simp))
                      have HCL := Lib.hid hcl
                      simp only [List.getElem_cons_zero, List.getElem_cons_succ] at q1
                      clear hcl hl hlen h5 A1 hwd HSAID HSP HUI HQ hsz e4 e6
                      go_wp2_with fail
                      generalize w1.alloc _ = w2 at *
                      refine (PA.out _).mono ?_
                      rintro e w3 ⟨rfl, hb3⟩
                      have M3 := AF.trans (hb3.mono AF.size)
                      have X3 := BX.on hb3
                      have RG3 := RF.on hb3
                      have q2 := (M3.cell (p := ⟨g, 2, none⟩) hg1).trans (HCL.out 2 (by simp))
                      simp only [List.getElem_cons_zero, List.getElem_cons_succ] at q2
                      clear q0 q1 p0 s0 hb3 AF BX RF
                      go_wp2_with fail
                      refine (PB.out _).mono ?_
                      rintro e w4 ⟨rfl, hb4⟩
                      have M4 := M3.trans (hb4.mono M3.size)
                      have X4 := X3.on hb4
                      have RG4 := RG3.on hb4
                      have q3 := (M4.cell (p := ⟨g, 3, none⟩) hg1).trans (HCL.out 3 (by simp))
                      simp only [List.getElem_cons_zero, List.getElem_cons_succ] at q3
                      clear q2 hb4 M3 X3 RG3
                      go_wp2_with fail
                      refine (PC.out _).mono ?_
                      rintro e w5 ⟨rfl, hb5⟩
                      have M5 := M4.trans (hb5.mono M4.size)
                      have X5 := X4.on hb5
                      have RG5 := RG4.on hb5
                      have q4 := (M5.cell (p := ⟨g, 4, none⟩) hg1).trans (HCL.out 4 (by simp))
                      simp only [List.getElem_cons_zero, List.getElem_cons_succ] at q4
                      clear q3 hb5 M4 X4 RG4
                      go_wp2_with fail
                      refine (PD.out _).mono ?_
                      rintro e w6 ⟨rfl, hb6⟩
                      have XX := Lib.hid (X5.on hb6)
                      have RR := Lib.hid (RG5.on hb6)
                      clear q4 hb6 M5 X5 RG5 PA PB PC PD HCL
                      cases oa with
                      | none =>
                        simp only [eT_none]
                        have HE := Lib.hid (get_line HNL.out HSG.out none (by rw [HLS.out, HW.out]; rfl))
                        clear HW XX HOC HOD
                        obtain ⟨z0, z1, z2, z3, z4, z5, z6⟩ := box17 (h := S17.zero) RR.out.a (Below.refl _ _)
                        obtain ⟨y0, y1, y2, y3, y4, y5, y6⟩ := box17 (h := S17.zero) RR.out.z (Below.refl _ _)
                        simp only [S17.zero] at z0 z1 z2 z3 z4 z5 z6 y0 y1 y2 y3 y4 y5 y6
                        have f0 := Blk.frozen RR.out.a 0
                        have f1 := Blk.frozen RR.out.a 1
                        have f2 := Blk.frozen RR.out.a 2
                        have f3 := Blk.frozen RR.out.a 3
                        have f4 := Blk.frozen RR.out.a 4
                        have f5 := Blk.frozen RR.out.a 5
                        have f6 := Blk.frozen RR.out.a 6
                        have ST2 := Lib.hid (⟨put17c_blk (g := S17.zero) RR.out.a S17.zero, put17c_below RR.out.bel S17.zero⟩ : _ ∧ _)
                        go_wp2_with fail
                        obtain ⟨B9, L9⟩ := ST2.out
                        unfold put17c at B9 L9
                        simp only [S17.zero] at B9 L9
                        generalize World.setCell _ ⟨w.heap.size, 6, none⟩ _ = W at *
                        clear z0 z1 z2 z3 z4 z5 z6 y0 y1 y2 y3 y4 y5 y6 f0 f1 f2 f3 f4 f5 f6
                        obtain ⟨c0, c1, c2, c3, c4, c5, c6⟩ := box17 (h := S17.zero) B9 (Below.refl _ _)
                        simp only [S17.zero] at c0 c1 c2 c3 c4 c5 c6
                        refine ⟨rfl, .tuple #[.agg (hdr none).cells, .int .i64 0, .int .i64 9], ?_, by rw [HE.out.1, HE.out.2.1, HE.out.2.2]; rfl, L9⟩
                        rw [hdr_cells0]
                        simp [results, Tryz.results9, go_sem, c0, c1, c2, c3, c4, c5, c6]
                      | some xa =>
                        cases ob with
                        | none =>
                          simp only [eT_none, eT_some]
                          have HE := Lib.hid (get_line HNL.out HSG.out none (by rw [HLS.out, HW.out]; rfl))
                          clear HW XX HOC HOD
                          obtain ⟨z0, z1, z2, z3, z4, z5, z6⟩ := box17 (h := S17.zero) RR.out.a (Below.refl _ _)
                          obtain ⟨y0, y1, y2, y3, y4, y5, y6⟩ := box17 (h := S17.zero) RR.out.z (Below.refl _ _)
                          simp only [S17.zero] at z0 z1 z2 z3 z4 z5 z6 y0 y1 y2 y3 y4 y5 y6
                          have f0 := Blk.frozen RR.out.a 0
                          have f1 := Blk.frozen RR.out.a 1
                          have f2 := Blk.frozen RR.out.a 2
                          have f3 := Blk.frozen RR.out.a 3
                          have f4 := Blk.frozen RR.out.a 4
                          have f5 := Blk.frozen RR.out.a 5
                          have f6 := Blk.frozen RR.out.a 6
                          have ST2 := Lib.hid (⟨put17c_blk (g := S17.zero) RR.out.a S17.zero, put17c_below RR.out.bel S17.zero⟩ : _ ∧ _)
                          go_wp2_with fail
                          obtain ⟨B9, L9⟩ := ST2.out
                          unfold put17c at B9 L9
                          simp only [S17.zero] at B9 L9
                          generalize World.setCell _ ⟨w.heap.size, 6, none⟩ _ = W at *
                          clear z0 z1 z2 z3 z4 z5 z6 y0 y1 y2 y3 y4 y5 y6 f0 f1 f2 f3 f4 f5 f6
                          obtain ⟨c0, c1, c2, c3, c4, c5, c6⟩ := box17 (h := S17.zero) B9 (Below.refl _ _)
                          simp only [S17.zero] at c0 c1 c2 c3 c4 c5 c6
                          refine ⟨rfl, .tuple #[.agg (hdr none).cells, .int .i64 0, .int .i64 9], ?_, by rw [HE.out.1, HE.out.2.1, HE.out.2.2]; rfl, L9⟩
                          rw [hdr_cells0]
                          simp [results, Tryz.results9, go_sem, c0, c1, c2, c3, c4, c5, c6]
                        | some xb =>
                          cases oc with
                          | none =>
                            simp only [eT_none, eT_some]
                            have HE := Lib.hid (get_line HNL.out HSG.out none (by rw [HLS.out, HW.out]; rfl))
                            clear HW XX HOC HOD
                            obtain ⟨z0, z1, z2, z3, z4, z5, z6⟩ := box17 (h := S17.zero) RR.out.a (Below.refl _ _)
                            obtain ⟨y0, y1, y2, y3, y4, y5, y6⟩ := box17 (h := S17.zero) RR.out.z (Below.refl _ _)
                            simp only [S17.zero] at z0 z1 z2 z3 z4 z5 z6 y0 y1 y2 y3 y4 y5 y6
                            have f0 := Blk.frozen RR.out.a 0
                            have f1 := Blk.frozen RR.out.a 1
                            have f2 := Blk.frozen RR.out.a 2
                            have f3 := Blk.frozen RR.out.a 3
                            have f4 := Blk.frozen RR.out.a 4
                            have f5 := Blk.frozen RR.out.a 5
                            have f6 := Blk.frozen RR.out.a 6
                            have ST2 := Lib.hid (⟨put17c_blk (g := S17.zero) RR.out.a S17.zero, put17c_below RR.out.bel S17.zero⟩ : _ ∧ _)
                            go_wp2_with fail
                            obtain ⟨B9, L9⟩ := ST2.out
                            unfold put17c at B9 L9
                            simp only [S17.zero] at B9 L9
                            generalize World.setCell _ ⟨w.heap.size, 6, none⟩ _ = W at *
                            clear z0 z1 z2 z3 z4 z5 z6 y0 y1 y2 y3 y4 y5 y6 f0 f1 f2 f3 f4 f5 f6
                            obtain ⟨c0, c1, c2, c3, c4, c5, c6⟩ := box17 (h := S17.zero) B9 (Below.refl _ _)
                            simp only [S17.zero] at c0 c1 c2 c3 c4 c5 c6
                            refine ⟨rfl, .tuple #[.agg (hdr none).cells, .int .i64 0, .int .i64 9], ?_, by rw [HE.out.1, HE.out.2.1, HE.out.2.2]; rfl, L9⟩
                            rw [hdr_cells0]
                            simp [results, Tryz.results9, go_sem, c0, c1, c2, c3, c4, c5, c6]
                          | some pc =>
                            cases od with
                            | none =>
                              simp only [eT_none, eT_some]
                              have HE := Lib.hid (get_line HNL.out HSG.out none (by rw [HLS.out, HW.out]; rfl))
                              clear HW XX HOC HOD
                              obtain ⟨z0, z1, z2, z3, z4, z5, z6⟩ := box17 (h := S17.zero) RR.out.a (Below.refl _ _)
                              obtain ⟨y0, y1, y2, y3, y4, y5, y6⟩ := box17 (h := S17.zero) RR.out.z (Below.refl _ _)
                              simp only [S17.zero] at z0 z1 z2 z3 z4 z5 z6 y0 y1 y2 y3 y4 y5 y6
                              have f0 := Blk.frozen RR.out.a 0
                              have f1 := Blk.frozen RR.out.a 1
                              have f2 := Blk.frozen RR.out.a 2
                              have f3 := Blk.frozen RR.out.a 3
                              have f4 := Blk.frozen RR.out.a 4
                              have f5 := Blk.frozen RR.out.a 5
                              have f6 := Blk.frozen RR.out.a 6
                              have ST2 := Lib.hid (⟨put17c_blk (g := S17.zero) RR.out.a S17.zero, put17c_below RR.out.bel S17.zero⟩ : _ ∧ _)
                              go_wp2_with fail
                              obtain ⟨B9, L9⟩ := ST2.out
                              unfold put17c at B9 L9
                              simp only [S17.zero] at B9 L9
                              generalize World.setCell _ ⟨w.heap.size, 6, none⟩ _ = W at *
                              clear z0 z1 z2 z3 z4 z5 z6 y0 y1 y2 y3 y4 y5 y6 f0 f1 f2 f3 f4 f5 f6
                              obtain ⟨c0, c1, c2, c3, c4, c5, c6⟩ := box17 (h := S17.zero) B9 (Below.refl _ _)
                              simp only [S17.zero] at c0 c1 c2 c3 c4 c5 c6
                              refine ⟨rfl, .tuple #[.agg (hdr none).cells, .int .i64 0, .int .i64 9], ?_, by rw [HE.out.1, HE.out.2.1, HE.out.2.2]; rfl, L9⟩
                              rw [hdr_cells0]
                              simp [results, Tryz.results9, go_sem, c0, c1, c2, c3, c4, c5, c6]
                            | some pd =>
                              simp only [eT_some, Option.getD_some]
                              have hA : (aT (some xa)).size = xa.length := list_size _
                              have hB : (aT (some xb)).size = xb.length := list_size _
                              by_cases hsa : xa.length = 16
                              · have v1 : ((aT (some xa)).size : Int) = 16 := by rw [hA, hsa]; rfl
                                by_cases hsb : xb.length = 16
                                · have v2 : ((aT (some xb)).size : Int) = 16 := by rw [hB, hsb]; rfl
                                  have HE := Lib.hid (get_line HNL.out HSG.out (some ⟨false, 2, aT (some xa), aT (some xb), (pc : Int), (pd : Int), none, 0, 0⟩) (by rw [HLS.out, HW.out]; exact if_pos ⟨hsa, hsb⟩))
                                  clear hsa hsb hA hB HW HOC HOD
                                  generalize aT (some xa) = ta at *
                                  generalize aT (some xb) = tb at *
                                  have hX := R2.z.lt
                                  have XS := Lib.hid (rg_set RR.out XX.out hX ta tb (pc : Int) (pd : Int))
                                  obtain ⟨b0, b1, b2, b3, b4, b5, b6⟩ := box17 (h := ⟨false, 2, ⟨#[]⟩, ⟨#[]⟩, 0, 0, none, 0, 0⟩) XX.out (Below.refl _ _)
                                  simp only at b0 b1 b2 b3 b4 b5 b6
                                  have k2 := Blk.frozen XX.out 2
                                  have k3 := Blk.frozen XX.out 3
                                  have k4 := Blk.frozen XX.out 4
                                  have k5 := Blk.frozen XX.out 5
                                  go_upto_region 39 with (fail)
                                  clear b0 b1 b2 b3 b4 b5 b6 k2 k3 k4 k5
                                  generalize World.setCell _ ⟨w1.heap.size, 5, none⟩ _ = W4 at *
                                  obtain ⟨z0, z1, z2, z3, z4, z5, z6⟩ := box17 (h := S17.zero) XS.out.1.a (Below.refl _ _)
                                  simp only [S17.zero] at z0 z1 z2 z3 z4 z5 z6
                                  have f0 := Blk.frozen XS.out.1.a 0
                                  have f1 := Blk.frozen XS.out.1.a 1
                                  have f2 := Blk.frozen XS.out.1.a 2
                                  have f3 := Blk.frozen XS.out.1.a 3
                                  have f4 := Blk.frozen XS.out.1.a 4
                                  have f5 := Blk.frozen XS.out.1.a 5
                                  have f6 := Blk.frozen XS.out.1.a 6
                                  obtain ⟨b0, b1, b2, b3, b4, b5, b6⟩ := box17 (h := ⟨false, 2, ta, tb, (pc : Int), (pd : Int), none, 0, 0⟩) XS.out.2 (Below.refl _ _)
                                  simp only at b0 b1 b2 b3 b4 b5 b6
                                  have ST2 := Lib.hid (⟨put17c_blk (g := S17.zero) XS.out.1.a ⟨false, 2, ta, tb, (pc : Int), (pd : Int), none, 0, 0⟩, put17c_below XS.out.1.bel ⟨false, 2, ta, tb, (pc : Int), (pd : Int), none, 0, 0⟩⟩ : _ ∧ _)
                                  go_wp2_with fail
                                  obtain ⟨B9, L9⟩ := ST2.out
                                  unfold put17c at B9 L9
                                  simp only at B9 L9
                                  generalize World.setCell _ ⟨w.heap.size, 6, none⟩ _ = W at *
                                  clear z0 z1 z2 z3 z4 z5 z6 b0 b1 b2 b3 b4 b5 b6 f0 f1 f2 f3 f4 f5 f6
                                  obtain ⟨c0, c1, c2, c3, c4, c5, c6⟩ := box17 (h := ⟨false, 2, ta, tb, (pc : Int), (pd : Int), none, 0, 0⟩) B9 (Below.refl _ _)
                                  simp only at c0 c1 c2 c3 c4 c5 c6
                                  refine ⟨rfl, .tuple #[.agg (S17.cells ⟨false, 2, ta, tb, (pc : Int), (pd : Int), none, 0, 0⟩), .int .i64 ((m : Int) + 1 + 1), .int .i64 0], ?_, by rw [HE.out.1, HE.out.2.1, HE.out.2.2]; rfl, L9⟩
                                  unfold S17.cells
                                  simp [results, Tryz.results9, go_sem, c0, c1, c2, c3, c4, c5, c6]
                                · have u2 : (((aT (some xb)).size : Int) == 16) = false := by rw [hB]; simp; omega
                                  have v2 : ¬ (((aT (some xb)).size : Int) = 16) := by rw [hB]; omega
                                  have HE := Lib.hid (get_line HNL.out HSG.out none (by rw [HLS.out, HW.out]; exact if_neg (fun x => hsb x.2)))
                                  clear hsa hsb hA hB HW XX HOC HOD
                                  obtain ⟨z0, z1, z2, z3, z4, z5, z6⟩ := box17 (h := S17.zero) RR.out.a (Below.refl _ _)
                                  obtain ⟨y0, y1, y2, y3, y4, y5, y6⟩ := box17 (h := S17.zero) RR.out.z (Below.refl _ _)
                                  simp only [S17.zero] at z0 z1 z2 z3 z4 z5 z6 y0 y1 y2 y3 y4 y5 y6
                                  have f0 := Blk.frozen RR.out.a 0
                                  have f1 := Blk.frozen RR.out.a 1
                                  have f2 := Blk.frozen RR.out.a 2
                                  have f3 := Blk.frozen RR.out.a 3
                                  have f4 := Blk.frozen RR.out.a 4
                                  have f5 := Blk.frozen RR.out.a 5
                                  have f6 := Blk.frozen RR.out.a 6
                                  have ST2 := Lib.hid (⟨put17c_blk (g := S17.zero) RR.out.a S17.zero, put17c_below RR.out.bel S17.zero⟩ : _ ∧ _)
                                  go_wp2_with fail
                                  obtain ⟨B9, L9⟩ := ST2.out
                                  unfold put17c at B9 L9
                                  simp only [S17.zero] at B9 L9
                                  generalize World.setCell _ ⟨w.heap.size, 6, none⟩ _ = W at *
                                  clear z0 z1 z2 z3 z4 z5 z6 y0 y1 y2 y3 y4 y5 y6 f0 f1 f2 f3 f4 f5 f6
                                  obtain ⟨c0, c1, c2, c3, c4, c5, c6⟩ := box17 (h := S17.zero) B9 (Below.refl _ _)
                                  simp only [S17.zero] at c0 c1 c2 c3 c4 c5 c6
                                  refine ⟨rfl, .tuple #[.agg (hdr none).cells, .int .i64 0, .int .i64 9], ?_, by rw [HE.out.1, HE.out.2.1, HE.out.2.2]; rfl, L9⟩
                                  rw [hdr_cells0]
                                  simp [results, Tryz.results9, go_sem, c0, c1, c2, c3, c4, c5, c6]
                              · have u1 : (((aT (some xa)).size : Int) == 16) = false := by rw [hA]; simp; omega
                                have v1 : ¬ (((aT (some xa)).size : Int) = 16) := by rw [hA]; omega
                                have HE := Lib.hid (get_line HNL.out HSG.out none (by rw [HLS.out, HW.out]; exact if_neg (fun x => hsa x.1)))
                                clear hsa hA hB HW XX HOC HOD
                                obtain ⟨z0, z1, z2, z3, z4, z5, z6⟩ := box17 (h := S17.zero) RR.out.a (Below.refl _ _)
                                obtain ⟨y0, y1, y2, y3, y4, y5, y6⟩ := box17 (h := S17.zero) RR.out.z (Below.refl _ _)
                                simp only [S17.zero] at z0 z1 z2 z3 z4 z5 z6 y0 y1 y2 y3 y4 y5 y6
                                have f0 := Blk.frozen RR.out.a 0
                                have f1 := Blk.frozen RR.out.a 1
                                have f2 := Blk.frozen RR.out.a 2
                                have f3 := Blk.frozen RR.out.a 3
                                have f4 := Blk.frozen RR.out.a 4
                                have f5 := Blk.frozen RR.out.a 5
                                have f6 := Blk.frozen RR.out.a 6
                                have ST2 := Lib.hid (⟨put17c_blk (g := S17.zero) RR.out.a S17.zero, put17c_below RR.out.bel S17.zero⟩ : _ ∧ _)
                                go_wp2_with fail
                                obtain ⟨B9, L9⟩ := ST2.out
                                unfold put17c at B9 L9
                                simp only [S17.zero] at B9 L9
                                generalize World.setCell _ ⟨w.heap.size, 6, none⟩ _ = W at *
                                clear z0 z1 z2 z3 z4 z5 z6 y0 y1 y2 y3 y4 y5 y6 f0 f1 f2 f3 f4 f5 f6
                                obtain ⟨c0, c1, c2, c3, c4, c5, c6⟩ := box17 (h := S17.zero) B9 (Below.refl _ _)
                                simp only [S17.zero] at c0 c1 c2 c3 c4 c5 c6
                                refine ⟨rfl, .tuple #[.agg (hdr none).cells, .int .i64 0, .int .i64 9], ?_, by rw [HE.out.1, HE.out.2.1, HE.out.2.2]; rfl, L9⟩
                                rw [hdr_cells0]
                                simp [results, Tryz.results9, go_sem, c0, c1, c2, c3, c4, c5, c6]
                    · have t9 : (x0.toList == [84, 67, 80, 54]) = false := by rw [text_beq]; exact decide_eq_false e6
                      have HE := Lib.hid (get_line HNL.out HSG.out none (by rw [HLS.out, HSAID.out, if_neg e4, if_neg e6]))
                      have p0 := (A1.cell (p := ⟨g, 0, none⟩) hg1).trans (hcl 0 (by simp))
                      simp only [List.getElem_cons_zero] at p0
                      clear hl hlen hcl hwd R2 A1 e4 e6 h5
                      obtain ⟨z0, z1, z2, z3, z4, z5, z6⟩ := box17 (h := S17.zero) R3.out.a (Below.refl _ _)
                      obtain ⟨y0, y1, y2, y3, y4, y5, y6⟩ := box17 (h := S17.zero) R3.out.z (Below.refl _ _)
                      simp only [S17.zero] at z0 z1 z2 z3 z4 z5 z6 y0 y1 y2 y3 y4 y5 y6
                      have f0 := Blk.frozen R3.out.a 0
                      have f1 := Blk.frozen R3.out.a 1
                      have f2 := Blk.frozen R3.out.a 2
                      have f3 := Blk.frozen R3.out.a 3
                      have f4 := Blk.frozen R3.out.a 4
                      have f5 := Blk.frozen R3.out.a 5
                      have f6 := Blk.frozen R3.out.a 6
                      have ST2 := Lib.hid (⟨put17c_blk (g := S17.zero) R3.out.a S17.zero, put17c_below R3.out.bel S17.zero⟩ : _ ∧ _)
                      go_wp2_with fail
                      obtain ⟨B9, L9⟩ := ST2.out
                      unfold put17c at B9 L9
                      simp only [S17.zero] at B9 L9
                      generalize World.setCell _ ⟨w.heap.size, 6, none⟩ _ = W at *
                      clear z0 z1 z2 z3 z4 z5 z6 y0 y1 y2 y3 y4 y5 y6 f0 f1 f2 f3 f4 f5 f6
                      obtain ⟨c0, c1, c2, c3, c4, c5, c6⟩ := box17 (h := S17.zero) B9 (Below.refl _ _)
                      simp only [S17.zero] at c0 c1 c2 c3 c4 c5 c6
                      refine ⟨rfl, .tuple #[.agg (hdr none).cells, .int .i64 0, .int .i64 9], ?_, by rw [HE.out.1, HE.out.2.1, HE.out.2.2]; rfl, L9⟩
                      rw [hdr_cells0]
                      simp [results, Tryz.results9, go_sem, c0, c1, c2, c3, c4, c5, c6]
                · have HE := Lib.hid (get_line HNL.out HSG.out none (by
                    rw [HLS.out, HSAID.out, words17_few 1 r (by omega), words17_few 2 r (by omega)]
                    split
                    · rfl
                    · split <;> rfl))
                  have t7 : ((l.length : Int) == 5) = false := by simp; omega
                  clear h5 hl hlen hcl hwd R2 A1
                  obtain ⟨z0, z1, z2, z3, z4, z5, z6⟩ := box17 (h := S17.zero) R3.out.a (Below.refl _ _)
                  obtain ⟨y0, y1, y2, y3, y4, y5, y6⟩ := box17 (h := S17.zero) R3.out.z (Below.refl _ _)
                  simp only [S17.zero] at z0 z1 z2 z3 z4 z5 z6 y0 y1 y2 y3 y4 y5 y6
                  have f0 := Blk.frozen R3.out.a 0
                  have f1 := Blk.frozen R3.out.a 1
                  have f2 := Blk.frozen R3.out.a 2
                  have f3 := Blk.frozen R3.out.a 3
                  have f4 := Blk.frozen R3.out.a 4
                  have f5 := Blk.frozen R3.out.a 5
                  have f6 := Blk.frozen R3.out.a 6
                  have ST2 := Lib.hid (⟨put17c_blk (g := S17.zero) R3.out.a S17.zero, put17c_below R3.out.bel S17.zero⟩ : _ ∧ _)
                  go_wp2_with fail
                  obtain ⟨B9, L9⟩ := ST2.out
                  unfold put17c at B9 L9
                  simp only [S17.zero] at B9 L9
                  generalize World.setCell _ ⟨w.heap.size, 6, none⟩ _ = W at *
                  clear z0 z1 z2 z3 z4 z5 z6 y0 y1 y2 y3 y4 y5 y6 f0 f1 f2 f3 f4 f5 f6
                  obtain ⟨c0, c1, c2, c3, c4, c5, c6⟩ := box17 (h := S17.zero) B9 (Below.refl _ _)
                  simp only [S17.zero] at c0 c1 c2 c3 c4 c5 c6
                  refine ⟨rfl, .tuple #[.agg (hdr none).cells, .int .i64 0, .int .i64 9], ?_, by rw [HE.out.1, HE.out.2.1, HE.out.2.2]; rfl, L9⟩
                  rw [hdr_cells0]
                  simp [results, Tryz.results9, go_sem, c0, c1, c2, c3, c4, c5, c6]
          · have t3 : ((c.toNat : Int) == 13) = false := beq_false_of_ne (fun e => hx (UInt8.toNat_inj.1 (by show c.toNat = 13; omega)))
            have HE : Hid (getH17 b.data.toList = S17.zero ∧ getN17 b.data.toList = 0 ∧ getE17 b.data.toList = 9) := Lib.hid (get_line HNL.out HSG.out none (line_end13 HFAR.out.1 HFAR.out.2.1 hc hx))
            clear hc hx
            obtain ⟨z0, z1, z2, z3, z4, z5, z6⟩ := box17 (h := S17.zero) R1.out.a (Below.refl _ _)
            obtain ⟨y0, y1, y2, y3, y4, y5, y6⟩ := box17 (h := S17.zero) R1.out.z (Below.refl _ _)
            simp only [S17.zero] at z0 z1 z2 z3 z4 z5 z6 y0 y1 y2 y3 y4 y5 y6
            have f0 := Blk.frozen R1.out.a 0
            have f1 := Blk.frozen R1.out.a 1
            have f2 := Blk.frozen R1.out.a 2
            have f3 := Blk.frozen R1.out.a 3
            have f4 := Blk.frozen R1.out.a 4
            have f5 := Blk.frozen R1.out.a 5
            have f6 := Blk.frozen R1.out.a 6
            have ST2 := Lib.hid (⟨put17c_blk (g := S17.zero) R1.out.a S17.zero, put17c_below R1.out.bel S17.zero⟩ : _ ∧ _)
            go_wp2_with fail
            obtain ⟨B9, L9⟩ := ST2.out
            unfold put17c at B9 L9
            simp only [S17.zero] at B9 L9
            generalize World.setCell _ ⟨w.heap.size, 6, none⟩ _ = W at *
            clear z0 z1 z2 z3 z4 z5 z6 y0 y1 y2 y3 y4 y5 y6 f0 f1 f2 f3 f4 f5 f6
            obtain ⟨c0, c1, c2, c3, c4, c5, c6⟩ := box17 (h := S17.zero) B9 (Below.refl _ _)
            simp only [S17.zero] at c0 c1 c2 c3 c4 c5 c6
            refine ⟨rfl, .tuple #[.agg (hdr none).cells, .int .i64 0, .int .i64 9], ?_, by rw [HE.out.1, HE.out.2.1, HE.out.2.2]; rfl, L9⟩
            rw [hdr_cells0]
            simp [results, Tryz.results9, go_sem, c0, c1, c2, c3, c4, c5, c6]

end Go.Proofs.YtpappmbnblaccaaGreatDoor
