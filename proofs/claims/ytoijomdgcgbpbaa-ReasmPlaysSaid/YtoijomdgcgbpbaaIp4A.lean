/-
  IPv4 headers and packets, plain: which header may be, its packet, and what bytes say; no Go function is walked here.
-/
import Derived.Test.YtoijomdgcgbpbaaReading
import Derived.Test.YtoijomdgcgbpbaaGround
import Derived.Test.YtoijomdgcgbpbaaSums
import Derived.Deep.CutBlock
import Derived.Deep.DeepCutAuto
import Derived.RegionTactic
import Derived.BigRegion
namespace Go.Proofs.Ytoijomdgcgbpbaa
open Go.RowKit
set_option linter.unusedVariables false

/-- A header. -/
structure H4 where
  tos : Int
  id : Int
  off : Int
  ttl : Int
  proto : Int
  df : Bool
  mf : Bool
  src : ByteArray
  dst : ByteArray
  opt : ByteArray

/-- Its cells. -/
def H4.cells (h : H4) : Array Value := #[.int .i64 h.tos, .int .i64 h.id, .int .i64 h.off, .int .i64 h.ttl, .int .i64 h.proto, .bool h.df, .bool h.mf, .string h.src, .string h.dst, .string h.opt]
def H4.zero : H4 := ⟨0, 0, 0, 0, 0, false, false, ⟨#[]⟩, ⟨#[]⟩, ⟨#[]⟩⟩

/-- The header's cells. -/
structure Hc (u : World) (B : Nat) (h : H4) : Prop where
  c0 : u.cell? ⟨B, 0, none⟩ = some (.int .i64 h.tos)
  c1 : u.cell? ⟨B, 1, none⟩ = some (.int .i64 h.id)
  c2 : u.cell? ⟨B, 2, none⟩ = some (.int .i64 h.off)
  c3 : u.cell? ⟨B, 3, none⟩ = some (.int .i64 h.ttl)
  c4 : u.cell? ⟨B, 4, none⟩ = some (.int .i64 h.proto)
  c5 : u.cell? ⟨B, 5, none⟩ = some (.bool h.df)
  c6 : u.cell? ⟨B, 6, none⟩ = some (.bool h.mf)
  c7 : u.cell? ⟨B, 7, none⟩ = some (.string h.src)
  c8 : u.cell? ⟨B, 8, none⟩ = some (.string h.dst)
  c9 : u.cell? ⟨B, 9, none⟩ = some (.string h.opt)
theorem Hc.of {u : World} {B : Nat} {h : H4} {T : TypeId} (hb : Blk u B h.cells T) : Hc u B h :=
  ⟨hb.cell 0, hb.cell 1, hb.cell 2, hb.cell 3, hb.cell 4, hb.cell 5, hb.cell 6, hb.cell 7, hb.cell 8, hb.cell 9⟩

/-- The table of what may be: a number, its least and its greatest. -/
def H4.row (h : H4) : Nat → Int × Int × Int
  | 0 => (h.tos, 0, 255)
  | 1 => (h.ttl, 0, 255)
  | 2 => (h.proto, 0, 255)
  | 3 => (h.id, 0, 65535)
  | 4 => (h.off, 0, 8191)
  | 5 => (h.src.size, 4, 4)
  | 6 => (h.dst.size, 4, 4)
  | 7 => (h.opt.size, 0, 40)
  | _ => ((h.opt.size : Int) % 4, 0, 0)
def H4.fine (h : H4) (k : Nat) : Bool := decide ((h.row k).2.1 ≤ (h.row k).1) && decide ((h.row k).1 ≤ (h.row k).2.2)
/-- May a header be? -/
def H4.ok (h : H4) : Bool := h.fine 0 && h.fine 1 && h.fine 2 && h.fine 3 && h.fine 4 && h.fine 5 && h.fine 6 && h.fine 7 && h.fine 8

structure H4.Ok (h : H4) : Prop where
  tos : 0 ≤ h.tos ∧ h.tos ≤ 255
  ttl : 0 ≤ h.ttl ∧ h.ttl ≤ 255
  proto : 0 ≤ h.proto ∧ h.proto ≤ 255
  id : 0 ≤ h.id ∧ h.id ≤ 65535
  off : 0 ≤ h.off ∧ h.off ≤ 8191
  src : h.src.size = 4
  dst : h.dst.size = 4
  opt : h.opt.size ≤ 40
  opt4 : h.opt.size % 4 = 0
theorem H4.ok_iff (h : H4) : h.ok = true ↔ h.Ok := by
  constructor
  · intro e
    simp only [H4.ok, H4.fine, H4.row, Bool.and_eq_true, decide_eq_true_eq] at e
    exact ⟨by omega, by omega, by omega, by omega, by omega, by omega, by omega, by omega, by omega⟩
  · rintro ⟨_, _, _, _, _, _, _, _, _⟩
    simp only [H4.ok, H4.fine, H4.row, Bool.and_eq_true, decide_eq_true_eq]
    omega

theorem H4.ok_step (h : H4) (k : Nat) (hk : k < 9) (hf : h.fine k = false) : h.ok = false := by
  have : k = 0 ∨ k = 1 ∨ k = 2 ∨ k = 3 ∨ k = 4 ∨ k = 5 ∨ k = 6 ∨ k = 7 ∨ k = 8 := by omega
  rcases this with rfl | rfl | rfl | rfl | rfl | rfl | rfl | rfl | rfl <;> simp [H4.ok, hf]
theorem H4.ok_all (h : H4) (hf : ∀ k, k < 9 → h.fine k = true) : h.ok = true := by
  simp [H4.ok, hf]

/-- Bytes of a header. -/
def H4.size (h : H4) : Nat := 20 + h.opt.size
def H4.flags (h : H4) : Nat := (if h.df then 16384 else 0) + (if h.mf then 8192 else 0) + h.off.toNat
/-- What stands ahead of the sum, and behind it. -/
def H4.head (h : H4) (n : Nat) : List UInt8 := be (64 + h.size / 4) 1 ++ be h.tos.toNat 1 ++ be n 2 ++ be h.id.toNat 2 ++ be h.flags 2 ++ be h.ttl.toNat 1 ++ be h.proto.toNat 1
def H4.tail (h : H4) : List UInt8 := h.src.data.toList ++ h.dst.data.toList ++ h.opt.data.toList
def H4.pack (h : H4) (pay : ByteArray) : List UInt8 :=
  h.head (h.size + pay.size) ++ be (sumD (h.head (h.size + pay.size) ++ h.tail)) 2 ++ h.tail ++ pay.data.toList

def putE (h : H4) (pay : ByteArray) : Nat := if h.ok then if 65535 < h.size + pay.size then 4 else 0 else 1
def putS (h : H4) (pay : ByteArray) : ByteArray := if putE h pay = 0 then ⟨(h.pack pay).toArray⟩ else ⟨#[]⟩

/-- How many bytes a packet's header has, as it says. -/
def hsz (p : ByteArray) : Nat := 4 * (numOf p 0 1 % 16)
def getE (p : ByteArray) : Nat :=
  if p.size < 20 then 2 else if numOf p 0 1 / 16 ≠ 4 then 3 else if hsz p < 20 ∨ p.size < hsz p then 4 else if numOf p 2 2 ≠ p.size then 4
  else if sumD (p.extract 0 (hsz p)).data.toList ≠ 0 then 5 else if 32768 ≤ numOf p 6 2 then 9 else 0
/-- The header that stands there. -/
def hdr (p : ByteArray) : H4 := ⟨numOf p 1 1, numOf p 4 2, (numOf p 6 2 % 8192 : Nat), numOf p 8 1, numOf p 9 1, decide (numOf p 6 2 / 16384 % 2 = 1), decide (numOf p 6 2 / 8192 % 2 = 1), p.extract 12 16, p.extract 16 20, p.extract 20 (hsz p)⟩
def getH (p : ByteArray) : H4 := if getE p = 0 then hdr p else H4.zero
def getS (p : ByteArray) : ByteArray := if getE p = 0 then p.extract (hsz p) p.size else ⟨#[]⟩

theorem getE_short {p : ByteArray} (h : ¬ 20 ≤ p.size) : getE p = 2 := by unfold getE; rw [if_pos (by omega)]
theorem getE_ver {p : ByteArray} (h : 20 ≤ p.size) (h1 : numOf p 0 1 / 16 ≠ 4) : getE p = 3 := by unfold getE; rw [if_neg (by omega), if_pos h1]
theorem getE_len {p : ByteArray} (h : 20 ≤ p.size) (h1 : numOf p 0 1 / 16 = 4) (h2 : ¬ (20 ≤ hsz p ∧ hsz p ≤ p.size)) : getE p = 4 := by
  unfold getE; rw [if_neg (by omega), if_neg (by omega), if_pos (by omega)]
theorem getE_all {p : ByteArray} (h : 20 ≤ p.size) (h1 : numOf p 0 1 / 16 = 4) (h2 : 20 ≤ hsz p ∧ hsz p ≤ p.size) (h3 : numOf p 2 2 ≠ p.size) : getE p = 4 := by
  unfold getE; rw [if_neg (by omega), if_neg (by omega), if_neg (by omega), if_pos h3]
theorem getE_sum {p : ByteArray} (h : 20 ≤ p.size) (h1 : numOf p 0 1 / 16 = 4) (h2 : 20 ≤ hsz p ∧ hsz p ≤ p.size) (h3 : numOf p 2 2 = p.size) (h4 : sumD (p.extract 0 (hsz p)).data.toList ≠ 0) : getE p = 5 := by
  unfold getE; rw [if_neg (by omega), if_neg (by omega), if_neg (by omega), if_neg (by omega), if_pos h4]
theorem getE_form {p : ByteArray} (h : 20 ≤ p.size) (h1 : numOf p 0 1 / 16 = 4) (h2 : 20 ≤ hsz p ∧ hsz p ≤ p.size) (h3 : numOf p 2 2 = p.size) (h4 : sumD (p.extract 0 (hsz p)).data.toList = 0) (h5 : 32768 ≤ numOf p 6 2) : getE p = 9 := by
  unfold getE; rw [if_neg (by omega), if_neg (by omega), if_neg (by omega), if_neg (by omega), if_neg (by omega), if_pos h5]
theorem getE_ok {p : ByteArray} (h : 20 ≤ p.size) (h1 : numOf p 0 1 / 16 = 4) (h2 : 20 ≤ hsz p ∧ hsz p ≤ p.size) (h3 : numOf p 2 2 = p.size) (h4 : sumD (p.extract 0 (hsz p)).data.toList = 0) (h5 : numOf p 6 2 < 32768) : getE p = 0 := by
  unfold getE; rw [if_neg (by omega), if_neg (by omega), if_neg (by omega), if_neg (by omega), if_neg (by omega), if_neg (by omega)]
/-- Just when bytes are a packet. -/
structure Good (p : ByteArray) : Prop where
  short : 20 ≤ p.size
  ver : numOf p 0 1 / 16 = 4
  len : 20 ≤ hsz p ∧ hsz p ≤ p.size
  all : numOf p 2 2 = p.size
  sum : sumD (p.extract 0 (hsz p)).data.toList = 0
  form : numOf p 6 2 < 32768
theorem getE_zero {p : ByteArray} : getE p = 0 ↔ Good p := by
  constructor
  · intro e
    by_cases h : 20 ≤ p.size
    · by_cases h1 : numOf p 0 1 / 16 = 4
      · by_cases h2 : 20 ≤ hsz p ∧ hsz p ≤ p.size
        · by_cases h3 : numOf p 2 2 = p.size
          · by_cases h4 : sumD (p.extract 0 (hsz p)).data.toList = 0
            · by_cases h5 : numOf p 6 2 < 32768
              · exact ⟨h, h1, h2, h3, h4, h5⟩
              · rw [getE_form h h1 h2 h3 h4 (by omega)] at e; omega
            · rw [getE_sum h h1 h2 h3 h4] at e; omega
          · rw [getE_all h h1 h2 h3] at e; omega
        · rw [getE_len h h1 h2] at e; omega
      · rw [getE_ver h h1] at e; omega
    · rw [getE_short h] at e; omega
  · rintro ⟨h, h1, h2, h3, h4, h5⟩
    exact getE_ok h h1 h2 h3 h4 h5

end Go.Proofs.Ytoijomdgcgbpbaa

/-
  Check, and the laws' 'few': a header's own numbers.
-/
namespace Go.Proofs.Ytoijomdgcgbpbaa
open Go.RowKit
set_option linter.unusedVariables false

/-- Is a header not too long? -/
def H4.few (h : H4) : Bool := decide (h.src.size ≤ 300) && decide (h.dst.size ≤ 300) && decide (h.opt.size ≤ 300)

/-- The table's cells. -/
def H4.tab (h : H4) : Array Value := #[.int .i64 h.tos, .int .i64 0, .int .i64 255, .int .i64 h.ttl, .int .i64 0, .int .i64 255, .int .i64 h.proto, .int .i64 0, .int .i64 255, .int .i64 h.id, .int .i64 0, .int .i64 65535,
  .int .i64 h.off, .int .i64 0, .int .i64 8191, .int .i64 h.src.size, .int .i64 4, .int .i64 4, .int .i64 h.dst.size, .int .i64 4, .int .i64 4, .int .i64 h.opt.size, .int .i64 0, .int .i64 40, .int .i64 ((h.opt.size : Int) % 4), .int .i64 0, .int .i64 0]
theorem H4.tab_at (h : H4) (k : Nat) (hk : k < 9) : h.tab[k * 3]? = some (.int .i64 (h.row k).1) ∧ h.tab[k * 3 + 1]? = some (.int .i64 (h.row k).2.1) ∧ h.tab[k * 3 + 2]? = some (.int .i64 (h.row k).2.2) := by
  have : k = 0 ∨ k = 1 ∨ k = 2 ∨ k = 3 ∨ k = 4 ∨ k = 5 ∨ k = 6 ∨ k = 7 ∨ k = 8 := by omega
  rcases this with rfl | rfl | rfl | rfl | rfl | rfl | rfl | rfl | rfl <;> exact ⟨rfl, rfl, rfl⟩

/-- Check's error. -/
def H4.err (h : H4) : Nat := if h.ok then 0 else 1
theorem H4.err_ok {h : H4} (e : h.ok = true) : h.err = 0 := by simp [H4.err, e]
theorem H4.err_no {h : H4} (e : h.ok = false) : h.err = 1 := by simp [H4.err, e]

set_option maxHeartbeats 1000000 in
theorem check_any (h : H4) (w : World) :
    Calls Try.prog 85 #[.agg h.cells] w fun e w' => e = .returned (.int .i64 (h.err : Nat)) ∧ Below w.heap.size w w' := by
  unfold H4.cells
  go_enter Try.func85, Try.ntmps85
  go_wp2_with fail
  have HB0 : Hid (Blk ((w.alloc (.cells #[.int .i64 h.tos, .int .i64 h.id, .int .i64 h.off, .int .i64 h.ttl, .int .i64 h.proto, .bool h.df, .bool h.mf, .string h.src, .string h.dst, .string h.opt] 43)).alloc (.cells h.tab 152)) (w.heap.size + 1) h.tab 152) := by
    have := Blk.new (w.alloc (.cells #[.int .i64 h.tos, .int .i64 h.id, .int .i64 h.off, .int .i64 h.ttl, .int .i64 h.proto, .bool h.df, .bool h.mf, .string h.src, .string h.dst, .string h.opt] 43)) h.tab 152
    rw [show (w.alloc (.cells #[.int .i64 h.tos, .int .i64 h.id, .int .i64 h.off, .int .i64 h.ttl, .int .i64 h.proto, .bool h.df, .bool h.mf, .string h.src, .string h.dst, .string h.opt] 43)).heap.size = w.heap.size + 1 from by simp] at this
    exact this
  go_loopw [39] (fun i wr => ∃ k : Nat, k ≤ 9 ∧ i = .int .i64 k ∧ Hid (∀ j, j < k → h.fine j = true) ∧ Hid (Blk wr (w.heap.size + 1) h.tab 152) ∧ Hid (Below w.heap.size w wr)) (fun i _ => 9 - (intOf i).toNat)
  case atStart => exact ⟨0, Nat.zero_le _, rfl, Lib.hid (fun j hj => by omega), HB0, Lib.hid (((Below.refl _ _).alloc (Nat.le_refl _) _).alloc (by simp) _)⟩
  case round =>
    obtain ⟨k, hk, rfl, hf, hblk, hbel⟩ := hrel
    clear HB0
    by_cases hlt : k < 9
    · obtain ⟨t0, t1, t2⟩ := h.tab_at k hlt
      have c0 := (hblk.out.cell (k * 3)).trans t0
      have c1 := (hblk.out.cell (k * 3 + 1)).trans t1
      have c2 := (hblk.out.cell (k * 3 + 2)).trans t2
      clear t0 t1 t2
      have HFK : Hid (h.fine k = (decide ((h.row k).2.1 ≤ (h.row k).1) && decide ((h.row k).1 ≤ (h.row k).2.2))) := rfl
      generalize (h.row k).1 = n at *
      generalize (h.row k).2.1 = lo at *
      generalize (h.row k).2.2 = hi at *
      have HS := Lib.hid (h.ok_step k hlt)
      by_cases h1 : lo ≤ n
      · by_cases h2 : n ≤ hi
        · have HK : Hid (h.fine k = true) := HFK.out.trans (by simp [h1, h2])
          go_wp2_with fail
          go_roundw
          case rel =>
            refine ⟨k + 1, by omega, by go_num, Lib.hid (fun j hj => ?_), Lib.hid (hblk.out.alloc _), Lib.hid (hbel.out.alloc hbel.out.size _)⟩
            by_cases e : j = k
            · rw [e]; exact HK.out
            · exact hf.out j (by omega)
          case measure => simp [intOf]; omega
        · have HK : Hid (h.err = 1) := H4.err_no (HS.out (HFK.out.trans (by simp [h2])))
          go_wp2_with fail
          go_ret
          exact ⟨by rw [HK.out]; rfl, hbel.out.alloc hbel.out.size _⟩
      · have HK : Hid (h.err = 1) := H4.err_no (HS.out (HFK.out.trans (by simp [h1])))
        go_wp2_with fail
        go_ret
        exact ⟨by rw [HK.out]; rfl, hbel.out.alloc hbel.out.size _⟩
    · have hkl : k = 9 := by omega
      have HK : Hid (h.err = 0) := H4.err_ok (h.ok_all fun j hj => hf.out j (by omega))
      clear hkl
      go_wp2_with fail
      go_ret
      exact ⟨by rw [HK.out]; rfl, hbel.out⟩

end Go.Proofs.Ytoijomdgcgbpbaa

/-
  readHeader: a packet's header, read by a reader that is stopped.
-/
namespace Go.Proofs.Ytoijomdgcgbpbaa
open Go.RowKit
set_option linter.unusedVariables false

/-- While it reads: the reader, the answer's block, and what was there. -/
structure Rw (u v : World) (R : Nat) (p : ByteArray) (i : Nat) : Prop where
  rd : Rd v R p i
  kb : Kb (· = R) u v
  zb : Blk v u.heap.size H4.zero.cells 43
  lt : R < u.heap.size
theorem Rw.step {u v v' : World} {R : Nat} {p : ByteArray} {i j : Nat} (r : Rw u v R p i) (hr : Rd v' R p j) (hk : Kb (· = R) v v') : Rw u v' R p j :=
  ⟨hr, r.kb.trans hk, r.zb.kb hk (by have := r.lt; omega), r.lt⟩
theorem Rw.new {u : World} {R : Nat} {p : ByteArray} {i : Nat} (hr : Rd u R p i) : Rw u (u.alloc (.cells H4.zero.cells 43)) R p i :=
  ⟨hr.alloc _, (Kb.refl _ _).alloc _, Blk.new u _ _, hr.lt⟩
theorem Rw.below {u v v' : World} {R : Nat} {p : ByteArray} {i : Nat} (r : Rw u v R p i) (hb : Below v.heap.size v v') : Rw u v' R p i :=
  r.step ((hb.block _ r.rd.lt).trans r.rd) ⟨hb.os, hb.tape, hb.output, hb.size, fun k hk _ => hb.block k hk⟩
theorem rw_u8 {u v : World} {R : Nat} {p : ByteArray} {i : Nat} (r : Rw u v R p i) (hi : i + 1 ≤ p.size) (hs : p.size ≤ 1000000) :
    Calls Try.prog 70 #[.pointer (some ⟨R, 0, none⟩)] v fun e v' => e = .returned (.int .i64 (numOf p i 1)) ∧ Rw u v' R p (i + 1) ∧ Kb (· = R) v v' :=
  (u8_yes R p i v r.rd hi (by unfold maxLen; omega)).mono fun e v' h => ⟨h.1, r.step h.2.1 h.2.2, h.2.2⟩
theorem rw_u16 {u v : World} {R : Nat} {p : ByteArray} {i : Nat} (r : Rw u v R p i) (hi : i + 2 ≤ p.size) (hs : p.size ≤ 1000000) :
    Calls Try.prog 71 #[.pointer (some ⟨R, 0, none⟩)] v fun e v' => e = .returned (.int .i64 (numOf p i 2)) ∧ Rw u v' R p (i + 2) ∧ Kb (· = R) v v' :=
  (u16_yes R p i v r.rd hi (by unfold maxLen; omega)).mono fun e v' h => ⟨h.1, r.step h.2.1 h.2.2, h.2.2⟩
theorem rw_take {u v : World} {R : Nat} {p : ByteArray} {i k : Nat} (r : Rw u v R p i) (hi : i + k ≤ p.size) (hs : p.size ≤ 1000000) :
    Calls Try.prog 73 #[.pointer (some ⟨R, 0, none⟩), .int .i64 k] v fun e v' => e = .returned (.string (p.extract i (i + k))) ∧ Rw u v' R p (i + k) ∧ Kb (· = R) v v' := by
  refine (take_nat R p i k v r.rd hi (by unfold maxLen; omega)).mono ?_
  rintro e v' ⟨rfl, n, rfl⟩
  have hk := Kb.setCell (S := (· = R)) ((Kb.refl (· = R) v).drewN n) (p := ⟨R, 1, none⟩) (fun _ => rfl) (.int .i64 ((i + k : Nat) : Int))
  exact ⟨rfl, r.step ((r.rd.drewN n).set 1 _) hk, hk⟩

theorem rw_take' {u v : World} {R : Nat} {p : ByteArray} {i k : Nat} {n : Int} (r : Rw u v R p i) (hn : n = (k : Nat)) (hi : i + k ≤ p.size) (hs : p.size ≤ 1000000) :
    Calls Try.prog 73 #[.pointer (some ⟨R, 0, none⟩), .int .i64 n] v fun e v' => e = .returned (.string (p.extract i (i + k))) ∧ Rw u v' R p (i + k) ∧ Kb (· = R) v v' := by
  subst hn; exact rw_take r hi hs
theorem bit_test (f j : Nat) (hf : f < 65536) (hj : j ≤ 15) : ∃ x : Int, bits .and .i64 (f : Int) ((2 ^ j : Nat) : Int) = x ∧ (x != 0) = decide (f / 2 ^ j % 2 = 1) := by
  refine ⟨_, i64_and_bit f j (by omega) (by omega), ?_⟩
  have hp : 0 < 2 ^ j := Nat.two_pow_pos j
  generalize 2 ^ j = q at *
  by_cases h : f / q % 2 = 1
  · rw [if_pos h, decide_eq_true h]
    simp only [bne_iff_ne, ne_eq]
    omega
  · rw [if_neg h, decide_eq_false h]
    rfl

/-- And the new header's block. -/
structure Rm (u v : World) (R : Nat) (p : ByteArray) (i M : Nat) (h : H4) : Prop where
  rw' : Rw u v R p i
  mb : Blk v M h.cells 43
  lt : u.heap.size < M
theorem Rm.step {u v v' : World} {R : Nat} {p : ByteArray} {i j M : Nat} {h : H4} (r : Rm u v R p i M h) (h1 : Rw u v' R p j) (hk : Kb (· = R) v v') : Rm u v' R p j M h :=
  ⟨h1, r.mb.kb hk (by have h2 := r.rw'.lt; have h3 := r.lt; omega), r.lt⟩
theorem Rm.set {u v : World} {R : Nat} {p : ByteArray} {i M : Nat} {h h' : H4} (r : Rm u v R p i M h) (k : Nat) (x : Value) (hx : h.cells.setIfInBounds k x = h'.cells) : Rm u (v.setCell ⟨M, k, none⟩ x) R p i M h' := by
  have h2 := r.rw'.lt
  have h3 := r.lt
  exact ⟨⟨r.rw'.rd.set_other (p := ⟨M, k, none⟩) (show R ≠ M by omega) x, Kb.setCell (S := (· = R)) r.rw'.kb (p := ⟨M, k, none⟩) (fun e => absurd (show M < u.heap.size from e) (by omega)) x, r.rw'.zb.set_other (p := ⟨M, k, none⟩) (show u.heap.size ≠ M by omega) x, h2⟩, by rw [← hx]; exact r.mb.set k x, h3⟩
theorem Rm.new {u v : World} {R : Nat} {p : ByteArray} {i : Nat} (r : Rw u v R p i) (h : H4) : Rm u (v.alloc (.cells h.cells 43)) R p i v.heap.size h :=
  ⟨⟨r.rd.alloc _, r.kb.alloc _, r.zb.alloc _, r.lt⟩, Blk.new v _ _, r.zb.lt⟩

/-- A header stored into a block, cell by cell. -/
def put10 (v : World) (N : Nat) (h : H4) : World :=
  (((((((((v.setCell ⟨N, 0, none⟩ (.int .i64 h.tos)).setCell ⟨N, 1, none⟩ (.int .i64 h.id)).setCell ⟨N, 2, none⟩ (.int .i64 h.off)).setCell ⟨N, 3, none⟩ (.int .i64 h.ttl)).setCell ⟨N, 4, none⟩ (.int .i64 h.proto)).setCell ⟨N, 5, none⟩ (.bool h.df)).setCell ⟨N, 6, none⟩ (.bool h.mf)).setCell ⟨N, 7, none⟩ (.string h.src)).setCell ⟨N, 8, none⟩ (.string h.dst)).setCell ⟨N, 9, none⟩ (.string h.opt)
theorem Blk.seth {v : World} {N : Nat} {T : TypeId} {h : H4} (hb : Blk v N h.cells T) (h' : H4) (k : Nat) (x : Value) (hx : h.cells.setIfInBounds k x = h'.cells) : Blk (v.setCell ⟨N, k, none⟩ x) N h'.cells T := by
  rw [← hx]; exact hb.set k x
theorem put10_blk {v : World} {N : Nat} {g : H4} {T : TypeId} (hb : Blk v N g.cells T) (h : H4) : Blk (put10 v N h) N h.cells T := by
  unfold put10
  refine Blk.seth (h := ⟨h.tos, h.id, h.off, h.ttl, h.proto, h.df, h.mf, h.src, h.dst, g.opt⟩) ?_ h 9 _ rfl
  refine Blk.seth (h := ⟨h.tos, h.id, h.off, h.ttl, h.proto, h.df, h.mf, h.src, g.dst, g.opt⟩) ?_ _ 8 _ rfl
  refine Blk.seth (h := ⟨h.tos, h.id, h.off, h.ttl, h.proto, h.df, h.mf, g.src, g.dst, g.opt⟩) ?_ _ 7 _ rfl
  refine Blk.seth (h := ⟨h.tos, h.id, h.off, h.ttl, h.proto, h.df, g.mf, g.src, g.dst, g.opt⟩) ?_ _ 6 _ rfl
  refine Blk.seth (h := ⟨h.tos, h.id, h.off, h.ttl, h.proto, g.df, g.mf, g.src, g.dst, g.opt⟩) ?_ _ 5 _ rfl
  refine Blk.seth (h := ⟨h.tos, h.id, h.off, h.ttl, g.proto, g.df, g.mf, g.src, g.dst, g.opt⟩) ?_ _ 4 _ rfl
  refine Blk.seth (h := ⟨h.tos, h.id, h.off, g.ttl, g.proto, g.df, g.mf, g.src, g.dst, g.opt⟩) ?_ _ 3 _ rfl
  refine Blk.seth (h := ⟨h.tos, h.id, g.off, g.ttl, g.proto, g.df, g.mf, g.src, g.dst, g.opt⟩) ?_ _ 2 _ rfl
  refine Blk.seth (h := ⟨h.tos, g.id, g.off, g.ttl, g.proto, g.df, g.mf, g.src, g.dst, g.opt⟩) ?_ _ 1 _ rfl
  exact Blk.seth (h := g) hb _ 0 _ rfl
theorem put10_kb {S : Nat → Prop} {u v : World} {N : Nat} (hk : Kb S u v) (hN : N < u.heap.size → S N) (h : H4) : Kb S u (put10 v N h) := by
  unfold put10
  exact (((((((((hk.setCell (p := ⟨N, 0, none⟩) hN _).setCell (p := ⟨N, 1, none⟩) hN _).setCell (p := ⟨N, 2, none⟩) hN _).setCell (p := ⟨N, 3, none⟩) hN _).setCell (p := ⟨N, 4, none⟩) hN _).setCell (p := ⟨N, 5, none⟩) hN _).setCell (p := ⟨N, 6, none⟩) hN _).setCell (p := ⟨N, 7, none⟩) hN _).setCell (p := ⟨N, 8, none⟩) hN _).setCell (p := ⟨N, 9, none⟩) hN _

/-- How it ends. -/
def HeadEnd (u : World) (R : Nat) (p : ByteArray) (e : Ending) (u' : World) : Prop :=
  Kb (· = R) u u' ∧ ((getE p = 0 ∧ e = .returned (.agg (hdr p).cells) ∧ Rd u' R p (hsz p)) ∨ (getE p ≠ 0 ∧ e = .panicked (stopped (getE p : Nat))))
theorem HeadEnd.stop {u u' : World} {R : Nat} {p : ByteArray} {k : Nat} (hk : Kb (· = R) u u') (he : getE p = k) (h0 : k ≠ 0) : HeadEnd u R p (.panicked (stopped (k : Nat))) u' := by
  subst he; exact ⟨hk, Or.inr ⟨h0, rfl⟩⟩

set_option maxRecDepth 100000 in
set_option maxHeartbeats 1000000 in
theorem readHeader_any (R : Nat) (p : ByteArray) (u : World) (hr : Rd u R p 0) (hs : p.size ≤ 1000000) :
    Calls Try.prog 50 #[.pointer (some ⟨R, 0, none⟩), .string p] u (HeadEnd u R p) := by
  have R0 := Lib.hid (Rw.new hr)
  clear hr
  go_enter Try.func50, Try.ntmps50
  go_wp2_with fail
  simp only [show #[Value.int IntKind.i64 0, Value.int IntKind.i64 0, Value.int IntKind.i64 0, Value.int IntKind.i64 0, Value.int IntKind.i64 0, Value.bool false, Value.bool false, Value.string { data := #[] }, Value.string { data := #[] }, Value.string { data := #[] }] = H4.zero.cells from rfl]
  generalize u.alloc (.cells H4.zero.cells 43) = u0 at *
  by_cases hp : 20 ≤ p.size
  case neg =>
    refine (need_no _ _ _ _ (by simp; omega)).mono ?_
    rintro e w' ⟨rfl, rfl⟩
    exact ⟨rfl, HeadEnd.stop (k := 2) R0.out.kb (getE_short hp) (by decide)⟩
  refine (need_yes _ _ _ _ (by simp; omega)).mono ?_
  rintro e w' ⟨rfl, rfl⟩
  go_wp2_with fail
  refine (rw_u8 R0.out (by omega) hs).mono ?_
  rintro e u1 ⟨rfl, r1, -⟩
  have R1 : Hid (Rw u u1 R p 1) := r1
  clear r1 R0
  have hal := numOf_lt p 0 1 (by omega)
  have hm : bits .and .i64 (numOf p 0 1 : Int) 15 = ((numOf p 0 1 % 16 : Nat) : Int) := (i64_mask 4 (by decide) (numOf p 0 1 : Int)).trans (by show (numOf p 0 1 : Int) % 16 = _; omega)
  have HZ : Hid (hsz p = 4 * (numOf p 0 1 % 16)) := rfl
  have E3 := Lib.hid (getE_ver hp)
  have E4 := Lib.hid (getE_len hp)
  have E4b := Lib.hid (getE_all hp)
  have E5 := Lib.hid (getE_sum hp)
  have E9 := Lib.hid (getE_form hp)
  have E0 := Lib.hid (getE_ok hp)
  generalize numOf p 0 1 = a at *
  have hn4 : a % 16 ≤ 15 := by omega
  generalize a % 16 = n4 at *
  generalize hzp : hsz p = z at *
  have HZP := Lib.hid hzp
  clear hzp
  go_wp2_with fail
  by_cases hv : a / 16 = 4
  case neg =>
    refine (need_no _ _ _ _ (by simp; omega)).mono ?_
    rintro e w' ⟨rfl, rfl⟩
    exact ⟨rfl, HeadEnd.stop (k := 3) R1.out.kb (E3.out hv) (by decide)⟩
  refine (need_yes _ _ _ _ (by simp; omega)).mono ?_
  rintro e w' ⟨rfl, rfl⟩
  have HV := Lib.hid hv
  have hz0 := HZ.out
  have hz1 : (4 : Int) * (n4 : Int) = (z : Int) := by omega
  have hz2 : z ≤ 60 := by omega
  clear hv hz0 E3
  by_cases hq : 20 ≤ z ∧ z ≤ p.size
  case neg =>
    by_cases hq1 : 20 ≤ z
    · go_wp2_with fail
      refine (need_no _ _ _ _ (by simp; omega)).mono ?_
      rintro e w' ⟨rfl, rfl⟩
      exact ⟨rfl, HeadEnd.stop (k := 4) R1.out.kb (E4.out HV.out hq) (by decide)⟩
    · go_wp2_with fail
      refine (need_no _ _ _ _ (by simp)).mono ?_
      rintro e w' ⟨rfl, rfl⟩
      exact ⟨rfl, HeadEnd.stop (k := 4) R1.out.kb (E4.out HV.out hq) (by decide)⟩
  have HQ := Lib.hid hq
  obtain ⟨hq1, hq2⟩ := hq
  go_wp2_with fail
  refine (need_yes _ _ _ _ rfl).mono ?_
  rintro e w' ⟨rfl, rfl⟩
  clear hm hz1
  go_wp2_with fail
  refine (rw_u8 R1.out (by omega) hs).mono ?_
  rintro e u2 ⟨rfl, r2, -⟩
  have R2 : Hid (Rw u u2 R p 2) := r2
  clear r2 R1
  go_wp2_with fail
  refine (rw_u16 R2.out (by omega) hs).mono ?_
  rintro e u3 ⟨rfl, r3, -⟩
  have R3 : Hid (Rw u u3 R p 4) := r3
  clear r3 R2
  go_wp2_with fail
  by_cases hl : numOf p 2 2 = p.size
  case neg =>
    refine (need_no _ _ _ _ (by simp; omega)).mono ?_
    rintro e w' ⟨rfl, rfl⟩
    exact ⟨rfl, HeadEnd.stop (k := 4) R3.out.kb (E4b.out HV.out HQ.out hl) (by decide)⟩
  refine (need_yes _ _ _ _ (by simp; omega)).mono ?_
  rintro e w' ⟨rfl, rfl⟩
  have HL := Lib.hid hl
  clear hl
  go_wp2_with fail
  refine (right_1n (p.extract 0 z) u3 _ rfl (decide (sumD (p.extract 0 z).data.toList = 0)) (by rw [ByteArray.size_extract]; omega) rfl).mono ?_
  rintro e u4 ⟨rfl, hb4⟩
  have R4 := Lib.hid (R3.out.below hb4)
  clear hb4 R3
  go_wp2_with fail
  by_cases hsum : sumD (p.extract 0 z).data.toList = 0
  case neg =>
    refine (need_no _ _ _ _ (by simpa using hsum)).mono ?_
    rintro e w' ⟨rfl, rfl⟩
    exact ⟨rfl, HeadEnd.stop (k := 5) R4.out.kb (E5.out HV.out HQ.out HL.out hsum) (by decide)⟩
  refine (need_yes _ _ _ _ (by simpa using hsum)).mono ?_
  rintro e w' ⟨rfl, rfl⟩
  have HS := Lib.hid hsum
  clear hsum
  go_wp2_with fail
  refine (rw_u16 R4.out (by omega) hs).mono ?_
  rintro e u5 ⟨rfl, r5, -⟩
  have R5 : Hid (Rw u u5 R p 6) := r5
  clear r5 R4
  go_wp2_with fail
  refine (rw_u16 R5.out (by omega) hs).mono ?_
  rintro e u6 ⟨rfl, r6, -⟩
  have R6 : Hid (Rw u u6 R p 8) := r6
  clear r6 R5
  have hfl := numOf_lt p 6 2 (by omega)
  go_wp2_with fail
  by_cases hf : numOf p 6 2 < 32768
  case neg =>
    refine (need_no _ _ _ _ (by simp; omega)).mono ?_
    rintro e w' ⟨rfl, rfl⟩
    exact ⟨rfl, HeadEnd.stop (k := 9) R6.out.kb (E9.out HV.out HQ.out HL.out HS.out (by omega)) (by decide)⟩
  refine (need_yes _ _ _ _ (by simp; omega)).mono ?_
  rintro e w' ⟨rfl, rfl⟩
  have G0 := Lib.hid (E0.out HV.out HQ.out HL.out HS.out hf)
  have HD : Hid (hdr p = ⟨numOf p 1 1, numOf p 4 2, (numOf p 6 2 % 8192 : Nat), numOf p 8 1, numOf p 9 1, decide (numOf p 6 2 / 16384 % 2 = 1), decide (numOf p 6 2 / 8192 % 2 = 1), p.extract 12 16, p.extract 16 20, p.extract 20 z⟩) := by
    show hdr p = _
    rw [← HZP.out]; rfl
  clear HV HQ HL HS E4 E4b E5 E9 E0
  have m13 : bits .and .i64 (numOf p 6 2 : Int) 8191 = ((numOf p 6 2 % 8192 : Nat) : Int) := (i64_mask 13 (by decide) (numOf p 6 2 : Int)).trans (by show (numOf p 6 2 : Int) % 8192 = _; omega)
  obtain ⟨x14, b14, t14⟩ := bit_test (numOf p 6 2) 14 (by omega) (by decide)
  obtain ⟨x13, b13, t13⟩ := bit_test (numOf p 6 2) 13 (by omega) (by decide)
  simp only [show (2 ^ 14 : Nat) = 16384 from rfl, show (2 ^ 13 : Nat) = 8192 from rfl, Int.cast_ofNat_Int] at b14 b13 t14 t13
  generalize numOf p 6 2 = fl at *
  generalize decide (fl / 16384 % 2 = 1) = df at *
  generalize decide (fl / 8192 % 2 = 1) = mf at *
  generalize fl % 8192 = off at *
  generalize numOf p 1 1 = tos at *
  generalize numOf p 4 2 = id4 at *
  go_wp2_with fail
  clear m13 b14 t14 b13 t13
  have R7 : Hid (Rm u (u6.alloc (.cells #[.int .i64 tos, .int .i64 id4, .int .i64 off, .int .i64 0, .int .i64 0, .bool df, .bool mf, .string ⟨#[]⟩, .string ⟨#[]⟩, .string ⟨#[]⟩] 43)) R p 8 u6.heap.size ⟨tos, id4, off, 0, 0, df, mf, ⟨#[]⟩, ⟨#[]⟩, ⟨#[]⟩⟩) := Rm.new R6.out ⟨tos, id4, off, 0, 0, df, mf, ⟨#[]⟩, ⟨#[]⟩, ⟨#[]⟩⟩
  clear R6
  generalize u6.alloc (.cells #[.int .i64 tos, .int .i64 id4, .int .i64 off, .int .i64 0, .int .i64 0, .bool df, .bool mf, .string ⟨#[]⟩, .string ⟨#[]⟩, .string ⟨#[]⟩] 43) = u7 at *
  generalize u6.heap.size = M at *
  refine (rw_u8 R7.out.rw' (by omega) hs).mono ?_
  rintro e u8 ⟨rfl, r8, k8⟩
  have R8 := Lib.hid (R7.out.step r8 k8)
  clear r8 k8 R7
  go_wp2_with fail
  refine (rw_u8 R8.out.rw' (by omega) hs).mono ?_
  rintro e u9 ⟨rfl, r9, k9⟩
  have R9 : Hid (Rm u u9 R p 10 M ⟨tos, id4, off, 0, 0, df, mf, ⟨#[]⟩, ⟨#[]⟩, ⟨#[]⟩⟩) := R8.out.step r9 k9
  clear r9 k9 R8
  have c3 := R9.out.mb.cell 3
  have c4 := R9.out.mb.cell 4
  have f3 := R9.out.mb.frozen 3
  have f4 := R9.out.mb.frozen 4
  simp [H4.cells] at c3 c4
  go_wp2_with fail
  generalize numOf p 8 1 = ttl at *
  generalize numOf p 9 1 = proto at *
  have R10 : Hid (Rm u ((u9.setCell ⟨M, 3, none⟩ (.int .i64 ttl)).setCell ⟨M, 4, none⟩ (.int .i64 proto)) R p 10 M ⟨tos, id4, off, ttl, proto, df, mf, ⟨#[]⟩, ⟨#[]⟩, ⟨#[]⟩⟩) := (R9.out.set (h' := ⟨tos, id4, off, ttl, 0, df, mf, ⟨#[]⟩, ⟨#[]⟩, ⟨#[]⟩⟩) 3 _ rfl).set 4 _ rfl
  clear c3 c4 f3 f4 R9
  generalize (u9.setCell ⟨M, 3, none⟩ (.int .i64 ttl)).setCell ⟨M, 4, none⟩ (.int .i64 proto) = u10 at *
  refine (rw_take (k := 2) R10.out.rw' (by omega) hs).mono ?_
  rintro e u11 ⟨rfl, r11, k11⟩
  have R11 : Hid (Rm u u11 R p 12 M ⟨tos, id4, off, ttl, proto, df, mf, ⟨#[]⟩, ⟨#[]⟩, ⟨#[]⟩⟩) := R10.out.step r11 k11
  clear r11 k11 R10
  go_wp2_with fail
  refine (rw_take (k := 4) R11.out.rw' (by omega) hs).mono ?_
  rintro e u12 ⟨rfl, r12, k12⟩
  have R12 : Hid (Rm u u12 R p 16 M ⟨tos, id4, off, ttl, proto, df, mf, ⟨#[]⟩, ⟨#[]⟩, ⟨#[]⟩⟩) := R11.out.step r12 k12
  clear r12 k12 R11
  go_wp2_with fail
  refine (rw_take (k := 4) R12.out.rw' (by omega) hs).mono ?_
  rintro e u13 ⟨rfl, r13, k13⟩
  have R13 : Hid (Rm u u13 R p 20 M ⟨tos, id4, off, ttl, proto, df, mf, ⟨#[]⟩, ⟨#[]⟩, ⟨#[]⟩⟩) := R12.out.step r13 k13
  clear r13 k13 R12
  have c7 := R13.out.mb.cell 7
  have c8 := R13.out.mb.cell 8
  have f7 := R13.out.mb.frozen 7
  have f8 := R13.out.mb.frozen 8
  simp [H4.cells] at c7 c8
  generalize hsrc : p.extract 12 (12 + 4) = src at *
  generalize hdst : p.extract 16 (16 + 4) = dst at *
  have HSR := Lib.hid hsrc
  have HDS := Lib.hid hdst
  clear hsrc hdst
  go_wp2_with fail
  have R14 : Hid (Rm u ((u13.setCell ⟨M, 7, none⟩ (.string src)).setCell ⟨M, 8, none⟩ (.string dst)) R p 20 M ⟨tos, id4, off, ttl, proto, df, mf, src, dst, ⟨#[]⟩⟩) := (R13.out.set (h' := ⟨tos, id4, off, ttl, proto, df, mf, src, ⟨#[]⟩, ⟨#[]⟩⟩) 7 _ rfl).set 8 _ rfl
  clear c7 c8 f7 f8 R13
  generalize (u13.setCell ⟨M, 7, none⟩ (.string src)).setCell ⟨M, 8, none⟩ (.string dst) = u14 at *
  refine (rw_take' (k := z - 20) R14.out.rw' (by omega) (by omega) hs).mono ?_
  rintro e u15 ⟨rfl, r15, k15⟩
  rw [show 20 + (z - 20) = z by omega] at r15 ⊢
  have R15 := Lib.hid (R14.out.step r15 k15)
  clear r15 k15 R14
  have c9 := R15.out.mb.cell 9
  have f9 := R15.out.mb.frozen 9
  simp [H4.cells] at c9
  generalize hopt : p.extract 20 z = opt at *
  have HOP := Lib.hid hopt
  clear hopt
  have HE : Hid (hdr p = ⟨tos, id4, off, ttl, proto, df, mf, src, dst, opt⟩) := by
    show hdr p = _
    rw [HD.out, ← HSR.out, ← HDS.out]
  go_upto_region 16 with (fail)
  have R16 : Hid (Rm u (u15.setCell ⟨M, 9, none⟩ (.string opt)) R p z M ⟨tos, id4, off, ttl, proto, df, mf, src, dst, opt⟩) := R15.out.set 9 _ rfl
  clear c9 f9 R15
  generalize u15.setCell ⟨M, 9, none⟩ (.string opt) = u16 at *
  have ⟨c0, c1, c2, c3, c4, c5, c6, c7, c8, c9⟩ := Hc.of R16.out.mb
  have ⟨z0, z1, z2, z3, z4, z5, z6, z7, z8, z9⟩ := Hc.of R16.out.rw'.zb
  simp only [H4.zero] at c0 c1 c2 c3 c4 c5 c6 c7 c8 c9 z0 z1 z2 z3 z4 z5 z6 z7 z8 z9
  have f0 := R16.out.rw'.zb.frozen 0
  have f1 := R16.out.rw'.zb.frozen 1
  have f2 := R16.out.rw'.zb.frozen 2
  have f3 := R16.out.rw'.zb.frozen 3
  have f4 := R16.out.rw'.zb.frozen 4
  have f5 := R16.out.rw'.zb.frozen 5
  have f6 := R16.out.rw'.zb.frozen 6
  have f7 := R16.out.rw'.zb.frozen 7
  have f8 := R16.out.rw'.zb.frozen 8
  have f9 := R16.out.rw'.zb.frozen 9
  go_wp2_with fail
  have B17 := put10_blk R16.out.rw'.zb ⟨tos, id4, off, ttl, proto, df, mf, src, dst, opt⟩
  have K17 := put10_kb (N := u.heap.size) R16.out.rw'.kb (fun h => absurd h (by omega)) ⟨tos, id4, off, ttl, proto, df, mf, src, dst, opt⟩
  have K18 := put10_kb (S := (· = u.heap.size)) (N := u.heap.size) (Kb.refl _ u16) (fun _ => rfl) ⟨tos, id4, off, ttl, proto, df, mf, src, dst, opt⟩
  have D17 : Rd _ R p z := R16.out.rw'.rd.kb K18 (by have := R16.out.rw'.lt; omega)
  clear K18 c0 c1 c2 c3 c4 c5 c6 c7 c8 c9 z0 z1 z2 z3 z4 z5 z6 z7 z8 z9 f0 f1 f2 f3 f4 f5 f6 f7 f8 f9 R16
  unfold put10 at B17 K17 D17
  simp only at B17 K17 D17
  generalize (((((((((u16.setCell ⟨u.heap.size, 0, none⟩ (.int .i64 tos)).setCell ⟨u.heap.size, 1, none⟩ (.int .i64 id4)).setCell ⟨u.heap.size, 2, none⟩ (.int .i64 off)).setCell ⟨u.heap.size, 3, none⟩ (.int .i64 ttl)).setCell ⟨u.heap.size, 4, none⟩ (.int .i64 proto)).setCell ⟨u.heap.size, 5, none⟩ (.bool df)).setCell ⟨u.heap.size, 6, none⟩ (.bool mf)).setCell ⟨u.heap.size, 7, none⟩ (.string src)).setCell ⟨u.heap.size, 8, none⟩ (.string dst)).setCell ⟨u.heap.size, 9, none⟩ (.string opt) = W at *
  have ⟨c0, c1, c2, c3, c4, c5, c6, c7, c8, c9⟩ := Hc.of B17
  simp only at c0 c1 c2 c3 c4 c5 c6 c7 c8 c9
  refine ⟨rfl, .agg (hdr p).cells, ?_, K17, Or.inl ⟨G0.out, rfl, by rw [HZP.out]; exact D17⟩⟩
  rw [HE.out]
  unfold H4.cells
  simp [results, Try.results50, go_sem, c0, c1, c2, c3, c4, c5, c6, c7, c8, c9]

end Go.Proofs.Ytoijomdgcgbpbaa

/-
  Get: what bytes say as a packet.
-/
namespace Go.Proofs.Ytoijomdgcgbpbaa
open Go.RowKit
set_option linter.unusedVariables false

/-- What the closure leaves. -/
def GotAt (p : ByteArray) (H Y : Nat) (k : Int) (u : World) : Prop := k = (getE p : Nat) ∧ Blk u H (getH p).cells 43 ∧ Blk u Y #[.string (getS p)] 9

set_option maxHeartbeats 1000000 in
theorem get1_any (R P H Y : Nat) (p : ByteArray) (u : World) (hs : p.size ≤ 1000000) (hr : Rd u R p 0) (hP : Blk u P #[.string p] 9) (hH : Blk u H H4.zero.cells 43) (hY : Blk u Y #[.string ⟨#[]⟩] 9) (h1 : R ≠ H) (h2 : R ≠ Y) (h3 : H ≠ Y) :
    Calls Try.prog 49 #[.pointer (some ⟨R, 0, none⟩), .pointer (some ⟨P, 0, none⟩), .pointer (some ⟨H, 0, none⟩), .pointer (some ⟨Y, 0, none⟩)] u (DoKb (fun k => k = H ∨ k = Y) R u (GotAt p H Y)) := by
  have cP := hP.cell 0
  simp at cP
  have HR := Lib.hid (readHeader_any R p u hr hs)
  have N1 := Lib.hid h1
  have N2 := Lib.hid h2
  have N3 := Lib.hid h3
  clear hr hP h1 h2 h3
  have HH := Lib.hid hH
  have HY := Lib.hid hY
  clear hH hY
  go_enter Try.func49, Try.ntmps49
  go_wp2_with fail
  refine HR.out.mono ?_
  rintro e u1 ⟨k1, ⟨g0, rfl, rd1⟩ | ⟨g0, rfl⟩⟩
  · have H1 := Lib.hid (HH.out.kb k1 (fun e => N1.out e.symm))
    have Y1 := Lib.hid (HY.out.kb k1 (fun e => N2.out e.symm))
    have K1 := Lib.hid k1
    have D1 := Lib.hid rd1
    have G0 := Lib.hid g0
    clear HR HH HY k1 rd1 g0 cP
    have ⟨z0, z1, z2, z3, z4, z5, z6, z7, z8, z9⟩ := Hc.of H1.out
    simp only [H4.zero] at z0 z1 z2 z3 z4 z5 z6 z7 z8 z9
    have f0 := H1.out.frozen 0
    have f1 := H1.out.frozen 1
    have f2 := H1.out.frozen 2
    have f3 := H1.out.frozen 3
    have f4 := H1.out.frozen 4
    have f5 := H1.out.frozen 5
    have f6 := H1.out.frozen 6
    have f7 := H1.out.frozen 7
    have f8 := H1.out.frozen 8
    have f9 := H1.out.frozen 9
    have HGH : Hid (getH p = hdr p) := by
      show getH p = hdr p
      unfold getH; rw [if_pos G0.out]
    have HGS : Hid (getS p = p.extract (hsz p) p.size) := by
      show getS p = _
      unfold getS; rw [if_pos G0.out]
    have GG := Lib.hid (getE_zero.1 G0.out)
    generalize hdr p = h at *
    unfold H4.cells
    go_wp2_with fail
    have B2 := Lib.hid (put10_blk H1.out h)
    have K2 := put10_kb (S := (· = H)) (N := H) (Kb.refl _ u1) (fun _ => rfl) h
    have Y2 := Lib.hid (Y1.out.kb K2 (fun e => N3.out e.symm))
    have D2 : Hid (Rd _ R p (hsz p)) := D1.out.kb K2 (fun e => N1.out e)
    have KA := Lib.hid ((K1.out.mono (T := fun k => (k = H ∨ k = Y) ∨ k = R) (fun k _ e => Or.inr e)).trans (K2.mono (fun k _ e => Or.inl (Or.inl e))))
    clear K2 z0 z1 z2 z3 z4 z5 z6 z7 z8 z9 f0 f1 f2 f3 f4 f5 f6 f7 f8 f9 H1 Y1 D1 K1
    unfold put10 at B2 Y2 D2 KA
    generalize (((((((((u1.setCell ⟨H, 0, none⟩ (.int .i64 h.tos)).setCell ⟨H, 1, none⟩ (.int .i64 h.id)).setCell ⟨H, 2, none⟩ (.int .i64 h.off)).setCell ⟨H, 3, none⟩ (.int .i64 h.ttl)).setCell ⟨H, 4, none⟩ (.int .i64 h.proto)).setCell ⟨H, 5, none⟩ (.bool h.df)).setCell ⟨H, 6, none⟩ (.bool h.mf)).setCell ⟨H, 7, none⟩ (.string h.src)).setCell ⟨H, 8, none⟩ (.string h.dst)).setCell ⟨H, 9, none⟩ (.string h.opt) = u2 at *
    refine (rest_any R p (hsz p) u2 D2.out GG.out.len.2 (by unfold maxLen; omega)).mono ?_
    rintro e u3 ⟨rfl, n, rfl⟩
    have K3 := Kb.setCell (S := (· = R)) ((Kb.refl (· = R) u2).drewN n) (p := ⟨R, 1, none⟩) (fun _ => rfl) (.int .i64 (p.size : Int))
    have B3 := Lib.hid (B2.out.kb K3 (fun e => N1.out e.symm))
    have Y3 := Lib.hid (Y2.out.kb K3 (fun e => N2.out e.symm))
    have KB := Lib.hid (KA.out.trans (K3.mono (T := fun k => (k = H ∨ k = Y) ∨ k = R) (fun k _ e => Or.inr e)))
    clear K3 B2 Y2 D2 KA
    generalize (u2.drewN n).setCell ⟨R, 1, none⟩ (.int .i64 (p.size : Int)) = u3 at *
    have cY := Y3.out.cell 0
    have fY := Y3.out.frozen 0
    simp at cY
    generalize p.extract (hsz p) p.size = pay at *
    go_wp2_with fail
    go_end0
    refine ⟨Or.inl ⟨rfl, by rw [G0.out]; rfl, ?_, ?_⟩, ?_⟩
    · rw [HGH.out]; exact B3.out.set_other (p := ⟨Y, 0, none⟩) N3.out _
    · rw [HGS.out]; exact Y3.out.set 0 _
    · exact Kb.setCell (S := fun k => (k = H ∨ k = Y) ∨ k = R) KB.out (p := ⟨Y, 0, none⟩) (fun _ => Or.inl (Or.inr rfl)) _
  · have HGH : getH p = H4.zero := by unfold getH; rw [if_neg g0]
    have HGS : getS p = ⟨#[]⟩ := by unfold getS; rw [if_neg g0]
    refine ⟨rfl, Or.inr ⟨_, rfl, rfl, ?_, ?_⟩, k1.mono (fun k _ e => Or.inr e)⟩
    · rw [HGH]; exact HH.out.kb k1 (fun e => N1.out e.symm)
    · rw [HGS]; exact HY.out.kb k1 (fun e => N2.out e.symm)

theorem call26 (args : Array Value) (u : World) : (callFunc 49 args).run Try.prog u = .ok (.enter 49 args) u := by kernel_rfl

/-- Get's end. -/
def GetEnd (p : ByteArray) (w : World) (e : Ending) (w' : World) : Prop := e = .returned (.tuple #[.agg (getH p).cells, .string (getS p), .int .i64 (getE p : Nat)]) ∧ Below w.heap.size w w'
/-- Get's own blocks. -/
structure GetBlks (w u : World) (p : ByteArray) : Prop where
  p' : Blk u w.heap.size #[.string p] 9
  z : Blk u (w.heap.size + 1) H4.zero.cells 43
  h : Blk u (w.heap.size + 2) H4.zero.cells 43
  y : Blk u (w.heap.size + 3) #[.string ⟨#[]⟩] 9
  bel : Below w.heap.size w u
  size : u.heap.size = w.heap.size + 4
theorem GetBlks.new (w : World) (p : ByteArray) : GetBlks w ((((w.alloc (.cells #[.string p] 9)).alloc (.cells H4.zero.cells 43)).alloc (.cells H4.zero.cells 43)).alloc (.cells #[.string ⟨#[]⟩] 9)) p := by
  have e1 := Blk.new w #[.string p] 9
  generalize hw1 : w.alloc (.cells #[.string p] 9) = w1 at *
  have s1 : w1.heap.size = w.heap.size + 1 := by rw [← hw1]; simp
  have b1 : Below w.heap.size w w1 := by rw [← hw1]; exact (Below.refl _ _).alloc (Nat.le_refl _) _
  have e2 := Blk.new w1 H4.zero.cells 43
  generalize hw2 : w1.alloc (.cells H4.zero.cells 43) = w2 at *
  have s2 : w2.heap.size = w.heap.size + 2 := by rw [← hw2]; simp; omega
  have b2 : Below w.heap.size w w2 := by rw [← hw2]; exact b1.alloc (by omega) _
  have e1' : Blk w2 w.heap.size #[.string p] 9 := by rw [← hw2]; exact e1.alloc _
  have e3 := Blk.new w2 H4.zero.cells 43
  have e2' : Blk (w2.alloc (.cells H4.zero.cells 43)) w1.heap.size H4.zero.cells 43 := e2.alloc _
  generalize hw3 : w2.alloc (.cells H4.zero.cells 43) = w3 at *
  have s3 : w3.heap.size = w.heap.size + 3 := by rw [← hw3]; simp; omega
  have b3 : Below w.heap.size w w3 := by rw [← hw3]; exact b2.alloc (by omega) _
  have e1'' : Blk w3 w.heap.size #[.string p] 9 := by rw [← hw3]; exact e1'.alloc _
  have e4 := Blk.new w3 #[.string ⟨#[]⟩] 9
  rw [s1] at e2'
  rw [s2] at e3
  rw [s3] at e4
  exact ⟨e1''.alloc _, e2'.alloc _, e3.alloc _, e4, b3.alloc (by omega) _, by simp; omega⟩

set_option maxHeartbeats 1000000 in
theorem get_any (p : ByteArray) (w : World) (hs : p.size ≤ 1000000) :
    Calls Try.prog 29 #[.string p] w (GetEnd p w) := by
  have hmf : ∀ (fn : Fn) (first cap : Array Value) (w : World), (Instr.makeFunc fn first cap).run Try.prog w = .ok (.func fn first cap) w := fun _ _ _ _ => rfl
  have G := Lib.hid (GetBlks.new w p)
  have HP : Hid (p.size ≤ 1000000) := hs
  clear hs
  go_enter Try.func29, Try.ntmps29
  go_wp2_with fail
  simp only [show #[Value.int IntKind.i64 0, Value.int IntKind.i64 0, Value.int IntKind.i64 0, Value.int IntKind.i64 0, Value.int IntKind.i64 0, Value.bool false, Value.bool false, Value.string { data := #[] }, Value.string { data := #[] }, Value.string { data := #[] }] = H4.zero.cells from rfl]
  generalize ((((w.alloc (.cells #[.string p] 9)).alloc (.cells H4.zero.cells 43)).alloc (.cells H4.zero.cells 43)).alloc (.cells #[.string ⟨#[]⟩] 9)) = u0 at *
  have hH : w.heap.size + 2 ≠ w.heap.size + 3 := by omega
  have RD := read_kb p 49 #[.pointer (some ⟨w.heap.size, 0, none⟩), .pointer (some ⟨w.heap.size + 2, 0, none⟩), .pointer (some ⟨w.heap.size + 3, 0, none⟩)] u0 (fun k => k = w.heap.size + 2 ∨ k = w.heap.size + 3) (GotAt p (w.heap.size + 2) (w.heap.size + 3))
    (fun k hk => by have := G.out.size; omega) (fun args u => call26 args u) (fun R u hr hR hk => get1_any R w.heap.size (w.heap.size + 2) (w.heap.size + 3) p u HP.out hr (G.out.p'.kb hk (fun f => f)) (G.out.h.kb hk (fun f => f)) (G.out.y.kb hk (fun f => f)) (by have := G.out.size; omega) (by have := G.out.size; omega) hH)
  refine RD.mono ?_
  rintro e w2 ⟨k, w1, rfl, ⟨rfl, hb1, hy1⟩, hk1, hk2⟩
  have HS := G.out.size
  have B2 := Lib.hid (hb1.kb hk2 (by omega))
  have Y2 := Lib.hid (hy1.kb hk2 (by omega))
  have Z2 := Lib.hid ((G.out.z.kb hk1 (by omega)).kb hk2 (by omega))
  have L2 : Hid (Below w.heap.size w w2) := by
    show Below w.heap.size w w2
    have hb := G.out.bel
    exact ⟨hk2.os.trans (hk1.os.trans hb.os), hk2.tape.trans (hk1.tape.trans hb.tape), hk2.output.trans (hk1.output.trans hb.output), Nat.le_trans hb.size (Nat.le_trans hk1.size hk2.size), fun k hk =>
      (hk2.block k (by have := hk1.size; omega) (by omega)).trans ((hk1.block k (by omega) (by omega)).trans (hb.block k hk))⟩
  clear hb1 hy1 hk1 hk2 RD G HS hH hmf
  have ⟨c0, c1, c2, c3, c4, c5, c6, c7, c8, c9⟩ := Hc.of B2.out
  have cY := Y2.out.cell 0
  simp at cY
  have ⟨z0, z1, z2, z3, z4, z5, z6, z7, z8, z9⟩ := Hc.of Z2.out
  simp only [H4.zero] at z0 z1 z2 z3 z4 z5 z6 z7 z8 z9
  have f0 := Z2.out.frozen 0
  have f1 := Z2.out.frozen 1
  have f2 := Z2.out.frozen 2
  have f3 := Z2.out.frozen 3
  have f4 := Z2.out.frozen 4
  have f5 := Z2.out.frozen 5
  have f6 := Z2.out.frozen 6
  have f7 := Z2.out.frozen 7
  have f8 := Z2.out.frozen 8
  have f9 := Z2.out.frozen 9
  generalize hgh : getH p = h at *
  have HGH := Lib.hid hgh
  clear hgh
  go_wp2_with fail
  go_region
  clear c0 c1 c2 c3 c4 c5 c6 c7 c8 c9 cY z0 z1 z2 z3 z4 z5 z6 z7 z8 z9 f0 f1 f2 f3 f4 f5 f6 f7 f8 f9
  go_wp2_with fail
  have B3 := (put10_blk Z2.out h).drew
  have K3 := put10_kb (S := fun k => w.heap.size ≤ k) (u := w) (N := w.heap.size + 1) ⟨L2.out.os, L2.out.tape, L2.out.output, L2.out.size, fun k hk _ => L2.out.block k hk⟩ (fun _ => by omega) h
  have L3 := K3.drew.below (Nat.le_refl _)
  clear K3 Z2 Y2 B2 L2
  unfold put10 at B3 L3
  generalize ((((((((((w2.setCell ⟨w.heap.size + 1, 0, none⟩ (.int .i64 h.tos)).setCell ⟨w.heap.size + 1, 1, none⟩ (.int .i64 h.id)).setCell ⟨w.heap.size + 1, 2, none⟩ (.int .i64 h.off)).setCell ⟨w.heap.size + 1, 3, none⟩ (.int .i64 h.ttl)).setCell ⟨w.heap.size + 1, 4, none⟩ (.int .i64 h.proto)).setCell ⟨w.heap.size + 1, 5, none⟩ (.bool h.df)).setCell ⟨w.heap.size + 1, 6, none⟩ (.bool h.mf)).setCell ⟨w.heap.size + 1, 7, none⟩ (.string h.src)).setCell ⟨w.heap.size + 1, 8, none⟩ (.string h.dst)).setCell ⟨w.heap.size + 1, 9, none⟩ (.string h.opt)).drew = W at *
  have ⟨c0, c1, c2, c3, c4, c5, c6, c7, c8, c9⟩ := Hc.of B3
  refine ⟨rfl, .tuple #[.agg (getH p).cells, .string (getS p), .int .i64 (getE p : Nat)], ?_, rfl, L3⟩
  rw [HGH.out]
  unfold H4.cells
  simp [results, Try.results29, go_sem, c0, c1, c2, c3, c4, c5, c6, c7, c8, c9]

end Go.Proofs.Ytoijomdgcgbpbaa
