/-
  IPv4 headers and packets, plain: which header may be, its packet, and what bytes say; no Go function is walked here.
-/
import Derived.Test.YtdljioacbpabbaaRdNum
import Derived.Test.YtdljioacbpabbaaBe
import Derived.Test.YtdljioacbpabbaaSumSpec
import Derived.Test.YtdljioacbpabbaaTexts
namespace Go.Proofs.Ytdljioacbpabbaa
open Go.RowKit
set_option linter.unusedVariables false

/-- A header. -/
structure H4 where
  tos : Int
  id : Int
  off : Int
  ttl : Int
  proto : Int
  df : Bool
  mf : Bool
  src : ByteArray
  dst : ByteArray
  opt : ByteArray

/-- Its cells. -/
def H4.cells (h : H4) : Array Value := #[.int .i64 h.tos, .int .i64 h.id, .int .i64 h.off, .int .i64 h.ttl, .int .i64 h.proto, .bool h.df, .bool h.mf, .string h.src, .string h.dst, .string h.opt]
def H4.zero : H4 := ⟨0, 0, 0, 0, 0, false, false, ⟨#[]⟩, ⟨#[]⟩, ⟨#[]⟩⟩

/-- The header's cells. -/
structure Hc (u : World) (B : Nat) (h : H4) : Prop where
  c0 : u.cell? ⟨B, 0, none⟩ = some (.int .i64 h.tos)
  c1 : u.cell? ⟨B, 1, none⟩ = some (.int .i64 h.id)
  c2 : u.cell? ⟨B, 2, none⟩ = some (.int .i64 h.off)
  c3 : u.cell? ⟨B, 3, none⟩ = some (.int .i64 h.ttl)
  c4 : u.cell? ⟨B, 4, none⟩ = some (.int .i64 h.proto)
  c5 : u.cell? ⟨B, 5, none⟩ = some (.bool h.df)
  c6 : u.cell? ⟨B, 6, none⟩ = some (.bool h.mf)
  c7 : u.cell? ⟨B, 7, none⟩ = some (.string h.src)
  c8 : u.cell? ⟨B, 8, none⟩ = some (.string h.dst)
  c9 : u.cell? ⟨B, 9, none⟩ = some (.string h.opt)
theorem Hc.of {u : World} {B : Nat} {h : H4} {T : TypeId} (hb : Blk u B h.cells T) : Hc u B h :=
  ⟨hb.cell 0, hb.cell 1, hb.cell 2, hb.cell 3, hb.cell 4, hb.cell 5, hb.cell 6, hb.cell 7, hb.cell 8, hb.cell 9⟩

/-- The table of what may be: a number, its least and its greatest. -/
def H4.row (h : H4) : Nat → Int × Int × Int
  | 0 => (h.tos, 0, 255)
  | 1 => (h.ttl, 0, 255)
  | 2 => (h.proto, 0, 255)
  | 3 => (h.id, 0, 65535)
  | 4 => (h.off, 0, 8191)
  | 5 => (h.src.size, 4, 4)
  | 6 => (h.dst.size, 4, 4)
  | 7 => (h.opt.size, 0, 40)
  | _ => ((h.opt.size : Int) % 4, 0, 0)
def H4.fine (h : H4) (k : Nat) : Bool := decide ((h.row k).2.1 ≤ (h.row k).1) && decide ((h.row k).1 ≤ (h.row k).2.2)
/-- May a header be? -/
def H4.ok (h : H4) : Bool := h.fine 0 && h.fine 1 && h.fine 2 && h.fine 3 && h.fine 4 && h.fine 5 && h.fine 6 && h.fine 7 && h.fine 8

structure H4.Ok (h : H4) : Prop where
  tos : 0 ≤ h.tos ∧ h.tos ≤ 255
  ttl : 0 ≤ h.ttl ∧ h.ttl ≤ 255
  proto : 0 ≤ h.proto ∧ h.proto ≤ 255
  id : 0 ≤ h.id ∧ h.id ≤ 65535
  off : 0 ≤ h.off ∧ h.off ≤ 8191
  src : h.src.size = 4
  dst : h.dst.size = 4
  opt : h.opt.size ≤ 40
  opt4 : h.opt.size % 4 = 0
theorem H4.ok_iff (h : H4) : h.ok = true ↔ h.Ok := by
  constructor
  · intro e
    simp only [H4.ok, H4.fine, H4.row, Bool.and_eq_true, decide_eq_true_eq] at e
    exact ⟨by omega, by omega, by omega, by omega, by omega, by omega, by omega, by omega, by omega⟩
  · rintro ⟨_, _, _, _, _, _, _, _, _⟩
    simp only [H4.ok, H4.fine, H4.row, Bool.and_eq_true, decide_eq_true_eq]
    omega

theorem H4.ok_step (h : H4) (k : Nat) (hk : k < 9) (hf : h.fine k = false) : h.ok = false := by
  have : k = 0 ∨ k = 1 ∨ k = 2 ∨ k = 3 ∨ k = 4 ∨ k = 5 ∨ k = 6 ∨ k = 7 ∨ k = 8 := by omega
  rcases this with rfl | rfl | rfl | rfl | rfl | rfl | rfl | rfl | rfl <;> simp [H4.ok, hf]
theorem H4.ok_all (h : H4) (hf : ∀ k, k < 9 → h.fine k = true) : h.ok = true := by
  simp [H4.ok, hf]

/-- Bytes of a header. -/
def H4.size (h : H4) : Nat := 20 + h.opt.size
def H4.flags (h : H4) : Nat := (if h.df then 16384 else 0) + (if h.mf then 8192 else 0) + h.off.toNat
/-- What stands ahead of the sum, and behind it. -/
def H4.head (h : H4) (n : Nat) : List UInt8 := be (64 + h.size / 4) 1 ++ be h.tos.toNat 1 ++ be n 2 ++ be h.id.toNat 2 ++ be h.flags 2 ++ be h.ttl.toNat 1 ++ be h.proto.toNat 1
def H4.tail (h : H4) : List UInt8 := h.src.data.toList ++ h.dst.data.toList ++ h.opt.data.toList
def H4.pack (h : H4) (pay : ByteArray) : List UInt8 :=
  h.head (h.size + pay.size) ++ be (sumD (h.head (h.size + pay.size) ++ h.tail)) 2 ++ h.tail ++ pay.data.toList

def putE (h : H4) (pay : ByteArray) : Nat := if h.ok then if 65535 < h.size + pay.size then 4 else 0 else 1
def putS (h : H4) (pay : ByteArray) : ByteArray := if putE h pay = 0 then ⟨(h.pack pay).toArray⟩ else ⟨#[]⟩

/-- How many bytes a packet's header has, as it says. -/
def hsz (p : ByteArray) : Nat := 4 * (numOf p 0 1 % 16)
def getE (p : ByteArray) : Nat :=
  if p.size < 20 then 2 else if numOf p 0 1 / 16 ≠ 4 then 3 else if hsz p < 20 ∨ p.size < hsz p then 4 else if numOf p 2 2 ≠ p.size then 4
  else if sumD (p.extract 0 (hsz p)).data.toList ≠ 0 then 5 else if 32768 ≤ numOf p 6 2 then 9 else 0
/-- The header that stands there. -/
def hdr (p : ByteArray) : H4 := ⟨numOf p 1 1, numOf p 4 2, (numOf p 6 2 % 8192 : Nat), numOf p 8 1, numOf p 9 1, decide (numOf p 6 2 / 16384 % 2 = 1), decide (numOf p 6 2 / 8192 % 2 = 1), p.extract 12 16, p.extract 16 20, p.extract 20 (hsz p)⟩
def getH (p : ByteArray) : H4 := if getE p = 0 then hdr p else H4.zero
def getS (p : ByteArray) : ByteArray := if getE p = 0 then p.extract (hsz p) p.size else ⟨#[]⟩

theorem getE_short {p : ByteArray} (h : ¬ 20 ≤ p.size) : getE p = 2 := by unfold getE; rw [if_pos (by omega)]
theorem getE_ver {p : ByteArray} (h : 20 ≤ p.size) (h1 : numOf p 0 1 / 16 ≠ 4) : getE p = 3 := by unfold getE; rw [if_neg (by omega), if_pos h1]
theorem getE_len {p : ByteArray} (h : 20 ≤ p.size) (h1 : numOf p 0 1 / 16 = 4) (h2 : ¬ (20 ≤ hsz p ∧ hsz p ≤ p.size)) : getE p = 4 := by
  unfold getE; rw [if_neg (by omega), if_neg (by omega), if_pos (by omega)]
theorem getE_all {p : ByteArray} (h : 20 ≤ p.size) (h1 : numOf p 0 1 / 16 = 4) (h2 : 20 ≤ hsz p ∧ hsz p ≤ p.size) (h3 : numOf p 2 2 ≠ p.size) : getE p = 4 := by
  unfold getE; rw [if_neg (by omega), if_neg (by omega), if_neg (by omega), if_pos h3]
theorem getE_sum {p : ByteArray} (h : 20 ≤ p.size) (h1 : numOf p 0 1 / 16 = 4) (h2 : 20 ≤ hsz p ∧ hsz p ≤ p.size) (h3 : numOf p 2 2 = p.size) (h4 : sumD (p.extract 0 (hsz p)).data.toList ≠ 0) : getE p = 5 := by
  unfold getE; rw [if_neg (by omega), if_neg (by omega), if_neg (by omega), if_neg (by omega), if_pos h4]
theorem getE_form {p : ByteArray} (h : 20 ≤ p.size) (h1 : numOf p 0 1 / 16 = 4) (h2 : 20 ≤ hsz p ∧ hsz p ≤ p.size) (h3 : numOf p 2 2 = p.size) (h4 : sumD (p.extract 0 (hsz p)).data.toList = 0) (h5 : 32768 ≤ numOf p 6 2) : getE p = 9 := by
  unfold getE; rw [if_neg (by omega), if_neg (by omega), if_neg (by omega), if_neg (by omega), if_neg (by omega), if_pos h5]
theorem getE_ok {p : ByteArray} (h : 20 ≤ p.size) (h1 : numOf p 0 1 / 16 = 4) (h2 : 20 ≤ hsz p ∧ hsz p ≤ p.size) (h3 : numOf p 2 2 = p.size) (h4 : sumD (p.extract 0 (hsz p)).data.toList = 0) (h5 : numOf p 6 2 < 32768) : getE p = 0 := by
  unfold getE; rw [if_neg (by omega), if_neg (by omega), if_neg (by omega), if_neg (by omega), if_neg (by omega), if_neg (by omega)]
/-- Just when bytes are a packet. -/
structure Good (p : ByteArray) : Prop where
  short : 20 ≤ p.size
  ver : numOf p 0 1 / 16 = 4
  len : 20 ≤ hsz p ∧ hsz p ≤ p.size
  all : numOf p 2 2 = p.size
  sum : sumD (p.extract 0 (hsz p)).data.toList = 0
  form : numOf p 6 2 < 32768
theorem getE_zero {p : ByteArray} : getE p = 0 ↔ Good p := by
  constructor
  · intro e
    by_cases h : 20 ≤ p.size
    · by_cases h1 : numOf p 0 1 / 16 = 4
      · by_cases h2 : 20 ≤ hsz p ∧ hsz p ≤ p.size
        · by_cases h3 : numOf p 2 2 = p.size
          · by_cases h4 : sumD (p.extract 0 (hsz p)).data.toList = 0
            · by_cases h5 : numOf p 6 2 < 32768
              · exact ⟨h, h1, h2, h3, h4, h5⟩
              · rw [getE_form h h1 h2 h3 h4 (by omega)] at e; omega
            · rw [getE_sum h h1 h2 h3 h4] at e; omega
          · rw [getE_all h h1 h2 h3] at e; omega
        · rw [getE_len h h1 h2] at e; omega
      · rw [getE_ver h h1] at e; omega
    · rw [getE_short h] at e; omega
  · rintro ⟨h, h1, h2, h3, h4, h5⟩
    exact getE_ok h h1 h2 h3 h4 h5

end Go.Proofs.Ytdljioacbpabbaa
