/-
  IPv6 headers and packets, plain: which header may be, its packet, and what bytes say; no Go function is walked here.
-/
import Derived.Test.YtbaddhjlpahpkaaRdNum
import Derived.Test.YtbaddhjlpahpkaaBe
import Derived.Test.YtbaddhjlpahpkaaTexts
import Derived.Test.YtbaddhjlpahpkaaSegs
namespace Go.Proofs.Ytbaddhjlpahpkaa
open Go.RowKit
set_option linter.unusedVariables false

/-- A header. -/
structure H6 where
  cls : Int
  lab : Int
  nxt : Int
  hops : Int
  src : ByteArray
  dst : ByteArray

/-- Its cells. -/
def H6.cells (h : H6) : Array Value := #[.int .i64 h.cls, .int .i64 h.lab, .int .i64 h.nxt, .int .i64 h.hops, .string h.src, .string h.dst]
def H6.zero : H6 := ⟨0, 0, 0, 0, ⟨#[]⟩, ⟨#[]⟩⟩

/-- The header's cells. -/
structure Hc6 (u : World) (B : Nat) (h : H6) : Prop where
  c0 : u.cell? ⟨B, 0, none⟩ = some (.int .i64 h.cls)
  c1 : u.cell? ⟨B, 1, none⟩ = some (.int .i64 h.lab)
  c2 : u.cell? ⟨B, 2, none⟩ = some (.int .i64 h.nxt)
  c3 : u.cell? ⟨B, 3, none⟩ = some (.int .i64 h.hops)
  c4 : u.cell? ⟨B, 4, none⟩ = some (.string h.src)
  c5 : u.cell? ⟨B, 5, none⟩ = some (.string h.dst)
theorem Hc6.of {u : World} {B : Nat} {h : H6} {T : TypeId} (hb : Blk u B h.cells T) : Hc6 u B h :=
  ⟨hb.cell 0, hb.cell 1, hb.cell 2, hb.cell 3, hb.cell 4, hb.cell 5⟩

/-- What may be, one by one. -/
def H6.fine (h : H6) : Nat → Bool
  | 0 => decide (0 ≤ h.cls) && decide (h.cls ≤ 255)
  | 1 => decide (0 ≤ h.nxt) && decide (h.nxt ≤ 255)
  | 2 => decide (0 ≤ h.hops) && decide (h.hops ≤ 255)
  | 3 => decide (0 ≤ h.lab) && decide (h.lab ≤ 1048575)
  | 4 => decide ((h.src.size : Int) = 16)
  | _ => decide ((h.dst.size : Int) = 16)
/-- May a header be? -/
def H6.ok (h : H6) : Bool := h.fine 0 && h.fine 1 && h.fine 2 && h.fine 3 && h.fine 4 && h.fine 5

structure H6.Ok (h : H6) : Prop where
  cls : 0 ≤ h.cls ∧ h.cls ≤ 255
  nxt : 0 ≤ h.nxt ∧ h.nxt ≤ 255
  hops : 0 ≤ h.hops ∧ h.hops ≤ 255
  lab : 0 ≤ h.lab ∧ h.lab ≤ 1048575
  src : h.src.size = 16
  dst : h.dst.size = 16
theorem H6.ok_iff (h : H6) : h.ok = true ↔ h.Ok := by
  constructor
  · intro e
    simp only [H6.ok, H6.fine, Bool.and_eq_true, decide_eq_true_eq] at e
    exact ⟨by omega, by omega, by omega, by omega, by omega, by omega⟩
  · rintro ⟨_, _, _, _, _, _⟩
    simp only [H6.ok, H6.fine, Bool.and_eq_true, decide_eq_true_eq]
    omega
theorem H6.ok_step (h : H6) (k : Nat) (hk : k < 6) (hf : h.fine k = false) : h.ok = false := by
  have : k = 0 ∨ k = 1 ∨ k = 2 ∨ k = 3 ∨ k = 4 ∨ k = 5 := by omega
  rcases this with rfl | rfl | rfl | rfl | rfl | rfl <;> simp [H6.ok, hf]

/-- The first four bytes' number. -/
def H6.word (h : H6) : Nat := 1610612736 + h.cls.toNat * 1048576 + h.lab.toNat
def H6.pack (h : H6) (pay : ByteArray) : List UInt8 :=
  be h.word 4 ++ be pay.size 2 ++ be h.nxt.toNat 1 ++ be h.hops.toNat 1 ++ h.src.data.toList ++ h.dst.data.toList ++ pay.data.toList

def put6E (h : H6) (pay : ByteArray) : Nat := if h.ok then if 65535 < pay.size then 4 else 0 else 1
def put6S (h : H6) (pay : ByteArray) : ByteArray := if put6E h pay = 0 then ⟨(h.pack pay).toArray⟩ else ⟨#[]⟩

def get6E (p : ByteArray) : Nat :=
  if p.size < 40 then 2 else if numOf p 0 4 / 268435456 ≠ 6 then 3 else if numOf p 4 2 + 40 ≠ p.size then 4 else 0
/-- The header that stands there. -/
def hdr6 (p : ByteArray) : H6 := ⟨(numOf p 0 4 / 1048576 % 256 : Nat), (numOf p 0 4 % 1048576 : Nat), numOf p 6 1, numOf p 7 1, p.extract 8 24, p.extract 24 40⟩
def get6H (p : ByteArray) : H6 := if get6E p = 0 then hdr6 p else H6.zero
def get6S (p : ByteArray) : ByteArray := if get6E p = 0 then p.extract 40 p.size else ⟨#[]⟩

theorem get6E_short {p : ByteArray} (h : ¬ 40 ≤ p.size) : get6E p = 2 := by unfold get6E; rw [if_pos (by omega)]
theorem get6E_ver {p : ByteArray} (h : 40 ≤ p.size) (h1 : numOf p 0 4 / 268435456 ≠ 6) : get6E p = 3 := by unfold get6E; rw [if_neg (by omega), if_pos h1]
theorem get6E_len {p : ByteArray} (h : 40 ≤ p.size) (h1 : numOf p 0 4 / 268435456 = 6) (h2 : numOf p 4 2 + 40 ≠ p.size) : get6E p = 4 := by
  unfold get6E; rw [if_neg (by omega), if_neg (by omega), if_pos h2]
theorem get6E_ok {p : ByteArray} (h : 40 ≤ p.size) (h1 : numOf p 0 4 / 268435456 = 6) (h2 : numOf p 4 2 + 40 = p.size) : get6E p = 0 := by
  unfold get6E; rw [if_neg (by omega), if_neg (by omega), if_neg (by omega)]
/-- Just when bytes are a packet. -/
structure Good6 (p : ByteArray) : Prop where
  short : 40 ≤ p.size
  ver : numOf p 0 4 / 268435456 = 6
  len : numOf p 4 2 + 40 = p.size
theorem get6E_zero {p : ByteArray} : get6E p = 0 ↔ Good6 p := by
  constructor
  · intro e
    by_cases h : 40 ≤ p.size
    · by_cases h1 : numOf p 0 4 / 268435456 = 6
      · by_cases h2 : numOf p 4 2 + 40 = p.size
        · exact ⟨h, h1, h2⟩
        · rw [get6E_len h h1 h2] at e; omega
      · rw [get6E_ver h h1] at e; omega
    · rw [get6E_short h] at e; omega
  · rintro ⟨h, h1, h2⟩
    exact get6E_ok h h1 h2

/-- What is cut to its bits. -/
def H6.cut (h : H6) : H6 := ⟨h.cls % 256, h.lab % 1048576, h.nxt % 256, h.hops % 256, h.src, h.dst⟩
theorem H6.cut_ok {h : H6} (hok : h.Ok) : h.cut = h := by
  obtain ⟨h1, h2, h3, h4, _, _⟩ := hok
  unfold H6.cut
  rw [show h.cls % 256 = h.cls by omega, show h.lab % 1048576 = h.lab by omega, show h.nxt % 256 = h.nxt by omega, show h.hops % 256 = h.hops by omega]

/-- Check's error. -/
def H6.err (h : H6) : Nat := if h.ok then 0 else 1
theorem H6.err_ok {h : H6} (e : h.ok = true) : h.err = 0 := by simp [H6.err, e]
theorem H6.err_no {h : H6} (e : h.ok = false) : h.err = 1 := by simp [H6.err, e]
/-- Is a header not too long? -/
def H6.few (h : H6) : Bool := decide (h.src.size ≤ 300) && decide (h.dst.size ≤ 300)

theorem put6_told (h : H6) (pay : ByteArray) : (put6E h pay = 0 ∧ h.Ok ∧ pay.size ≤ 65535 ∧ put6S h pay = ⟨(h.pack pay).toArray⟩) ∨ (put6E h pay ≠ 0 ∧ put6S h pay = ⟨#[]⟩) := by
  unfold put6S
  by_cases hok : h.ok = true
  · by_cases hn : 65535 < pay.size
    · have e : put6E h pay = 4 := by unfold put6E; rw [if_pos hok, if_pos hn]
      exact Or.inr ⟨by omega, by rw [if_neg (by omega)]⟩
    · have e : put6E h pay = 0 := by unfold put6E; rw [if_pos hok, if_neg hn]
      exact Or.inl ⟨e, (H6.ok_iff h).1 hok, by omega, by rw [if_pos e]⟩
  · have e : put6E h pay = 1 := by unfold put6E; rw [if_neg hok]
    exact Or.inr ⟨by omega, by rw [if_neg (by omega)]⟩
theorem put6_ok {h : H6} {pay : ByteArray} (hok : h.Ok) (hn : pay.size ≤ 65535) : put6E h pay = 0 ∧ put6S h pay = ⟨(h.pack pay).toArray⟩ := by
  have e : put6E h pay = 0 := by unfold put6E; rw [if_pos ((H6.ok_iff h).2 hok), if_neg (by omega)]
  exact ⟨e, by unfold put6S; rw [if_pos e]⟩
theorem get6_err {p : ByteArray} (h : get6E p ≠ 0) : get6H p = H6.zero ∧ get6S p = ⟨#[]⟩ := by
  unfold get6H get6S
  rw [if_neg h, if_neg h]
  exact ⟨rfl, rfl⟩

end Go.Proofs.Ytbaddhjlpahpkaa
