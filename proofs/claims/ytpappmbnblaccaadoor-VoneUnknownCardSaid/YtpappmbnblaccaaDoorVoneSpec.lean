/-
  Lines, plainly: a stream's header, whether it may be a line, its line, and what a line says. No Go function is walked here.
-/
import Derived.Test.YtpappmbnblaccaaDoorAddrBack
namespace Go.Proofs.YtpappmbnblaccaaDoor
set_option linter.unusedVariables false

/-- A stream's header: its fields' slice is told by where it lies. -/
structure S17 where
  loc : Bool
  fam : Int
  src : ByteArray
  dst : ByteArray
  sp : Int
  dp : Int
  fa : Option Addr
  fn : Nat
  fc : Nat
def S17.cells (h : S17) : Array Value := #[.bool h.loc, .int .i64 h.fam, .string h.src, .string h.dst, .int .i64 h.sp, .int .i64 h.dp, .slice h.fa h.fn h.fc]
def S17.zero : S17 := ⟨false, 0, ⟨#[]⟩, ⟨#[]⟩, 0, 0, none, 0, 0⟩
/-- How many bytes an address of a family has. -/
def sizeF (f : Int) : Nat := if f = 1 then 4 else 16
/-- Are addresses and ports such as the family has? -/
def S17.fits (h : S17) : Prop := (h.fam = 0 ∧ h.src.size = 0 ∧ h.dst.size = 0 ∧ h.sp = 0 ∧ h.dp = 0) ∨ ((h.fam = 1 ∨ h.fam = 2) ∧ h.src.size = sizeF h.fam ∧ h.dst.size = sizeF h.fam ∧ 0 ≤ h.sp ∧ h.sp ≤ 65535 ∧ 0 ≤ h.dp ∧ h.dp ≤ 65535)
instance (h : S17) : Decidable h.fits := by unfold S17.fits; infer_instance
/-- May a header be a line? -/
def S17.may (h : S17) : Prop := h.loc = false ∧ h.fn = 0 ∧ h.fits
instance (h : S17) : Decidable h.may := by unfold S17.may; infer_instance

def pre17 : List UInt8 := [80, 82, 79, 88, 89, 32]
def uword : List UInt8 := [85, 78, 75, 78, 79, 87, 78]
def tword (f : Int) : List UInt8 := if f = 1 then [84, 67, 80, 52] else [84, 67, 80, 54]
/-- A header's line. -/
def lineL (h : S17) : List UInt8 := if h.fam = 0 then pre17 ++ uword ++ [13, 10] else pre17 ++ jn 32 [tword h.fam, text h.src.data.toList, text h.dst.data.toList, digs 10 h.sp.toNat, digs 10 h.dp.toNat] ++ [13, 10]
def putS17 (h : S17) : List UInt8 := if h.may then lineL h else []
def putE17 (h : S17) : Int := if h.may then 0 else 1

/-- What the words behind the second one say. -/
noncomputable def wordsS (f : Int) (ws : List (List UInt8)) : Option S17 := match ws with
  | [a, b, c, d] => match addrOf a, addrOf b, numOf 65535 c, numOf 65535 d with
    | some x, some y, some p, some q => if x.length = sizeF f ∧ y.length = sizeF f then some ⟨false, f, ⟨x.toArray⟩, ⟨y.toArray⟩, (p : Int), (q : Int), none, 0, 0⟩ else none
    | _, _, _, _ => none
  | _ => none
/-- What a line's words behind the sign say. -/
noncomputable def saidS (v : List UInt8) : Option S17 := match sp 32 v with
  | [] => none
  | w :: r => if w = uword then some S17.zero else if w = tword 1 then wordsS 1 r else if w = tword 2 then wordsS 2 r else none
/-- What stands behind the sign, up to the end, says. -/
noncomputable def lineS (u : List UInt8) : Option S17 := if u.drop (u.length - 2) = [13, 10] ∧ 2 ≤ u.length then saidS (u.take (u.length - 2)) else none

/-- Where the first byte 10 is. -/
def nlAt (b : List UInt8) : Int := Lib.indexByte (b.take 107) 10
/-- What a text begins with: its error, its length, its header. -/
noncomputable def getE17 (b : List UInt8) : Int :=
  if b.take 6 ≠ pre17.take b.length then 13 else if nlAt b < 0 then (if 107 ≤ b.length then 4 else 10) else match lineS ((b.take ((nlAt b).toNat + 1)).drop 6) with
    | some _ => 0
    | none => 9
noncomputable def getH17 (b : List UInt8) : S17 := if getE17 b = 0 then (lineS ((b.take ((nlAt b).toNat + 1)).drop 6)).getD S17.zero else S17.zero
noncomputable def getN17 (b : List UInt8) : Nat := if getE17 b = 0 then (nlAt b).toNat + 1 else 0

end Go.Proofs.YtpappmbnblaccaaDoor
