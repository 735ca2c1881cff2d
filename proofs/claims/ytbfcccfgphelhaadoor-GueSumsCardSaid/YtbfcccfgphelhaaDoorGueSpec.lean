/-
  GUE's datagram, plainly: its bytes; what bytes say as one.
-/
import Derived.Test.YtbfcccfgphelhaaDoorUdpA
import Derived.Test.YtbfcccfgphelhaaDoorIpip
import Derived.Test.YtbfcccfgphelhaaDoorFlowSealed
import Derived.Test.YtbfcccfgphelhaaDoorSumMid
namespace Go.Proofs.YtbfcccfgphelhaaDoor
open Go.RowKit
set_option linter.unusedVariables false

/-- A head. -/
structure H13 where
  port : Int
  sum : Bool
def H13.cells (h : H13) : Array Value := #[.int .i64 h.port, .bool h.sum]
def H13.zero : H13 := ⟨0, false⟩

/-- A header's four bytes; a payload; a datagram. -/
def hd13 (n : Nat) : List UInt8 := be 0 1 ++ be n 1 ++ be 0 2
def pay13 (s : ByteArray) : ByteArray := (⟨(hd13 (v11 s).pn).toArray⟩ : ByteArray) ++ s
def dg13 (port : Int) (s : ByteArray) : D8 := ⟨port, 6080, pay13 s⟩
def bare13 (port : Int) (s : ByteArray) : ByteArray := ⟨((dg13 port s).pack 0).toArray⟩
/-- What Put answers. -/
def put13E (port : Int) (s : ByteArray) : Nat := if (v11 s).en ≠ 0 then (v11 s).en else (dg13 port s).err
def full13 (h : H13) (src dst s : ByteArray) : ByteArray := match h.sum with | true => seal9 17 src dst (bare13 h.port s) | false => bare13 h.port s
def put13S (h : H13) (src dst s : ByteArray) : ByteArray := if put13E h.port s = 0 then full13 h src dst s else ⟨#[]⟩

/-- The packet's fault, by what the header says that it is. -/
def pk13 (n : Nat) (v : V11) : Nat := if n ≠ 4 ∧ n ≠ 41 then 6 else if v.en ≠ 0 then v.en else if v.pn ≠ n then 3 else 0
theorem get11_pk (n : Nat) (s : ByteArray) : get11E (n : Int) s = (pk13 n (v11 s) : Nat) := by
  unfold get11E pk13
  rw [V11.err_en, V11.proto_pn]
  by_cases h1 : n ≠ 4 ∧ n ≠ 41
  · rw [if_pos h1, if_pos (by omega)]; rfl
  · rw [if_neg h1, if_neg (by omega)]
    by_cases h2 : (v11 s).en ≠ 0
    · rw [if_pos h2, if_pos (by omega)]
    · rw [if_neg h2, if_neg (by omega)]
      by_cases h3 : (v11 s).pn ≠ n
      · rw [if_pos h3, if_pos (by omega)]; rfl
      · rw [if_neg h3, if_neg (by omega)]; rfl
/-- The fault of a payload. -/
def in13E (p : ByteArray) : Nat :=
  if p.size < 4 then 2 else if 64 ≤ numOf p 0 1 then 3 else if numOf p 0 1 ≠ 0 ∨ numOf p 2 2 ≠ 0 then 9 else pk13 (numOf p 1 1) (v11 (p.extract 4 p.size))
def in13 (p : ByteArray) : ByteArray := p.extract 4 p.size
/-- Is its sum wrong? -/
def wrong13 (src dst b : ByteArray) : Bool := decide (numOf b 6 2 ≠ 0) && decide (sumD (ph9 17 src dst b) ≠ 0)
def get13E (src dst b : ByteArray) : Nat :=
  if get8E b ≠ 0 then get8E b else if numOf b 2 2 ≠ 6080 then 6 else if wrong13 src dst b = true then 5 else in13E (b.extract 8 b.size)
def say13 (b : ByteArray) : H13 := ⟨numOf b 0 2, decide (numOf b 6 2 ≠ 0)⟩
def get13H (src dst b : ByteArray) : H13 := if get13E src dst b = 0 then say13 b else .zero
def get13S (src dst b : ByteArray) : ByteArray := if get13E src dst b = 0 then in13 (b.extract 8 b.size) else ⟨#[]⟩

/-- Just when a payload has no fault. -/
structure In13 (p : ByteArray) : Prop where
  long : 4 ≤ p.size
  first : numOf p 0 1 = 0
  last : numOf p 2 2 = 0
  pk : pk13 (numOf p 1 1) (v11 (p.extract 4 p.size)) = 0
theorem in13E_zero {p : ByteArray} : in13E p = 0 ↔ In13 p := by
  constructor
  · intro e
    unfold in13E at e
    split at e
    · omega
    · split at e
      · omega
      · split at e
        · omega
        · exact ⟨by omega, by omega, by omega, e⟩
  · rintro ⟨h1, h2, h3, h4⟩
    unfold in13E
    rw [if_neg (by omega), if_neg (by omega), if_neg (by omega)]
    exact h4
/-- Just when bytes have no fault. -/
structure Good13 (src dst b : ByteArray) : Prop where
  dat : get8E b = 0
  port : numOf b 2 2 = 6080
  sum : wrong13 src dst b = false
  inn : In13 (b.extract 8 b.size)
theorem get13E_zero {src dst b : ByteArray} : get13E src dst b = 0 ↔ Good13 src dst b := by
  constructor
  · intro e
    unfold get13E at e
    split at e
    · omega
    · split at e
      · omega
      · split at e
        · omega
        · exact ⟨by omega, by omega, by rename_i h; simpa using h, in13E_zero.1 e⟩
  · rintro ⟨h1, h2, h3, h4⟩
    unfold get13E
    rw [if_neg (by omega), if_neg (by omega), if_neg (by rw [h3]; decide)]
    exact in13E_zero.2 h4
theorem get13_ok {src dst b : ByteArray} (h : get13E src dst b = 0) : get13H src dst b = say13 b ∧ get13S src dst b = in13 (b.extract 8 b.size) := by
  unfold get13H get13S
  rw [if_pos h, if_pos h]
  exact ⟨rfl, rfl⟩
theorem get13_err {src dst b : ByteArray} (h : get13E src dst b ≠ 0) : get13H src dst b = H13.zero ∧ get13S src dst b = ⟨#[]⟩ := by
  unfold get13H get13S
  rw [if_neg h, if_neg h]
  exact ⟨rfl, rfl⟩
theorem pk13_zero {n : Nat} {v : V11} : pk13 n v = 0 ↔ v.en = 0 ∧ v.pn = n := by
  unfold pk13
  constructor
  · intro e
    split at e
    · omega
    · split at e
      · omega
      · split at e
        · omega
        · omega
  · rintro ⟨h1, h2⟩
    have : v.pn = 4 ∨ v.pn = 41 := by cases v <;> simp [V11.en, V11.pn] at *
    rw [if_neg (by omega), if_neg (by omega), if_neg (by omega)]
theorem hd13_length (n : Nat) : (hd13 n).length = 4 := by unfold hd13; simp [be_length]
theorem pay13_list (s : ByteArray) : (pay13 s).data.toList = hd13 (v11 s).pn ++ s.data.toList := by unfold pay13; rw [cat_list]
theorem pay13_size (s : ByteArray) : (pay13 s).size = 4 + s.size := by unfold pay13; rw [cat_size, list_size, hd13_length]
theorem V11.pn_le (v : V11) : v.pn ≤ 41 := by cases v <;> decide
theorem pay13_in {s : ByteArray} (h : (v11 s).en = 0) : In13 (pay13 s) ∧ in13 (pay13 s) = s := by
  have hl := pay13_list s
  have hz := pay13_size s
  have hp := (v11 s).pn_le
  unfold hd13 at hl
  have n0 : numOf (pay13 s) 0 1 = 0 := num_seg (a := []) (b := be 0 1) (c := be (v11 s).pn 1 ++ be 0 2 ++ s.data.toList) (by rw [hl]; simp only [List.append_assoc, List.nil_append]) rfl rfl (by decide)
  have n1 : numOf (pay13 s) 1 1 = (v11 s).pn := num_seg (a := be 0 1) (b := be (v11 s).pn 1) (c := be 0 2 ++ s.data.toList) (by rw [hl]; simp only [List.append_assoc]) (by simp [be_length]) rfl (by show _ < 256; omega)
  have n2 : numOf (pay13 s) 2 2 = 0 := num_seg (a := be 0 1 ++ be (v11 s).pn 1) (b := be 0 2) (c := s.data.toList) (by rw [hl]; simp only [List.append_assoc]) (by simp [be_length]) rfl (by decide)
  have ts : (pay13 s).extract 4 (pay13 s).size = s := text_seg (a := be 0 1 ++ be (v11 s).pn 1 ++ be 0 2) (c := []) (by rw [hl]; simp only [List.append_assoc, List.append_nil]) (by simp [be_length]) (by omega)
  refine ⟨⟨by omega, n0, n2, ?_⟩, ts⟩
  rw [ts, n1]
  exact pk13_zero.2 ⟨h, rfl⟩

end Go.Proofs.YtbfcccfgphelhaaDoor
