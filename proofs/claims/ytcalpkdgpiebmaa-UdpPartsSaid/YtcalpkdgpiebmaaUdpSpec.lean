/-
  UDP datagrams, plain: which datagram may be, its bytes, and what bytes say; no Go function is walked here.
-/
import Derived.Test.YtcalpkdgpiebmaaMem
import Derived.Test.YtcalpkdgpiebmaaSegs
namespace Go.Proofs.Ytcalpkdgpiebmaa
open Go.RowKit
set_option linter.unusedVariables false

/-- A datagram. -/
structure D8 where
  src : Int
  dst : Int
  pay : ByteArray

/-- Its cells. -/
def D8.cells (h : D8) : Array Value := #[.int .i64 h.src, .int .i64 h.dst, .string h.pay]
def D8.zero : D8 := ⟨0, 0, ⟨#[]⟩⟩

/-- The datagram's cells. -/
structure Hc8 (u : World) (B : Nat) (h : D8) : Prop where
  c0 : u.cell? ⟨B, 0, none⟩ = some (.int .i64 h.src)
  c1 : u.cell? ⟨B, 1, none⟩ = some (.int .i64 h.dst)
  c2 : u.cell? ⟨B, 2, none⟩ = some (.string h.pay)
theorem Hc8.of {u : World} {B : Nat} {h : D8} {T : TypeId} (hb : Blk u B h.cells T) : Hc8 u B h :=
  ⟨hb.cell 0, hb.cell 1, hb.cell 2⟩

/-- Is a number one of two bytes? -/
def in8 (n : Int) : Bool := decide (0 ≤ n) && decide (n ≤ 65535)
theorem in8_iff (n : Int) : in8 n = true ↔ 0 ≤ n ∧ n ≤ 65535 := by simp [in8]
/-- May a datagram be? -/
structure D8.Ok (h : D8) : Prop where
  src : 0 ≤ h.src ∧ h.src ≤ 65535
  dst : 0 ≤ h.dst ∧ h.dst ≤ 65535
  pay : h.pay.size ≤ 65527
/-- Check's error. -/
def D8.err (h : D8) : Nat := if in8 h.src && in8 h.dst then (if h.pay.size ≤ 65527 then 0 else 4) else 1
theorem D8.err_port {h : D8} (e : (in8 h.src && in8 h.dst) = false) : h.err = 1 := by simp [D8.err, e]
theorem D8.err_long {h : D8} (e : (in8 h.src && in8 h.dst) = true) (l : ¬ h.pay.size ≤ 65527) : h.err = 4 := by simp [D8.err, e, l]
theorem D8.err_ok {h : D8} (e : (in8 h.src && in8 h.dst) = true) (l : h.pay.size ≤ 65527) : h.err = 0 := by simp [D8.err, e, l]
theorem D8.err_zero (h : D8) : h.err = 0 ↔ h.Ok := by
  constructor
  · intro e
    cases hp : (in8 h.src && in8 h.dst) with
    | false => rw [D8.err_port hp] at e; omega
    | true =>
      have h2 := Bool.and_eq_true_iff.1 hp
      by_cases l : h.pay.size ≤ 65527
      · exact ⟨(in8_iff _).1 h2.1, (in8_iff _).1 h2.2, l⟩
      · rw [D8.err_long hp l] at e; omega
  · rintro ⟨a, b, c⟩
    exact D8.err_ok (by rw [(in8_iff _).2 a, (in8_iff _).2 b]; rfl) c
theorem D8.err_cases (h : D8) : h.err = 0 ∨ h.err = 1 ∨ h.err = 4 := by
  unfold D8.err; split
  · split
    · exact Or.inl rfl
    · exact Or.inr (Or.inr rfl)
  · exact Or.inr (Or.inl rfl)

/-- A datagram's bytes. -/
def D8.pack (h : D8) (sum : Int) : List UInt8 :=
  be h.src.toNat 2 ++ be h.dst.toNat 2 ++ be (8 + h.pay.size) 2 ++ be sum.toNat 2 ++ h.pay.data.toList
def put8E (h : D8) (sum : Int) : Nat := if h.err = 0 then (if in8 sum then 0 else 1) else h.err
def put8S (h : D8) (sum : Int) : ByteArray := if put8E h sum = 0 then ⟨(h.pack sum).toArray⟩ else ⟨#[]⟩
theorem put8_ok {h : D8} {sum : Int} (hok : h.Ok) (hs : 0 ≤ sum ∧ sum ≤ 65535) : put8E h sum = 0 ∧ put8S h sum = ⟨(h.pack sum).toArray⟩ := by
  have e : put8E h sum = 0 := by unfold put8E; rw [if_pos ((D8.err_zero h).2 hok), (in8_iff _).2 hs]; rfl
  exact ⟨e, by unfold put8S; rw [if_pos e]⟩
theorem put8_err {h : D8} {sum : Int} (hn : h.err ≠ 0) : put8E h sum = h.err ∧ put8S h sum = ⟨#[]⟩ := by
  have e : put8E h sum = h.err := by unfold put8E; rw [if_neg hn]
  exact ⟨e, by unfold put8S; rw [if_neg (by omega)]⟩
theorem put8_sum {h : D8} {sum : Int} (h0 : h.err = 0) (hn : in8 sum = false) : put8E h sum = 1 ∧ put8S h sum = ⟨#[]⟩ := by
  have e : put8E h sum = 1 := by unfold put8E; rw [if_pos h0, hn]; rfl
  exact ⟨e, by unfold put8S; rw [if_neg (by omega)]⟩
theorem put8_told (h : D8) (sum : Int) : (put8E h sum = 0 ∧ h.Ok ∧ (0 ≤ sum ∧ sum ≤ 65535) ∧ put8S h sum = ⟨(h.pack sum).toArray⟩) ∨ (put8E h sum ≠ 0 ∧ put8S h sum = ⟨#[]⟩) := by
  by_cases h0 : h.err = 0
  · cases hn : in8 sum with
    | false => exact Or.inr ⟨by rw [(put8_sum h0 hn).1]; decide, (put8_sum h0 hn).2⟩
    | true =>
      have hok := (D8.err_zero h).1 h0
      have hs := (in8_iff _).1 hn
      exact Or.inl ⟨(put8_ok hok hs).1, hok, hs, (put8_ok hok hs).2⟩
  · exact Or.inr ⟨by rw [(put8_err h0).1]; exact h0, (put8_err h0).2⟩

def get8E (b : ByteArray) : Nat := if b.size < 8 then 2 else if numOf b 4 2 = b.size then 0 else 4
/-- The datagram that stands there. -/
def dat8 (b : ByteArray) : D8 := ⟨numOf b 0 2, numOf b 2 2, b.extract 8 b.size⟩
def get8H (b : ByteArray) : D8 := if get8E b = 0 then dat8 b else D8.zero
def get8N (b : ByteArray) : Nat := if get8E b = 0 then numOf b 6 2 else 0
theorem get8E_short {b : ByteArray} (h : ¬ 8 ≤ b.size) : get8E b = 2 := by unfold get8E; rw [if_pos (by omega)]
theorem get8E_len {b : ByteArray} (h : 8 ≤ b.size) (h1 : numOf b 4 2 ≠ b.size) : get8E b = 4 := by unfold get8E; rw [if_neg (by omega), if_neg h1]
theorem get8E_ok {b : ByteArray} (h : 8 ≤ b.size) (h1 : numOf b 4 2 = b.size) : get8E b = 0 := by unfold get8E; rw [if_neg (by omega), if_pos h1]
theorem get8E_zero {b : ByteArray} : get8E b = 0 ↔ 8 ≤ b.size ∧ numOf b 4 2 = b.size := by
  constructor
  · intro e
    by_cases h : 8 ≤ b.size
    · by_cases h1 : numOf b 4 2 = b.size
      · exact ⟨h, h1⟩
      · rw [get8E_len h h1] at e; omega
    · rw [get8E_short h] at e; omega
  · rintro ⟨h, h1⟩; exact get8E_ok h h1
theorem get8_err {b : ByteArray} (h : get8E b ≠ 0) : get8H b = D8.zero ∧ get8N b = 0 := by
  unfold get8H get8N
  rw [if_neg h, if_neg h]
  exact ⟨rfl, rfl⟩
theorem get8_ok {b : ByteArray} (h : get8E b = 0) : get8H b = dat8 b ∧ get8N b = numOf b 6 2 := by
  unfold get8H get8N
  rw [if_pos h, if_pos h]
  exact ⟨rfl, rfl⟩

/-- Of a datagram that was put: what is got of it. -/
structure Sent8 (h : D8) (sum : Int) (P : ByteArray) : Prop where
  ok : h.Ok
  su : 0 ≤ sum ∧ sum ≤ 65535
  is : P.data.toList = h.pack sum
  size : P.size = 8 + h.pay.size
  len : numOf P 4 2 = 8 + h.pay.size
  dat : dat8 P = h
  num : (numOf P 6 2 : Int) = sum
theorem put8_get (h : D8) (sum : Int) (hok : h.Ok) (hs : 0 ≤ sum ∧ sum ≤ 65535) : Sent8 h sum ⟨(h.pack sum).toArray⟩ := by
  obtain ⟨p, hp⟩ : ∃ p : ByteArray, p = ⟨(h.pack sum).toArray⟩ := ⟨_, rfl⟩
  rw [← hp]
  have hl : p.data.toList = h.pack sum := by rw [hp]
  obtain ⟨h1, h2, h3⟩ := hok
  have hpk : p.data.toList = be h.src.toNat 2 ++ (be h.dst.toNat 2 ++ (be (8 + h.pay.size) 2 ++ (be sum.toNat 2 ++ h.pay.data.toList))) := by
    rw [hl]; unfold D8.pack; simp only [List.append_assoc]
  have hsize : p.size = 8 + h.pay.size := by
    have := congrArg List.length hpk
    simp only [List.length_append, be_length, Array.length_toList, ByteArray.size_data] at this
    omega
  have n0 : numOf p 0 2 = h.src.toNat := num_seg (a := []) hpk rfl rfl (by show _ < 65536; omega)
  have n2 : numOf p 2 2 = h.dst.toNat := num_seg (a := be h.src.toNat 2) hpk (by simp [be_length]) rfl (by show _ < 65536; omega)
  have n4 : numOf p 4 2 = 8 + h.pay.size := num_seg (a := be h.src.toNat 2 ++ be h.dst.toNat 2) (by rw [hpk]; simp only [List.append_assoc]; rfl) (by simp [be_length]) rfl (by show _ < 65536; omega)
  have n6 : numOf p 6 2 = sum.toNat := num_seg (a := be h.src.toNat 2 ++ be h.dst.toNat 2 ++ be (8 + h.pay.size) 2) (by rw [hpk]; simp only [List.append_assoc]; rfl) (by simp [be_length]) rfl (by show _ < 65536; omega)
  have tp : p.extract 8 p.size = h.pay :=
    text_seg (a := be h.src.toNat 2 ++ be h.dst.toNat 2 ++ be (8 + h.pay.size) 2 ++ be sum.toNat 2) (c := []) (by rw [hpk]; simp only [List.append_assoc, List.append_nil]) (by simp [be_length]) (by omega)
  refine ⟨⟨h1, h2, h3⟩, hs, hl, hsize, n4, ?_, by rw [n6]; omega⟩
  unfold dat8
  rw [n0, n2, tp]
  rw [show ((h.src.toNat : Nat) : Int) = h.src by omega, show ((h.dst.toNat : Nat) : Int) = h.dst by omega]
theorem Sent8.got {h : D8} {sum : Int} {P : ByteArray} (s : Sent8 h sum P) : get8E P = 0 := by
  have := s.size
  exact get8E_ok (by omega) (by rw [s.len, s.size])

/-- What is got is put as it was. -/
theorem get8_put (p : ByteArray) (g : get8E p = 0) : (dat8 p).Ok ∧ (0 ≤ (numOf p 6 2 : Int) ∧ (numOf p 6 2 : Int) ≤ 65535) ∧ (⟨((dat8 p).pack (numOf p 6 2 : Int)).toArray⟩ : ByteArray) = p := by
  obtain ⟨hsh, hlen⟩ := get8E_zero.1 g
  have l0 : numOf p 0 2 < 65536 := numOf_lt p 0 2 (by omega)
  have l2 : numOf p 2 2 < 65536 := numOf_lt p 2 2 (by omega)
  have l4 : numOf p 4 2 < 65536 := numOf_lt p 4 2 (by omega)
  have l6 : numOf p 6 2 < 65536 := numOf_lt p 6 2 (by omega)
  have hosz : (p.extract 8 p.size).size = p.size - 8 := by rw [ByteArray.size_extract]; omega
  refine ⟨⟨?_, ?_, ?_⟩, by omega, ?_⟩
  · show 0 ≤ ((numOf p 0 2 : Nat) : Int) ∧ ((numOf p 0 2 : Nat) : Int) ≤ 65535; omega
  · show 0 ≤ ((numOf p 2 2 : Nat) : Int) ∧ ((numOf p 2 2 : Nat) : Int) ≤ 65535; omega
  · show (p.extract 8 p.size).size ≤ 65527; omega
  apply text_ext
  show (dat8 p).pack (numOf p 6 2 : Int) = p.data.toList
  have e8 : 8 + (p.extract 8 p.size).size = numOf p 4 2 := by omega
  unfold D8.pack dat8
  simp only [Int.toNat_natCast]
  rw [e8, be_num p 0 2 (by omega), be_num p 2 2 (by omega), be_num p 4 2 (by omega), be_num p 6 2 (by omega), sl_ext]
  rw [sl_join p 0 (0 + 2) (2 + 2) (by omega) (by omega), sl_join p 0 (2 + 2) (4 + 2) (by omega) (by omega), sl_join p 0 (4 + 2) (6 + 2) (by omega) (by omega), sl_join p 0 (6 + 2) p.size (by omega) (by omega), sl_all, List.drop_zero]

end Go.Proofs.Ytcalpkdgpiebmaa
