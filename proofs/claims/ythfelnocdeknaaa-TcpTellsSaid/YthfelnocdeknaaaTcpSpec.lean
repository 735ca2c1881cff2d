/-
  TCP segments, plain: which segment may be, its bytes, and what bytes say; no Go function is walked here.
-/
import Derived.Test.YthfelnocdeknaaaTcpOpts
namespace Go.Proofs.Ythfelnocdeknaaa
open Go.RowKit
set_option linter.unusedVariables false

/-- A segment. -/
structure S7 where
  src : Int
  dst : Int
  seq : Int
  ack : Int
  flg : Int
  win : Int
  urg : Int
  opt : ByteArray
  pay : ByteArray

/-- Its cells. -/
def S7.cells (h : S7) : Array Value := #[.int .i64 h.src, .int .i64 h.dst, .int .u32 h.seq, .int .u32 h.ack, .int .i64 h.flg, .int .i64 h.win, .int .i64 h.urg, .string h.opt, .string h.pay]
def S7.zero : S7 := ⟨0, 0, 0, 0, 0, 0, 0, ⟨#[]⟩, ⟨#[]⟩⟩
/-- Seq and Ack are numbers of four bytes. -/
structure S7.Wf (h : S7) : Prop where
  seq : 0 ≤ h.seq ∧ h.seq < 4294967296
  ack : 0 ≤ h.ack ∧ h.ack < 4294967296

/-- The segment's cells. -/
structure Hc7 (u : World) (B : Nat) (h : S7) : Prop where
  c0 : u.cell? ⟨B, 0, none⟩ = some (.int .i64 h.src)
  c1 : u.cell? ⟨B, 1, none⟩ = some (.int .i64 h.dst)
  c2 : u.cell? ⟨B, 2, none⟩ = some (.int .u32 h.seq)
  c3 : u.cell? ⟨B, 3, none⟩ = some (.int .u32 h.ack)
  c4 : u.cell? ⟨B, 4, none⟩ = some (.int .i64 h.flg)
  c5 : u.cell? ⟨B, 5, none⟩ = some (.int .i64 h.win)
  c6 : u.cell? ⟨B, 6, none⟩ = some (.int .i64 h.urg)
  c7 : u.cell? ⟨B, 7, none⟩ = some (.string h.opt)
  c8 : u.cell? ⟨B, 8, none⟩ = some (.string h.pay)
theorem Hc7.of {u : World} {B : Nat} {h : S7} {T : TypeId} (hb : Blk u B h.cells T) : Hc7 u B h :=
  ⟨hb.cell 0, hb.cell 1, hb.cell 2, hb.cell 3, hb.cell 4, hb.cell 5, hb.cell 6, hb.cell 7, hb.cell 8⟩

/-- Is a number from 0 to another one? -/
def inR (n m : Int) : Bool := decide (0 ≤ n) && decide (n ≤ m)
theorem inR_iff (n m : Int) : inR n m = true ↔ 0 ≤ n ∧ n ≤ m := by simp [inR]
/-- May a segment be? -/
def S7.ok (h : S7) : Bool := inR h.src 65535 && inR h.dst 65535 && inR h.win 65535 && inR h.urg 65535 && inR h.flg 255 && decide (h.opt.size ≤ 40) && decide (h.opt.size % 4 = 0)
structure S7.Ok (h : S7) : Prop where
  src : 0 ≤ h.src ∧ h.src ≤ 65535
  dst : 0 ≤ h.dst ∧ h.dst ≤ 65535
  win : 0 ≤ h.win ∧ h.win ≤ 65535
  urg : 0 ≤ h.urg ∧ h.urg ≤ 65535
  flg : 0 ≤ h.flg ∧ h.flg ≤ 255
  few : h.opt.size ≤ 40
  four : h.opt.size % 4 = 0
theorem S7.ok_iff (h : S7) : h.ok = true ↔ h.Ok := by
  simp only [S7.ok, Bool.and_eq_true, inR_iff, decide_eq_true_eq]
  constructor
  · rintro ⟨⟨⟨⟨⟨⟨a, b⟩, c⟩, d⟩, e⟩, f⟩, g⟩; exact ⟨a, b, c, d, e, f, g⟩
  · rintro ⟨a, b, c, d, e, f, g⟩; exact ⟨⟨⟨⟨⟨⟨a, b⟩, c⟩, d⟩, e⟩, f⟩, g⟩
/-- Check's error. -/
def S7.err (h : S7) : Nat := if h.ok then 0 else 1
theorem S7.err_ok {h : S7} (e : h.ok = true) : h.err = 0 := by simp [S7.err, e]
theorem S7.err_no {h : S7} (e : h.ok = false) : h.err = 1 := by simp [S7.err, e]
/-- Is a segment not too long? -/
def S7.few (h : S7) : Bool := decide (h.opt.size ≤ 300) && decide (h.pay.size ≤ 5000)
theorem S7.few_iff (h : S7) : h.few = true ↔ h.opt.size ≤ 300 ∧ h.pay.size ≤ 5000 := by simp [S7.few]

/-- A segment's bytes. -/
def S7.pack (h : S7) (sum : Int) : List UInt8 :=
  be h.src.toNat 2 ++ be h.dst.toNat 2 ++ be h.seq.toNat 4 ++ be h.ack.toNat 4 ++ be ((5 + h.opt.size / 4) * 16) 1 ++ be h.flg.toNat 1 ++ be h.win.toNat 2 ++ be sum.toNat 2 ++ be h.urg.toNat 2 ++ h.opt.data.toList ++ h.pay.data.toList
def put7E (h : S7) (sum : Int) : Nat := if h.ok && inR sum 65535 then 0 else 1
def put7S (h : S7) (sum : Int) : ByteArray := if put7E h sum = 0 then ⟨(h.pack sum).toArray⟩ else ⟨#[]⟩

/-- How many bytes are ahead of the payload. -/
def off7 (b : ByteArray) : Nat := numOf b 12 1 / 16 * 4
def get7E (b : ByteArray) : Nat :=
  if b.size < 20 then 2 else if off7 b < 20 ∨ b.size < off7 b then 4 else if numOf b 12 1 % 16 ≠ 0 then 9 else if rightL (b.extract 20 (off7 b)).data.toList then 0 else 4
/-- The segment that stands there. -/
def seg7 (b : ByteArray) : S7 := ⟨numOf b 0 2, numOf b 2 2, numOf b 4 4, numOf b 8 4, numOf b 13 1, numOf b 14 2, numOf b 18 2, b.extract 20 (off7 b), b.extract (off7 b) b.size⟩
def get7H (b : ByteArray) : S7 := if get7E b = 0 then seg7 b else S7.zero
def get7N (b : ByteArray) : Nat := if get7E b = 0 then numOf b 16 2 else 0

theorem get7E_short {b : ByteArray} (h : ¬ 20 ≤ b.size) : get7E b = 2 := by unfold get7E; rw [if_pos (by omega)]
theorem get7E_len {b : ByteArray} (h : 20 ≤ b.size) (h1 : off7 b < 20 ∨ b.size < off7 b) : get7E b = 4 := by unfold get7E; rw [if_neg (by omega), if_pos h1]
theorem get7E_form {b : ByteArray} (h : 20 ≤ b.size) (h1 : ¬ (off7 b < 20 ∨ b.size < off7 b)) (h2 : numOf b 12 1 % 16 ≠ 0) : get7E b = 9 := by
  unfold get7E; rw [if_neg (by omega), if_neg h1, if_pos h2]
theorem get7E_opts {b : ByteArray} (h : 20 ≤ b.size) (h1 : ¬ (off7 b < 20 ∨ b.size < off7 b)) (h2 : numOf b 12 1 % 16 = 0) (h3 : rightL (b.extract 20 (off7 b)).data.toList = false) : get7E b = 4 := by
  unfold get7E; rw [if_neg (by omega), if_neg h1, if_neg (by omega), if_neg (by rw [h3]; decide)]
theorem get7E_ok {b : ByteArray} (h : 20 ≤ b.size) (h1 : ¬ (off7 b < 20 ∨ b.size < off7 b)) (h2 : numOf b 12 1 % 16 = 0) (h3 : rightL (b.extract 20 (off7 b)).data.toList = true) : get7E b = 0 := by
  unfold get7E; rw [if_neg (by omega), if_neg h1, if_neg (by omega), if_pos h3]
/-- Just when bytes are a segment. -/
structure Good7 (b : ByteArray) : Prop where
  short : 20 ≤ b.size
  least : 20 ≤ off7 b
  fit : off7 b ≤ b.size
  form : numOf b 12 1 % 16 = 0
  opts : rightL (b.extract 20 (off7 b)).data.toList = true
theorem get7E_zero {b : ByteArray} : get7E b = 0 ↔ Good7 b := by
  constructor
  · intro e
    by_cases h : 20 ≤ b.size
    · by_cases h1 : off7 b < 20 ∨ b.size < off7 b
      · rw [get7E_len h h1] at e; omega
      · by_cases h2 : numOf b 12 1 % 16 = 0
        · cases h3 : rightL (b.extract 20 (off7 b)).data.toList with
          | false => rw [get7E_opts h h1 h2 h3] at e; omega
          | true => exact ⟨h, by omega, by omega, h2, h3⟩
        · rw [get7E_form h h1 h2] at e; omega
    · rw [get7E_short h] at e; omega
  · rintro ⟨h, h1, h2, h3, h4⟩
    exact get7E_ok h (by omega) h3 h4
theorem get7_err {b : ByteArray} (h : get7E b ≠ 0) : get7H b = S7.zero ∧ get7N b = 0 := by
  unfold get7H get7N
  rw [if_neg h, if_neg h]
  exact ⟨rfl, rfl⟩
theorem get7_ok {b : ByteArray} (h : get7E b = 0) : get7H b = seg7 b ∧ get7N b = numOf b 16 2 := by
  unfold get7H get7N
  rw [if_pos h, if_pos h]
  exact ⟨rfl, rfl⟩

theorem put7_ok {h : S7} {sum : Int} (hok : h.Ok) (hs : 0 ≤ sum ∧ sum ≤ 65535) : put7E h sum = 0 ∧ put7S h sum = ⟨(h.pack sum).toArray⟩ := by
  have e : put7E h sum = 0 := by unfold put7E; rw [(S7.ok_iff h).2 hok, (inR_iff _ _).2 hs]; rfl
  exact ⟨e, by unfold put7S; rw [if_pos e]⟩
theorem put7_no {h : S7} {sum : Int} (hn : (h.ok && inR sum 65535) = false) : put7E h sum = 1 ∧ put7S h sum = ⟨#[]⟩ := by
  have e : put7E h sum = 1 := by unfold put7E; rw [hn]; rfl
  exact ⟨e, by unfold put7S; rw [if_neg (by omega)]⟩
theorem put7_told (h : S7) (sum : Int) : (put7E h sum = 0 ∧ h.Ok ∧ (0 ≤ sum ∧ sum ≤ 65535) ∧ put7S h sum = ⟨(h.pack sum).toArray⟩) ∨ (put7E h sum ≠ 0 ∧ put7S h sum = ⟨#[]⟩) := by
  cases hn : (h.ok && inR sum 65535) with
  | false => exact Or.inr ⟨by rw [(put7_no hn).1]; decide, (put7_no hn).2⟩
  | true =>
    have h2 := Bool.and_eq_true_iff.1 hn
    have hok := (S7.ok_iff h).1 h2.1
    have hs := (inR_iff _ _).1 h2.2
    exact Or.inl ⟨(put7_ok hok hs).1, hok, hs, (put7_ok hok hs).2⟩

/-- Of a segment that was put: what is got of it. -/
structure Sent7 (h : S7) (sum : Int) (P : ByteArray) : Prop where
  ok : h.Ok
  su : 0 ≤ sum ∧ sum ≤ 65535
  is : P.data.toList = h.pack sum
  size : P.size = 20 + h.opt.size + h.pay.size
  off : off7 P = 20 + h.opt.size
  form : numOf P 12 1 % 16 = 0
  opts : P.extract 20 (off7 P) = h.opt
  hd : seg7 P = h
  num : (numOf P 16 2 : Int) = sum
theorem put7_get (h : S7) (sum : Int) (hok : h.Ok) (hw : h.Wf) (hs : 0 ≤ sum ∧ sum ≤ 65535) : Sent7 h sum ⟨(h.pack sum).toArray⟩ := by
  obtain ⟨p, hp⟩ : ∃ p : ByteArray, p = ⟨(h.pack sum).toArray⟩ := ⟨_, rfl⟩
  rw [← hp]
  have hl : p.data.toList = h.pack sum := by rw [hp]
  obtain ⟨h1, h2, h3, h4, h5, h6, h7⟩ := hok
  obtain ⟨w1, w2⟩ := hw
  have hpk : p.data.toList = be h.src.toNat 2 ++ (be h.dst.toNat 2 ++ (be h.seq.toNat 4 ++ (be h.ack.toNat 4 ++ (be ((5 + h.opt.size / 4) * 16) 1 ++ (be h.flg.toNat 1 ++ (be h.win.toNat 2 ++ (be sum.toNat 2 ++ (be h.urg.toNat 2 ++ (h.opt.data.toList ++ h.pay.data.toList))))))))) := by
    rw [hl]; unfold S7.pack; simp only [List.append_assoc]
  have hsize : p.size = 20 + h.opt.size + h.pay.size := by
    have := congrArg List.length hpk
    simp only [List.length_append, be_length, Array.length_toList, ByteArray.size_data] at this
    omega
  have n0 : numOf p 0 2 = h.src.toNat := num_seg (a := []) hpk rfl rfl (by show _ < 65536; omega)
  have n2 : numOf p 2 2 = h.dst.toNat := num_seg (a := be h.src.toNat 2) hpk (by simp [be_length]) rfl (by show _ < 65536; omega)
  have n4 : numOf p 4 4 = h.seq.toNat := num_seg (a := be h.src.toNat 2 ++ be h.dst.toNat 2) (by rw [hpk]; simp only [List.append_assoc]; rfl) (by simp [be_length]) rfl (by show _ < 4294967296; omega)
  have n8 : numOf p 8 4 = h.ack.toNat := num_seg (a := be h.src.toNat 2 ++ be h.dst.toNat 2 ++ be h.seq.toNat 4) (by rw [hpk]; simp only [List.append_assoc]; rfl) (by simp [be_length]) rfl (by show _ < 4294967296; omega)
  have n12 : numOf p 12 1 = (5 + h.opt.size / 4) * 16 := num_seg (a := be h.src.toNat 2 ++ be h.dst.toNat 2 ++ be h.seq.toNat 4 ++ be h.ack.toNat 4) (by rw [hpk]; simp only [List.append_assoc]; rfl) (by simp [be_length]) rfl (by show _ < 256; omega)
  have n13 : numOf p 13 1 = h.flg.toNat := num_seg (a := be h.src.toNat 2 ++ be h.dst.toNat 2 ++ be h.seq.toNat 4 ++ be h.ack.toNat 4 ++ be ((5 + h.opt.size / 4) * 16) 1) (by rw [hpk]; simp only [List.append_assoc]; rfl) (by simp [be_length]) rfl (by show _ < 256; omega)
  have n14 : numOf p 14 2 = h.win.toNat := num_seg (a := be h.src.toNat 2 ++ be h.dst.toNat 2 ++ be h.seq.toNat 4 ++ be h.ack.toNat 4 ++ be ((5 + h.opt.size / 4) * 16) 1 ++ be h.flg.toNat 1) (by rw [hpk]; simp only [List.append_assoc]; rfl) (by simp [be_length]) rfl (by show _ < 65536; omega)
  have n16 : numOf p 16 2 = sum.toNat := num_seg (a := be h.src.toNat 2 ++ be h.dst.toNat 2 ++ be h.seq.toNat 4 ++ be h.ack.toNat 4 ++ be ((5 + h.opt.size / 4) * 16) 1 ++ be h.flg.toNat 1 ++ be h.win.toNat 2) (by rw [hpk]; simp only [List.append_assoc]; rfl) (by simp [be_length]) rfl (by show _ < 65536; omega)
  have n18 : numOf p 18 2 = h.urg.toNat := num_seg (a := be h.src.toNat 2 ++ be h.dst.toNat 2 ++ be h.seq.toNat 4 ++ be h.ack.toNat 4 ++ be ((5 + h.opt.size / 4) * 16) 1 ++ be h.flg.toNat 1 ++ be h.win.toNat 2 ++ be sum.toNat 2) (by rw [hpk]; simp only [List.append_assoc]; rfl) (by simp [be_length]) rfl (by show _ < 65536; omega)
  have hoff : off7 p = 20 + h.opt.size := by unfold off7; rw [n12]; omega
  have t20 : p.extract 20 (off7 p) = h.opt := by
    rw [hoff]
    exact text_seg (a := be h.src.toNat 2 ++ be h.dst.toNat 2 ++ be h.seq.toNat 4 ++ be h.ack.toNat 4 ++ be ((5 + h.opt.size / 4) * 16) 1 ++ be h.flg.toNat 1 ++ be h.win.toNat 2 ++ be sum.toNat 2 ++ be h.urg.toNat 2) (c := h.pay.data.toList) (by rw [hpk]; simp only [List.append_assoc]) (by simp [be_length]) rfl
  have tp : p.extract (off7 p) p.size = h.pay := by
    rw [hoff]
    exact text_seg (a := be h.src.toNat 2 ++ be h.dst.toNat 2 ++ be h.seq.toNat 4 ++ be h.ack.toNat 4 ++ be ((5 + h.opt.size / 4) * 16) 1 ++ be h.flg.toNat 1 ++ be h.win.toNat 2 ++ be sum.toNat 2 ++ be h.urg.toNat 2 ++ h.opt.data.toList) (c := []) (by rw [hpk]; simp only [List.append_assoc, List.append_nil]) (by simp [be_length]; omega) (by omega)
  refine ⟨⟨h1, h2, h3, h4, h5, h6, h7⟩, hs, hl, hsize, hoff, by rw [n12]; omega, t20, ?_, by rw [n16]; omega⟩
  unfold seg7
  rw [n0, n2, n4, n8, n13, n14, n18, t20, tp]
  rw [show ((h.src.toNat : Nat) : Int) = h.src by omega, show ((h.dst.toNat : Nat) : Int) = h.dst by omega, show ((h.seq.toNat : Nat) : Int) = h.seq by omega, show ((h.ack.toNat : Nat) : Int) = h.ack by omega, show ((h.flg.toNat : Nat) : Int) = h.flg by omega, show ((h.win.toNat : Nat) : Int) = h.win by omega, show ((h.urg.toNat : Nat) : Int) = h.urg by omega]
/-- What is told of it: all, if its options are right. -/
theorem Sent7.got {h : S7} {sum : Int} {P : ByteArray} (s : Sent7 h sum P) : get7E P = if rightL h.opt.data.toList then 0 else 4 := by
  have h1 : ¬ (off7 P < 20 ∨ P.size < off7 P) := by have := s.off; have := s.size; omega
  cases hr : rightL h.opt.data.toList with
  | true => exact get7E_ok (by have := s.size; omega) h1 s.form (by rw [s.opts]; exact hr)
  | false => exact get7E_opts (by have := s.size; omega) h1 s.form (by rw [s.opts]; exact hr)

/-- What is got is put as it was. -/
theorem get7_put (p : ByteArray) (g : Good7 p) : (seg7 p).Ok ∧ (0 ≤ (numOf p 16 2 : Int) ∧ (numOf p 16 2 : Int) ≤ 65535) ∧ (⟨((seg7 p).pack (numOf p 16 2 : Int)).toArray⟩ : ByteArray) = p := by
  obtain ⟨hsh, hle, hfit, hform, hop⟩ := g
  have l0 : numOf p 0 2 < 65536 := numOf_lt p 0 2 (by omega)
  have l2 : numOf p 2 2 < 65536 := numOf_lt p 2 2 (by omega)
  have l12 : numOf p 12 1 < 256 := numOf_lt p 12 1 (by omega)
  have l13 : numOf p 13 1 < 256 := numOf_lt p 13 1 (by omega)
  have l14 : numOf p 14 2 < 65536 := numOf_lt p 14 2 (by omega)
  have l16 : numOf p 16 2 < 65536 := numOf_lt p 16 2 (by omega)
  have l18 : numOf p 18 2 < 65536 := numOf_lt p 18 2 (by omega)
  have hoff : off7 p = numOf p 12 1 / 16 * 4 := rfl
  have hosz : (p.extract 20 (off7 p)).size = off7 p - 20 := by rw [ByteArray.size_extract]; omega
  refine ⟨⟨?_, ?_, ?_, ?_, ?_, ?_, ?_⟩, by omega, ?_⟩
  · show 0 ≤ ((numOf p 0 2 : Nat) : Int) ∧ ((numOf p 0 2 : Nat) : Int) ≤ 65535; omega
  · show 0 ≤ ((numOf p 2 2 : Nat) : Int) ∧ ((numOf p 2 2 : Nat) : Int) ≤ 65535; omega
  · show 0 ≤ ((numOf p 14 2 : Nat) : Int) ∧ ((numOf p 14 2 : Nat) : Int) ≤ 65535; omega
  · show 0 ≤ ((numOf p 18 2 : Nat) : Int) ∧ ((numOf p 18 2 : Nat) : Int) ≤ 65535; omega
  · show 0 ≤ ((numOf p 13 1 : Nat) : Int) ∧ ((numOf p 13 1 : Nat) : Int) ≤ 255; omega
  · show (p.extract 20 (off7 p)).size ≤ 40; omega
  · show (p.extract 20 (off7 p)).size % 4 = 0; omega
  apply text_ext
  show (seg7 p).pack (numOf p 16 2 : Int) = p.data.toList
  have e12 : (5 + (p.extract 20 (off7 p)).size / 4) * 16 = numOf p 12 1 := by omega
  unfold S7.pack seg7
  simp only [Int.toNat_natCast]
  rw [e12, be_num p 0 2 (by omega), be_num p 2 2 (by omega), be_num p 4 4 (by omega), be_num p 8 4 (by omega), be_num p 12 1 (by omega), be_num p 13 1 (by omega), be_num p 14 2 (by omega), be_num p 16 2 (by omega), be_num p 18 2 (by omega), sl_ext, sl_ext]
  rw [sl_join p 0 (0 + 2) (2 + 2) (by omega) (by omega), sl_join p 0 (2 + 2) (4 + 4) (by omega) (by omega), sl_join p 0 (4 + 4) (8 + 4) (by omega) (by omega), sl_join p 0 (8 + 4) (12 + 1) (by omega) (by omega), sl_join p 0 (12 + 1) (13 + 1) (by omega) (by omega), sl_join p 0 (13 + 1) (14 + 2) (by omega) (by omega), sl_join p 0 (14 + 2) (16 + 2) (by omega) (by omega), sl_join p 0 (16 + 2) (18 + 2) (by omega) (by omega), sl_join p 0 (18 + 2) (off7 p) (by omega) (by omega), sl_join p 0 (off7 p) p.size (by omega) (by omega), sl_all, List.drop_zero]
theorem seg7_wf (p : ByteArray) (h : 20 ≤ p.size) : (seg7 p).Wf := by
  have l4 : numOf p 4 4 < 4294967296 := numOf_lt p 4 4 (by omega)
  have l8 : numOf p 8 4 < 4294967296 := numOf_lt p 8 4 (by omega)
  exact ⟨by show 0 ≤ ((numOf p 4 4 : Nat) : Int) ∧ ((numOf p 4 4 : Nat) : Int) < 4294967296; omega, by show 0 ≤ ((numOf p 8 4 : Nat) : Int) ∧ ((numOf p 8 4 : Nat) : Int) < 4294967296; omega⟩

end Go.Proofs.Ythfelnocdeknaaa
