/-
  UDP datagrams, plain: which datagram may be, its bytes, and what bytes say; no Go function is walked here.
-/
import Derived.Test.YtmghdgkdnacinaaDoorGround
import Derived.Test.YtmghdgkdnacinaaDoorReading
import Derived.LoopN
import Derived.RegionTactic
import Derived.BigRegion
namespace Go.Proofs.YtmghdgkdnacinaaDoor
open Go.RowKit
set_option linter.unusedVariables false

/-- A datagram. -/
structure D8 where
  src : Int
  dst : Int
  pay : ByteArray

/-- Its cells. -/
def D8.cells (h : D8) : Array Value := #[.int .i64 h.src, .int .i64 h.dst, .string h.pay]
def D8.zero : D8 := ⟨0, 0, ⟨#[]⟩⟩

/-- The datagram's cells. -/
structure Hc8 (u : World) (B : Nat) (h : D8) : Prop where
  c0 : u.cell? ⟨B, 0, none⟩ = some (.int .i64 h.src)
  c1 : u.cell? ⟨B, 1, none⟩ = some (.int .i64 h.dst)
  c2 : u.cell? ⟨B, 2, none⟩ = some (.string h.pay)
theorem Hc8.of {u : World} {B : Nat} {h : D8} {T : TypeId} (hb : Blk u B h.cells T) : Hc8 u B h :=
  ⟨hb.cell 0, hb.cell 1, hb.cell 2⟩

/-- Is a number one of two bytes? -/
def in8 (n : Int) : Bool := decide (0 ≤ n) && decide (n ≤ 65535)
theorem in8_iff (n : Int) : in8 n = true ↔ 0 ≤ n ∧ n ≤ 65535 := by simp [in8]
/-- May a datagram be? -/
structure D8.Ok (h : D8) : Prop where
  src : 0 ≤ h.src ∧ h.src ≤ 65535
  dst : 0 ≤ h.dst ∧ h.dst ≤ 65535
  pay : h.pay.size ≤ 65527
/-- Check's error. -/
def D8.err (h : D8) : Nat := if in8 h.src && in8 h.dst then (if h.pay.size ≤ 65527 then 0 else 4) else 1
theorem D8.err_port {h : D8} (e : (in8 h.src && in8 h.dst) = false) : h.err = 1 := by simp [D8.err, e]
theorem D8.err_long {h : D8} (e : (in8 h.src && in8 h.dst) = true) (l : ¬ h.pay.size ≤ 65527) : h.err = 4 := by simp [D8.err, e, l]
theorem D8.err_ok {h : D8} (e : (in8 h.src && in8 h.dst) = true) (l : h.pay.size ≤ 65527) : h.err = 0 := by simp [D8.err, e, l]
theorem D8.err_zero (h : D8) : h.err = 0 ↔ h.Ok := by
  constructor
  · intro e
    cases hp : (in8 h.src && in8 h.dst) with
    | false => rw [D8.err_port hp] at e; omega
    | true =>
      have h2 := Bool.and_eq_true_iff.1 hp
      by_cases l : h.pay.size ≤ 65527
      · exact ⟨(in8_iff _).1 h2.1, (in8_iff _).1 h2.2, l⟩
      · rw [D8.err_long hp l] at e; omega
  · rintro ⟨a, b, c⟩
    exact D8.err_ok (by rw [(in8_iff _).2 a, (in8_iff _).2 b]; rfl) c
theorem D8.err_cases (h : D8) : h.err = 0 ∨ h.err = 1 ∨ h.err = 4 := by
  unfold D8.err; split
  · split
    · exact Or.inl rfl
    · exact Or.inr (Or.inr rfl)
  · exact Or.inr (Or.inl rfl)

/-- A datagram's bytes. -/
def D8.pack (h : D8) (sum : Int) : List UInt8 :=
  be h.src.toNat 2 ++ be h.dst.toNat 2 ++ be (8 + h.pay.size) 2 ++ be sum.toNat 2 ++ h.pay.data.toList
def put8E (h : D8) (sum : Int) : Nat := if h.err = 0 then (if in8 sum then 0 else 1) else h.err
def put8S (h : D8) (sum : Int) : ByteArray := if put8E h sum = 0 then ⟨(h.pack sum).toArray⟩ else ⟨#[]⟩
theorem put8_ok {h : D8} {sum : Int} (hok : h.Ok) (hs : 0 ≤ sum ∧ sum ≤ 65535) : put8E h sum = 0 ∧ put8S h sum = ⟨(h.pack sum).toArray⟩ := by
  have e : put8E h sum = 0 := by unfold put8E; rw [if_pos ((D8.err_zero h).2 hok), (in8_iff _).2 hs]; rfl
  exact ⟨e, by unfold put8S; rw [if_pos e]⟩
theorem put8_err {h : D8} {sum : Int} (hn : h.err ≠ 0) : put8E h sum = h.err ∧ put8S h sum = ⟨#[]⟩ := by
  have e : put8E h sum = h.err := by unfold put8E; rw [if_neg hn]
  exact ⟨e, by unfold put8S; rw [if_neg (by omega)]⟩
theorem put8_sum {h : D8} {sum : Int} (h0 : h.err = 0) (hn : in8 sum = false) : put8E h sum = 1 ∧ put8S h sum = ⟨#[]⟩ := by
  have e : put8E h sum = 1 := by unfold put8E; rw [if_pos h0, hn]; rfl
  exact ⟨e, by unfold put8S; rw [if_neg (by omega)]⟩
theorem put8_told (h : D8) (sum : Int) : (put8E h sum = 0 ∧ h.Ok ∧ (0 ≤ sum ∧ sum ≤ 65535) ∧ put8S h sum = ⟨(h.pack sum).toArray⟩) ∨ (put8E h sum ≠ 0 ∧ put8S h sum = ⟨#[]⟩) := by
  by_cases h0 : h.err = 0
  · cases hn : in8 sum with
    | false => exact Or.inr ⟨by rw [(put8_sum h0 hn).1]; decide, (put8_sum h0 hn).2⟩
    | true =>
      have hok := (D8.err_zero h).1 h0
      have hs := (in8_iff _).1 hn
      exact Or.inl ⟨(put8_ok hok hs).1, hok, hs, (put8_ok hok hs).2⟩
  · exact Or.inr ⟨by rw [(put8_err h0).1]; exact h0, (put8_err h0).2⟩

def get8E (b : ByteArray) : Nat := if b.size < 8 then 2 else if numOf b 4 2 = b.size then 0 else 4
/-- The datagram that stands there. -/
def dat8 (b : ByteArray) : D8 := ⟨numOf b 0 2, numOf b 2 2, b.extract 8 b.size⟩
def get8H (b : ByteArray) : D8 := if get8E b = 0 then dat8 b else D8.zero
def get8N (b : ByteArray) : Nat := if get8E b = 0 then numOf b 6 2 else 0
theorem get8E_short {b : ByteArray} (h : ¬ 8 ≤ b.size) : get8E b = 2 := by unfold get8E; rw [if_pos (by omega)]
theorem get8E_len {b : ByteArray} (h : 8 ≤ b.size) (h1 : numOf b 4 2 ≠ b.size) : get8E b = 4 := by unfold get8E; rw [if_neg (by omega), if_neg h1]
theorem get8E_ok {b : ByteArray} (h : 8 ≤ b.size) (h1 : numOf b 4 2 = b.size) : get8E b = 0 := by unfold get8E; rw [if_neg (by omega), if_pos h1]
theorem get8E_zero {b : ByteArray} : get8E b = 0 ↔ 8 ≤ b.size ∧ numOf b 4 2 = b.size := by
  constructor
  · intro e
    by_cases h : 8 ≤ b.size
    · by_cases h1 : numOf b 4 2 = b.size
      · exact ⟨h, h1⟩
      · rw [get8E_len h h1] at e; omega
    · rw [get8E_short h] at e; omega
  · rintro ⟨h, h1⟩; exact get8E_ok h h1
theorem get8_err {b : ByteArray} (h : get8E b ≠ 0) : get8H b = D8.zero ∧ get8N b = 0 := by
  unfold get8H get8N
  rw [if_neg h, if_neg h]
  exact ⟨rfl, rfl⟩
theorem get8_ok {b : ByteArray} (h : get8E b = 0) : get8H b = dat8 b ∧ get8N b = numOf b 6 2 := by
  unfold get8H get8N
  rw [if_pos h, if_pos h]
  exact ⟨rfl, rfl⟩

/-- Of a datagram that was put: what is got of it. -/
structure Sent8 (h : D8) (sum : Int) (P : ByteArray) : Prop where
  ok : h.Ok
  su : 0 ≤ sum ∧ sum ≤ 65535
  is : P.data.toList = h.pack sum
  size : P.size = 8 + h.pay.size
  len : numOf P 4 2 = 8 + h.pay.size
  dat : dat8 P = h
  num : (numOf P 6 2 : Int) = sum
theorem put8_get (h : D8) (sum : Int) (hok : h.Ok) (hs : 0 ≤ sum ∧ sum ≤ 65535) : Sent8 h sum ⟨(h.pack sum).toArray⟩ := by
  obtain ⟨p, hp⟩ : ∃ p : ByteArray, p = ⟨(h.pack sum).toArray⟩ := ⟨_, rfl⟩
  rw [← hp]
  have hl : p.data.toList = h.pack sum := by rw [hp]
  obtain ⟨h1, h2, h3⟩ := hok
  have hpk : p.data.toList = be h.src.toNat 2 ++ (be h.dst.toNat 2 ++ (be (8 + h.pay.size) 2 ++ (be sum.toNat 2 ++ h.pay.data.toList))) := by
    rw [hl]; unfold D8.pack; simp only [List.append_assoc]
  have hsize : p.size = 8 + h.pay.size := by
    have := congrArg List.length hpk
    simp only [List.length_append, be_length, Array.length_toList, ByteArray.size_data] at this
    omega
  have n0 : numOf p 0 2 = h.src.toNat := num_seg (a := []) hpk rfl rfl (by show _ < 65536; omega)
  have n2 : numOf p 2 2 = h.dst.toNat := num_seg (a := be h.src.toNat 2) hpk (by simp [be_length]) rfl (by show _ < 65536; omega)
  have n4 : numOf p 4 2 = 8 + h.pay.size := num_seg (a := be h.src.toNat 2 ++ be h.dst.toNat 2) (by rw [hpk]; simp only [List.append_assoc]; rfl) (by simp [be_length]) rfl (by show _ < 65536; omega)
  have n6 : numOf p 6 2 = sum.toNat := num_seg (a := be h.src.toNat 2 ++ be h.dst.toNat 2 ++ be (8 + h.pay.size) 2) (by rw [hpk]; simp only [List.append_assoc]; rfl) (by simp [be_length]) rfl (by show _ < 65536; omega)
  have tp : p.extract 8 p.size = h.pay :=
    text_seg (a := be h.src.toNat 2 ++ be h.dst.toNat 2 ++ be (8 + h.pay.size) 2 ++ be sum.toNat 2) (c := []) (by rw [hpk]; simp only [List.append_assoc, List.append_nil]) (by simp [be_length]) (by omega)
  refine ⟨⟨h1, h2, h3⟩, hs, hl, hsize, n4, ?_, by rw [n6]; omega⟩
  unfold dat8
  rw [n0, n2, tp]
  rw [show ((h.src.toNat : Nat) : Int) = h.src by omega, show ((h.dst.toNat : Nat) : Int) = h.dst by omega]
theorem Sent8.got {h : D8} {sum : Int} {P : ByteArray} (s : Sent8 h sum P) : get8E P = 0 := by
  have := s.size
  exact get8E_ok (by omega) (by rw [s.len, s.size])

/-- What is got is put as it was. -/
theorem get8_put (p : ByteArray) (g : get8E p = 0) : (dat8 p).Ok ∧ (0 ≤ (numOf p 6 2 : Int) ∧ (numOf p 6 2 : Int) ≤ 65535) ∧ (⟨((dat8 p).pack (numOf p 6 2 : Int)).toArray⟩ : ByteArray) = p := by
  obtain ⟨hsh, hlen⟩ := get8E_zero.1 g
  have l0 : numOf p 0 2 < 65536 := numOf_lt p 0 2 (by omega)
  have l2 : numOf p 2 2 < 65536 := numOf_lt p 2 2 (by omega)
  have l4 : numOf p 4 2 < 65536 := numOf_lt p 4 2 (by omega)
  have l6 : numOf p 6 2 < 65536 := numOf_lt p 6 2 (by omega)
  have hosz : (p.extract 8 p.size).size = p.size - 8 := by rw [ByteArray.size_extract]; omega
  refine ⟨⟨?_, ?_, ?_⟩, by omega, ?_⟩
  · show 0 ≤ ((numOf p 0 2 : Nat) : Int) ∧ ((numOf p 0 2 : Nat) : Int) ≤ 65535; omega
  · show 0 ≤ ((numOf p 2 2 : Nat) : Int) ∧ ((numOf p 2 2 : Nat) : Int) ≤ 65535; omega
  · show (p.extract 8 p.size).size ≤ 65527; omega
  apply text_ext
  show (dat8 p).pack (numOf p 6 2 : Int) = p.data.toList
  have e8 : 8 + (p.extract 8 p.size).size = numOf p 4 2 := by omega
  unfold D8.pack dat8
  simp only [Int.toNat_natCast]
  rw [e8, be_num p 0 2 (by omega), be_num p 2 2 (by omega), be_num p 4 2 (by omega), be_num p 6 2 (by omega), sl_ext]
  rw [sl_join p 0 (0 + 2) (2 + 2) (by omega) (by omega), sl_join p 0 (2 + 2) (4 + 2) (by omega) (by omega), sl_join p 0 (4 + 2) (6 + 2) (by omega) (by omega), sl_join p 0 (6 + 2) p.size (by omega) (by omega), sl_all, List.drop_zero]

end Go.Proofs.YtmghdgkdnacinaaDoor

/-
  Check: may a datagram be?
-/
namespace Go.Proofs.YtmghdgkdnacinaaDoor
open Go.RowKit
set_option linter.unusedVariables false

/-- A datagram in a block of the call's own. -/
structure Held8 (w u : World) (h : D8) : Prop where
  b : Blk u w.heap.size h.cells 103
  bel : Below w.heap.size w u
theorem Held8.new (w : World) (h : D8) : Held8 w (w.alloc (.cells h.cells 103)) h := ⟨Blk.new w _ _, (Below.refl _ _).alloc (Nat.le_refl _) _⟩
theorem Held8.below {w u u' : World} {h : D8} (s : Held8 w u h) (hb : Below u.heap.size u u') : Held8 w u' h :=
  ⟨(hb.block _ s.b.lt).trans s.b, s.bel.trans (hb.mono s.bel.size)⟩
theorem Held8.alloc {w u : World} {h : D8} (s : Held8 w u h) (o : Obj) : Held8 w (u.alloc o) h := ⟨s.b.alloc o, s.bel.alloc s.bel.size o⟩
theorem Held8.lt {w u : World} {h : D8} (s : Held8 w u h) : w.heap.size < u.heap.size := s.b.lt

set_option maxHeartbeats 400000 in
theorem isWord8_any (n : Int) (w : World) : Calls Tryd.prog 79 #[.int .i64 n] w fun e w' => e = .returned (.bool (in8 n)) ∧ w' = w := by
  unfold in8
  by_cases h0 : 0 ≤ n
  · have t0 : decide ((0 : Int) ≤ n) = true := by simp; omega
    go_enter Tryd.func79, Tryd.ntmps79
    go_wp2_with fail
    go_ret
    exact ⟨by rw [t0]; rfl, rfl⟩
  · have t0 : decide ((0 : Int) ≤ n) = false := by simp; omega
    go_enter Tryd.func79, Tryd.ntmps79
    go_wp2_with fail
    go_ret
    exact ⟨rfl, rfl⟩

def Check8End (h : D8) (w : World) (e : Ending) (w' : World) : Prop := e = .returned (.int .i64 (h.err : Nat)) ∧ Below w.heap.size w w'

set_option maxRecDepth 100000 in
set_option maxHeartbeats 1000000 in
theorem check8_any (h : D8) (w : World) : Calls Tryd.prog 78 #[.agg h.cells] w (Check8End h w) := by
  have S1 := Lib.hid (Held8.new w h)
  have ⟨c0, c1, c2⟩ := Hc8.of S1.out.b
  have H1 := Lib.hid (fun e => D8.err_port (h := h) e)
  have H4 := Lib.hid (fun e => D8.err_long (h := h) e)
  have H0 := Lib.hid (fun e => D8.err_ok (h := h) e)
  unfold D8.cells at S1 c0 c1 c2 ⊢
  unfold Check8End
  go_enter Tryd.func78, Tryd.ntmps78
  go_wp2_with fail
  refine (isWord8_any _ _).mono ?_
  rintro e w' ⟨rfl, rfl⟩
  cases i0 : in8 h.src with
  | false =>
    go_wp2_with fail
    go_ret
    exact ⟨by rw [H1.out (by rw [i0]; rfl)]; rfl, S1.out.bel⟩
  | true =>
  go_wp2_with fail
  refine (isWord8_any _ _).mono ?_
  rintro e w' ⟨rfl, rfl⟩
  cases i1 : in8 h.dst with
  | false =>
    go_wp2_with fail
    go_ret
    exact ⟨by rw [H1.out (by rw [i0, i1]; rfl)]; rfl, S1.out.bel⟩
  | true =>
  by_cases hl : h.pay.size ≤ 65527
  case neg =>
    have HF := Lib.hid (H4.out (by rw [i0, i1]; rfl) hl)
    have t1 : decide ((65527 : Int) < (h.pay.size : Int)) = true := by simp; omega
    clear hl
    go_wp2_with fail
    go_ret
    exact ⟨by rw [HF.out]; rfl, S1.out.bel⟩
  have HF := Lib.hid (H0.out (by rw [i0, i1]; rfl) hl)
  have t1 : decide ((65527 : Int) < (h.pay.size : Int)) = false := by simp; omega
  clear hl
  go_wp2_with fail
  go_ret
  exact ⟨by rw [HF.out]; rfl, S1.out.bel⟩

/-- A head's numbers, told by their places. -/
theorem idx8_0 (a b c d : Value) (u : World) : (Instr.index 136 (.agg #[a, b, c, d]) (.int .i64 0)).run Tryd.prog u = .ok a u := by kernel_rfl
theorem idx8_1 (a b c d : Value) (u : World) : (Instr.index 136 (.agg #[a, b, c, d]) (.int .i64 1)).run Tryd.prog u = .ok b u := by kernel_rfl
theorem idx8_2 (a b c d : Value) (u : World) : (Instr.index 136 (.agg #[a, b, c, d]) (.int .i64 2)).run Tryd.prog u = .ok c u := by kernel_rfl
theorem idx8_3 (a b c d : Value) (u : World) : (Instr.index 136 (.agg #[a, b, c, d]) (.int .i64 3)).run Tryd.prog u = .ok d u := by kernel_rfl

end Go.Proofs.YtmghdgkdnacinaaDoor

/-
  readHead: four numbers of two bytes each, read by a reader that is stopped.
-/
namespace Go.Proofs.YtmghdgkdnacinaaDoor
open Go.RowKit
set_option linter.unusedVariables false

/-- Four numbers, as cells. -/
def four (a b c d : Int) : Array Value := #[.int .i64 a, .int .i64 b, .int .i64 c, .int .i64 d]
/-- A head's four numbers. -/
def head8 (p : ByteArray) : Array Value := four (numOf p 0 2) (numOf p 2 2) (numOf p 4 2) (numOf p 6 2)

/-- While it reads: the reader, the answer's block, the head's, and what was there. -/
structure Rw8 (u v : World) (R : Nat) (p : ByteArray) (i : Nat) (s : Array Value) : Prop where
  rd : Rd v R p i
  kb : Kb (· = R) u v
  zb : Blk v u.heap.size (four 0 0 0 0) 136
  sb : Blk v (u.heap.size + 1) s 136
  lt : R < u.heap.size
theorem Rw8.step {u v v' : World} {R : Nat} {p : ByteArray} {i j : Nat} {s : Array Value} (r : Rw8 u v R p i s) (hr : Rd v' R p j) (hk : Kb (· = R) v v') : Rw8 u v' R p j s :=
  ⟨hr, r.kb.trans hk, r.zb.kb hk (by have := r.lt; omega), r.sb.kb hk (by have := r.lt; omega), r.lt⟩
theorem Rw8.new {u : World} {R : Nat} {p : ByteArray} {i : Nat} (hr : Rd u R p i) : Rw8 u ((u.alloc (.cells (four 0 0 0 0) 136)).alloc (.cells (four 0 0 0 0) 136)) R p i (four 0 0 0 0) := by
  have e2 := Blk.new (u.alloc (.cells (four 0 0 0 0) 136)) (four 0 0 0 0) 136
  rw [World.size_alloc] at e2
  exact ⟨(hr.alloc _).alloc _, ((Kb.refl _ _).alloc _).alloc _, (Blk.new u _ _).alloc _, e2, hr.lt⟩
theorem Rw8.put {u v : World} {R : Nat} {p : ByteArray} {i : Nat} {s : Array Value} (r : Rw8 u v R p i s) (s' : Array Value) (k : Nat) (x : Value) (hx : s.setIfInBounds k x = s') : Rw8 u (v.setCell ⟨u.heap.size + 1, k, none⟩ x) R p i s' := by
  subst hx
  exact ⟨r.rd.set_other (by have := r.lt; simp; omega) _, r.kb.setCell (fun h => absurd h (by simp)) _, r.zb.set_other (by simp) _, r.sb.set k x, r.lt⟩
theorem rw8_u16 {u v : World} {R : Nat} {p : ByteArray} {i : Nat} {s : Array Value} (r : Rw8 u v R p i s) (hi : i + 2 ≤ p.size) (hs : p.size ≤ 1000000) :
    Calls Tryd.prog 67 #[.pointer (some ⟨R, 0, none⟩)] v fun e v' => e = .returned (.int .i64 (numOf p i 2)) ∧ Rw8 u v' R p (i + 2) s :=
  (u16_yes R p i v r.rd hi (by unfold maxLen; omega)).mono fun e v' h => ⟨h.1, r.step h.2.1 h.2.2⟩

/-- How it ends. -/
def Head8End (u : World) (R : Nat) (p : ByteArray) (e : Ending) (u' : World) : Prop :=
  Kb (· = R) u u' ∧ ((8 ≤ p.size ∧ Rd u' R p 8 ∧ e = .returned (.agg (head8 p))) ∨ (p.size < 8 ∧ e = .panicked (stopped 2)))
theorem Head8End.stop {u u' : World} {R : Nat} {p : ByteArray} (hk : Kb (· = R) u u') (h0 : p.size < 8) : Head8End u R p (.panicked (stopped 2)) u' :=
  ⟨hk, Or.inr ⟨h0, rfl⟩⟩

set_option maxRecDepth 100000 in
set_option maxHeartbeats 4000000 in
theorem readHead_any (R : Nat) (p : ByteArray) (u : World) (hr : Rd u R p 0) (hs : p.size ≤ 1000000) :
    Calls Tryd.prog 83 #[.pointer (some ⟨R, 0, none⟩)] u (Head8End u R p) := by
  have R0 := Lib.hid (Rw8.new hr)
  have HL := Lib.hid hs
  clear hr hs
  go_enter Tryd.func83, Tryd.ntmps83
  go_wp2_with fail
  simp only [show #[Value.int IntKind.i64 0, Value.int IntKind.i64 0, Value.int IntKind.i64 0, Value.int IntKind.i64 0] = four 0 0 0 0 from rfl]
  generalize (u.alloc (.cells (four 0 0 0 0) 136)).alloc (.cells (four 0 0 0 0) 136) = v0 at *
  refine wp_loop_rounds 5 ?_
  rw [rounds_succ]
  go_wp2_with fail
  by_cases hp0 : 0 + 2 ≤ p.size
  case neg =>
    refine (u16_no R p 0 v0 R0.out.rd (by omega) (by omega) (by have := HL.out; unfold maxLen; omega)).mono ?_
    rintro e w' ⟨rfl, m, rfl⟩
    exact ⟨rfl, Head8End.stop (R0.out.kb.drewN m) (by omega)⟩
  refine (rw8_u16 R0.out hp0 HL.out).mono ?_
  rintro e w1 ⟨rfl, r1⟩
  have Q0 := Lib.hid r1
  clear r1 R0
  have HZ0 : Hid (four 0 0 0 0 = four 0 0 0 0) := rfl
  have f0 := Q0.out.sb.frozen 0
  have s0 := Q0.out.sb.cell 0
  generalize hn0 : (numOf p 0 2 : Int) = n0 at *
  have HN0 := Lib.hid hn0
  clear hn0 HZ0
  simp only [four] at s0
  simp at s0
  go_wp2_with fail
  clear f0 s0
  have R1 := Lib.hid (Q0.out.put (four n0 0 0 0) 0 (.int .i64 n0) rfl)
  clear Q0
  generalize w1.setCell ⟨u.heap.size + 1, 0, none⟩ (.int .i64 n0) = v1 at *
  rw [rounds_succ]
  go_wp2_with fail
  by_cases hp1 : 2 + 2 ≤ p.size
  case neg =>
    refine (u16_no R p 2 v1 R1.out.rd (by omega) (by omega) (by have := HL.out; unfold maxLen; omega)).mono ?_
    rintro e w' ⟨rfl, m, rfl⟩
    exact ⟨rfl, Head8End.stop (R1.out.kb.drewN m) (by omega)⟩
  refine (rw8_u16 R1.out hp1 HL.out).mono ?_
  rintro e w2 ⟨rfl, r2⟩
  have Q1 := Lib.hid r2
  clear r2 R1
  have HZ1 : Hid (four n0 0 0 0 = four n0 0 0 0) := rfl
  have f1 := Q1.out.sb.frozen 1
  have s1 := Q1.out.sb.cell 1
  generalize hn1 : (numOf p 2 2 : Int) = n1 at *
  have HN1 := Lib.hid hn1
  clear hn1 HZ1
  simp only [four] at s1
  simp at s1
  go_wp2_with fail
  clear f1 s1
  have R2 := Lib.hid (Q1.out.put (four n0 n1 0 0) 1 (.int .i64 n1) rfl)
  clear Q1
  generalize w2.setCell ⟨u.heap.size + 1, 1, none⟩ (.int .i64 n1) = v2 at *
  rw [rounds_succ]
  go_wp2_with fail
  by_cases hp2 : 4 + 2 ≤ p.size
  case neg =>
    refine (u16_no R p 4 v2 R2.out.rd (by omega) (by omega) (by have := HL.out; unfold maxLen; omega)).mono ?_
    rintro e w' ⟨rfl, m, rfl⟩
    exact ⟨rfl, Head8End.stop (R2.out.kb.drewN m) (by omega)⟩
  refine (rw8_u16 R2.out hp2 HL.out).mono ?_
  rintro e w3 ⟨rfl, r3⟩
  have Q2 := Lib.hid r3
  clear r3 R2
  have HZ2 : Hid (four n0 n1 0 0 = four n0 n1 0 0) := rfl
  have f2 := Q2.out.sb.frozen 2
  have s2 := Q2.out.sb.cell 2
  generalize hn2 : (numOf p 4 2 : Int) = n2 at *
  have HN2 := Lib.hid hn2
  clear hn2 HZ2
  simp only [four] at s2
  simp at s2
  go_wp2_with fail
  clear f2 s2
  have R3 := Lib.hid (Q2.out.put (four n0 n1 n2 0) 2 (.int .i64 n2) rfl)
  clear Q2
  generalize w3.setCell ⟨u.heap.size + 1, 2, none⟩ (.int .i64 n2) = v3 at *
  rw [rounds_succ]
  go_wp2_with fail
  by_cases hp3 : 6 + 2 ≤ p.size
  case neg =>
    refine (u16_no R p 6 v3 R3.out.rd (by omega) (by omega) (by have := HL.out; unfold maxLen; omega)).mono ?_
    rintro e w' ⟨rfl, m, rfl⟩
    exact ⟨rfl, Head8End.stop (R3.out.kb.drewN m) (by omega)⟩
  refine (rw8_u16 R3.out hp3 HL.out).mono ?_
  rintro e w4 ⟨rfl, r4⟩
  have Q3 := Lib.hid r4
  clear r4 R3
  have HZ3 : Hid (four n0 n1 n2 0 = four n0 n1 n2 0) := rfl
  have f3 := Q3.out.sb.frozen 3
  have s3 := Q3.out.sb.cell 3
  generalize hn3 : (numOf p 6 2 : Int) = n3 at *
  have HN3 := Lib.hid hn3
  clear hn3 HZ3
  simp only [four] at s3
  simp at s3
  go_wp2_with fail
  clear f3 s3
  have R4 := Lib.hid (Q3.out.put (four n0 n1 n2 n3) 3 (.int .i64 n3) rfl)
  clear Q3
  generalize w4.setCell ⟨u.heap.size + 1, 3, none⟩ (.int .i64 n3) = v4 at *
  rw [rounds_succ]
  have hi : (Tryd.prog.info? 136).map (·.size) = some (four n0 n1 n2 n3).size := by kernel_rfl
  have h1 : (four n0 n1 n2 n3).all (·.oneCell') = true := by simp [four]; exact ⟨rfl, rfl, rfl, rfl⟩
  go_wp2_with (first | (refine wpList_load_row rfl 136 (.tmp 3) rfl (u.heap.size + 1) rfl 136 (four n0 n1 n2 n3) (0, 0) _ R4.out.sb Tryd.underlying136 rfl hi ?_) | (refine wpList_store_row rfl 136 (.tmp 2) (.tmp 13) rfl u.heap.size (four n0 n1 n2 n3) rfl rfl 136 (four 0 0 0 0) R4.out.zb hi rfl h1 ?_))
  have B2 := Blk.row R4.out.zb (four n0 n1 n2 n3)
  have D2 : Rd (v4.setRow u.heap.size (four n0 n1 n2 n3)) R p 8 := Blk.row_other R4.out.rd (by have := R4.out.lt; omega) _
  have K2 := Kb.row R4.out.kb (g := u.heap.size) (fun h => absurd h (by omega)) (four n0 n1 n2 n3)
  refine bodyPost_ret (v := .agg (four n0 n1 n2 n3)) (results_cell_row rfl _ _ u.heap.size 136 (four n0 n1 n2 n3) (0, 0) _ rfl B2 Tryd.underlying136 rfl hi) rfl ?_
  refine ⟨K2, Or.inl ⟨by omega, D2, ?_⟩⟩
  rw [head8, HN0.out, HN1.out, HN2.out, HN3.out]
end Go.Proofs.YtmghdgkdnacinaaDoor

/-
  Get: what bytes say as a datagram.
-/
namespace Go.Proofs.YtmghdgkdnacinaaDoor
open Go.RowKit
set_option linter.unusedVariables false

/-- What the closure leaves. -/
def Got8At (p : ByteArray) (H Y : Nat) (k : Int) (u : World) : Prop := k = (get8E p : Nat) ∧ Blk u H (get8H p).cells 103 ∧ Blk u Y #[.int .i64 (get8N p : Nat)] 3

/-- While the closure goes on: the reader, the answer's block, the sum's, and the head's. -/
structure Gw8 (u v : World) (R H Y N i : Nat) (p : ByteArray) (h : D8) (s : Array Value) : Prop where
  rd : Rd v R p i
  hb : Blk v H h.cells 103
  yb : Blk v Y #[.int .i64 0] 3
  nb : Blk v N s 136
  kb : Kb (fun k => (k = H ∨ k = Y) ∨ k = R) u v
  rh : R ≠ H
  ry : R ≠ Y
  hy : H ≠ Y
  nh : N ≠ H
  ny : N ≠ Y
  nr : N ≠ R
theorem Gw8.step {u v v' : World} {R H Y N i j : Nat} {p : ByteArray} {h : D8} {s : Array Value} (g : Gw8 u v R H Y N i p h s) (hr : Rd v' R p j) (hk : Kb (· = R) v v') : Gw8 u v' R H Y N j p h s :=
  ⟨hr, g.hb.kb hk (fun e => g.rh e.symm), g.yb.kb hk (fun e => g.ry e.symm), g.nb.kb hk g.nr, g.kb.trans (hk.mono (fun k _ e => Or.inr e)), g.rh, g.ry, g.hy, g.nh, g.ny, g.nr⟩
theorem Gw8.drew {u v : World} {R H Y N i : Nat} {p : ByteArray} {h : D8} {s : Array Value} (g : Gw8 u v R H Y N i p h s) : Gw8 u v.drew R H Y N i p h s :=
  ⟨g.rd, g.hb, g.yb, g.nb, g.kb.drew, g.rh, g.ry, g.hy, g.nh, g.ny, g.nr⟩
theorem Gw8.put {u v : World} {R H Y N i : Nat} {p : ByteArray} {h : D8} {s : Array Value} (g : Gw8 u v R H Y N i p h s) (h' : D8) (k : Nat) (x : Value) (hx : h.cells.setIfInBounds k x = h'.cells) : Gw8 u (v.setCell ⟨H, k, none⟩ x) R H Y N i p h' s := by
  refine ⟨g.rd.set_other g.rh _, ?_, g.yb.set_other g.hy.symm _, g.nb.set_other g.nh _, g.kb.setCell (p := ⟨H, k, none⟩) (fun _ => Or.inl (Or.inl rfl)) _, g.rh, g.ry, g.hy, g.nh, g.ny, g.nr⟩
  rw [← hx]; exact g.hb.set k x
theorem Gw8.put3 {u v : World} {R H Y N i : Nat} {p : ByteArray} {h : D8} {s : Array Value} (g : Gw8 u v R H Y N i p h s) (h' : D8) : Gw8 u (((v.setCell ⟨H, 0, none⟩ (.int .i64 h'.src)).setCell ⟨H, 1, none⟩ (.int .i64 h'.dst)).setCell ⟨H, 2, none⟩ (.string h'.pay)) R H Y N i p h' s :=
  ((g.put ⟨h'.src, h.dst, h.pay⟩ 0 _ rfl).put ⟨h'.src, h'.dst, h.pay⟩ 1 _ rfl).put h' 2 _ rfl
theorem gw8_rest {u v : World} {R H Y N i : Nat} {p : ByteArray} {h : D8} {s : Array Value} (g : Gw8 u v R H Y N i p h s) (hi : i ≤ p.size) (hs : p.size ≤ 1000000) :
    Calls Tryd.prog 46 #[.pointer (some ⟨R, 0, none⟩)] v fun e v' => e = .returned (.string (p.extract i p.size)) ∧ Gw8 u v' R H Y N p.size p h s := by
  refine (rest_any R p i v g.rd hi (by unfold maxLen; omega)).mono ?_
  rintro e v' ⟨rfl, n, rfl⟩
  exact ⟨rfl, g.step ((g.rd.drewN n).set 1 _) (Kb.setCell (S := (· = R)) ((Kb.refl (· = R) v).drewN n) (p := ⟨R, 1, none⟩) (fun _ => rfl) (.int .i64 (p.size : Int)))⟩

theorem keep8 {u v : World} {R H Y N i : Nat} {p : ByteArray} {h : D8} {a b c d : Value} (g : Gw8 u v R H Y N i p h #[a, b, c, d]) :
    v.cell? ⟨N, 0, none⟩ = some a ∧ v.cell? ⟨N, 1, none⟩ = some b ∧ v.cell? ⟨N, 2, none⟩ = some c ∧ v.cell? ⟨N, 3, none⟩ = some d :=
  ⟨g.nb.cell 0, g.nb.cell 1, g.nb.cell 2, g.nb.cell 3⟩

set_option maxRecDepth 100000 in
set_option maxHeartbeats 4000000 in
theorem get81_any (R X H Y : Nat) (p : ByteArray) (u : World) (hs : p.size ≤ 1000000) (hr : Rd u R p 0) (hX : Blk u X #[.string p] 9) (hH : Blk u H D8.zero.cells 103) (hY : Blk u Y #[.int .i64 0] 3) (h0 : R ≠ X) (h1 : R ≠ H) (h2 : R ≠ Y) (h3 : H ≠ Y) :
    Calls Tryd.prog 82 #[.pointer (some ⟨R, 0, none⟩), .pointer (some ⟨X, 0, none⟩), .pointer (some ⟨H, 0, none⟩), .pointer (some ⟨Y, 0, none⟩)] u (DoKb (fun k => k = H ∨ k = Y) R u (Got8At p H Y)) := by
  have HR := Lib.hid (readHead_any R p u hr hs)
  have HX := Lib.hid hX
  have N0 := Lib.hid h0
  have N1 := Lib.hid h1
  have N2 := Lib.hid h2
  have N3 := Lib.hid h3
  have HH := Lib.hid hH
  have HY := Lib.hid hY
  have HL := Lib.hid hs
  clear hr h0 h1 h2 h3 hH hY hX hs
  go_enter Tryd.func82, Tryd.ntmps82
  go_wp2_with fail
  refine HR.out.mono ?_
  rintro e u1 ⟨k1, ⟨g0, d1, rfl⟩ | ⟨g0, rfl⟩⟩
  case inr =>
    have GE := get8E_short (b := p) (by omega)
    have GG := get8_err (b := p) (by rw [GE]; decide)
    refine ⟨rfl, Or.inr ⟨2, rfl, by rw [GE]; rfl, ?_, ?_⟩, k1.mono (fun k _ e => Or.inr e)⟩
    · rw [GG.1]; exact HH.out.kb k1 (fun e => N1.out e.symm)
    · rw [GG.2]; exact HY.out.kb k1 (fun e => N2.out e.symm)
  have g1 : Gw8 u (u1.alloc (.cells (head8 p) 136)) R H Y u1.heap.size 8 p D8.zero (head8 p) := by
    have hb1 := HH.out.kb k1 (fun e => N1.out e.symm)
    have yb1 := HY.out.kb k1 (fun e => N2.out e.symm)
    have a1 := hb1.lt
    have a2 := yb1.lt
    have a3 : R < u1.heap.size := d1.lt
    exact ⟨d1.alloc _, hb1.alloc _, yb1.alloc _, Blk.new u1 _ _, (k1.mono (fun k _ e => Or.inr e)).alloc _, N1.out, N2.out, N3.out, by omega, by omega, by omega⟩
  have X1 := Lib.hid ((HX.out.kb k1 (fun e => N0.out e.symm)).alloc (.cells (head8 p) 136))
  clear HR HH HY HX k1 d1
  have HD : Hid (dat8 p = ⟨numOf p 0 2, numOf p 2 2, p.extract 8 p.size⟩) := rfl
  have cX := X1.out.cell 0
  have n0 := g1.nb.cell 0
  have n1 := g1.nb.cell 1
  have n2 := g1.nb.cell 2
  have n3 := g1.nb.cell 3
  have G1 := Lib.hid g1
  clear g1 X1
  unfold head8 at n0 n1 n2 n3 cX G1 ⊢
  unfold four at n0 n1 n2 n3 cX G1 ⊢
  simp only [List.getElem?_toArray, List.getElem?_cons_zero, List.getElem?_cons_succ] at n0 n1 n2 n3 cX
  by_cases hq : numOf p 4 2 = p.size
  case neg =>
    have GE := Lib.hid (get8E_len g0 hq)
    have HQ := Lib.hid hq
    clear hq HD
    go_wp2_with fail
    refine (need_no _ _ _ _ (by simp; have := HQ.out; omega)).mono ?_
    rintro e w' ⟨rfl, rfl⟩
    have GG := get8_err (b := p) (by rw [GE.out]; decide)
    refine ⟨rfl, Or.inr ⟨4, rfl, by rw [GE.out]; rfl, ?_, ?_⟩, G1.out.kb⟩
    · rw [GG.1]; exact G1.out.hb
    · rw [GG.2]; exact G1.out.yb
  have GE := Lib.hid (get8E_ok g0 hq)
  have GG := Lib.hid (get8_ok GE.out)
  have HQ := Lib.hid hq
  clear hq
  go_wp2_with fail
  refine (need_yes _ _ _ _ (by simp; have := HQ.out; omega)).mono ?_
  rintro e w' ⟨rfl, rfl⟩
  generalize u1.alloc (.cells #[.int .i64 (numOf p 0 2 : Int), .int .i64 (numOf p 2 2 : Int), .int .i64 (numOf p 4 2 : Int), .int .i64 (numOf p 6 2 : Int)] 136) = v1 at *
  generalize u1.heap.size = N at *
  generalize numOf p 0 2 = m0 at *
  generalize numOf p 2 2 = m1 at *
  generalize numOf p 4 2 = m2 at *
  generalize hm3 : numOf p 6 2 = m3 at *
  have HM3 := Lib.hid hm3
  clear hm3 cX
  obtain ⟨P, hP⟩ : ∃ P, p.extract 8 p.size = P := ⟨_, rfl⟩
  have HP := Lib.hid hP
  clear hP
  have G2 : Hid (Gw8 u v1.drew R H Y N 8 p D8.zero #[.int .i64 (m0 : Int), .int .i64 (m1 : Int), .int .i64 (m2 : Int), .int .i64 (m3 : Int)]) := Lib.hid G1.out.drew
  clear G1
  go_wp2_with fail
  refine wp_region_held_drew (S := (fun W => W.cell? ⟨N, 0, none⟩ = some (.int .i64 (m0 : Int)) ∧ W.cell? ⟨N, 1, none⟩ = some (.int .i64 (m1 : Int)) ∧ W.cell? ⟨N, 2, none⟩ = some (.int .i64 (m2 : Int)) ∧ W.cell? ⟨N, 3, none⟩ = some (.int .i64 (m3 : Int)))) (by kernel_rfl) ?_ (fun hHeld => ?_)
  · exact ⟨n0, n1, n2, n3⟩
  clear n0 n1 n2 n3
  generalize v1.drew = v2 at *
  refine takeH_yes (i := 0) (d := some 15) (v := ?v1) rfl rfl (by kernel_rfl) (by kernel_rfl) (by kernel_rfl) (fun _ _ _ h => h) (by rfl) ?y1 (by assumption) ?_
  case y1 => (intro w hSw; (try dsimp only at hSw); go_simp <;> with_reducible rfl)
  simp only [Act.put, List.setIfInBounds_toArray, List.set_cons_zero, List.set_cons_succ]
  refine takeH_yes (i := 1) (d := some 16) (v := ?v2) rfl rfl (by kernel_rfl) (by kernel_rfl) (by kernel_rfl) (fun _ _ _ h => h) (by rfl) ?y2 (by assumption) ?_
  case y2 => (intro w hSw; (try dsimp only at hSw); go_simp <;> with_reducible rfl)
  simp only [Act.put, List.setIfInBounds_toArray, List.set_cons_zero, List.set_cons_succ]
  refine takeH_yes (i := 2) (d := some 17) (v := ?v3) rfl rfl (by kernel_rfl) (by kernel_rfl) (by kernel_rfl) (fun _ _ _ h => h) (by rfl) ?y3 (by assumption) ?_
  case y3 => (intro w hSw; (try dsimp only at hSw); go_simp <;> with_reducible rfl)
  simp only [Act.put, List.setIfInBounds_toArray, List.set_cons_zero, List.set_cons_succ]
  refine takeH_yes (i := 3) (d := some 18) (v := ?v4) rfl rfl (by kernel_rfl) (by kernel_rfl) (by kernel_rfl) (fun _ _ _ h => h) (by rfl) ?y4 (by assumption) ?_
  case y4 => (intro w hSw; (try dsimp only at hSw); go_simp <;> with_reducible rfl)
  simp only [Act.put, List.setIfInBounds_toArray, List.set_cons_zero, List.set_cons_succ]
  refine takeH_yes (i := 4) (d := some 19) (v := ?v5) rfl rfl (by kernel_rfl) (by kernel_rfl) (by kernel_rfl) (fun _ _ _ h => h) (by rfl) ?y5 (by assumption) ?_
  case y5 => (intro w hSw; (try dsimp only at hSw); go_simp <;> with_reducible rfl)
  simp only [Act.put, List.setIfInBounds_toArray, List.set_cons_zero, List.set_cons_succ]
  refine takeH_yes (i := 7) (d := some 22) (v := ?v6) rfl rfl (by kernel_rfl) (by kernel_rfl) (by kernel_rfl) (fun _ _ _ h => h) (by rfl) ?y6 (by assumption) ?_
  case y6 => (intro w hSw; (try dsimp only at hSw); go_simp <;> with_reducible rfl)
  simp only [Act.put, List.setIfInBounds_toArray, List.set_cons_zero, List.set_cons_succ]
  refine takeH_yes (i := 8) (d := some 23) (v := ?v7) rfl rfl (by kernel_rfl) (by kernel_rfl) (by kernel_rfl) (fun _ _ _ h => h) (by rfl) ?y7 (by assumption) ?_
  case y7 => (intro w hSw; (try dsimp only at hSw); go_simp <;> with_reducible rfl)
  simp only [Act.put, List.setIfInBounds_toArray, List.set_cons_zero, List.set_cons_succ]
  refine wpAnyH_ready (rs := [5]) (by kernel_rfl) (by simp) ?_
  refine AllReadyH.cons rfl (fun K hK => ?_) AllReadyH.nil
  go_simp
  refine ((gw8_rest G2.out (by omega) HL.out)).mono ?_
  rintro e v3 ⟨rfl, g3⟩
  have G3 := Lib.hid g3
  clear g3 G2
  dsimp only
  refine hK.out _ _ ?_ (fun held5 => ?_)
  · exact keep8 G3.out
  clear hK K
  try simp only [Act.put, List.setIfInBounds_toArray, List.set_cons_zero, List.set_cons_succ]
  rw [HP.out]
  have ⟨z0, z1, z2⟩ := Hc8.of G3.out.hb
  simp only [D8.zero] at z0 z1 z2
  have f0 := G3.out.hb.frozen 0
  have f1 := G3.out.hb.frozen 1
  have f2 := G3.out.hb.frozen 2
  refine takeH_yes (i := 6) (d := some 21) (v := ?v8) rfl rfl (by kernel_rfl) (by kernel_rfl) (by kernel_rfl) (fun _ _ _ h => h) (by rfl) ?y8 (by assumption) ?_
  case y8 => (intro w hSw; (try dsimp only at hSw); go_simp <;> with_reducible rfl)
  simp only [Act.put, List.setIfInBounds_toArray, List.set_cons_zero, List.set_cons_succ]
  refine wpAnyH_ready (rs := [9]) (by kernel_rfl) (by simp) ?_
  refine AllReadyH.cons rfl (fun K hK => ?_) AllReadyH.nil
  go_simp
  refine hK.out _ _ ?_ (fun held9 => ?_)
  · exact keep8 (G3.out.put3 ⟨m0, m1, P⟩)
  clear hK K
  try simp only [Act.put, List.setIfInBounds_toArray, List.set_cons_zero, List.set_cons_succ]
  clear z0 z1 z2 f0 f1 f2
  have G4 := Lib.hid (G3.out.put3 ⟨m0, m1, P⟩)
  clear G3
  dsimp only at G4
  generalize ((v3.setCell ⟨H, 0, none⟩ (.int .i64 (m0 : Int))).setCell ⟨H, 1, none⟩ (.int .i64 (m1 : Int))).setCell ⟨H, 2, none⟩ (.string P) = v4 at *
  have cY := G4.out.yb.cell 0
  have fY := G4.out.yb.frozen 0
  simp at cY
  have G5 := Lib.hid (G4.out.yb.set 0 (.int .i64 (m3 : Int)))
  have G6 := Lib.hid (G4.out.hb.set_other (p := ⟨Y, 0, none⟩) G4.out.hy (.int .i64 (m3 : Int)))
  have G7 := Lib.hid (G4.out.kb.setCell (p := ⟨Y, 0, none⟩) (fun _ => Or.inl (Or.inr rfl)) (.int .i64 (m3 : Int)))
  have G8 := Lib.hid (G4.out.nb.set_other (p := ⟨Y, 0, none⟩) G4.out.ny (.int .i64 (m3 : Int)))
  refine wpAnyH_ready (rs := [10]) (by kernel_rfl) (by simp) ?_
  refine AllReadyH.cons rfl (fun K hK => ?_) AllReadyH.nil
  go_simp
  refine hK.out _ _ ?_ (fun held10 => ?_)
  · exact ⟨G8.out.cell 0, G8.out.cell 1, G8.out.cell 2, G8.out.cell 3⟩
  clear hK K
  try simp only [Act.put, List.setIfInBounds_toArray, List.set_cons_zero, List.set_cons_succ]
  refine wpAnyH_done (by kernel_rfl) ?_ _
  clear cY fY
  go_wp2_with fail
  go_end0
  refine ⟨Or.inl ⟨rfl, by rw [GE.out]; rfl, ?_, ?_⟩, G7.out⟩
  · rw [GG.out.1, HD.out, HP.out]; exact G6.out
  · rw [GG.out.2]; exact G5.out

/-- A datagram stored into a block, cell by cell. -/
def put8c (v : World) (N : Nat) (h : D8) : World := ((v.setCell ⟨N, 0, none⟩ (.int .i64 h.src)).setCell ⟨N, 1, none⟩ (.int .i64 h.dst)).setCell ⟨N, 2, none⟩ (.string h.pay)
theorem put8c_blk {v : World} {N : Nat} {g : D8} {T : TypeId} (hb : Blk v N g.cells T) (h : D8) : Blk (put8c v N h) N h.cells T :=
  ((hb.set 0 (.int .i64 h.src)).set 1 (.int .i64 h.dst)).set 2 (.string h.pay)
theorem put8c_kb {S : Nat → Prop} {u v : World} {N : Nat} (hk : Kb S u v) (hN : N < u.heap.size → S N) (h : D8) : Kb S u (put8c v N h) :=
  ((hk.setCell (p := ⟨N, 0, none⟩) hN _).setCell (p := ⟨N, 1, none⟩) hN _).setCell (p := ⟨N, 2, none⟩) hN _

theorem call8get (args : Array Value) (u : World) : (callFunc 82 args).run Tryd.prog u = .ok (.enter 82 args) u := by kernel_rfl

/-- Get's end. -/
def Get8End (p : ByteArray) (w : World) (e : Ending) (w' : World) : Prop := e = .returned (.tuple #[.agg (get8H p).cells, .int .i64 (get8N p : Nat), .int .i64 (get8E p : Nat)]) ∧ Below w.heap.size w w'

/-- Get's own blocks. -/
structure Get8Blks (p : ByteArray) (w u : World) : Prop where
  x : Blk u w.heap.size #[.string p] 9
  z : Blk u (w.heap.size + 1) D8.zero.cells 103
  h : Blk u (w.heap.size + 1 + 1) D8.zero.cells 103
  y : Blk u (w.heap.size + 1 + 1 + 1) #[.int .i64 0] 3
  bel : Below w.heap.size w u
  size : u.heap.size = w.heap.size + 4
theorem Get8Blks.new (p : ByteArray) (w : World) : Get8Blks p w ((((w.alloc (.cells #[.string p] 9)).alloc (.cells D8.zero.cells 103)).alloc (.cells D8.zero.cells 103)).alloc (.cells #[.int .i64 0] 3)) := by
  have e1 := Blk.new w #[.string p] 9
  have b1 : Below w.heap.size w (w.alloc (.cells #[.string p] 9)) := (Below.refl _ _).alloc (Nat.le_refl _) _
  have s1 : (w.alloc (.cells #[.string p] 9)).heap.size = w.heap.size + 1 := by simp
  generalize w.alloc (.cells #[.string p] 9) = w1 at *
  have e2 := Blk.new w1 D8.zero.cells 103
  have b2 : Below w.heap.size w (w1.alloc (.cells D8.zero.cells 103)) := b1.alloc (by omega) _
  have s2 : (w1.alloc (.cells D8.zero.cells 103)).heap.size = w.heap.size + 1 + 1 := by simp; omega
  have e1' := e1.alloc (.cells D8.zero.cells 103)
  generalize w1.alloc (.cells D8.zero.cells 103) = w2 at *
  have e3 := Blk.new w2 D8.zero.cells 103
  have b3 : Below w.heap.size w (w2.alloc (.cells D8.zero.cells 103)) := b2.alloc (by omega) _
  have s3 : (w2.alloc (.cells D8.zero.cells 103)).heap.size = w.heap.size + 1 + 1 + 1 := by simp; omega
  have e1'' := e1'.alloc (.cells D8.zero.cells 103)
  have e2' := e2.alloc (.cells D8.zero.cells 103)
  generalize w2.alloc (.cells D8.zero.cells 103) = w3 at *
  have e4 := Blk.new w3 #[.int .i64 0] 3
  rw [s1] at e2'
  rw [s2] at e3
  rw [s3] at e4
  exact ⟨e1''.alloc _, e2'.alloc _, e3.alloc _, e4, b3.alloc (by omega) _, by simp; omega⟩

set_option maxRecDepth 100000 in
set_option maxHeartbeats 2000000 in
theorem get8_any (p : ByteArray) (w : World) (hs : p.size ≤ 1000000) :
    Calls Tryd.prog 57 #[.string p] w (Get8End p w) := by
  have hmf : ∀ (fn : Fn) (first cap : Array Value) (w : World), (Instr.makeFunc fn first cap).run Tryd.prog w = .ok (.func fn first cap) w := fun _ _ _ _ => rfl
  have G := Lib.hid (Get8Blks.new p w)
  have HP : Hid (p.size ≤ 1000000) := hs
  clear hs
  go_enter Tryd.func57, Tryd.ntmps57
  go_wp2_with fail
  simp only [show #[Value.int IntKind.i64 0, Value.int IntKind.i64 0, Value.string { data := #[] }] = D8.zero.cells from rfl]
  generalize (((w.alloc (.cells #[.string p] 9)).alloc (.cells D8.zero.cells 103)).alloc (.cells D8.zero.cells 103)).alloc (.cells #[.int .i64 0] 3) = u0 at *
  have hH : w.heap.size + 1 + 1 ≠ w.heap.size + 1 + 1 + 1 := by omega
  have RD := read_kb p 82 #[.pointer (some ⟨w.heap.size, 0, none⟩), .pointer (some ⟨w.heap.size + 1 + 1, 0, none⟩), .pointer (some ⟨w.heap.size + 1 + 1 + 1, 0, none⟩)] u0 (fun k => k = w.heap.size + 1 + 1 ∨ k = w.heap.size + 1 + 1 + 1) (Got8At p (w.heap.size + 1 + 1) (w.heap.size + 1 + 1 + 1))
    (fun k hk => by have := G.out.size; omega) (fun args u => call8get args u) (fun R u hr hR hk => get81_any R w.heap.size (w.heap.size + 1 + 1) (w.heap.size + 1 + 1 + 1) p u HP.out hr (G.out.x.kb hk (fun f => f)) (G.out.h.kb hk (fun f => f)) (G.out.y.kb hk (fun f => f)) (by have := G.out.size; omega) (by have := G.out.size; omega) (by have := G.out.size; omega) hH)
  refine RD.mono ?_
  rintro e w2 ⟨k, w1, rfl, ⟨rfl, hb1, hy1⟩, hk1, hk2⟩
  have HS := G.out.size
  have B2 := Lib.hid (hb1.kb hk2 (by omega))
  have Y2 := Lib.hid (hy1.kb hk2 (by omega))
  have Z2 := Lib.hid ((G.out.z.kb hk1 (by omega)).kb hk2 (by omega))
  have L2 : Hid (Below w.heap.size w w2) := by
    show Below w.heap.size w w2
    have hb := G.out.bel
    exact ⟨hk2.os.trans (hk1.os.trans hb.os), hk2.tape.trans (hk1.tape.trans hb.tape), hk2.output.trans (hk1.output.trans hb.output), Nat.le_trans hb.size (Nat.le_trans hk1.size hk2.size), fun k hk =>
      (hk2.block k (by have := hk1.size; omega) (by omega)).trans ((hk1.block k (by omega) (by omega)).trans (hb.block k hk))⟩
  clear hb1 hy1 hk1 hk2 RD G HS hH hmf
  have ⟨c0, c1, c2⟩ := Hc8.of B2.out
  have cY := Y2.out.cell 0
  simp at cY
  have ⟨z0, z1, z2⟩ := Hc8.of Z2.out
  simp only [D8.zero] at z0 z1 z2
  have f0 := Z2.out.frozen 0
  have f1 := Z2.out.frozen 1
  have f2 := Z2.out.frozen 2
  generalize hgh : get8H p = h at *
  have HGH := Lib.hid hgh
  clear hgh
  go_wp2_with fail
  go_region
  clear c0 c1 c2 cY z0 z1 z2 f0 f1 f2
  go_wp2_with fail
  have B3 := (put8c_blk Z2.out h).drew
  have K3 := put8c_kb (S := fun k => w.heap.size ≤ k) (u := w) (N := w.heap.size + 1) ⟨L2.out.os, L2.out.tape, L2.out.output, L2.out.size, fun k hk _ => L2.out.block k hk⟩ (fun _ => by omega) h
  have L3 := K3.drew.below (Nat.le_refl _)
  clear K3 Z2 Y2 B2 L2
  unfold put8c at B3 L3
  generalize (((w2.setCell ⟨w.heap.size + 1, 0, none⟩ (.int .i64 h.src)).setCell ⟨w.heap.size + 1, 1, none⟩ (.int .i64 h.dst)).setCell ⟨w.heap.size + 1, 2, none⟩ (.string h.pay)).drew = W at *
  have ⟨c0, c1, c2⟩ := Hc8.of B3
  refine ⟨rfl, .tuple #[.agg (get8H p).cells, .int .i64 (get8N p : Nat), .int .i64 (get8E p : Nat)], ?_, rfl, L3⟩
  rw [HGH.out]
  unfold D8.cells
  simp [results, Tryd.results57, go_sem, c0, c1, c2]

end Go.Proofs.YtmghdgkdnacinaaDoor
