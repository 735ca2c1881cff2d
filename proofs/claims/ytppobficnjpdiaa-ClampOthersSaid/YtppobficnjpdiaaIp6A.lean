/-
  IPv6 headers and packets, plain: which header may be, its packet, and what bytes say; no Go function is walked here.
-/
import Derived.Test.YtppobficnjpdiaaReading
import Derived.Test.YtppobficnjpdiaaGround
import Derived.Deep.CutBlock
import Derived.Deep.DeepCutAuto
import Derived.RegionTactic
import Derived.BigRegion
namespace Go.Proofs.Ytppobficnjpdiaa
open Go.RowKit
set_option linter.unusedVariables false

/-- A header. -/
structure H6 where
  cls : Int
  lab : Int
  nxt : Int
  hops : Int
  src : ByteArray
  dst : ByteArray

/-- Its cells. -/
def H6.cells (h : H6) : Array Value := #[.int .i64 h.cls, .int .i64 h.lab, .int .i64 h.nxt, .int .i64 h.hops, .string h.src, .string h.dst]
def H6.zero : H6 := ⟨0, 0, 0, 0, ⟨#[]⟩, ⟨#[]⟩⟩

/-- The header's cells. -/
structure Hc6 (u : World) (B : Nat) (h : H6) : Prop where
  c0 : u.cell? ⟨B, 0, none⟩ = some (.int .i64 h.cls)
  c1 : u.cell? ⟨B, 1, none⟩ = some (.int .i64 h.lab)
  c2 : u.cell? ⟨B, 2, none⟩ = some (.int .i64 h.nxt)
  c3 : u.cell? ⟨B, 3, none⟩ = some (.int .i64 h.hops)
  c4 : u.cell? ⟨B, 4, none⟩ = some (.string h.src)
  c5 : u.cell? ⟨B, 5, none⟩ = some (.string h.dst)
theorem Hc6.of {u : World} {B : Nat} {h : H6} {T : TypeId} (hb : Blk u B h.cells T) : Hc6 u B h :=
  ⟨hb.cell 0, hb.cell 1, hb.cell 2, hb.cell 3, hb.cell 4, hb.cell 5⟩

/-- What may be, one by one. -/
def H6.fine (h : H6) : Nat → Bool
  | 0 => decide (0 ≤ h.cls) && decide (h.cls ≤ 255)
  | 1 => decide (0 ≤ h.nxt) && decide (h.nxt ≤ 255)
  | 2 => decide (0 ≤ h.hops) && decide (h.hops ≤ 255)
  | 3 => decide (0 ≤ h.lab) && decide (h.lab ≤ 1048575)
  | 4 => decide ((h.src.size : Int) = 16)
  | _ => decide ((h.dst.size : Int) = 16)
/-- May a header be? -/
def H6.ok (h : H6) : Bool := h.fine 0 && h.fine 1 && h.fine 2 && h.fine 3 && h.fine 4 && h.fine 5

structure H6.Ok (h : H6) : Prop where
  cls : 0 ≤ h.cls ∧ h.cls ≤ 255
  nxt : 0 ≤ h.nxt ∧ h.nxt ≤ 255
  hops : 0 ≤ h.hops ∧ h.hops ≤ 255
  lab : 0 ≤ h.lab ∧ h.lab ≤ 1048575
  src : h.src.size = 16
  dst : h.dst.size = 16
theorem H6.ok_iff (h : H6) : h.ok = true ↔ h.Ok := by
  constructor
  · intro e
    simp only [H6.ok, H6.fine, Bool.and_eq_true, decide_eq_true_eq] at e
    exact ⟨by omega, by omega, by omega, by omega, by omega, by omega⟩
  · rintro ⟨_, _, _, _, _, _⟩
    simp only [H6.ok, H6.fine, Bool.and_eq_true, decide_eq_true_eq]
    omega
theorem H6.ok_step (h : H6) (k : Nat) (hk : k < 6) (hf : h.fine k = false) : h.ok = false := by
  have : k = 0 ∨ k = 1 ∨ k = 2 ∨ k = 3 ∨ k = 4 ∨ k = 5 := by omega
  rcases this with rfl | rfl | rfl | rfl | rfl | rfl <;> simp [H6.ok, hf]

/-- The first four bytes' number. -/
def H6.word (h : H6) : Nat := 1610612736 + h.cls.toNat * 1048576 + h.lab.toNat
def H6.pack (h : H6) (pay : ByteArray) : List UInt8 :=
  be h.word 4 ++ be pay.size 2 ++ be h.nxt.toNat 1 ++ be h.hops.toNat 1 ++ h.src.data.toList ++ h.dst.data.toList ++ pay.data.toList

def put6E (h : H6) (pay : ByteArray) : Nat := if h.ok then if 65535 < pay.size then 4 else 0 else 1
def put6S (h : H6) (pay : ByteArray) : ByteArray := if put6E h pay = 0 then ⟨(h.pack pay).toArray⟩ else ⟨#[]⟩

def get6E (p : ByteArray) : Nat :=
  if p.size < 40 then 2 else if numOf p 0 4 / 268435456 ≠ 6 then 3 else if numOf p 4 2 + 40 ≠ p.size then 4 else 0
/-- The header that stands there. -/
def hdr6 (p : ByteArray) : H6 := ⟨(numOf p 0 4 / 1048576 % 256 : Nat), (numOf p 0 4 % 1048576 : Nat), numOf p 6 1, numOf p 7 1, p.extract 8 24, p.extract 24 40⟩
def get6H (p : ByteArray) : H6 := if get6E p = 0 then hdr6 p else H6.zero
def get6S (p : ByteArray) : ByteArray := if get6E p = 0 then p.extract 40 p.size else ⟨#[]⟩

theorem get6E_short {p : ByteArray} (h : ¬ 40 ≤ p.size) : get6E p = 2 := by unfold get6E; rw [if_pos (by omega)]
theorem get6E_ver {p : ByteArray} (h : 40 ≤ p.size) (h1 : numOf p 0 4 / 268435456 ≠ 6) : get6E p = 3 := by unfold get6E; rw [if_neg (by omega), if_pos h1]
theorem get6E_len {p : ByteArray} (h : 40 ≤ p.size) (h1 : numOf p 0 4 / 268435456 = 6) (h2 : numOf p 4 2 + 40 ≠ p.size) : get6E p = 4 := by
  unfold get6E; rw [if_neg (by omega), if_neg (by omega), if_pos h2]
theorem get6E_ok {p : ByteArray} (h : 40 ≤ p.size) (h1 : numOf p 0 4 / 268435456 = 6) (h2 : numOf p 4 2 + 40 = p.size) : get6E p = 0 := by
  unfold get6E; rw [if_neg (by omega), if_neg (by omega), if_neg (by omega)]
/-- Just when bytes are a packet. -/
structure Good6 (p : ByteArray) : Prop where
  short : 40 ≤ p.size
  ver : numOf p 0 4 / 268435456 = 6
  len : numOf p 4 2 + 40 = p.size
theorem get6E_zero {p : ByteArray} : get6E p = 0 ↔ Good6 p := by
  constructor
  · intro e
    by_cases h : 40 ≤ p.size
    · by_cases h1 : numOf p 0 4 / 268435456 = 6
      · by_cases h2 : numOf p 4 2 + 40 = p.size
        · exact ⟨h, h1, h2⟩
        · rw [get6E_len h h1 h2] at e; omega
      · rw [get6E_ver h h1] at e; omega
    · rw [get6E_short h] at e; omega
  · rintro ⟨h, h1, h2⟩
    exact get6E_ok h h1 h2

/-- What is cut to its bits. -/
def H6.cut (h : H6) : H6 := ⟨h.cls % 256, h.lab % 1048576, h.nxt % 256, h.hops % 256, h.src, h.dst⟩
theorem H6.cut_ok {h : H6} (hok : h.Ok) : h.cut = h := by
  obtain ⟨h1, h2, h3, h4, _, _⟩ := hok
  unfold H6.cut
  rw [show h.cls % 256 = h.cls by omega, show h.lab % 1048576 = h.lab by omega, show h.nxt % 256 = h.nxt by omega, show h.hops % 256 = h.hops by omega]

/-- Check's error. -/
def H6.err (h : H6) : Nat := if h.ok then 0 else 1
theorem H6.err_ok {h : H6} (e : h.ok = true) : h.err = 0 := by simp [H6.err, e]
theorem H6.err_no {h : H6} (e : h.ok = false) : h.err = 1 := by simp [H6.err, e]
/-- Is a header not too long? -/
def H6.few (h : H6) : Bool := decide (h.src.size ≤ 300) && decide (h.dst.size ≤ 300)

theorem put6_told (h : H6) (pay : ByteArray) : (put6E h pay = 0 ∧ h.Ok ∧ pay.size ≤ 65535 ∧ put6S h pay = ⟨(h.pack pay).toArray⟩) ∨ (put6E h pay ≠ 0 ∧ put6S h pay = ⟨#[]⟩) := by
  unfold put6S
  by_cases hok : h.ok = true
  · by_cases hn : 65535 < pay.size
    · have e : put6E h pay = 4 := by unfold put6E; rw [if_pos hok, if_pos hn]
      exact Or.inr ⟨by omega, by rw [if_neg (by omega)]⟩
    · have e : put6E h pay = 0 := by unfold put6E; rw [if_pos hok, if_neg hn]
      exact Or.inl ⟨e, (H6.ok_iff h).1 hok, by omega, by rw [if_pos e]⟩
  · have e : put6E h pay = 1 := by unfold put6E; rw [if_neg hok]
    exact Or.inr ⟨by omega, by rw [if_neg (by omega)]⟩
theorem put6_ok {h : H6} {pay : ByteArray} (hok : h.Ok) (hn : pay.size ≤ 65535) : put6E h pay = 0 ∧ put6S h pay = ⟨(h.pack pay).toArray⟩ := by
  have e : put6E h pay = 0 := by unfold put6E; rw [if_pos ((H6.ok_iff h).2 hok), if_neg (by omega)]
  exact ⟨e, by unfold put6S; rw [if_pos e]⟩
theorem get6_err {p : ByteArray} (h : get6E p ≠ 0) : get6H p = H6.zero ∧ get6S p = ⟨#[]⟩ := by
  unfold get6H get6S
  rw [if_neg h, if_neg h]
  exact ⟨rfl, rfl⟩

end Go.Proofs.Ytppobficnjpdiaa

/-
  Check, cut, and the laws' 'few': a header's own numbers.
-/
namespace Go.Proofs.Ytppobficnjpdiaa
open Go.RowKit
set_option linter.unusedVariables false

set_option maxHeartbeats 1000000 in
theorem cut6_any (h : H6) (w : World) :
    Calls Try.prog 99 #[.agg h.cells] w fun e w' => e = .returned (.agg h.cut.cells) ∧ Below w.heap.size w w' := by
  have m0 := i64_mask 8 (by decide) h.cls
  have m1 := i64_mask 20 (by decide) h.lab
  have m2 := i64_mask 8 (by decide) h.nxt
  have m3 := i64_mask 8 (by decide) h.hops
  simp only [show (2 ^ 8 - 1 : Nat) = 255 from rfl, show (2 ^ 8 : Nat) = 256 from rfl, show (2 ^ 20 - 1 : Nat) = 1048575 from rfl, show (2 ^ 20 : Nat) = 1048576 from rfl, Int.cast_ofNat_Int] at m0 m1 m2 m3
  unfold H6.cut H6.cells
  go_enter Try.func99, Try.ntmps99
  go_wp2_with fail
  have B := Blk.new (w.alloc (.cells h.cut.cells 109)) h.cut.cells 109
  rw [show (w.alloc (.cells h.cut.cells 109)).heap.size = w.heap.size + 1 from by simp] at B
  have ⟨c0, c1, c2, c3, c4, c5⟩ := Hc6.of B
  have L := ((Below.refl w.heap.size w).alloc (Nat.le_refl _) (.cells h.cut.cells 109)).alloc (by simp) (.cells h.cut.cells 109)
  unfold H6.cut H6.cells at c0 c1 c2 c3 c4 c5 L
  simp only at c0 c1 c2 c3 c4 c5
  refine ⟨rfl, .agg #[.int .i64 (h.cls % 256), .int .i64 (h.lab % 1048576), .int .i64 (h.nxt % 256), .int .i64 (h.hops % 256), .string h.src, .string h.dst], ?_, rfl, L⟩
  simp [results, Try.results99, go_sem, c0, c1, c2, c3, c4, c5]

/-- A header's block, and what was there. -/
structure Held6 (w W : World) (h : H6) : Prop where
  b : Blk W w.heap.size h.cells 109
  bel : Below w.heap.size w W
  lt : w.heap.size < W.heap.size
theorem Held6.new (w : World) (h : H6) : Held6 w (w.alloc (.cells h.cells 109)) h :=
  ⟨Blk.new w _ _, (Below.refl _ _).alloc (Nat.le_refl _) _, by simp⟩
theorem Held6.below {w W W' : World} {h : H6} (r : Held6 w W h) (hb : Below W.heap.size W W') : Held6 w W' h :=
  ⟨(hb.block _ r.b.lt).trans r.b, r.bel.trans (hb.mono r.bel.size), Nat.lt_of_lt_of_le r.lt hb.size⟩
theorem Held6.alloc {w W : World} {h : H6} (r : Held6 w W h) (o : Obj) : Held6 w (W.alloc o) h :=
  ⟨r.b.alloc o, r.bel.alloc r.bel.size o, by have := r.lt; simp; omega⟩
theorem Held6.drew {w W : World} {h : H6} (r : Held6 w W h) : Held6 w W.drew h := ⟨r.b.drew, ⟨r.bel.os, r.bel.tape, r.bel.output, r.bel.size, r.bel.block⟩, r.lt⟩
theorem Held6.drewN {w W : World} {h : H6} (r : Held6 w W h) (n : Nat) : Held6 w (W.drewN n) h := ⟨r.b.drewN n, below_drewN r.bel n, r.lt⟩
theorem Held6.kb {S : Nat → Prop} {w W W' : World} {h : H6} (r : Held6 w W h) (hk : Kb S W W') (hs : ∀ k, S k → w.heap.size < k) : Held6 w W' h :=
  ⟨r.b.kb hk (fun e => Nat.lt_irrefl _ (hs _ e)), r.bel.trans ⟨hk.os, hk.tape, hk.output, hk.size, fun k hk1 => hk.block k (Nat.lt_of_lt_of_le hk1 r.bel.size) (fun e => by have := hs _ e; omega)⟩, Nat.lt_of_lt_of_le r.lt hk.size⟩
theorem keep6 {w W W' : World} {h : H6} (hb : Below W.heap.size W W')
    (r : W.cell? ⟨w.heap.size, 0, none⟩ = some (.int .i64 h.cls) ∧ W.cell? ⟨w.heap.size, 1, none⟩ = some (.int .i64 h.lab) ∧ W.cell? ⟨w.heap.size, 2, none⟩ = some (.int .i64 h.nxt) ∧ W.cell? ⟨w.heap.size, 3, none⟩ = some (.int .i64 h.hops) ∧ W.cell? ⟨w.heap.size, 4, none⟩ = some (.string h.src) ∧ W.cell? ⟨w.heap.size, 5, none⟩ = some (.string h.dst) ∧ Hid (Held6 w W h)) :
    W'.cell? ⟨w.heap.size, 0, none⟩ = some (.int .i64 h.cls) ∧ W'.cell? ⟨w.heap.size, 1, none⟩ = some (.int .i64 h.lab) ∧ W'.cell? ⟨w.heap.size, 2, none⟩ = some (.int .i64 h.nxt) ∧ W'.cell? ⟨w.heap.size, 3, none⟩ = some (.int .i64 h.hops) ∧ W'.cell? ⟨w.heap.size, 4, none⟩ = some (.string h.src) ∧ W'.cell? ⟨w.heap.size, 5, none⟩ = some (.string h.dst) ∧ Hid (Held6 w W' h) := by
  have r2 := r.2.2.2.2.2.2.out.below hb
  have c := Hc6.of r2.b
  exact ⟨c.c0, c.c1, c.c2, c.c3, c.c4, c.c5, Lib.hid r2⟩

theorem H6.ways (h : H6) :
    ((h.cls == h.cls % 256) = false ∧ h.err = 1) ∨
    ((h.cls == h.cls % 256) = true ∧ (h.lab == h.lab % 1048576) = false ∧ h.err = 1) ∨
    ((h.cls == h.cls % 256) = true ∧ (h.lab == h.lab % 1048576) = true ∧ (h.nxt == h.nxt % 256) = false ∧ h.err = 1) ∨
    ((h.cls == h.cls % 256) = true ∧ (h.lab == h.lab % 1048576) = true ∧ (h.nxt == h.nxt % 256) = true ∧ (h.hops == h.hops % 256) = false ∧ h.err = 1) ∨
    ((h.cls == h.cls % 256) = true ∧ (h.lab == h.lab % 1048576) = true ∧ (h.nxt == h.nxt % 256) = true ∧ (h.hops == h.hops % 256) = true ∧ ((h.src.size : Int) != 16) = true ∧ h.err = 1) ∨
    ((h.cls == h.cls % 256) = true ∧ (h.lab == h.lab % 1048576) = true ∧ (h.nxt == h.nxt % 256) = true ∧ (h.hops == h.hops % 256) = true ∧ ((h.src.size : Int) != 16) = false ∧ ((h.dst.size : Int) != 16) = true ∧ h.err = 1) ∨
    ((h.cls == h.cls % 256) = true ∧ (h.lab == h.lab % 1048576) = true ∧ (h.nxt == h.nxt % 256) = true ∧ (h.hops == h.hops % 256) = true ∧ ((h.src.size : Int) != 16) = false ∧ ((h.dst.size : Int) != 16) = false ∧ h.err = 0) := by
  have no : ¬ h.Ok → h.err = 1 := fun hn => H6.err_no (by rw [← Bool.not_eq_true, H6.ok_iff]; exact hn)
  by_cases h0 : h.cls = h.cls % 256
  · by_cases h1 : h.lab = h.lab % 1048576
    · by_cases h2 : h.nxt = h.nxt % 256
      · by_cases h3 : h.hops = h.hops % 256
        · by_cases h4 : h.src.size = 16
          · by_cases h5 : h.dst.size = 16
            · refine Or.inr (Or.inr (Or.inr (Or.inr (Or.inr (Or.inr ⟨by simpa using h0, by simpa using h1, by simpa using h2, by simpa using h3, by simp; omega, by simp; omega, H6.err_ok ((H6.ok_iff h).2 ⟨by omega, by omega, by omega, by omega, h4, h5⟩)⟩)))))
            · exact Or.inr (Or.inr (Or.inr (Or.inr (Or.inr (Or.inl ⟨by simpa using h0, by simpa using h1, by simpa using h2, by simpa using h3, by simp; omega, by simp; omega, no fun k => h5 k.dst⟩)))))
          · exact Or.inr (Or.inr (Or.inr (Or.inr (Or.inl ⟨by simpa using h0, by simpa using h1, by simpa using h2, by simpa using h3, by simp; omega, no fun k => h4 k.src⟩))))
        · exact Or.inr (Or.inr (Or.inr (Or.inl ⟨by simpa using h0, by simpa using h1, by simpa using h2, by simpa using h3, no fun k => h3 (by have := k.hops; omega)⟩)))
      · exact Or.inr (Or.inr (Or.inl ⟨by simpa using h0, by simpa using h1, by simpa using h2, no fun k => h2 (by have := k.nxt; omega)⟩))
    · exact Or.inr (Or.inl ⟨by simpa using h0, by simpa using h1, no fun k => h1 (by have := k.lab; omega)⟩)
  · exact Or.inl ⟨by simpa using h0, no fun k => h0 (by have := k.cls; omega)⟩

end Go.Proofs.Ytppobficnjpdiaa

/-
  readHeader: a packet's header, read by a reader that is stopped.
-/
namespace Go.Proofs.Ytppobficnjpdiaa
open Go.RowKit
set_option linter.unusedVariables false

/-- A header stored into a block, cell by cell. -/
def put6c (v : World) (N : Nat) (h : H6) : World :=
  (((((v.setCell ⟨N, 0, none⟩ (.int .i64 h.cls)).setCell ⟨N, 1, none⟩ (.int .i64 h.lab)).setCell ⟨N, 2, none⟩ (.int .i64 h.nxt)).setCell ⟨N, 3, none⟩ (.int .i64 h.hops)).setCell ⟨N, 4, none⟩ (.string h.src)).setCell ⟨N, 5, none⟩ (.string h.dst)
theorem Blk.seth6 {v : World} {N : Nat} {T : TypeId} {h : H6} (hb : Blk v N h.cells T) (h' : H6) (k : Nat) (x : Value) (hx : h.cells.setIfInBounds k x = h'.cells) : Blk (v.setCell ⟨N, k, none⟩ x) N h'.cells T := by
  rw [← hx]; exact hb.set k x
theorem put6c_blk {v : World} {N : Nat} {g : H6} {T : TypeId} (hb : Blk v N g.cells T) (h : H6) : Blk (put6c v N h) N h.cells T := by
  unfold put6c
  refine Blk.seth6 (h := ⟨h.cls, h.lab, h.nxt, h.hops, h.src, g.dst⟩) ?_ h 5 _ rfl
  refine Blk.seth6 (h := ⟨h.cls, h.lab, h.nxt, h.hops, g.src, g.dst⟩) ?_ _ 4 _ rfl
  refine Blk.seth6 (h := ⟨h.cls, h.lab, h.nxt, g.hops, g.src, g.dst⟩) ?_ _ 3 _ rfl
  refine Blk.seth6 (h := ⟨h.cls, h.lab, g.nxt, g.hops, g.src, g.dst⟩) ?_ _ 2 _ rfl
  refine Blk.seth6 (h := ⟨h.cls, g.lab, g.nxt, g.hops, g.src, g.dst⟩) ?_ _ 1 _ rfl
  exact Blk.seth6 (h := g) hb _ 0 _ rfl
theorem put6c_kb {S : Nat → Prop} {u v : World} {N : Nat} (hk : Kb S u v) (hN : N < u.heap.size → S N) (h : H6) : Kb S u (put6c v N h) := by
  unfold put6c
  exact (((((hk.setCell (p := ⟨N, 0, none⟩) hN _).setCell (p := ⟨N, 1, none⟩) hN _).setCell (p := ⟨N, 2, none⟩) hN _).setCell (p := ⟨N, 3, none⟩) hN _).setCell (p := ⟨N, 4, none⟩) hN _).setCell (p := ⟨N, 5, none⟩) hN _

/-- While it reads: the reader, the answer's block, and what was there. -/
structure Rw6 (u v : World) (R : Nat) (p : ByteArray) (i : Nat) : Prop where
  rd : Rd v R p i
  kb : Kb (· = R) u v
  zb : Blk v u.heap.size H6.zero.cells 109
  lt : R < u.heap.size
theorem Rw6.step {u v v' : World} {R : Nat} {p : ByteArray} {i j : Nat} (r : Rw6 u v R p i) (hr : Rd v' R p j) (hk : Kb (· = R) v v') : Rw6 u v' R p j :=
  ⟨hr, r.kb.trans hk, r.zb.kb hk (by have := r.lt; omega), r.lt⟩
theorem Rw6.new {u : World} {R : Nat} {p : ByteArray} {i : Nat} (hr : Rd u R p i) : Rw6 u (u.alloc (.cells H6.zero.cells 109)) R p i :=
  ⟨hr.alloc _, (Kb.refl _ _).alloc _, Blk.new u _ _, hr.lt⟩
theorem Rw6.below {u v v' : World} {R : Nat} {p : ByteArray} {i : Nat} (r : Rw6 u v R p i) (hb : Below v.heap.size v v') : Rw6 u v' R p i :=
  r.step ((hb.block _ r.rd.lt).trans r.rd) ⟨hb.os, hb.tape, hb.output, hb.size, fun k hk _ => hb.block k hk⟩
theorem Rw6.drewN {u v : World} {R : Nat} {p : ByteArray} {i : Nat} (r : Rw6 u v R p i) (n : Nat) : Rw6 u (v.drewN n) R p i :=
  ⟨r.rd.drewN n, r.kb.drewN n, r.zb.drewN n, r.lt⟩
theorem rw6_u8 {u v : World} {R : Nat} {p : ByteArray} {i : Nat} (r : Rw6 u v R p i) (hi : i + 1 ≤ p.size) (hs : p.size ≤ 1000000) :
    Calls Try.prog 60 #[.pointer (some ⟨R, 0, none⟩)] v fun e v' => e = .returned (.int .i64 (numOf p i 1)) ∧ Rw6 u v' R p (i + 1) :=
  (u8_yes R p i v r.rd hi (by unfold maxLen; omega)).mono fun e v' h => ⟨h.1, r.step h.2.1 h.2.2⟩
theorem rw6_u16 {u v : World} {R : Nat} {p : ByteArray} {i : Nat} (r : Rw6 u v R p i) (hi : i + 2 ≤ p.size) (hs : p.size ≤ 1000000) :
    Calls Try.prog 93 #[.pointer (some ⟨R, 0, none⟩)] v fun e v' => e = .returned (.int .i64 (numOf p i 2)) ∧ Rw6 u v' R p (i + 2) :=
  (u16_yes R p i v r.rd hi (by unfold maxLen; omega)).mono fun e v' h => ⟨h.1, r.step h.2.1 h.2.2⟩
theorem rw6_u32 {u v : World} {R : Nat} {p : ByteArray} {i : Nat} (r : Rw6 u v R p i) (hi : i + 4 ≤ p.size) (hs : p.size ≤ 1000000) :
    Calls Try.prog 94 #[.pointer (some ⟨R, 0, none⟩)] v fun e v' => e = .returned (.int .u32 (numOf p i 4)) ∧ Rw6 u v' R p (i + 4) :=
  (u32_yes R p i v r.rd hi (by unfold maxLen; omega)).mono fun e v' h => ⟨h.1, r.step h.2.1 h.2.2⟩
theorem rw6_take {u v : World} {R : Nat} {p : ByteArray} {i k : Nat} (r : Rw6 u v R p i) (hi : i + k ≤ p.size) (hs : p.size ≤ 1000000) :
    Calls Try.prog 95 #[.pointer (some ⟨R, 0, none⟩), .int .i64 k] v fun e v' => e = .returned (.string (p.extract i (i + k))) ∧ Rw6 u v' R p (i + k) := by
  refine (take_nat R p i k v r.rd hi (by unfold maxLen; omega)).mono ?_
  rintro e v' ⟨rfl, n, rfl⟩
  exact ⟨rfl, r.step ((r.rd.drewN n).set 1 _) (Kb.setCell (S := (· = R)) ((Kb.refl (· = R) v).drewN n) (p := ⟨R, 1, none⟩) (fun _ => rfl) (.int .i64 ((i + k : Nat) : Int)))⟩
theorem rw6_left {u v : World} {R : Nat} {p : ByteArray} {i : Nat} (r : Rw6 u v R p i) (hi : i ≤ p.size) (hs : p.size ≤ 1000000) :
    Calls Try.prog 98 #[.pointer (some ⟨R, 0, none⟩)] v fun e v' => e = .returned (.int .i64 ((p.size : Int) - i)) ∧ Rw6 u v' R p i := by
  refine (left_any R p i v r.rd hi (by unfold maxLen; omega)).mono ?_
  rintro e v' ⟨rfl, n, rfl⟩
  exact ⟨rfl, r.drewN n⟩

/-- How it ends. -/
def Head6End (u : World) (R : Nat) (p : ByteArray) (e : Ending) (u' : World) : Prop :=
  Kb (· = R) u u' ∧ ((get6E p = 0 ∧ e = .returned (.agg (hdr6 p).cells) ∧ Rd u' R p 40) ∨ (get6E p ≠ 0 ∧ e = .panicked (stopped (get6E p : Nat))))
theorem Head6End.stop {u u' : World} {R : Nat} {p : ByteArray} {k : Nat} (hk : Kb (· = R) u u') (he : get6E p = k) (h0 : k ≠ 0) : Head6End u R p (.panicked (stopped (k : Nat))) u' := by
  subst he; exact ⟨hk, Or.inr ⟨h0, rfl⟩⟩

set_option maxRecDepth 100000 in
set_option maxHeartbeats 1000000 in
theorem readHeader6_any (R : Nat) (p : ByteArray) (u : World) (hr : Rd u R p 0) (hs : p.size ≤ 1000000) :
    Calls Try.prog 87 #[.pointer (some ⟨R, 0, none⟩)] u (Head6End u R p) := by
  have R0 := Lib.hid (Rw6.new hr)
  clear hr
  go_enter Try.func87, Try.ntmps87
  go_wp2_with fail
  simp only [show #[Value.int IntKind.i64 0, Value.int IntKind.i64 0, Value.int IntKind.i64 0, Value.int IntKind.i64 0, Value.string { data := #[] }, Value.string { data := #[] }] = H6.zero.cells from rfl]
  generalize u.alloc (.cells H6.zero.cells 109) = u0 at *
  refine (rw6_left R0.out (by omega) hs).mono ?_
  rintro e v0 ⟨rfl, r0⟩
  have V0 := Lib.hid r0
  clear r0 R0
  by_cases hp : 40 ≤ p.size
  case neg =>
    have t0 : decide ((40 : Int) ≤ (p.size : Int) - (0 : Nat)) = false := by simp; omega
    go_wp2_with fail
    refine (need_no _ _ _ _ (by simp; omega)).mono ?_
    rintro e w' ⟨rfl, rfl⟩
    exact ⟨rfl, Head6End.stop (k := 2) V0.out.kb (get6E_short hp) (by decide)⟩
  have E3 := Lib.hid (get6E_ver hp)
  have E4 := Lib.hid (get6E_len hp)
  have E0 := Lib.hid (get6E_ok hp)
  go_wp2_with fail
  refine (need_yes _ _ _ _ (by simp; omega)).mono ?_
  rintro e w' ⟨rfl, rfl⟩
  go_wp2_with fail
  refine (rw6_u32 V0.out (by omega) hs).mono ?_
  rintro e v1 ⟨rfl, r1⟩
  have V1 : Hid (Rw6 u v1 R p 4) := r1
  clear r1 V0
  have hnl := numOf_lt p 0 4 (by omega)
  have HD : Hid (hdr6 p = ⟨(numOf p 0 4 / 1048576 % 256 : Nat), (numOf p 0 4 % 1048576 : Nat), numOf p 6 1, numOf p 7 1, p.extract 8 24, p.extract 24 40⟩) := rfl
  generalize numOf p 0 4 = n at *
  have hnl2 : n < 4294967296 := hnl
  clear hnl
  go_wp2_with fail
  by_cases hv : n / 268435456 = 6
  case neg =>
    refine (need_no _ _ _ _ (by simp; omega)).mono ?_
    rintro e w' ⟨rfl, rfl⟩
    exact ⟨rfl, Head6End.stop (k := 3) V1.out.kb (E3.out hv) (by decide)⟩
  refine (need_yes _ _ _ _ (by simp; omega)).mono ?_
  rintro e w' ⟨rfl, rfl⟩
  have HV := Lib.hid hv
  clear hv E3
  go_wp2_with fail
  refine (rw6_u16 V1.out (by omega) hs).mono ?_
  rintro e v2 ⟨rfl, r2⟩
  have V2 : Hid (Rw6 u v2 R p 6) := r2
  clear r2 V1
  generalize numOf p 4 2 = z at *
  go_wp2_with fail
  refine (rw6_u8 V2.out (by omega) hs).mono ?_
  rintro e v3 ⟨rfl, r3⟩
  have V3 : Hid (Rw6 u v3 R p 7) := r3
  clear r3 V2
  have hx6 := numOf_lt p 6 1 (by omega)
  generalize numOf p 6 1 = nx at *
  go_wp2_with fail
  refine (rw6_u8 V3.out (by omega) hs).mono ?_
  rintro e v4 ⟨rfl, r4⟩
  have V4 : Hid (Rw6 u v4 R p 8) := r4
  clear r4 V3
  have hx7 := numOf_lt p 7 1 (by omega)
  generalize numOf p 7 1 = hop at *
  go_wp2_with fail
  refine (rw6_take (k := 16) V4.out (by omega) hs).mono ?_
  rintro e v5 ⟨rfl, r5⟩
  have V5 : Hid (Rw6 u v5 R p 24) := r5
  clear r5 V4
  simp only [Nat.reduceAdd]
  generalize p.extract 8 24 = src at *
  go_wp2_with fail
  refine (rw6_take (k := 16) V5.out (by omega) hs).mono ?_
  rintro e v6 ⟨rfl, r6⟩
  have V6 : Hid (Rw6 u v6 R p 40) := r6
  clear r6 V5
  simp only [Nat.reduceAdd]
  generalize p.extract 24 40 = dst at *
  go_wp2_with fail
  refine (rw6_left V6.out hp hs).mono ?_
  rintro e v7 ⟨rfl, r7⟩
  have V7 := Lib.hid r7
  clear r7 V6
  go_wp2_with fail
  by_cases hl : z + 40 = p.size
  case neg =>
    refine (need_no _ _ _ _ (by simp; omega)).mono ?_
    rintro e w' ⟨rfl, rfl⟩
    exact ⟨rfl, Head6End.stop (k := 4) V7.out.kb (E4.out HV.out hl) (by decide)⟩
  refine (need_yes _ _ _ _ (by simp; omega)).mono ?_
  rintro e w' ⟨rfl, rfl⟩
  have G0 := Lib.hid (E0.out HV.out hl)
  have HCT : Hid (hdr6 p = (⟨(n : Int) / 1048576, (n : Int), nx, hop, src, dst⟩ : H6).cut) := by
    show hdr6 p = _
    rw [HD.out]
    unfold H6.cut
    simp only
    have hx6' : nx < 256 := hx6
    have hx7' : hop < 256 := hx7
    rw [show ((n / 1048576 % 256 : Nat) : Int) = (n : Int) / 1048576 % 256 by omega, show ((n % 1048576 : Nat) : Int) = (n : Int) % 1048576 by omega, show ((nx : Nat) : Int) % 256 = nx by omega, show ((hop : Nat) : Int) % 256 = hop by omega]
  have HC := Lib.hid (fun W => cut6_any ⟨(n : Int) / 1048576, (n : Int), nx, hop, src, dst⟩ W)
  rw [← HCT.out] at HC
  clear E4 E0 HV hl HD HCT hx6 hx7
  unfold H6.cells at HC
  simp only at HC
  go_wp2_with fail
  refine (HC.out _).mono ?_
  rintro e v8 ⟨rfl, hb8⟩
  have V8 := Lib.hid (V7.out.below hb8)
  clear V7 hb8 HC
  generalize hhd : hdr6 p = h at *
  have HH := Lib.hid hhd
  clear hhd
  have ⟨z0, z1, z2, z3, z4, z5⟩ := Hc6.of V8.out.zb
  simp only [H6.zero] at z0 z1 z2 z3 z4 z5
  have f0 := V8.out.zb.frozen 0
  have f1 := V8.out.zb.frozen 1
  have f2 := V8.out.zb.frozen 2
  have f3 := V8.out.zb.frozen 3
  have f4 := V8.out.zb.frozen 4
  have f5 := V8.out.zb.frozen 5
  go_wp2_with fail
  have B9 := put6c_blk V8.out.zb h
  have K9 := put6c_kb (N := u.heap.size) V8.out.kb (fun h => absurd h (by omega)) h
  have K10 := put6c_kb (S := (· = u.heap.size)) (N := u.heap.size) (Kb.refl _ v8) (fun _ => rfl) h
  have D9 : Rd _ R p 40 := V8.out.rd.kb K10 (by have := V8.out.lt; omega)
  clear K10 z0 z1 z2 z3 z4 z5 f0 f1 f2 f3 f4 f5 V8
  unfold put6c at B9 K9 D9
  generalize (((((v8.setCell ⟨u.heap.size, 0, none⟩ (.int .i64 h.cls)).setCell ⟨u.heap.size, 1, none⟩ (.int .i64 h.lab)).setCell ⟨u.heap.size, 2, none⟩ (.int .i64 h.nxt)).setCell ⟨u.heap.size, 3, none⟩ (.int .i64 h.hops)).setCell ⟨u.heap.size, 4, none⟩ (.string h.src)).setCell ⟨u.heap.size, 5, none⟩ (.string h.dst) = W at *
  have ⟨c0, c1, c2, c3, c4, c5⟩ := Hc6.of B9
  refine ⟨rfl, .agg (hdr6 p).cells, ?_, K9, Or.inl ⟨G0.out, rfl, D9⟩⟩
  rw [HH.out]
  unfold H6.cells
  simp [results, Try.results87, go_sem, c0, c1, c2, c3, c4, c5]

end Go.Proofs.Ytppobficnjpdiaa

/-
  Get: what bytes say as a packet.
-/
namespace Go.Proofs.Ytppobficnjpdiaa
open Go.RowKit
set_option linter.unusedVariables false

/-- What the closure leaves. -/
def Got6At (p : ByteArray) (H Y : Nat) (k : Int) (u : World) : Prop := k = (get6E p : Nat) ∧ Blk u H (get6H p).cells 109 ∧ Blk u Y #[.string (get6S p)] 9

set_option maxHeartbeats 1000000 in
theorem get61_any (R H Y : Nat) (p : ByteArray) (u : World) (hs : p.size ≤ 1000000) (hr : Rd u R p 0) (hH : Blk u H H6.zero.cells 109) (hY : Blk u Y #[.string ⟨#[]⟩] 9) (h1 : R ≠ H) (h2 : R ≠ Y) (h3 : H ≠ Y) :
    Calls Try.prog 86 #[.pointer (some ⟨R, 0, none⟩), .pointer (some ⟨H, 0, none⟩), .pointer (some ⟨Y, 0, none⟩)] u (DoKb (fun k => k = H ∨ k = Y) R u (Got6At p H Y)) := by
  have HR := Lib.hid (readHeader6_any R p u hr hs)
  have N1 := Lib.hid h1
  have N2 := Lib.hid h2
  have N3 := Lib.hid h3
  clear hr h1 h2 h3
  have HH := Lib.hid hH
  have HY := Lib.hid hY
  clear hH hY
  go_enter Try.func86, Try.ntmps86
  go_wp2_with fail
  refine HR.out.mono ?_
  rintro e u1 ⟨k1, ⟨g0, rfl, rd1⟩ | ⟨g0, rfl⟩⟩
  · have H1 := Lib.hid (HH.out.kb k1 (fun e => N1.out e.symm))
    have Y1 := Lib.hid (HY.out.kb k1 (fun e => N2.out e.symm))
    have K1 := Lib.hid k1
    have D1 := Lib.hid rd1
    have G0 := Lib.hid g0
    clear HR HH HY k1 rd1 g0
    have ⟨z0, z1, z2, z3, z4, z5⟩ := Hc6.of H1.out
    simp only [H6.zero] at z0 z1 z2 z3 z4 z5
    have f0 := H1.out.frozen 0
    have f1 := H1.out.frozen 1
    have f2 := H1.out.frozen 2
    have f3 := H1.out.frozen 3
    have f4 := H1.out.frozen 4
    have f5 := H1.out.frozen 5
    have HGH : Hid (get6H p = hdr6 p) := by
      show get6H p = hdr6 p
      unfold get6H; rw [if_pos G0.out]
    have HGS : Hid (get6S p = p.extract 40 p.size) := by
      show get6S p = _
      unfold get6S; rw [if_pos G0.out]
    have GG := Lib.hid (get6E_zero.1 G0.out)
    generalize hdr6 p = h at *
    unfold H6.cells
    go_wp2_with fail
    have B2 := Lib.hid (put6c_blk H1.out h)
    have K2 := put6c_kb (S := (· = H)) (N := H) (Kb.refl _ u1) (fun _ => rfl) h
    have Y2 := Lib.hid (Y1.out.kb K2 (fun e => N3.out e.symm))
    have D2 : Hid (Rd _ R p 40) := D1.out.kb K2 (fun e => N1.out e)
    have KA := Lib.hid ((K1.out.mono (T := fun k => (k = H ∨ k = Y) ∨ k = R) (fun k _ e => Or.inr e)).trans (K2.mono (fun k _ e => Or.inl (Or.inl e))))
    clear K2 z0 z1 z2 z3 z4 z5 f0 f1 f2 f3 f4 f5 H1 Y1 D1 K1
    unfold put6c at B2 Y2 D2 KA
    generalize (((((u1.setCell ⟨H, 0, none⟩ (.int .i64 h.cls)).setCell ⟨H, 1, none⟩ (.int .i64 h.lab)).setCell ⟨H, 2, none⟩ (.int .i64 h.nxt)).setCell ⟨H, 3, none⟩ (.int .i64 h.hops)).setCell ⟨H, 4, none⟩ (.string h.src)).setCell ⟨H, 5, none⟩ (.string h.dst) = u2 at *
    refine (rest_any R p 40 u2 D2.out GG.out.short (by unfold maxLen; omega)).mono ?_
    rintro e u3 ⟨rfl, n, rfl⟩
    have K3 := Kb.setCell (S := (· = R)) ((Kb.refl (· = R) u2).drewN n) (p := ⟨R, 1, none⟩) (fun _ => rfl) (.int .i64 (p.size : Int))
    have B3 := Lib.hid (B2.out.kb K3 (fun e => N1.out e.symm))
    have Y3 := Lib.hid (Y2.out.kb K3 (fun e => N2.out e.symm))
    have KB := Lib.hid (KA.out.trans (K3.mono (T := fun k => (k = H ∨ k = Y) ∨ k = R) (fun k _ e => Or.inr e)))
    clear K3 B2 Y2 D2 KA
    generalize (u2.drewN n).setCell ⟨R, 1, none⟩ (.int .i64 (p.size : Int)) = u3 at *
    have cY := Y3.out.cell 0
    have fY := Y3.out.frozen 0
    simp at cY
    generalize p.extract 40 p.size = pay at *
    go_wp2_with fail
    go_end0
    refine ⟨Or.inl ⟨rfl, by rw [G0.out]; rfl, ?_, ?_⟩, ?_⟩
    · rw [HGH.out]; exact B3.out.set_other (p := ⟨Y, 0, none⟩) N3.out _
    · rw [HGS.out]; exact Y3.out.set 0 _
    · exact Kb.setCell (S := fun k => (k = H ∨ k = Y) ∨ k = R) KB.out (p := ⟨Y, 0, none⟩) (fun _ => Or.inl (Or.inr rfl)) _
  · have HGH : get6H p = H6.zero := by unfold get6H; rw [if_neg g0]
    have HGS : get6S p = ⟨#[]⟩ := by unfold get6S; rw [if_neg g0]
    refine ⟨rfl, Or.inr ⟨_, rfl, rfl, ?_, ?_⟩, k1.mono (fun k _ e => Or.inr e)⟩
    · rw [HGH]; exact HH.out.kb k1 (fun e => N1.out e.symm)
    · rw [HGS]; exact HY.out.kb k1 (fun e => N2.out e.symm)

theorem call6get (args : Array Value) (u : World) : (callFunc 86 args).run Try.prog u = .ok (.enter 86 args) u := by kernel_rfl

/-- Get's end. -/
def Get6End (p : ByteArray) (w : World) (e : Ending) (w' : World) : Prop := e = .returned (.tuple #[.agg (get6H p).cells, .string (get6S p), .int .i64 (get6E p : Nat)]) ∧ Below w.heap.size w w'

/-- Get's own blocks. -/
structure Get6Blks (w u : World) : Prop where
  z : Blk u w.heap.size H6.zero.cells 109
  h : Blk u (w.heap.size + 1) H6.zero.cells 109
  y : Blk u (w.heap.size + 1 + 1) #[.string ⟨#[]⟩] 9
  bel : Below w.heap.size w u
  size : u.heap.size = w.heap.size + 3
theorem Get6Blks.new (w : World) : Get6Blks w (((w.alloc (.cells H6.zero.cells 109)).alloc (.cells H6.zero.cells 109)).alloc (.cells #[.string ⟨#[]⟩] 9)) := by
  have e1 := Blk.new w H6.zero.cells 109
  generalize hw1 : w.alloc (.cells H6.zero.cells 109) = w1 at *
  have s1 : w1.heap.size = w.heap.size + 1 := by rw [← hw1]; simp
  have b1 : Below w.heap.size w w1 := by rw [← hw1]; exact (Below.refl _ _).alloc (Nat.le_refl _) _
  have e2 := Blk.new w1 H6.zero.cells 109
  have e1' : Blk (w1.alloc (.cells H6.zero.cells 109)) w.heap.size H6.zero.cells 109 := e1.alloc _
  generalize hw2 : w1.alloc (.cells H6.zero.cells 109) = w2 at *
  have s2 : w2.heap.size = w.heap.size + 2 := by rw [← hw2]; simp; omega
  have b2 : Below w.heap.size w w2 := by rw [← hw2]; exact b1.alloc (by omega) _
  have e3 := Blk.new w2 #[.string ⟨#[]⟩] 9
  rw [s1] at e2
  rw [s2] at e3
  exact ⟨e1'.alloc _, e2.alloc _, e3, b2.alloc (by omega) _, by simp; omega⟩

set_option maxHeartbeats 1000000 in
theorem get6_any (p : ByteArray) (w : World) (hs : p.size ≤ 1000000) :
    Calls Try.prog 63 #[.string p] w (Get6End p w) := by
  have hmf : ∀ (fn : Fn) (first cap : Array Value) (w : World), (Instr.makeFunc fn first cap).run Try.prog w = .ok (.func fn first cap) w := fun _ _ _ _ => rfl
  have G := Lib.hid (Get6Blks.new w)
  have HP : Hid (p.size ≤ 1000000) := hs
  clear hs
  go_enter Try.func63, Try.ntmps63
  go_wp2_with fail
  simp only [show #[Value.int IntKind.i64 0, Value.int IntKind.i64 0, Value.int IntKind.i64 0, Value.int IntKind.i64 0, Value.string { data := #[] }, Value.string { data := #[] }] = H6.zero.cells from rfl]
  generalize (((w.alloc (.cells H6.zero.cells 109)).alloc (.cells H6.zero.cells 109)).alloc (.cells #[.string ⟨#[]⟩] 9)) = u0 at *
  have hH : w.heap.size + 1 ≠ w.heap.size + 1 + 1 := by omega
  have RD := read_kb p 86 #[.pointer (some ⟨w.heap.size + 1, 0, none⟩), .pointer (some ⟨w.heap.size + 1 + 1, 0, none⟩)] u0 (fun k => k = w.heap.size + 1 ∨ k = w.heap.size + 1 + 1) (Got6At p (w.heap.size + 1) (w.heap.size + 1 + 1))
    (fun k hk => by have := G.out.size; omega) (fun args u => call6get args u) (fun R u hr hR hk => get61_any R (w.heap.size + 1) (w.heap.size + 1 + 1) p u HP.out hr (G.out.h.kb hk (fun f => f)) (G.out.y.kb hk (fun f => f)) (by have := G.out.size; omega) (by have := G.out.size; omega) hH)
  refine RD.mono ?_
  rintro e w2 ⟨k, w1, rfl, ⟨rfl, hb1, hy1⟩, hk1, hk2⟩
  have HS := G.out.size
  have B2 := Lib.hid (hb1.kb hk2 (by omega))
  have Y2 := Lib.hid (hy1.kb hk2 (by omega))
  have Z2 := Lib.hid ((G.out.z.kb hk1 (by omega)).kb hk2 (by omega))
  have L2 : Hid (Below w.heap.size w w2) := by
    show Below w.heap.size w w2
    have hb := G.out.bel
    exact ⟨hk2.os.trans (hk1.os.trans hb.os), hk2.tape.trans (hk1.tape.trans hb.tape), hk2.output.trans (hk1.output.trans hb.output), Nat.le_trans hb.size (Nat.le_trans hk1.size hk2.size), fun k hk =>
      (hk2.block k (by have := hk1.size; omega) (by omega)).trans ((hk1.block k (by omega) (by omega)).trans (hb.block k hk))⟩
  clear hb1 hy1 hk1 hk2 RD G HS hH hmf
  have ⟨c0, c1, c2, c3, c4, c5⟩ := Hc6.of B2.out
  have cY := Y2.out.cell 0
  simp at cY
  have ⟨z0, z1, z2, z3, z4, z5⟩ := Hc6.of Z2.out
  simp only [H6.zero] at z0 z1 z2 z3 z4 z5
  have f0 := Z2.out.frozen 0
  have f1 := Z2.out.frozen 1
  have f2 := Z2.out.frozen 2
  have f3 := Z2.out.frozen 3
  have f4 := Z2.out.frozen 4
  have f5 := Z2.out.frozen 5
  generalize hgh : get6H p = h at *
  have HGH := Lib.hid hgh
  clear hgh
  go_wp2_with fail
  go_region
  clear c0 c1 c2 c3 c4 c5 cY z0 z1 z2 z3 z4 z5 f0 f1 f2 f3 f4 f5
  go_wp2_with fail
  have B3 := (put6c_blk Z2.out h).drew
  have K3 := put6c_kb (S := fun k => w.heap.size ≤ k) (u := w) (N := w.heap.size) ⟨L2.out.os, L2.out.tape, L2.out.output, L2.out.size, fun k hk _ => L2.out.block k hk⟩ (fun _ => Nat.le_refl _) h
  have L3 := K3.drew.below (Nat.le_refl _)
  clear K3 Z2 Y2 B2 L2
  unfold put6c at B3 L3
  generalize ((((((w2.setCell ⟨w.heap.size, 0, none⟩ (.int .i64 h.cls)).setCell ⟨w.heap.size, 1, none⟩ (.int .i64 h.lab)).setCell ⟨w.heap.size, 2, none⟩ (.int .i64 h.nxt)).setCell ⟨w.heap.size, 3, none⟩ (.int .i64 h.hops)).setCell ⟨w.heap.size, 4, none⟩ (.string h.src)).setCell ⟨w.heap.size, 5, none⟩ (.string h.dst)).drew = W at *
  have ⟨c0, c1, c2, c3, c4, c5⟩ := Hc6.of B3
  refine ⟨rfl, .tuple #[.agg (get6H p).cells, .string (get6S p), .int .i64 (get6E p : Nat)], ?_, rfl, L3⟩
  rw [HGH.out]
  unfold H6.cells
  simp [results, Try.results63, go_sem, c0, c1, c2, c3, c4, c5]

end Go.Proofs.Ytppobficnjpdiaa
