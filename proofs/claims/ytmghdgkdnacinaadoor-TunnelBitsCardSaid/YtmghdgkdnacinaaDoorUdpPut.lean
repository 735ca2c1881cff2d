/-
  Put: a datagram's bytes.
-/
import Derived.Test.YtmghdgkdnacinaaDoorUdpA
import Derived.Test.YtmghdgkdnacinaaDoorWriting
import Derived.Test.YtmghdgkdnacinaaDoorGround
import Derived.LoopN
import Derived.IntWalk
namespace Go.Proofs.YtmghdgkdnacinaaDoor
open Go.RowKit
set_option linter.unusedVariables false

/-- While it is written: the writer, and the datagram's block. -/
structure Pw8 (w u : World) (h : D8) (b : Nat) (bs : List UInt8) : Prop where
  wr : Wr u b (b + 1) bs
  hb : Blk u w.heap.size h.cells 103
  bel : Below w.heap.size w u
  lt : w.heap.size < b
theorem Pw8.step {w u u' : World} {h : D8} {b : Nat} {bs bs' : List UInt8} (p : Pw8 w u h b bs) (hw : Wr u' b (b + 1) bs') (hk : Kb (fun k => k = b ∨ b + 1 ≤ k) u u') : Pw8 w u' h b bs' := by
  have hlt := p.lt
  refine ⟨hw, p.hb.kb hk (by omega), p.bel.trans ?_, hlt⟩
  exact ⟨hk.os, hk.tape, hk.output, hk.size, fun k hk1 => hk.block k (by have := p.bel.size; omega) (by omega)⟩
theorem Pw8.new {w u : World} {h : D8} (hb : Blk u w.heap.size h.cells 103) (bel : Below w.heap.size w u) : Pw8 w (u.alloc (.cells #[.slice none 0 0] 78)) h u.heap.size [] := by
  have hlt := hb.lt
  refine ⟨⟨⟨_, Blk.new u _ _, World.ownsRow_nil _ _ _ _⟩, by omega, by simp⟩, hb.alloc _, bel.alloc bel.size _, hlt⟩
theorem pw8_u16 {w u : World} {h : D8} {b : Nat} {bs : List UInt8} (p : Pw8 w u h b bs) (m : Int) (n : Nat) (hm : IntKind.u64.wrap m = n) (hn : n < 65536) (hl : bs.length ≤ 1000000) :
    Calls Tryd.prog 38 #[.pointer (some ⟨b, 0, none⟩), .int .i64 m] u fun e u' => e = .returned (.tuple #[]) ∧ Pw8 w u' h b (bs ++ be n 2) :=
  (wu16_any b (b + 1) bs m n u p.wr hm (by omega) (by omega)).mono fun e u' hh => ⟨hh.1, p.step hh.2.1 hh.2.2⟩
theorem pw8_text {w u : World} {h : D8} {b : Nat} {bs : List UInt8} (p : Pw8 w u h b bs) (s : ByteArray) (hl : bs.length ≤ 1000000) (hs : s.size ≤ 1000000) :
    Calls Tryd.prog 42 #[.pointer (some ⟨b, 0, none⟩), .string s] u fun e u' => e = .returned (.tuple #[]) ∧ Pw8 w u' h b (bs ++ s.data.toList) :=
  (wtext_any b (b + 1) bs s u p.wr (by omega)).mono fun e u' hh => ⟨hh.1, p.step hh.2.1 hh.2.2⟩
theorem wrap_nat8 (m : Int) (h0 : 0 ≤ m) (h1 : m < 4294967296) : IntKind.u64.wrap m = (m.toNat : Int) := by
  rw [wrap_u64_any]; omega

set_option maxRecDepth 100000 in
set_option maxHeartbeats 2000000 in
theorem put8_yes (h : D8) (sum : Int) (w : World) (hok : h.Ok) (hs : 0 ≤ sum ∧ sum ≤ 65535) :
    Calls Tryd.prog 54 #[.agg h.cells, .int .i64 sum] w fun e w' => e = .returned (.tuple #[.string ⟨(h.pack sum).toArray⟩, .int .i64 0]) ∧ Below w.heap.size w w' := by
  have hc := check8_any h (w.alloc (.cells h.cells 103))
  unfold Check8End at hc
  rw [(D8.err_zero h).2 hok] at hc
  have HC := Lib.hid hc
  have S1 := Lib.hid (Held8.new w h)
  have HS := Lib.hid ((in8_iff sum).2 hs)
  have HSU := Lib.hid hs
  have HOK := Lib.hid hok
  clear hc hok hs
  unfold D8.cells at HC S1 ⊢
  go_enter Tryd.func54, Tryd.ntmps54
  go_wp2_with fail
  refine HC.out.mono ?_
  rintro e w1 ⟨rfl, hb⟩
  have S2 := Lib.hid (S1.out.below hb)
  clear S1 HC hb
  go_wp2_with fail
  refine (isWord8_any _ _).mono ?_
  rintro e w2 ⟨rfl, rfl⟩
  rw [HS.out]
  have ⟨c0, c1, c2⟩ := Hc8.of S2.out.b
  have lN := S2.out.lt
  have i0 := fun (a b c d : Value) (u : World) => idx8_0 a b c d u
  have i1 := fun (a b c d : Value) (u : World) => idx8_1 a b c d u
  have i2 := fun (a b c d : Value) (u : World) => idx8_2 a b c d u
  have i3 := fun (a b c d : Value) (u : World) => idx8_3 a b c d u
  have hpl := HOK.out.pay
  go_wp2_with fail
  clear hpl
  have P0 := Lib.hid (Pw8.new S2.out.b S2.out.bel)
  clear c0 c1 c2 S2
  generalize w2.alloc (.cells #[.slice none 0 0] 78) = u0 at *
  generalize w2.heap.size = b at *
  clear lN
  refine wp_loop_rounds 5 ?_
  rw [rounds_succ]
  go_wp2_with fail
  refine (pw8_u16 P0.out _ _ (wrap_nat8 _ HOK.out.src.1 (by have := HOK.out.src.2; omega)) (by have := HOK.out.src.2; omega) (by decide)).mono ?_
  rintro e u1 ⟨rfl, p1⟩
  have P1 := Lib.hid p1
  clear p1 P0
  go_wp2_with fail
  rw [rounds_succ]
  go_wp2_with fail
  refine (pw8_u16 P1.out _ _ (wrap_nat8 _ HOK.out.dst.1 (by have := HOK.out.dst.2; omega)) (by have := HOK.out.dst.2; omega) (by simp [be_length])).mono ?_
  rintro e u2 ⟨rfl, p2⟩
  have P2 := Lib.hid p2
  clear p2 P1
  go_wp2_with fail
  rw [rounds_succ]
  go_wp2_with fail
  refine (pw8_u16 P2.out _ (8 + h.pay.size) (by rw [wrap_nat8 _ (by omega) (by have := HOK.out.pay; omega)]; omega) (by have := HOK.out.pay; omega) (by simp [be_length])).mono ?_
  rintro e u3 ⟨rfl, p3⟩
  have P3 := Lib.hid p3
  clear p3 P2
  go_wp2_with fail
  rw [rounds_succ]
  go_wp2_with fail
  refine (pw8_u16 P3.out _ _ (wrap_nat8 _ HSU.out.1 (by have := HSU.out.2; omega)) (by have := HSU.out.2; omega) (by simp [be_length])).mono ?_
  rintro e u4 ⟨rfl, p4⟩
  have P4 := Lib.hid p4
  clear p4 P3
  go_wp2_with fail
  rw [rounds_succ]
  have ⟨c0, c1, c2⟩ := Hc8.of P4.out.hb
  go_wp2_with fail
  refine (pw8_text P4.out _ (by simp [be_length]) (by have := HOK.out.pay; omega)).mono ?_
  rintro e u5 ⟨rfl, p5⟩
  have P5 : Hid (Pw8 w u5 h b (h.pack sum)) := p5
  clear c0 c1 c2 P4 p5
  go_wp2_with fail
  refine (wstring_any b (b + 1) _ _ P5.out.wr).mono ?_
  rintro e w' ⟨rfl, rfl⟩
  go_wp2_with fail
  go_ret2
  exact ⟨rfl, P5.out.bel⟩

set_option maxHeartbeats 1000000 in
theorem put8_check (h : D8) (sum : Int) (w : World) (hn : h.err ≠ 0) :
    Calls Tryd.prog 54 #[.agg h.cells, .int .i64 sum] w fun e w' => e = .returned (.tuple #[.string ⟨#[]⟩, .int .i64 (h.err : Nat)]) ∧ Below w.heap.size w w' := by
  have hc := check8_any h (w.alloc (.cells h.cells 103))
  unfold Check8End at hc
  have S1 := Lib.hid (Held8.new w h)
  generalize h.err = q at *
  have HC := Lib.hid hc
  clear hc
  have t1 : (((q : Nat) : Int) == 0) = false := by simp; omega
  have t2 : (((q : Nat) : Int) != 0) = true := by simp; omega
  clear hn
  unfold D8.cells at HC S1 ⊢
  go_enter Tryd.func54, Tryd.ntmps54
  go_wp2_with fail
  refine HC.out.mono ?_
  rintro e w1 ⟨rfl, hb⟩
  have S2 := Lib.hid (S1.out.below hb)
  clear S1 HC hb
  go_wp2_with fail
  go_ret2
  exact ⟨rfl, S2.out.bel⟩

set_option maxHeartbeats 1000000 in
theorem put8_sumno (h : D8) (sum : Int) (w : World) (h0 : h.err = 0) (hn : in8 sum = false) :
    Calls Tryd.prog 54 #[.agg h.cells, .int .i64 sum] w fun e w' => e = .returned (.tuple #[.string ⟨#[]⟩, .int .i64 1]) ∧ Below w.heap.size w w' := by
  have hc := check8_any h (w.alloc (.cells h.cells 103))
  unfold Check8End at hc
  have S1 := Lib.hid (Held8.new w h)
  rw [h0] at hc
  have HC := Lib.hid hc
  have HN := Lib.hid hn
  clear hc hn h0
  unfold D8.cells at HC S1 ⊢
  go_enter Tryd.func54, Tryd.ntmps54
  go_wp2_with fail
  refine HC.out.mono ?_
  rintro e w1 ⟨rfl, hb⟩
  have S2 := Lib.hid (S1.out.below hb)
  clear S1 HC hb
  go_wp2_with fail
  refine (isWord8_any _ _).mono ?_
  rintro e w2 ⟨rfl, rfl⟩
  rw [HN.out]
  go_wp2_with fail
  go_ret2
  exact ⟨rfl, S2.out.bel⟩

/-- Put's end. -/
def Put8End (h : D8) (sum : Int) (w : World) (e : Ending) (w' : World) : Prop := e = .returned (.tuple #[.string (put8S h sum), .int .i64 (put8E h sum : Nat)]) ∧ Below w.heap.size w w'
theorem put8_any (h : D8) (sum : Int) (w : World) : Calls Tryd.prog 54 #[.agg h.cells, .int .i64 sum] w (Put8End h sum w) := by
  unfold Put8End
  by_cases h0 : h.err = 0
  case neg =>
    rw [(put8_err h0).1, (put8_err h0).2]
    exact put8_check h sum w h0
  cases hn : in8 sum with
  | false =>
    rw [(put8_sum h0 hn).1, (put8_sum h0 hn).2]
    exact put8_sumno h sum w h0 hn
  | true =>
    have hok := (D8.err_zero h).1 h0
    have hs := (in8_iff _).1 hn
    rw [(put8_ok hok hs).1, (put8_ok hok hs).2]
    exact put8_yes h sum w hok hs

end Go.Proofs.YtmghdgkdnacinaaDoor
