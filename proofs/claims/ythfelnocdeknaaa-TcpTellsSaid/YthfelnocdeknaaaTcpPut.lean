/-
  Put: a segment's bytes.
-/
import Derived.Test.YthfelnocdeknaaaTcpCheck
import Derived.Test.YthfelnocdeknaaaWrNum
import Derived.Test.YthfelnocdeknaaaBits
namespace Go.Proofs.Ythfelnocdeknaaa
open Go.RowKit
set_option linter.unusedVariables false

/-- While it is written: the writer, and the segment's block. -/
structure Pw7 (w u : World) (h : S7) (b : Nat) (bs : List UInt8) : Prop where
  wr : Wr u b (b + 1) bs
  hb : Blk u w.heap.size h.cells 24
  bel : Below w.heap.size w u
  lt : w.heap.size < b
theorem Pw7.step {w u u' : World} {h : S7} {b : Nat} {bs bs' : List UInt8} (p : Pw7 w u h b bs) (hw : Wr u' b (b + 1) bs') (hk : Kb (fun k => k = b ∨ b + 1 ≤ k) u u') : Pw7 w u' h b bs' := by
  have hlt := p.lt
  refine ⟨hw, p.hb.kb hk (by omega), p.bel.trans ?_, hlt⟩
  exact ⟨hk.os, hk.tape, hk.output, hk.size, fun k hk1 => hk.block k (by have := p.bel.size; omega) (by omega)⟩
theorem Pw7.new {w u : World} {h : S7} (hb : Blk u w.heap.size h.cells 24) (bel : Below w.heap.size w u) : Pw7 w (u.alloc (.cells #[.slice none 0 0] 51)) h u.heap.size [] := by
  have hlt := hb.lt
  refine ⟨⟨⟨_, Blk.new u _ _, World.ownsRow_nil _ _ _ _⟩, by omega, by simp⟩, hb.alloc _, bel.alloc bel.size _, hlt⟩
theorem pw7_u8 {w u : World} {h : S7} {b : Nat} {bs : List UInt8} (p : Pw7 w u h b bs) (m : Int) (n : Nat) (hm : IntKind.u64.wrap m = n) (hn : n < 65536) (hl : bs.length ≤ 1000000) :
    Calls Try.prog 23 #[.pointer (some ⟨b, 0, none⟩), .int .i64 m] u fun e u' => e = .returned (.tuple #[]) ∧ Pw7 w u' h b (bs ++ be n 1) :=
  (wu8_any b (b + 1) bs m n u p.wr hm (by omega) (by omega)).mono fun e u' hh => ⟨hh.1, p.step hh.2.1 hh.2.2⟩
theorem pw7_u16 {w u : World} {h : S7} {b : Nat} {bs : List UInt8} (p : Pw7 w u h b bs) (m : Int) (n : Nat) (hm : IntKind.u64.wrap m = n) (hn : n < 65536) (hl : bs.length ≤ 1000000) :
    Calls Try.prog 21 #[.pointer (some ⟨b, 0, none⟩), .int .i64 m] u fun e u' => e = .returned (.tuple #[]) ∧ Pw7 w u' h b (bs ++ be n 2) :=
  (wu16_any b (b + 1) bs m n u p.wr hm (by omega) (by omega)).mono fun e u' hh => ⟨hh.1, p.step hh.2.1 hh.2.2⟩
theorem pw7_u32 {w u : World} {h : S7} {b : Nat} {bs : List UInt8} (p : Pw7 w u h b bs) (m : Int) (n : Nat) (hm : IntKind.u64.wrap m = n) (hn : n < 4294967296) (hl : bs.length ≤ 1000000) :
    Calls Try.prog 22 #[.pointer (some ⟨b, 0, none⟩), .int .u32 m] u fun e u' => e = .returned (.tuple #[]) ∧ Pw7 w u' h b (bs ++ be n 4) :=
  (wu32_any b (b + 1) bs m n u p.wr hm (by omega) (by omega)).mono fun e u' hh => ⟨hh.1, p.step hh.2.1 hh.2.2⟩
theorem pw7_text {w u : World} {h : S7} {b : Nat} {bs : List UInt8} (p : Pw7 w u h b bs) (s : ByteArray) (hl : bs.length ≤ 1000000) (hs : s.size ≤ 1000000) :
    Calls Try.prog 24 #[.pointer (some ⟨b, 0, none⟩), .string s] u fun e u' => e = .returned (.tuple #[]) ∧ Pw7 w u' h b (bs ++ s.data.toList) :=
  (wtext_any b (b + 1) bs s u p.wr (by omega)).mono fun e u' hh => ⟨hh.1, p.step hh.2.1 hh.2.2⟩
theorem wrap_nat7 (m : Int) (h0 : 0 ≤ m) (h1 : m < 4294967296) : IntKind.u64.wrap m = (m.toNat : Int) := by
  rw [wrap_u64_any]; omega

set_option maxRecDepth 100000 in
set_option maxHeartbeats 2000000 in
theorem put7_yes (h : S7) (sum : Int) (w : World) (hok : h.Ok) (hwf : h.Wf) (hs : 0 ≤ sum ∧ sum ≤ 65535) (hp : h.pay.size ≤ 1000000) :
    Calls Try.prog 10 #[.agg h.cells, .int .i64 sum] w fun e w' => e = .returned (.tuple #[.string ⟨(h.pack sum).toArray⟩, .int .i64 0]) ∧ Below w.heap.size w w' := by
  have hc := check7_any h (w.alloc (.cells h.cells 24))
  unfold Check7End at hc
  rw [S7.err_ok ((S7.ok_iff h).2 hok)] at hc
  have HC := Lib.hid hc
  have S1 := Lib.hid (Held7.new w h)
  have HS := Lib.hid ((inR_iff sum 65535).2 hs)
  have HSU := Lib.hid hs
  have HOK := Lib.hid hok
  have HWF := Lib.hid hwf
  have HP := Lib.hid hp
  clear hc hok hwf hs hp
  unfold S7.cells at HC S1 ⊢
  go_enter Try.func10, Try.ntmps10
  go_wp2_with fail
  refine HC.out.mono ?_
  rintro e w1 ⟨rfl, hb⟩
  have S2 := Lib.hid (S1.out.below hb)
  clear S1 HC hb
  go_wp2_with fail
  refine (within_any _ _ _).mono ?_
  rintro e w2 ⟨rfl, rfl⟩
  rw [HS.out]
  have ⟨c0, c1, c2, c3, c4, c5, c6, c7, c8⟩ := Hc7.of S2.out.b
  have lN := S2.out.lt
  go_wp2_with fail
  have P0 := Lib.hid (Pw7.new S2.out.b S2.out.bel)
  clear c0 c1 c2 c3 c4 c5 c6 c7 c8 S2
  generalize w2.alloc (.cells #[.slice none 0 0] 51) = u0 at *
  generalize w2.heap.size = b at *
  clear lN
  have ⟨c0, c1, c2, c3, c4, c5, c6, c7, c8⟩ := Hc7.of P0.out.hb
  try go_wp2_with fail
  refine (pw7_u16 P0.out _ _ (wrap_nat7 _ HOK.out.src.1 (by have := HOK.out.src.2; omega)) (by have := HOK.out.src.2; omega) (by decide)).mono ?_
  rintro e u1 ⟨rfl, p1⟩
  have P1 := Lib.hid p1
  clear c0 c1 c2 c3 c4 c5 c6 c7 c8 P0
  have ⟨c0, c1, c2, c3, c4, c5, c6, c7, c8⟩ := Hc7.of p1.hb
  clear p1
  go_wp2_with fail
  refine (pw7_u16 P1.out _ _ (wrap_nat7 _ HOK.out.dst.1 (by have := HOK.out.dst.2; omega)) (by have := HOK.out.dst.2; omega) (by simp [be_length])).mono ?_
  rintro e u2 ⟨rfl, p2⟩
  have P2 := Lib.hid p2
  clear c0 c1 c2 c3 c4 c5 c6 c7 c8 P1
  have ⟨c0, c1, c2, c3, c4, c5, c6, c7, c8⟩ := Hc7.of p2.hb
  clear p2
  go_wp2_with fail
  refine (pw7_u32 P2.out _ _ (wrap_nat7 _ HWF.out.seq.1 HWF.out.seq.2) (by have := HWF.out.seq.2; omega) (by simp [be_length])).mono ?_
  rintro e u3 ⟨rfl, p3⟩
  have P3 := Lib.hid p3
  clear c0 c1 c2 c3 c4 c5 c6 c7 c8 P2
  have ⟨c0, c1, c2, c3, c4, c5, c6, c7, c8⟩ := Hc7.of p3.hb
  clear p3
  go_wp2_with fail
  refine (pw7_u32 P3.out _ _ (wrap_nat7 _ HWF.out.ack.1 HWF.out.ack.2) (by have := HWF.out.ack.2; omega) (by simp [be_length])).mono ?_
  rintro e u4 ⟨rfl, p4⟩
  have P4 := Lib.hid p4
  clear c0 c1 c2 c3 c4 c5 c6 c7 c8 P3
  have ⟨c0, c1, c2, c3, c4, c5, c6, c7, c8⟩ := Hc7.of p4.hb
  clear p4
  have hf := HOK.out.few
  go_wp2_with fail
  clear hf
  refine (pw7_u8 P4.out _ ((5 + h.opt.size / 4) * 16) (by rw [wrap_u64_any]; have := HOK.out.few; have := HOK.out.four; omega) (by have := HOK.out.few; omega) (by simp [be_length])).mono ?_
  rintro e u5 ⟨rfl, p5⟩
  have P5 := Lib.hid p5
  clear c0 c1 c2 c3 c4 c5 c6 c7 c8 P4
  have ⟨c0, c1, c2, c3, c4, c5, c6, c7, c8⟩ := Hc7.of p5.hb
  clear p5
  go_wp2_with fail
  refine (pw7_u8 P5.out _ _ (wrap_nat7 _ HOK.out.flg.1 (by have := HOK.out.flg.2; omega)) (by have := HOK.out.flg.2; omega) (by simp [be_length])).mono ?_
  rintro e u6 ⟨rfl, p6⟩
  have P6 := Lib.hid p6
  clear c0 c1 c2 c3 c4 c5 c6 c7 c8 P5
  have ⟨c0, c1, c2, c3, c4, c5, c6, c7, c8⟩ := Hc7.of p6.hb
  clear p6
  go_wp2_with fail
  refine (pw7_u16 P6.out _ _ (wrap_nat7 _ HOK.out.win.1 (by have := HOK.out.win.2; omega)) (by have := HOK.out.win.2; omega) (by simp [be_length])).mono ?_
  rintro e u7 ⟨rfl, p7⟩
  have P7 := Lib.hid p7
  clear c0 c1 c2 c3 c4 c5 c6 c7 c8 P6
  have ⟨c0, c1, c2, c3, c4, c5, c6, c7, c8⟩ := Hc7.of p7.hb
  clear p7
  go_wp2_with fail
  refine (pw7_u16 P7.out _ _ (wrap_nat7 _ HSU.out.1 (by have := HSU.out.2; omega)) (by have := HSU.out.2; omega) (by simp [be_length])).mono ?_
  rintro e u8 ⟨rfl, p8⟩
  have P8 := Lib.hid p8
  clear c0 c1 c2 c3 c4 c5 c6 c7 c8 P7
  have ⟨c0, c1, c2, c3, c4, c5, c6, c7, c8⟩ := Hc7.of p8.hb
  clear p8
  go_wp2_with fail
  refine (pw7_u16 P8.out _ _ (wrap_nat7 _ HOK.out.urg.1 (by have := HOK.out.urg.2; omega)) (by have := HOK.out.urg.2; omega) (by simp [be_length])).mono ?_
  rintro e u9 ⟨rfl, p9⟩
  have P9 := Lib.hid p9
  clear c0 c1 c2 c3 c4 c5 c6 c7 c8 P8
  have ⟨c0, c1, c2, c3, c4, c5, c6, c7, c8⟩ := Hc7.of p9.hb
  clear p9
  go_wp2_with fail
  refine (pw7_text P9.out _ (by simp [be_length]) (by have := HOK.out.few; omega)).mono ?_
  rintro e u10 ⟨rfl, p10⟩
  have P10 := Lib.hid p10
  clear c0 c1 c2 c3 c4 c5 c6 c7 c8 P9
  have ⟨c0, c1, c2, c3, c4, c5, c6, c7, c8⟩ := Hc7.of p10.hb
  clear p10
  go_wp2_with fail
  refine (pw7_text P10.out _ (by have := HOK.out.few; simp [be_length]; omega) HP.out).mono ?_
  rintro e u11 ⟨rfl, p11⟩
  have P11 : Hid (Pw7 w u11 h b (h.pack sum)) := p11
  clear c0 c1 c2 c3 c4 c5 c6 c7 c8 P10
  have ⟨c0, c1, c2, c3, c4, c5, c6, c7, c8⟩ := Hc7.of p11.hb
  clear p11
  go_wp2_with fail
  refine (wstring_any b (b + 1) _ _ P11.out.wr).mono ?_
  rintro e w' ⟨rfl, rfl⟩
  go_wp2_with fail
  go_ret2
  exact ⟨rfl, P11.out.bel⟩

set_option maxHeartbeats 1000000 in
theorem put7_refused (h : S7) (sum : Int) (w : World) (hn : (h.ok && inR sum 65535) = false) :
    Calls Try.prog 10 #[.agg h.cells, .int .i64 sum] w fun e w' => e = .returned (.tuple #[.string ⟨#[]⟩, .int .i64 1]) ∧ Below w.heap.size w w' := by
  have hc := check7_any h (w.alloc (.cells h.cells 24))
  unfold Check7End at hc
  have S1 := Lib.hid (Held7.new w h)
  cases hok : h.ok with
  | false =>
    rw [S7.err_no hok] at hc
    have HC := Lib.hid hc
    clear hc hok hn
    unfold S7.cells at HC S1 ⊢
    go_enter Try.func10, Try.ntmps10
    go_wp2_with fail
    refine HC.out.mono ?_
    rintro e w1 ⟨rfl, hb⟩
    have S2 := Lib.hid (S1.out.below hb)
    clear S1 HC hb
    go_wp2_with fail
    go_ret2
    exact ⟨rfl, S2.out.bel⟩
  | true =>
    rw [S7.err_ok hok] at hc
    rw [hok, Bool.true_and] at hn
    have HC := Lib.hid hc
    have HN := Lib.hid hn
    clear hc hok hn
    unfold S7.cells at HC S1 ⊢
    go_enter Try.func10, Try.ntmps10
    go_wp2_with fail
    refine HC.out.mono ?_
    rintro e w1 ⟨rfl, hb⟩
    have S2 := Lib.hid (S1.out.below hb)
    clear S1 HC hb
    go_wp2_with fail
    refine (within_any _ _ _).mono ?_
    rintro e w2 ⟨rfl, rfl⟩
    rw [HN.out]
    go_wp2_with fail
    go_ret2
    exact ⟨rfl, S2.out.bel⟩

/-- Put's end. -/
def Put7End (h : S7) (sum : Int) (w : World) (e : Ending) (w' : World) : Prop := e = .returned (.tuple #[.string (put7S h sum), .int .i64 (put7E h sum : Nat)]) ∧ Below w.heap.size w w'
theorem put7_any (h : S7) (sum : Int) (w : World) (hwf : h.Wf) (hp : h.pay.size ≤ 1000000) : Calls Try.prog 10 #[.agg h.cells, .int .i64 sum] w (Put7End h sum w) := by
  unfold Put7End
  cases hn : (h.ok && inR sum 65535) with
  | false =>
    rw [(put7_no hn).1, (put7_no hn).2]
    exact put7_refused h sum w hn
  | true =>
    have h2 := Bool.and_eq_true_iff.1 hn
    have hok := (S7.ok_iff h).1 h2.1
    have hs := (inR_iff _ _).1 h2.2
    rw [(put7_ok hok hs).1, (put7_ok hok hs).2]
    exact put7_yes h sum w hok hwf hs hp

end Go.Proofs.Ythfelnocdeknaaa
