/-
  Put: a header's packet.
-/
import Derived.Test.YtimcjhekldnipaaDoorIp6A
import Derived.Test.YtimcjhekldnipaaDoorWriting
import Derived.Test.YtimcjhekldnipaaDoorGround
namespace Go.Proofs.YtimcjhekldnipaaDoor
open Go.RowKit
set_option linter.unusedVariables false

/-- While it is written: the writer, and the header's block. -/
structure Pw6 (w u : World) (h : H6) (b : Nat) (bs : List UInt8) : Prop where
  wr : Wr u b (b + 1) bs
  hb : Blk u w.heap.size h.cells 25
  bel : Below w.heap.size w u
  lt : w.heap.size < b
theorem Pw6.step {w u u' : World} {h : H6} {b : Nat} {bs bs' : List UInt8} (p : Pw6 w u h b bs) (hw : Wr u' b (b + 1) bs') (hk : Kb (fun k => k = b ∨ b + 1 ≤ k) u u') : Pw6 w u' h b bs' := by
  have hlt := p.lt
  refine ⟨hw, p.hb.kb hk (by omega), p.bel.trans ?_, hlt⟩
  exact ⟨hk.os, hk.tape, hk.output, hk.size, fun k hk1 => hk.block k (by have := p.bel.size; omega) (by omega)⟩
theorem Pw6.drew {w u : World} {h : H6} {b : Nat} {bs : List UInt8} (p : Pw6 w u h b bs) : Pw6 w u.drew h b bs := by
  obtain ⟨v, hv, hown⟩ := p.wr.blk
  exact ⟨⟨⟨v, hv.drew, hown.drew⟩, p.wr.lt, p.wr.le⟩, p.hb.drew, ⟨p.bel.os, p.bel.tape, p.bel.output, p.bel.size, p.bel.block⟩, p.lt⟩
theorem Pw6.new {w u : World} {h : H6} (hb : Blk u w.heap.size h.cells 25) (bel : Below w.heap.size w u) : Pw6 w (u.alloc (.cells #[.slice none 0 0] 85)) h u.heap.size [] := by
  have hlt := hb.lt
  refine ⟨⟨⟨_, Blk.new u _ _, World.ownsRow_nil _ _ _ _⟩, by omega, by simp⟩, hb.alloc _, bel.alloc bel.size _, hlt⟩
theorem pw6_u8 {w u : World} {h : H6} {b : Nat} {bs : List UInt8} (p : Pw6 w u h b bs) (m : Int) (n : Nat) (hm : IntKind.u64.wrap m = n) (hn : n < 65536) (hl : bs.length ≤ 1000000) :
    Calls Tryd.prog 50 #[.pointer (some ⟨b, 0, none⟩), .int .i64 m] u fun e u' => e = .returned (.tuple #[]) ∧ Pw6 w u' h b (bs ++ be n 1) :=
  (wu8_any b (b + 1) bs m n u p.wr hm (by omega) (by omega)).mono fun e u' hh => ⟨hh.1, p.step hh.2.1 hh.2.2⟩
theorem pw6_u16 {w u : World} {h : H6} {b : Nat} {bs : List UInt8} (p : Pw6 w u h b bs) (m : Int) (n : Nat) (hm : IntKind.u64.wrap m = n) (hn : n < 65536) (hl : bs.length ≤ 1000000) :
    Calls Tryd.prog 51 #[.pointer (some ⟨b, 0, none⟩), .int .i64 m] u fun e u' => e = .returned (.tuple #[]) ∧ Pw6 w u' h b (bs ++ be n 2) :=
  (wu16_any b (b + 1) bs m n u p.wr hm (by omega) (by omega)).mono fun e u' hh => ⟨hh.1, p.step hh.2.1 hh.2.2⟩
theorem pw6_u32 {w u : World} {h : H6} {b : Nat} {bs : List UInt8} (p : Pw6 w u h b bs) (m : Int) (n : Nat) (hm : IntKind.u64.wrap m = n) (hn : n < 4294967296) (hl : bs.length ≤ 1000000) :
    Calls Tryd.prog 56 #[.pointer (some ⟨b, 0, none⟩), .int .u32 m] u fun e u' => e = .returned (.tuple #[]) ∧ Pw6 w u' h b (bs ++ be n 4) :=
  (wu32_any b (b + 1) bs m n u p.wr hm (by omega) (by omega)).mono fun e u' hh => ⟨hh.1, p.step hh.2.1 hh.2.2⟩
theorem pw6_text {w u : World} {h : H6} {b : Nat} {bs : List UInt8} (p : Pw6 w u h b bs) (s : ByteArray) (hl : bs.length ≤ 1000000) (hs : s.size ≤ 1000000) :
    Calls Tryd.prog 54 #[.pointer (some ⟨b, 0, none⟩), .string s] u fun e u' => e = .returned (.tuple #[]) ∧ Pw6 w u' h b (bs ++ s.data.toList) :=
  (wtext_any b (b + 1) bs s u p.wr (by omega)).mono fun e u' hh => ⟨hh.1, p.step hh.2.1 hh.2.2⟩
theorem wrap_nat6 (m : Int) (h0 : 0 ≤ m) (h1 : m < 65536) : IntKind.u64.wrap m = (m.toNat : Int) := by
  rw [wrap_u64_any]; omega

theorem u32_or_low (x y : Int) (i : Nat) (hx : 0 ≤ x) (hx1 : x < 4294967296) (hm : x % 2 ^ i = 0) (hy : 0 ≤ y) (hy1 : y < 2 ^ i) (hy2 : y < 4294967296) : bits .or .u32 x y = x + y := by
  refine bits_join .u32 32 (by decide) (fun n h0 h1 => ?_) i x y hx hm (by omega) hy hy1 (by omega)
  obtain ⟨a, rfl⟩ := Int.eq_ofNat_of_zero_le h0
  rw [wrap_u32w]
  have h2 : (a : Int) < 4294967296 := h1
  omega
theorem H6.word_code {h : H6} (hok : h.Ok) : IntKind.u64.wrap (bits .or .u32 (bits .or .u32 1610612736 (h.cls % 4294967296 * 1048576 % 4294967296)) (h.lab % 4294967296)) = (h.word : Nat) := by
  obtain ⟨h1, _, _, h4, _, _⟩ := hok
  have e1 : h.cls % 4294967296 * 1048576 % 4294967296 = h.cls * 1048576 := by omega
  have e2 : h.lab % 4294967296 = h.lab := by omega
  rw [e1, e2, u32_or_low 1610612736 (h.cls * 1048576) 28 (by decide) (by decide) (by decide) (by omega) (by show _ < (268435456 : Int); omega) (by omega),
    u32_or_low (1610612736 + h.cls * 1048576) h.lab 20 (by omega) (by omega) (by show _ % (1048576 : Int) = 0; omega) (by omega) (by show _ < (1048576 : Int); omega) (by omega), wrap_u64_any]
  unfold H6.word
  omega
theorem H6.word_lt {h : H6} (hok : h.Ok) : h.word < 4294967296 := by
  obtain ⟨h1, _, _, h4, _, _⟩ := hok
  unfold H6.word
  omega

set_option maxRecDepth 100000 in
set_option maxHeartbeats 1000000 in
theorem put6_yes (h : H6) (pay : ByteArray) (w : World) (hok : h.Ok) (hn : pay.size ≤ 65535) :
    Calls Tryd.prog 21 #[.agg h.cells, .string pay] w fun e w' => e = .returned (.tuple #[.string ⟨(h.pack pay).toArray⟩, .int .i64 0]) ∧ Below w.heap.size w w' := by
  have hc := check6_any h (w.alloc (.cells h.cells 25))
  rw [H6.err_ok ((H6.ok_iff h).2 hok)] at hc
  have HC := Lib.hid hc
  have S1 := Lib.hid (Held6.new w h)
  clear hc
  have HOK := Lib.hid hok
  have t1 : decide ((65535 : Int) < (pay.size : Int)) = false := by simp; omega
  have HN := Lib.hid hn
  clear hok hn
  unfold H6.cells at HC S1 ⊢
  go_enter Tryd.func21, Tryd.ntmps21
  go_wp2_with fail
  refine HC.out.mono ?_
  rintro e w1 ⟨rfl, hb⟩
  have S2 := Lib.hid (S1.out.below hb)
  clear S1 HC hb
  have ⟨c0, c1, c2, c3, c4, c5⟩ := Hc6.of S2.out.b
  have lN := S2.out.lt
  go_wp2_with fail
  have P0 := Lib.hid (Pw6.new S2.out.b S2.out.bel)
  clear c0 c1 c2 c3 c4 c5 S2
  generalize w1.alloc (.cells #[.slice none 0 0] 85) = u0 at *
  generalize w1.heap.size = b at *
  clear lN t1
  refine (pw6_u32 P0.out _ _ (H6.word_code HOK.out) (H6.word_lt HOK.out) (by decide)).mono ?_
  rintro e u1 ⟨rfl, p1⟩
  have P1 := Lib.hid p1
  clear p1 P0
  go_wp2_with fail
  refine (pw6_u16 P1.out _ pay.size (by rw [wrap_nat6 _ (by omega) (by have := HN.out; omega)]; omega) (by have := HN.out; omega) (by simp [be_length])).mono ?_
  rintro e u2 ⟨rfl, p2⟩
  have P2 := Lib.hid p2
  have ⟨c0, c1, c2, c3, c4, c5⟩ := Hc6.of p2.hb
  clear p2 P1
  go_wp2_with fail
  refine (pw6_u8 P2.out _ _ (wrap_nat6 _ HOK.out.nxt.1 (by have := HOK.out.nxt.2; omega)) (by have := HOK.out.nxt.2; omega) (by simp [be_length])).mono ?_
  rintro e u3 ⟨rfl, p3⟩
  have P3 := Lib.hid p3
  clear c0 c1 c2 c3 c4 c5
  have ⟨c0, c1, c2, c3, c4, c5⟩ := Hc6.of p3.hb
  clear p3 P2
  go_wp2_with fail
  refine (pw6_u8 P3.out _ _ (wrap_nat6 _ HOK.out.hops.1 (by have := HOK.out.hops.2; omega)) (by have := HOK.out.hops.2; omega) (by simp [be_length])).mono ?_
  rintro e u4 ⟨rfl, p4⟩
  have P4 := Lib.hid p4
  clear c0 c1 c2 c3 c4 c5
  have ⟨c0, c1, c2, c3, c4, c5⟩ := Hc6.of p4.hb
  clear p4 P3
  go_wp2_with fail
  refine (pw6_text P4.out _ (by simp [be_length]) (by rw [HOK.out.src]; omega)).mono ?_
  rintro e u5 ⟨rfl, p5⟩
  have P5 := Lib.hid p5
  clear c0 c1 c2 c3 c4 c5
  have ⟨c0, c1, c2, c3, c4, c5⟩ := Hc6.of p5.hb
  clear p5 P4
  go_wp2_with fail
  refine (pw6_text P5.out _ (by simp [be_length, HOK.out.src]) (by rw [HOK.out.dst]; omega)).mono ?_
  rintro e u6 ⟨rfl, p6⟩
  have P6 := Lib.hid p6
  clear p6 P5 c0 c1 c2 c3 c4 c5
  go_wp2_with fail
  refine (pw6_text P6.out pay (by simp [be_length, HOK.out.src, HOK.out.dst]) (by have := HN.out; omega)).mono ?_
  rintro e u7 ⟨rfl, p7⟩
  have P7 : Hid (Pw6 w u7 h b (h.pack pay)) := p7
  clear p7 P6
  go_wp2_with fail
  refine (wstring_any b (b + 1) _ _ P7.out.wr).mono ?_
  rintro e w' ⟨rfl, rfl⟩
  go_wp2_with fail
  go_ret2
  exact ⟨rfl, P7.out.bel⟩

set_option maxHeartbeats 400000 in
theorem put6_range (h : H6) (pay : ByteArray) (w : World) (hok : h.ok = false) :
    Calls Tryd.prog 21 #[.agg h.cells, .string pay] w fun e w' => e = .returned (.tuple #[.string ⟨#[]⟩, .int .i64 1]) ∧ Below w.heap.size w w' := by
  have hc := check6_any h (w.alloc (.cells h.cells 25))
  rw [H6.err_no hok] at hc
  have HC := Lib.hid hc
  have S1 := Lib.hid (Held6.new w h)
  clear hc hok
  unfold H6.cells at HC S1 ⊢
  go_enter Tryd.func21, Tryd.ntmps21
  go_wp2_with fail
  refine HC.out.mono ?_
  rintro e w1 ⟨rfl, hb⟩
  have S2 := Lib.hid (S1.out.below hb)
  clear S1 HC hb
  go_wp2_with fail
  go_ret2
  exact ⟨rfl, S2.out.bel⟩

set_option maxHeartbeats 400000 in
theorem put6_big (h : H6) (pay : ByteArray) (w : World) (hok : h.Ok) (hn : 65535 < pay.size) :
    Calls Tryd.prog 21 #[.agg h.cells, .string pay] w fun e w' => e = .returned (.tuple #[.string ⟨#[]⟩, .int .i64 4]) ∧ Below w.heap.size w w' := by
  have hc := check6_any h (w.alloc (.cells h.cells 25))
  rw [H6.err_ok ((H6.ok_iff h).2 hok)] at hc
  have HC := Lib.hid hc
  have S1 := Lib.hid (Held6.new w h)
  have t1 : decide ((65535 : Int) < (pay.size : Int)) = true := by simp; omega
  clear hc hok hn
  unfold H6.cells at HC S1 ⊢
  go_enter Tryd.func21, Tryd.ntmps21
  go_wp2_with fail
  refine HC.out.mono ?_
  rintro e w1 ⟨rfl, hb⟩
  have S2 := Lib.hid (S1.out.below hb)
  clear S1 HC hb
  go_wp2_with fail
  go_ret2
  exact ⟨rfl, S2.out.bel⟩

/-- Put's end. -/
def Put6End (h : H6) (pay : ByteArray) (w : World) (e : Ending) (w' : World) : Prop := e = .returned (.tuple #[.string (put6S h pay), .int .i64 (put6E h pay : Nat)]) ∧ Below w.heap.size w w'
theorem put6_any (h : H6) (pay : ByteArray) (w : World) : Calls Tryd.prog 21 #[.agg h.cells, .string pay] w (Put6End h pay w) := by
  unfold Put6End
  by_cases hok : h.ok = true
  · by_cases hn : 65535 < pay.size
    · have e : put6E h pay = 4 := by unfold put6E; rw [if_pos hok, if_pos hn]
      have s : put6S h pay = ⟨#[]⟩ := by unfold put6S; rw [if_neg (by omega)]
      rw [e, s]
      exact put6_big h pay w ((H6.ok_iff h).1 hok) hn
    · have e : put6E h pay = 0 := by unfold put6E; rw [if_pos hok, if_neg hn]
      have s : put6S h pay = ⟨(h.pack pay).toArray⟩ := by unfold put6S; rw [if_pos e]
      rw [e, s]
      exact put6_yes h pay w ((H6.ok_iff h).1 hok) (by omega)
  · have e : put6E h pay = 1 := by unfold put6E; rw [if_neg hok]
    have s : put6S h pay = ⟨#[]⟩ := by unfold put6S; rw [if_neg (by omega)]
    rw [e, s]
    exact put6_range h pay w (by simpa using hok)

end Go.Proofs.YtimcjhekldnipaaDoor
