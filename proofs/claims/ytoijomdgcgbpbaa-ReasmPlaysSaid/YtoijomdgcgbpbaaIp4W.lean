/-
  Put: a header's packet.
-/
import Derived.Test.YtoijomdgcgbpbaaIp4A
import Derived.Test.YtoijomdgcgbpbaaWriting
import Derived.Test.YtoijomdgcgbpbaaSums
import Derived.Test.YtoijomdgcgbpbaaGround
import Derived.StillTailTactics
import Derived.Deep.RegionHeld3
namespace Go.Proofs.Ytoijomdgcgbpbaa
open Go.RowKit
set_option linter.unusedVariables false

/-- 1 or 0. -/
def bitN (b : Bool) : Nat := if b then 1 else 0
theorem bit_any (b : Bool) (w : World) : Calls Try.prog 88 #[.bool b] w fun e w' => e = .returned (.int .i64 (bitN b : Nat)) ∧ w = w' := by
  cases b
  · go_enter Try.func88, Try.ntmps88
    go_wp2_with fail
    go_ret
    exact ⟨rfl, rfl⟩
  · go_enter Try.func88, Try.ntmps88
    go_wp2_with fail
    go_ret
    exact ⟨rfl, rfl⟩

theorem bit_still (b : Bool) (w : World) : Calls Try.prog 88 #[.bool b] w fun e w' => e = .returned (.int .i64 (bitN b : Nat)) ∧ w' = w := (bit_any b w).mono fun e w' h => ⟨h.1, h.2.symm⟩

/-- While a packet is written: the header's block, the writer. -/
structure Pw (w u : World) (h : H4) (b : Nat) (bs : List UInt8) : Prop where
  wr : Wr u b (b + 1) bs
  hb : Blk u w.heap.size h.cells 43
  bel : Below w.heap.size w u
  lt : w.heap.size < b
theorem Pw.step {w u u' : World} {h : H4} {b : Nat} {bs bs' : List UInt8} (p : Pw w u h b bs) (hw : Wr u' b (b + 1) bs') (hk : Kb (fun k => k = b ∨ b + 1 ≤ k) u u') : Pw w u' h b bs' := by
  have hlt := p.lt
  refine ⟨hw, p.hb.kb hk (by omega), p.bel.trans ?_, hlt⟩
  exact ⟨hk.os, hk.tape, hk.output, hk.size, fun k hk1 => hk.block k (by have := p.bel.size; omega) (by omega)⟩
theorem Pw.below {w u u' : World} {h : H4} {b : Nat} {bs : List UInt8} (p : Pw w u h b bs) (hb : Below u.heap.size u u') : Pw w u' h b bs := by
  have h1 := p.lt
  have h2 := p.bel.size
  obtain ⟨v, hv, hown⟩ := p.wr.blk
  have hlt := hv.lt
  refine ⟨⟨⟨v, (hb.block b hlt).trans hv, hown.kept (row := none) ⟨hb.os, hb.tape, hb.output, hb.size, fun k hk _ => hb.block k hk⟩ ?_⟩, p.wr.lt, Nat.le_trans p.wr.le hb.size⟩, (hb.block _ p.hb.lt).trans p.hb, p.bel.trans (hb.mono h2), h1⟩
  cases hvo : v.ownBlock
  · exact Or.inl rfl
  · exact Or.inr (by simp)
theorem Pw.drew {w u : World} {h : H4} {b : Nat} {bs : List UInt8} (p : Pw w u h b bs) : Pw w u.drew h b bs := by
  obtain ⟨v, hv, hown⟩ := p.wr.blk
  exact ⟨⟨⟨v, hv.drew, hown.drew⟩, p.wr.lt, p.wr.le⟩, p.hb.drew, ⟨p.bel.os, p.bel.tape, p.bel.output, p.bel.size, p.bel.block⟩, p.lt⟩
theorem Pw.new {w u : World} {h : H4} (hb : Blk u w.heap.size h.cells 43) (bel : Below w.heap.size w u) : Pw w (u.alloc (.cells #[.slice none 0 0] 141)) h u.heap.size [] := by
  have hlt := hb.lt
  refine ⟨⟨⟨_, Blk.new u _ _, World.ownsRow_nil _ _ _ _⟩, by omega, by simp⟩, hb.alloc _, bel.alloc bel.size _, hlt⟩
theorem pw_u8 {w u : World} {h : H4} {b : Nat} {bs : List UInt8} (p : Pw w u h b bs) (m : Int) (n : Nat) (hm : IntKind.u64.wrap m = n) (hn : n < 65536) (hl : bs.length ≤ 1000000) :
    Calls Try.prog 86 #[.pointer (some ⟨b, 0, none⟩), .int .i64 m] u fun e u' => e = .returned (.tuple #[]) ∧ Pw w u' h b (bs ++ be n 1) :=
  (wu8_any b (b + 1) bs m n u p.wr hm (by omega) (by omega)).mono fun e u' hh => ⟨hh.1, p.step hh.2.1 hh.2.2⟩
theorem pw_u16 {w u : World} {h : H4} {b : Nat} {bs : List UInt8} (p : Pw w u h b bs) (m : Int) (n : Nat) (hm : IntKind.u64.wrap m = n) (hn : n < 65536) (hl : bs.length ≤ 1000000) :
    Calls Try.prog 87 #[.pointer (some ⟨b, 0, none⟩), .int .i64 m] u fun e u' => e = .returned (.tuple #[]) ∧ Pw w u' h b (bs ++ be n 2) :=
  (wu16_any b (b + 1) bs m n u p.wr hm (by omega) (by omega)).mono fun e u' hh => ⟨hh.1, p.step hh.2.1 hh.2.2⟩
theorem pw_text {w u : World} {h : H4} {b : Nat} {bs : List UInt8} (p : Pw w u h b bs) (s : ByteArray) (hl : bs.length ≤ 1000000) (hs : s.size ≤ 1000000) :
    Calls Try.prog 91 #[.pointer (some ⟨b, 0, none⟩), .string s] u fun e u' => e = .returned (.tuple #[]) ∧ Pw w u' h b (bs ++ s.data.toList) :=
  (wtext_any b (b + 1) bs s u p.wr (by omega)).mono fun e u' hh => ⟨hh.1, p.step hh.2.1 hh.2.2⟩

theorem wrap_nat (m : Int) (h0 : 0 ≤ m) (h1 : m < 65536) : IntKind.u64.wrap m = (m.toNat : Int) := by
  rw [wrap_u64_any]; omega
theorem first_byte (h : H4) (ho : h.opt.size ≤ 40) : IntKind.u64.wrap (bits .or .i64 64 ((20 + (h.opt.size : Int)) / 4)) = ((64 + h.size / 4 : Nat) : Int) := by
  rw [i64_or_low 64 _ 6 (by decide) (by decide) (by decide) (by decide) (by omega) (by show _ < (64 : Int); omega), wrap_nat _ (by omega) (by omega)]
  unfold H4.size
  omega

theorem flags_word (h : H4) (h0 : 0 ≤ h.off) (h1 : h.off ≤ 8191) : IntKind.u64.wrap (bits .or .i64 (bits .or .i64 (wrap64 ((bitN h.df : Nat) * 16384)) (wrap64 ((bitN h.mf : Nat) * 8192))) h.off) = ((h.flags : Nat) : Int) := by
  have key : ∃ x : Nat, bits .or .i64 (wrap64 ((bitN h.df : Nat) * 16384)) (wrap64 ((bitN h.mf : Nat) * 8192)) = (x : Int) ∧ x % 8192 = 0 ∧ x ≤ 24576 ∧ h.flags = x + h.off.toNat := by
    unfold H4.flags
    cases h.df <;> cases h.mf
    · exact ⟨0, by decide +kernel, by decide, by decide, by simp⟩
    · exact ⟨8192, by decide +kernel, by decide, by decide, by simp⟩
    · exact ⟨16384, by decide +kernel, by decide, by decide, by simp⟩
    · exact ⟨24576, by decide +kernel, by decide, by decide, by simp⟩
  obtain ⟨x, e, hx, hx1, hf⟩ := key
  rw [e, i64_or_low _ _ 13 (by decide) (by omega) (by omega) (by show (x : Int) % 8192 = 0; omega) h0 (by show h.off < 8192; omega), wrap_nat _ (by omega) (by omega), hf]
  omega
theorem flags_lt (h : H4) (h1 : h.off ≤ 8191) : h.flags < 65536 := by
  unfold H4.flags
  split <;> split <;> omega
theorem sum_2n (x y : ByteArray) (w : World) (N : Nat) (hN : N = w.heap.size) (hx : x.size ≤ 1000000) (hy : y.size ≤ 1000000) :
    Calls Try.prog 89 #[.slice (some ⟨N, 0, none⟩) 2 2] (w.alloc (.cells #[.string x, .string y] 9)) (SumEnd (sumD (x.data.toList ++ y.data.toList)) w) := by
  subst hN
  have := lit_sum [x, y] w 2 #[.string x, .string y] rfl rfl (by rw [joined_2]; simp only [List.length_append, size_list]; omega) (by omega)
  rwa [joined_2] at this

theorem H4.head_length (h : H4) (n : Nat) : (h.head n).length = 10 := by simp [H4.head, be_length]
theorem tail_cat (h : H4) : (h.src ++ h.dst ++ h.opt).data.toList = h.tail := by rw [cat_list, cat_list]; rfl

set_option maxRecDepth 100000 in
set_option maxHeartbeats 1000000 in
theorem put_yes (h : H4) (pay : ByteArray) (w : World) (hok : h.Ok) (hn : h.size + pay.size ≤ 65535) :
    Calls Try.prog 60 #[.agg h.cells, .string pay] w fun e w' => e = .returned (.tuple #[.string ⟨(h.pack pay).toArray⟩, .int .i64 0]) ∧ Below w.heap.size w w' := by
  have hc := check_any h (w.alloc (.cells h.cells 43))
  rw [H4.err_ok ((H4.ok_iff h).2 hok)] at hc
  have HC := Lib.hid hc
  have HB1 := Lib.hid (Blk.new w h.cells 43)
  have HL1 := Lib.hid ((Below.refl w.heap.size w).alloc (Nat.le_refl _) (.cells h.cells 43))
  clear hc
  have hos : h.opt.size ≤ 40 := hok.opt
  have hps : pay.size ≤ 65535 := by omega
  have HOK := Lib.hid hok
  have HN := Lib.hid hn
  have hn1 : 20 + (h.opt.size : Int) + (pay.size : Int) ≤ 65535 := by unfold H4.size at hn; omega
  clear hok hn
  unfold H4.cells at HC HB1 HL1 ⊢
  go_enter Try.func60, Try.ntmps60
  go_wp2_with fail
  refine HC.out.mono ?_
  rintro e w1 ⟨rfl, hb⟩
  have HB2 : Hid (Blk w1 w.heap.size h.cells 43) := (hb.block _ (by simp)).trans HB1.out
  have HL2 : Hid (Below w.heap.size w w1) := HL1.out.trans (hb.mono (by simp))
  clear HB1 HL1 HC hb
  have ⟨c0, c1, c2, c3, c4, c5, c6, c7, c8, c9⟩ := Hc.of HB2.out
  go_wp2_with fail
  have P0 := Lib.hid (Pw.new HB2.out HL2.out)
  clear c0 c1 c2 c3 c4 c5 c6 c7 c8 c9 HB2 HL2
  generalize w1.alloc (.cells #[.slice none 0 0] 141) = u0 at *
  generalize w1.heap.size = b at *
  refine (pw_u8 P0.out _ _ (first_byte h hos) (by unfold H4.size; omega) (by decide)).mono ?_
  rintro e u1 ⟨rfl, p1⟩
  have P1 := Lib.hid p1
  have ⟨c0, c1, c2, c3, c4, c5, c6, c7, c8, c9⟩ := Hc.of p1.hb
  clear p1 P0
  go_wp2_with fail
  refine (pw_u8 P1.out _ _ (wrap_nat _ HOK.out.tos.1 (by have := HOK.out.tos.2; omega)) (by have := HOK.out.tos.2; omega) (by simp [be_length])).mono ?_
  rintro e u2 ⟨rfl, p2⟩
  have P2 := Lib.hid p2
  clear p2 P1 c0 c1 c2 c3 c4 c5 c6 c7 c8 c9
  go_wp2_with fail
  refine (pw_u16 P2.out _ (h.size + pay.size) (by rw [wrap_nat _ (by omega) (by omega)]; unfold H4.size; omega) (by have := HN.out; omega) (by simp [be_length])).mono ?_
  rintro e u3 ⟨rfl, p3⟩
  have P3 := Lib.hid p3
  have ⟨c0, c1, c2, c3, c4, c5, c6, c7, c8, c9⟩ := Hc.of p3.hb
  clear p3 P2
  go_wp2_with fail
  refine (pw_u16 P3.out _ _ (wrap_nat _ HOK.out.id.1 (by have := HOK.out.id.2; omega)) (by have := HOK.out.id.2; omega) (by simp [be_length])).mono ?_
  rintro e u4 ⟨rfl, p4⟩
  have P4 := Lib.hid p4
  clear c0 c1 c2 c3 c4 c5 c6 c7 c8 c9
  have ⟨c0, c1, c2, c3, c4, c5, c6, c7, c8, c9⟩ := Hc.of p4.hb
  clear p4 P3
  go_wp2_with fail
  refine wp_region_still_tail 12 (by kernel_rfl) (by kernel_rfl) ?_
  simp only [List.take_succ_cons, List.take_zero, List.drop_succ_cons, List.drop_zero]
  repeat still_step
  still_call (bit_still _ _)
  repeat still_step
  still_call (bit_still _ _)
  repeat still_step
  refine wpStill_nil ?_
  change wpList _ _ _ _ _ u4.drew
  go_wp2_with fail
  refine (pw_u16 P4.out.drew _ _ (flags_word h HOK.out.off.1 HOK.out.off.2) (flags_lt h HOK.out.off.2) (by simp [be_length])).mono ?_
  rintro e u5 ⟨rfl, p5⟩
  have P5 := Lib.hid p5
  clear c0 c1 c2 c3 c4 c5 c6 c7 c8 c9
  have ⟨c0, c1, c2, c3, c4, c5, c6, c7, c8, c9⟩ := Hc.of p5.hb
  clear p5 P4
  go_wp2_with fail
  refine (pw_u8 P5.out _ _ (wrap_nat _ HOK.out.ttl.1 (by have := HOK.out.ttl.2; omega)) (by have := HOK.out.ttl.2; omega) (by simp [be_length])).mono ?_
  rintro e u6 ⟨rfl, p6⟩
  have P6 := Lib.hid p6
  clear c0 c1 c2 c3 c4 c5 c6 c7 c8 c9
  have ⟨c0, c1, c2, c3, c4, c5, c6, c7, c8, c9⟩ := Hc.of p6.hb
  clear p6 P5
  go_wp2_with fail
  refine (pw_u8 P6.out _ _ (wrap_nat _ HOK.out.proto.1 (by have := HOK.out.proto.2; omega)) (by have := HOK.out.proto.2; omega) (by simp [be_length])).mono ?_
  rintro e u7 ⟨rfl, p7⟩
  have P7 : Hid (Pw w u7 h b (h.head (h.size + pay.size))) := p7
  clear c0 c1 c2 c3 c4 c5 c6 c7 c8 c9
  have ⟨c0, c1, c2, c3, c4, c5, c6, c7, c8, c9⟩ := Hc.of p7.hb
  clear p7 P6
  have hsz1 : h.src.size ≤ 4 := by rw [HOK.out.src]; omega
  have hsz2 : h.dst.size ≤ 4 := by rw [HOK.out.dst]; omega
  go_wp2_with fail
  clear c0 c1 c2 c3 c4 c5 c6 c7 c8 c9
  have HT := Lib.hid (tail_cat h)
  have hts : (h.src ++ h.dst ++ h.opt).size ≤ 48 := by rw [cat_size, cat_size]; omega
  generalize h.src ++ h.dst ++ h.opt = T at *
  have HH := Lib.hid (h.head_length (h.size + pay.size))
  have HP : Hid (h.pack pay = h.head (h.size + pay.size) ++ be (sumD (h.head (h.size + pay.size) ++ h.tail)) 2 ++ h.tail ++ pay.data.toList) := rfl
  generalize h.head (h.size + pay.size) = hd at *
  refine (wstring_any b (b + 1) hd _ P7.out.wr).mono ?_
  rintro e w' ⟨rfl, rfl⟩
  go_wp2_with fail
  refine (sum_2n ⟨hd.toArray⟩ T u7 _ rfl (by rw [list_size, HH.out]; decide) (by omega)).mono ?_
  rintro e u8 ⟨rfl, hb8⟩
  have P8 := Lib.hid (P7.out.below hb8)
  have HS : Hid (sumD ((⟨hd.toArray⟩ : ByteArray).data.toList ++ T.data.toList) = sumD (hd ++ h.tail)) := by
    show sumD (hd.toArray.toList ++ T.data.toList) = sumD (hd ++ h.tail)
    rw [HT.out]
  have hsl := sumD_le ((⟨hd.toArray⟩ : ByteArray).data.toList ++ T.data.toList)
  clear hb8 P7
  generalize sumD ((⟨hd.toArray⟩ : ByteArray).data.toList ++ T.data.toList) = N at *
  go_wp2_with fail
  refine (pw_u16 P8.out _ N (by rw [wrap_nat _ (by omega) (by omega)]; omega) (by omega) (by rw [HH.out]; decide)).mono ?_
  rintro e u9 ⟨rfl, p9⟩
  have P9 := Lib.hid p9
  clear p9 P8
  go_wp2_with fail
  refine (pw_text P9.out T (by simp [be_length, HH.out]) (by omega)).mono ?_
  rintro e u10 ⟨rfl, p10⟩
  have P10 := Lib.hid p10
  clear p10 P9
  go_wp2_with fail
  refine (pw_text P10.out pay (by simp [be_length, HH.out]; omega) (by omega)).mono ?_
  rintro e u11 ⟨rfl, p11⟩
  have P11 : Hid (Pw w u11 h b (h.pack pay)) := by
    show Pw w u11 h b (h.pack pay)
    rw [HP.out, ← HS.out, ← HT.out]
    exact p11
  clear p11 P10
  go_wp2_with fail
  refine (wstring_any b (b + 1) _ _ P11.out.wr).mono ?_
  rintro e w' ⟨rfl, rfl⟩
  go_wp2_with fail
  go_ret2
  exact ⟨rfl, P11.out.bel⟩

end Go.Proofs.Ytoijomdgcgbpbaa

/-
  Put, whatever the header and the payload.
-/
namespace Go.Proofs.Ytoijomdgcgbpbaa
open Go.RowKit
set_option linter.unusedVariables false

set_option maxHeartbeats 400000 in
theorem put_range (h : H4) (pay : ByteArray) (w : World) (hok : h.ok = false) :
    Calls Try.prog 60 #[.agg h.cells, .string pay] w fun e w' => e = .returned (.tuple #[.string ⟨#[]⟩, .int .i64 1]) ∧ Below w.heap.size w w' := by
  have hc := check_any h (w.alloc (.cells h.cells 43))
  rw [H4.err_no hok] at hc
  have HC := Lib.hid hc
  have HL1 := Lib.hid ((Below.refl w.heap.size w).alloc (Nat.le_refl _) (.cells h.cells 43))
  clear hc hok
  unfold H4.cells at HC HL1 ⊢
  go_enter Try.func60, Try.ntmps60
  go_wp2_with fail
  refine HC.out.mono ?_
  rintro e w1 ⟨rfl, hb⟩
  have HL2 : Hid (Below w.heap.size w w1) := HL1.out.trans (hb.mono (by simp))
  clear HL1 HC hb
  go_wp2_with fail
  go_ret2
  exact ⟨rfl, HL2.out⟩

set_option maxHeartbeats 400000 in
theorem put_big (h : H4) (pay : ByteArray) (w : World) (hok : h.Ok) (hn : 65535 < h.size + pay.size) (hp : pay.size ≤ 140737488355328) :
    Calls Try.prog 60 #[.agg h.cells, .string pay] w fun e w' => e = .returned (.tuple #[.string ⟨#[]⟩, .int .i64 4]) ∧ Below w.heap.size w w' := by
  have hc := check_any h (w.alloc (.cells h.cells 43))
  rw [H4.err_ok ((H4.ok_iff h).2 hok)] at hc
  have HC := Lib.hid hc
  have HB1 := Lib.hid (Blk.new w h.cells 43)
  have HL1 := Lib.hid ((Below.refl w.heap.size w).alloc (Nat.le_refl _) (.cells h.cells 43))
  clear hc
  have hos : h.opt.size ≤ 40 := hok.opt
  have hn1 : (65535 : Int) < 20 + (h.opt.size : Int) + (pay.size : Int) := by unfold H4.size at hn; omega
  clear hok hn
  unfold H4.cells at HC HB1 HL1 ⊢
  go_enter Try.func60, Try.ntmps60
  go_wp2_with fail
  refine HC.out.mono ?_
  rintro e w1 ⟨rfl, hb⟩
  have HB2 : Hid (Blk w1 w.heap.size h.cells 43) := (hb.block _ (by simp)).trans HB1.out
  have HL2 : Hid (Below w.heap.size w w1) := HL1.out.trans (hb.mono (by simp))
  clear HB1 HL1 HC hb
  have ⟨c0, c1, c2, c3, c4, c5, c6, c7, c8, c9⟩ := Hc.of HB2.out
  go_wp2_with fail
  go_ret2
  exact ⟨rfl, HL2.out⟩

/-- Put's end. -/
def PutEnd (h : H4) (pay : ByteArray) (w : World) (e : Ending) (w' : World) : Prop := e = .returned (.tuple #[.string (putS h pay), .int .i64 (putE h pay : Nat)]) ∧ Below w.heap.size w w'
theorem put_any (h : H4) (pay : ByteArray) (w : World) (hp : pay.size ≤ 140737488355328) :
    Calls Try.prog 60 #[.agg h.cells, .string pay] w (PutEnd h pay w) := by
  by_cases hok : h.ok = true
  · by_cases hn : 65535 < h.size + pay.size
    · have e : putE h pay = 4 := by unfold putE; rw [if_pos hok, if_pos hn]
      have s : putS h pay = ⟨#[]⟩ := by unfold putS; rw [if_neg (by omega)]
      unfold PutEnd
      rw [e, s]
      exact put_big h pay w ((H4.ok_iff h).1 hok) hn hp
    · have e : putE h pay = 0 := by unfold putE; rw [if_pos hok, if_neg hn]
      have s : putS h pay = ⟨(h.pack pay).toArray⟩ := by unfold putS; rw [if_pos e]
      unfold PutEnd
      rw [e, s]
      exact put_yes h pay w ((H4.ok_iff h).1 hok) (by omega)
  · have e : putE h pay = 1 := by unfold putE; rw [if_neg hok]
    have s : putS h pay = ⟨#[]⟩ := by unfold putS; rw [if_neg (by omega)]
    unfold PutEnd
    rw [e, s]
    exact put_range h pay w (by simpa using hok)

end Go.Proofs.Ytoijomdgcgbpbaa
