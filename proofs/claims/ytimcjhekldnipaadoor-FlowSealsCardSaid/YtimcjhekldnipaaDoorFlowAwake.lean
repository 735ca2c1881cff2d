/-
  The document's example: the laws' 'awake'.
-/
import Derived.Test.YtimcjhekldnipaaDoorFlowGet
import Derived.Test.YtimcjhekldnipaaDoorIp4B
import Derived.Test.YtimcjhekldnipaaDoorIp6B
namespace Go.Proofs.YtimcjhekldnipaaDoor
open Go.RowKit
set_option linter.unusedVariables false

/-- Sixteen bytes 00. -/
def zero169 : ByteArray := ⟨(List.replicate 16 (0 : UInt8)).toArray⟩
/-- The example's datagram, and its headers. -/
def dgram9 : ByteArray := ⟨#[0, 1, 0, 2, 0, 8, 0, 0]⟩
def ex4 : H4 := ⟨0, 0, 0, 0, 17, false, false, ⟨#[97, 98, 99, 100]⟩, ⟨#[101, 102, 103, 104]⟩, ⟨#[]⟩⟩
def ex6 : H6 := ⟨0, 0, 17, 0, zero169, zero169⟩
theorem ex4_e : putE ex4 dgram9 = 0 := by decide +kernel
theorem ex4_f : flowE (putS ex4 dgram9) = 0 := by decide +kernel
theorem ex4_d : (flowH (putS ex4 dgram9)).dp = 2 := by decide +kernel
theorem ex4_s : (putS ex4 dgram9).size = 28 := by decide +kernel
theorem ex6_f : flowE (put6S ex6 dgram9) = 5 := by decide +kernel
theorem ex6_s : (put6S ex6 dgram9).size = 48 := by decide +kernel

set_option maxRecDepth 100000 in
set_option maxHeartbeats 1000000 in
theorem awake9_any (w : World) : Calls Tryd.prog 6 #[] w (AwakeEnd w) := by
  have h1 := fun W => refput_any ex4 dgram9 W (by decide)
  have h2 := fun W => refput6_any ex6 dgram9 W
  have h3 := fun W => get9_any (putS ex4 dgram9) W (by rw [ex4_s]; decide)
  have h4 := fun W => get9_any (put6S ex6 dgram9) W (by rw [ex6_s]; decide)
  rw [ex4_f] at h3
  rw [ex6_f] at h4
  have hd := ex4_d
  unfold Tells at h3 h4
  generalize putS ex4 dgram9 = P at *
  generalize put6S ex6 dgram9 = Q at *
  generalize putE ex4 dgram9 = eP at *
  generalize put6E ex6 dgram9 = eQ at *
  generalize flowH P = f at *
  generalize flowH Q = g at *
  obtain ⟨f0, f1, f2, f3, f4⟩ := f
  simp only at hd
  subst hd
  obtain ⟨g0, g1, g2, g3, g4⟩ := g
  have H1 := Lib.hid h1
  have H2 := Lib.hid h2
  have H3 := Lib.hid h3
  have H4' := Lib.hid h4
  clear h1 h2 h3 h4
  unfold ex4 H4.cells at H1
  unfold ex6 H6.cells at H2
  unfold F9.cells at H3 H4'
  simp only at H1 H2 H3 H4'
  obtain ⟨w0, hmk, hby, hkb, hz0⟩ := zeros_made w 16 (by omega)
  have htx := hby.text (cap := 16) (n := 16) (by simp)
  have HZ : Hid ((⟨(List.replicate 16 (0 : UInt8)).toArray⟩ : ByteArray) = zero169) := rfl
  rw [HZ.out] at htx
  generalize zero169 = z16 at *
  have B0 : Hid (Below w.heap.size w w0) := ⟨hkb.os, hkb.tape, hkb.output, hkb.size, fun k hk => hkb.block k hk (fun f => f)⟩
  clear hby hkb hz0
  simp only [Int.cast_ofNat_Int] at hmk
  unfold dgram9 at H1 H2
  go_enter Tryd.func6, Tryd.ntmps6
  go_wp2_with fail
  refine (H1.out _).mono ?_
  rintro e w1 ⟨rfl, hb1⟩
  have HB1 := Lib.hid (B0.out.trans (hb1.mono B0.out.size))
  clear hb1 H1 B0
  go_wp2_with fail
  refine (H2.out _).mono ?_
  rintro e w2 ⟨rfl, hb2⟩
  have HB2 := Lib.hid (HB1.out.trans (hb2.mono HB1.out.size))
  clear hb2 H2 HB1
  go_wp2_with fail
  refine (H3.out _).mono ?_
  rintro e w3 ⟨rfl, hb3⟩
  have HB3 := Lib.hid (HB2.out.trans (hb3.mono HB2.out.size))
  clear hb3 H3 HB2
  have ⟨B, L⟩ := got_made w w3 HB3.out #[.int .i64 f0, .string f1, .string f2, .int .i64 f3, .int .i64 2] 48
  have HB := Lib.hid L
  have GB := Lib.hid B
  have HS : Hid ((w3.alloc (.cells #[.int .i64 f0, .string f1, .string f2, .int .i64 f3, .int .i64 2] 48)).heap.size = w3.heap.size + 1) := by
    show (w3.alloc (.cells #[.int .i64 f0, .string f1, .string f2, .int .i64 f3, .int .i64 2] 48)).heap.size = w3.heap.size + 1
    simp
  clear B L HB3
  go_wp2_with fail
  refine (H4'.out _).mono ?_
  rintro e w4 ⟨rfl, hb4⟩
  have HB4 := Lib.hid (HB.out.trans (hb4.mono HB.out.size))
  have GB4 := Lib.hid ((hb4.block _ GB.out.lt).trans GB.out)
  have GB5 : Hid (Blk w4 w3.heap.size #[.int .i64 f0, .string f1, .string f2, .int .i64 f3, .int .i64 2] 48) := GB4.out
  clear hb4 H4' GB HB GB4 HS
  have c4 := GB5.out.cell 4
  simp at c4
  have lt := GB5.out.lt
  go_wp2_with fail
  go_ret
  exact ⟨rfl, HB4.out.alloc HB4.out.size _⟩

end Go.Proofs.YtimcjhekldnipaaDoor
