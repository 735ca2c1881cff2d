/-
  The document's example: the laws' 'awake'.
-/
import Derived.Test.YtbaddhjlpahpkaaIp6Put
namespace Go.Proofs.Ytbaddhjlpahpkaa
open Go.RowKit
set_option linter.unusedVariables false

/-- Sixteen bytes 00. -/
def zero16 : ByteArray := ⟨(List.replicate 16 (0 : UInt8)).toArray⟩
/-- The document's example's header. -/
def example6 : H6 := ⟨0, 0, 0, 0, zero16, zero16⟩
theorem example6_e : put6E example6 ⟨#[]⟩ = 0 := by decide +kernel
theorem example6_s : (put6S example6 ⟨#[]⟩).size = 40 := by decide +kernel
theorem zero6_err : H6.zero.err = 1 := by decide +kernel

set_option maxHeartbeats 400000 in
theorem awake6_any (w : World) : Calls Try.prog 6 #[] w (AwakeEnd w) := by
  have h1 := fun W => put6_any example6 ⟨#[]⟩ W
  have h2 := fun W => check6_any H6.zero W
  unfold Put6End at h1
  rw [example6_e] at h1
  rw [zero6_err] at h2
  have hsz := example6_s
  generalize put6S example6 ⟨#[]⟩ = S at *
  have t1 : ((S.size : Int) == 40) = true := by simp; omega
  have H1 := Lib.hid h1
  have H2 := Lib.hid h2
  clear h1 h2 hsz
  unfold example6 H6.cells at H1
  unfold H6.zero H6.cells at H2
  simp only at H1 H2
  obtain ⟨w0, hmk, hby, hkb, hz0⟩ := zeros_made w 16 (by omega)
  have htx := hby.text (cap := 16) (n := 16) (by simp)
  have HZ : Hid ((⟨(List.replicate 16 (0 : UInt8)).toArray⟩ : ByteArray) = zero16) := rfl
  rw [HZ.out] at htx
  generalize zero16 = z16 at *
  have B0 : Hid (Below w.heap.size w w0) := ⟨hkb.os, hkb.tape, hkb.output, hkb.size, fun k hk => hkb.block k hk (fun f => f)⟩
  clear hby hkb hz0
  simp only [Int.cast_ofNat_Int] at hmk
  go_enter Try.func6, Try.ntmps6
  go_wp2_with fail
  refine (H1.out _).mono ?_
  rintro e w1 ⟨rfl, hb1⟩
  have HB := Lib.hid (B0.out.trans (hb1.mono B0.out.size))
  clear hb1 H1
  go_wp2_with fail
  refine (H2.out _).mono ?_
  rintro e w2 ⟨rfl, hb2⟩
  have HB2 := Lib.hid (HB.out.trans (hb2.mono HB.out.size))
  clear hb2 H2
  go_wp2_with fail
  go_ret
  exact ⟨rfl, HB2.out⟩

end Go.Proofs.Ytbaddhjlpahpkaa
