/-
  Put, whatever the header and the payload.
-/
import Derived.Test.YtdljioacbpabbaaIp4Put
namespace Go.Proofs.Ytdljioacbpabbaa
open Go.RowKit
set_option linter.unusedVariables false

set_option maxHeartbeats 400000 in
theorem put_range (h : H4) (pay : ByteArray) (w : World) (hok : h.ok = false) :
    Calls Try.prog 10 #[.agg h.cells, .string pay] w fun e w' => e = .returned (.tuple #[.string ⟨#[]⟩, .int .i64 1]) ∧ Below w.heap.size w w' := by
  have hc := check_any h (w.alloc (.cells h.cells 23))
  rw [H4.err_no hok] at hc
  have HC := Lib.hid hc
  have HL1 := Lib.hid ((Below.refl w.heap.size w).alloc (Nat.le_refl _) (.cells h.cells 23))
  clear hc hok
  unfold H4.cells at HC HL1 ⊢
  go_enter Try.func10, Try.ntmps10
  go_wp2_with fail
  refine HC.out.mono ?_
  rintro e w1 ⟨rfl, hb⟩
  have HL2 : Hid (Below w.heap.size w w1) := HL1.out.trans (hb.mono (by simp))
  clear HL1 HC hb
  go_wp2_with fail
  go_ret2
  exact ⟨rfl, HL2.out⟩

set_option maxHeartbeats 400000 in
theorem put_big (h : H4) (pay : ByteArray) (w : World) (hok : h.Ok) (hn : 65535 < h.size + pay.size) (hp : pay.size ≤ 140737488355328) :
    Calls Try.prog 10 #[.agg h.cells, .string pay] w fun e w' => e = .returned (.tuple #[.string ⟨#[]⟩, .int .i64 4]) ∧ Below w.heap.size w w' := by
  have hc := check_any h (w.alloc (.cells h.cells 23))
  rw [H4.err_ok ((H4.ok_iff h).2 hok)] at hc
  have HC := Lib.hid hc
  have HB1 := Lib.hid (Blk.new w h.cells 23)
  have HL1 := Lib.hid ((Below.refl w.heap.size w).alloc (Nat.le_refl _) (.cells h.cells 23))
  clear hc
  have hos : h.opt.size ≤ 40 := hok.opt
  have hn1 : (65535 : Int) < 20 + (h.opt.size : Int) + (pay.size : Int) := by unfold H4.size at hn; omega
  clear hok hn
  unfold H4.cells at HC HB1 HL1 ⊢
  go_enter Try.func10, Try.ntmps10
  go_wp2_with fail
  refine HC.out.mono ?_
  rintro e w1 ⟨rfl, hb⟩
  have HB2 : Hid (Blk w1 w.heap.size h.cells 23) := (hb.block _ (by simp)).trans HB1.out
  have HL2 : Hid (Below w.heap.size w w1) := HL1.out.trans (hb.mono (by simp))
  clear HB1 HL1 HC hb
  have ⟨c0, c1, c2, c3, c4, c5, c6, c7, c8, c9⟩ := Hc.of HB2.out
  go_wp2_with fail
  go_ret2
  exact ⟨rfl, HL2.out⟩

/-- Put's end. -/
def PutEnd (h : H4) (pay : ByteArray) (w : World) (e : Ending) (w' : World) : Prop := e = .returned (.tuple #[.string (putS h pay), .int .i64 (putE h pay : Nat)]) ∧ Below w.heap.size w w'
theorem put_any (h : H4) (pay : ByteArray) (w : World) (hp : pay.size ≤ 140737488355328) :
    Calls Try.prog 10 #[.agg h.cells, .string pay] w (PutEnd h pay w) := by
  by_cases hok : h.ok = true
  · by_cases hn : 65535 < h.size + pay.size
    · have e : putE h pay = 4 := by unfold putE; rw [if_pos hok, if_pos hn]
      have s : putS h pay = ⟨#[]⟩ := by unfold putS; rw [if_neg (by omega)]
      unfold PutEnd
      rw [e, s]
      exact put_big h pay w ((H4.ok_iff h).1 hok) hn hp
    · have e : putE h pay = 0 := by unfold putE; rw [if_pos hok, if_neg hn]
      have s : putS h pay = ⟨(h.pack pay).toArray⟩ := by unfold putS; rw [if_pos e]
      unfold PutEnd
      rw [e, s]
      exact put_yes h pay w ((H4.ok_iff h).1 hok) (by omega)
  · have e : putE h pay = 1 := by unfold putE; rw [if_neg hok]
    have s : putS h pay = ⟨#[]⟩ := by unfold putS; rw [if_neg (by omega)]
    unfold PutEnd
    rw [e, s]
    exact put_range h pay w (by simpa using hok)

end Go.Proofs.Ytdljioacbpabbaa
