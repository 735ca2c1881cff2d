/-
  Ip4Puts returns true at every input.
-/
import Derived.Test.YtdljioacbpabbaaIp4Awake
import Derived.Test.YtdljioacbpabbaaIp4RefPut
namespace Go.Proofs.Ytdljioacbpabbaa
open Go.RowKit
set_option linter.unusedVariables false

theorem str_same (s : ByteArray) : (s.toList == s.toList) = true := by simp

theorem keep10 {w W W' : World} {h : H4} (hb : Below W.heap.size W W')
    (r : W.cell? ⟨w.heap.size, 0, none⟩ = some (.int .i64 h.tos) ∧ W.cell? ⟨w.heap.size, 1, none⟩ = some (.int .i64 h.id) ∧ W.cell? ⟨w.heap.size, 2, none⟩ = some (.int .i64 h.off) ∧ W.cell? ⟨w.heap.size, 3, none⟩ = some (.int .i64 h.ttl) ∧ W.cell? ⟨w.heap.size, 4, none⟩ = some (.int .i64 h.proto) ∧ W.cell? ⟨w.heap.size, 5, none⟩ = some (.bool h.df) ∧ W.cell? ⟨w.heap.size, 6, none⟩ = some (.bool h.mf) ∧ W.cell? ⟨w.heap.size, 7, none⟩ = some (.string h.src) ∧ W.cell? ⟨w.heap.size, 8, none⟩ = some (.string h.dst) ∧ W.cell? ⟨w.heap.size, 9, none⟩ = some (.string h.opt) ∧ Hid (RefS w W h)) :
    W'.cell? ⟨w.heap.size, 0, none⟩ = some (.int .i64 h.tos) ∧ W'.cell? ⟨w.heap.size, 1, none⟩ = some (.int .i64 h.id) ∧ W'.cell? ⟨w.heap.size, 2, none⟩ = some (.int .i64 h.off) ∧ W'.cell? ⟨w.heap.size, 3, none⟩ = some (.int .i64 h.ttl) ∧ W'.cell? ⟨w.heap.size, 4, none⟩ = some (.int .i64 h.proto) ∧ W'.cell? ⟨w.heap.size, 5, none⟩ = some (.bool h.df) ∧ W'.cell? ⟨w.heap.size, 6, none⟩ = some (.bool h.mf) ∧ W'.cell? ⟨w.heap.size, 7, none⟩ = some (.string h.src) ∧ W'.cell? ⟨w.heap.size, 8, none⟩ = some (.string h.dst) ∧ W'.cell? ⟨w.heap.size, 9, none⟩ = some (.string h.opt) ∧ Hid (RefS w W' h) := by
  have r2 := r.2.2.2.2.2.2.2.2.2.2.out.below hb
  have c := Hc.of r2.1
  exact ⟨c.c0, c.c1, c.c2, c.c3, c.c4, c.c5, c.c6, c.c7, c.c8, c.c9, Lib.hid r2⟩

set_option maxRecDepth 100000 in
set_option maxHeartbeats 1000000 in
theorem puts_any (h : H4) (pay : ByteArray) (w : World) (hp : pay.size ≤ 140737488355328) :
    Calls Try.prog 3 #[.agg h.cells, .string pay] w (AwakeEnd w) := by
  have HA := Lib.hid (awake_any (w.alloc (.cells h.cells 23)))
  have HF := Lib.hid (fun W => few_any h W)
  have H1 := Lib.hid (fun W => put_any h pay W hp)
  have H2 := Lib.hid (fun W => refput_any h pay W hp)
  have H3 := Lib.hid (fun W => check_any h W)
  have H4' := Lib.hid (fun W => refright_any h W)
  have S1 : Hid (RefS w (w.alloc (.cells h.cells 23)) h) := ⟨Blk.new w h.cells 23, (Below.refl w.heap.size w).alloc (Nat.le_refl _) (.cells h.cells 23)⟩
  have HE : Hid (((h.err : Int) == 0) = h.ok) := by
    show ((h.err : Int) == 0) = h.ok
    unfold H4.err; cases h.ok <;> rfl
  generalize h.ok = ok at *
  generalize h.err = er at *
  generalize h.few = fw at *
  unfold PutEnd at H1
  generalize putS h pay = P at *
  generalize putE h pay = E at *
  have hl := hp
  unfold H4.cells at *
  go_enter Try.func3, Try.ntmps3
  go_wp2_with fail
  refine HA.out.mono ?_
  rintro e w1 ⟨rfl, hb1⟩
  have S2 := Lib.hid (S1.out.below hb1)
  clear hb1 S1 HA
  have ⟨c0, c1, c2, c3, c4, c5, c6, c7, c8, c9⟩ := Hc.of S2.out.1
  go_wp2_with fail
  refine (HF.out _).mono ?_
  rintro e w2 ⟨rfl, hb2⟩
  have S3 := Lib.hid (S2.out.below hb2)
  clear hb2 S2 HF c0 c1 c2 c3 c4 c5 c6 c7 c8 c9
  cases fw
  · go_wp2_with fail
    go_ret
    exact ⟨rfl, S3.out.2⟩
  by_cases h7 : pay.size ≤ 70000
  case neg =>
    have t7 : decide ((70000 : Int) < (pay.size : Int)) = true := by simp; omega
    go_wp2_with fail
    go_ret
    exact ⟨rfl, S3.out.2⟩
  have t7 : decide ((70000 : Int) < (pay.size : Int)) = false := by simp; omega
  have ⟨c0, c1, c2, c3, c4, c5, c6, c7, c8, c9⟩ := Hc.of S3.out.1
  go_wp2_with fail
  refine (H1.out _).mono ?_
  rintro e w3 ⟨rfl, hb3⟩
  have S4 := Lib.hid (S3.out.below hb3)
  clear hb3 S3 H1 c0 c1 c2 c3 c4 c5 c6 c7 c8 c9
  have ⟨c0, c1, c2, c3, c4, c5, c6, c7, c8, c9⟩ := Hc.of S4.out.1
  go_wp2_with fail
  refine (H2.out _).mono ?_
  rintro e w4 ⟨rfl, hb4⟩
  have S5 := Lib.hid (S4.out.below hb4)
  clear hb4 S4 H2 c0 c1 c2 c3 c4 c5 c6 c7 c8 c9 t7
  have ⟨c0, c1, c2, c3, c4, c5, c6, c7, c8, c9⟩ := Hc.of S5.out.1
  have ts := str_same P
  go_wp2_with fail
  have tE : ((E : Int) == (E : Int)) = true := by simp
  have eo := HE.out
  go_region_held3 (fun W => W.cell? ⟨w.heap.size, 0, none⟩ = some (.int .i64 h.tos) ∧ W.cell? ⟨w.heap.size, 1, none⟩ = some (.int .i64 h.id) ∧ W.cell? ⟨w.heap.size, 2, none⟩ = some (.int .i64 h.off) ∧ W.cell? ⟨w.heap.size, 3, none⟩ = some (.int .i64 h.ttl) ∧ W.cell? ⟨w.heap.size, 4, none⟩ = some (.int .i64 h.proto) ∧ W.cell? ⟨w.heap.size, 5, none⟩ = some (.bool h.df) ∧ W.cell? ⟨w.heap.size, 6, none⟩ = some (.bool h.mf) ∧ W.cell? ⟨w.heap.size, 7, none⟩ = some (.string h.src) ∧ W.cell? ⟨w.heap.size, 8, none⟩ = some (.string h.dst) ∧ W.cell? ⟨w.heap.size, 9, none⟩ = some (.string h.opt) ∧ Hid (RefS w W h))
    (first | exact ⟨c0, c1, c2, c3, c4, c5, c6, c7, c8, c9, Lib.hid S5.out.drew⟩ | exact keep10 (by assumption) (by assumption))
    (first
      | (go_at_call 12; ((with_reducible refine (H3.out _).mono ?_); rintro e w' ⟨rfl, hb⟩))
      | (go_at_call 13; ((with_reducible refine (H4'.out _).mono ?_); rintro e w' ⟨rfl, hb⟩)))
  rename_i held
  have S6 := held.2.2.2.2.2.2.2.2.2.2
  clear held c0 c1 c2 c3 c4 c5 c6 c7 c8 c9 eo tE ts
  go_wp2_with fail
  go_ret
  exact ⟨rfl, S6.out.2⟩

end Go.Proofs.Ytdljioacbpabbaa
