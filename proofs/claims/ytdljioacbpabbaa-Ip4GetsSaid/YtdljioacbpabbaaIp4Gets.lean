/-
  Ip4Gets returns true at every input.
-/
import Derived.Test.YtdljioacbpabbaaIp4Awake
import Derived.Test.YtdljioacbpabbaaIp4Get
import Derived.Test.YtdljioacbpabbaaIp4RefGet
namespace Go.Proofs.Ytdljioacbpabbaa
open Go.RowKit
set_option linter.unusedVariables false

set_option maxRecDepth 100000 in
set_option maxHeartbeats 1000000 in
theorem gets_any (p : ByteArray) (w : World) (hp : p.size ≤ 140737488355328) :
    Calls Try.prog 4 #[.string p] w (AwakeEnd w) := by
  have HA := Lib.hid (awake_any w)
  by_cases h7 : p.size ≤ 70000
  case neg =>
    have t7 : decide ((70000 : Int) < (p.size : Int)) = true := by simp; omega
    go_enter Try.func4, Try.ntmps4
    go_wp2_with fail
    refine HA.out.mono ?_
    rintro e w1 ⟨rfl, hb1⟩
    have B1 := Lib.hid hb1
    clear hb1
    go_wp2_with fail
    go_ret
    exact ⟨rfl, B1.out⟩
  have t7 : decide ((70000 : Int) < (p.size : Int)) = false := by simp; omega
  have G1 := Lib.hid (fun W => get_any p W (by omega))
  have G2 := Lib.hid (fun W => refget_any p W (by omega))
  unfold GetEnd at G1
  unfold RefGot at G2
  generalize getH p = h at *
  generalize getS p = S at *
  generalize getE p = E at *
  go_enter Try.func4, Try.ntmps4
  go_wp2_with fail
  refine HA.out.mono ?_
  rintro e w1 ⟨rfl, hb1⟩
  have B1 := Lib.hid hb1
  clear hb1 HA
  go_wp2_with fail
  refine (G1.out _).mono ?_
  rintro e w2 ⟨rfl, hb2⟩
  have B2 := Lib.hid (B1.out.trans (hb2.mono B1.out.size))
  clear hb2 B1 G1
  unfold H4.cells
  go_wp2_with fail
  have N1 := Lib.hid (Blk.new w2 h.cells 23)
  have B3 := Lib.hid (B2.out.alloc B2.out.size (.cells h.cells 23))
  have S3 : Hid ((w2.alloc (.cells h.cells 23)).heap.size = w2.heap.size + 1) := by
    show (w2.alloc (.cells h.cells 23)).heap.size = w2.heap.size + 1
    simp
  unfold H4.cells at N1 B3 S3
  clear B2
  generalize w2.alloc (.cells #[.int .i64 h.tos, .int .i64 h.id, .int .i64 h.off, .int .i64 h.ttl, .int .i64 h.proto, .bool h.df, .bool h.mf, .string h.src, .string h.dst, .string h.opt] 23) = w3 at *
  generalize w2.heap.size = N at *
  refine (G2.out _).mono ?_
  rintro e w4 ⟨rfl, hb4⟩
  have N4 : Hid (Blk w4 N h.cells 23) := (hb4.block _ N1.out.lt).trans N1.out
  have B4 := Lib.hid (B3.out.trans (hb4.mono B3.out.size))
  clear N1 B3 S3 hb4 G2
  have ⟨c0, c1, c2, c3, c4, c5, c6, c7, c8, c9⟩ := Hc.of N4.out
  have lN := N4.out.lt
  unfold H4.cells
  go_wp2_with fail
  go_ret
  exact ⟨rfl, B4.out.alloc B4.out.size _⟩

end Go.Proofs.Ytdljioacbpabbaa
