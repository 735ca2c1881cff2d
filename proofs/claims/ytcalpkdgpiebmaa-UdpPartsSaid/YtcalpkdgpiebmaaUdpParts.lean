/-
  UdpParts returns true at every input.
-/
import Derived.Test.YtcalpkdgpiebmaaUdpBack
import Derived.IntWalk
import Derived.Deep.QuietTactic
import Derived.BigQuiet
namespace Go.Proofs.Ytcalpkdgpiebmaa
open Go.RowKit
set_option linter.unusedVariables false

theorem Sent8.six {h : D8} {sum : Int} {P : ByteArray} (s : Sent8 h sum P) : P.extract 0 6 = ⟨(be h.src.toNat 2 ++ (be h.dst.toNat 2 ++ be (8 + h.pay.size) 2)).toArray⟩ := by
  refine text_seg (a := []) (c := be sum.toNat 2 ++ h.pay.data.toList) ?_ rfl (by rw [list_size]; simp [be_length])
  rw [s.is, list_text]; unfold D8.pack; simp only [List.append_assoc, List.nil_append]
theorem Sent8.rest {h : D8} {sum : Int} {P : ByteArray} (s : Sent8 h sum P) : P.extract 8 P.size = h.pay := by
  have := congrArg D8.pay s.dat
  exact this
theorem Sent8.two {h : D8} {sum : Int} {P : ByteArray} (s : Sent8 h sum P) : P.extract 2 P.size = ⟨(be h.dst.toNat 2 ++ (be (8 + h.pay.size) 2 ++ (be sum.toNat 2 ++ h.pay.data.toList))).toArray⟩ := by
  refine text_seg (a := be h.src.toNat 2) (c := []) ?_ (by simp [be_length]) ?_
  · rw [s.is, list_text]; unfold D8.pack; simp only [List.append_assoc, List.append_nil]
  · rw [list_size, s.size]; simp [be_length]; omega

set_option maxRecDepth 100000 in
set_option maxHeartbeats 4000000 in
theorem parts8_any (h : D8) (sum other : Int) (w : World) (hs : 0 ≤ sum ∧ sum ≤ 65535) (ho : 0 ≤ other ∧ other ≤ 65535) :
    Calls Try.prog 5 #[.agg h.cells, .int .u16 sum, .int .u16 other] w (AwakeEnd w) := by
  have HA := Lib.hid (awake8_any (w.alloc (.cells h.cells 23)))
  have H1 := Lib.hid (fun W => put8_any h sum W)
  have S1 := Lib.hid (Held8.new w h)
  have PT := Lib.hid (put8_told h sum)
  have PO := Lib.hid (fun hok : h.Ok => put8_ok hok ho)
  have PG := Lib.hid (fun hok : h.Ok => put8_get h other hok ho)
  unfold Put8End at H1
  generalize hP : put8S h sum = P at *
  generalize put8E h sum = E at *
  unfold D8.cells at HA H1 S1 ⊢
  have HH := Lib.hid hs
  have HO := Lib.hid ho
  have wc1 : IntKind.i64.wrap sum = sum := IntWalk.i64_in _ (by omega)
  have wc2 : IntKind.i64.wrap other = other := IntWalk.i64_in _ (by omega)
  go_enter Try.func5, Try.ntmps5
  go_wp2_with fail
  refine HA.out.mono ?_
  rintro e w1 ⟨rfl, hb1⟩
  have S2 := Lib.hid (S1.out.below hb1)
  clear hb1 S1 HA
  have ⟨c0, c1, c2⟩ := Hc8.of S2.out.b
  by_cases h7 : h.pay.size ≤ 3000
  case neg =>
    have t7 : decide ((3000 : Int) < (h.pay.size : Int)) = true := by simp; omega
    go_wp2_with fail
    go_ret
    exact ⟨rfl, S2.out.bel⟩
  have t7 : decide ((3000 : Int) < (h.pay.size : Int)) = false := by simp; omega
  go_wp2_with fail
  refine (H1.out _).mono ?_
  rintro e w3 ⟨rfl, hb3⟩
  have S4 := Lib.hid (S2.out.below hb3)
  clear hb3 S2 H1 c0 c1 c2 t7
  rcases PT.out with ⟨rfl, hok, hsum, hps⟩ | ⟨hE, rfl⟩
  case inr =>
    have tE : ((E : Int) != 0) = true := by simp; omega
    clear PT hE
    go_wp2_with fail
    go_ret
    exact ⟨rfl, S4.out.bel⟩
  have SX := put8_get h sum hok hsum
  rw [← hps] at SX
  have SY := PG.out hok
  have YE := PO.out hok
  obtain ⟨k, hk⟩ : ∃ k : D8, k = ⟨other, h.dst, h.pay⟩ := ⟨_, rfl⟩
  have kok : k.Ok := by rw [hk]; exact ⟨ho, hok.dst, hok.pay⟩
  have SZ := put8_get k sum kok hsum
  have ZE := put8_ok kok hsum
  have H2 := Lib.hid (fun W => put8_any h other W)
  have H3 := Lib.hid (fun W => put8_any k sum W)
  unfold Put8End at H2 H3
  rw [YE.1, YE.2] at H2
  rw [ZE.1, ZE.2] at H3
  obtain ⟨Y, hY⟩ : ∃ Y : ByteArray, Y = ⟨(h.pack other).toArray⟩ := ⟨_, rfl⟩
  obtain ⟨Z, hZ⟩ : ∃ Z : ByteArray, Z = ⟨(k.pack sum).toArray⟩ := ⟨_, rfl⟩
  rw [← hY] at SY H2
  rw [← hZ] at SZ H3
  have zX := SX.size
  have zY := SY.size
  have zZ := SZ.size
  have ez : k.pay.size = h.pay.size := by rw [hk]
  have G1 := Lib.hid (fun W => get8_any Z W (by omega))
  unfold Get8End at G1
  have hgo := get8_ok SZ.got
  rw [hgo.1, hgo.2, SZ.dat, SZ.num, SZ.got] at G1
  have e1 := SX.six
  have e2 := SY.six
  have e3 := SX.rest
  have e4 := SY.rest
  have e5 := SX.two
  have e6 : Z.extract 2 Z.size = _ := SZ.two
  rw [show k.dst = h.dst by rw [hk], show k.pay = h.pay by rw [hk]] at e6
  generalize (⟨(be h.src.toNat 2 ++ (be h.dst.toNat 2 ++ be (8 + h.pay.size) 2)).toArray⟩ : ByteArray) = A6 at *
  generalize (⟨(be h.dst.toNat 2 ++ (be (8 + h.pay.size) 2 ++ (be sum.toNat 2 ++ h.pay.data.toList))).toArray⟩ : ByteArray) = T2 at *
  have X6 : 6 ≤ P.size := by omega
  have X8 : 8 ≤ P.size := by omega
  have X2 : 2 ≤ P.size := by omega
  have Y6 : 6 ≤ Y.size := by omega
  have Y8 : 8 ≤ Y.size := by omega
  have Z2 : 2 ≤ Z.size := by omega
  have HE := Lib.hid (And.intro (And.intro e1 e2) (And.intro (And.intro e3 e4) (And.intro e5 e6)))
  subst hk
  clear hok hsum hps SX SY YE kok SZ ZE hY hZ zX zY zZ ez hgo e1 e2 e3 e4 e5 e6 PT PO PG hs ho
  unfold D8.cells at H2 H3 G1
  have ⟨c0, c1, c2⟩ := Hc8.of S4.out.b
  go_wp2_with fail
  refine (H2.out _).mono ?_
  rintro e w5 ⟨rfl, hb5⟩
  have S6 := Lib.hid (S4.out.below hb5)
  clear hb5 S4 H2 c0 c1 c2
  have ⟨c0, c1, c2⟩ := Hc8.of S6.out.b
  go_wp2_with fail
  have B7 := Lib.hid (Blk.new w5 #[.int .i64 other, .int .i64 h.dst, .string h.pay] 23)
  have S7 := Lib.hid (S6.out.alloc (.cells #[.int .i64 other, .int .i64 h.dst, .string h.pay] 23))
  clear S6 c0 c1 c2
  generalize w5.alloc (.cells #[.int .i64 other, .int .i64 h.dst, .string h.pay] 23) = w6 at *
  generalize w5.heap.size = N at *
  refine (H3.out _).mono ?_
  rintro e w7 ⟨rfl, hb7⟩
  have B8 : Hid (Blk w7 N #[.int .i64 other, .int .i64 h.dst, .string h.pay] 23) := (hb7.block _ (Blk.lt B7.out)).trans B7.out
  have S8 := Lib.hid (S7.out.below hb7)
  clear hb7 S7 B7 H3
  have ⟨⟨e1, e2⟩, ⟨e3, e4⟩, ⟨e5, e6⟩⟩ := HE.out
  go_wp2_with fail
  go_quiet (fail)
  go_wp2_with fail
  clear e1 e2 e3 e4 e5 e6
  refine (G1.out _).mono ?_
  rintro e w9 ⟨rfl, hb9⟩
  have S8q : Hid (Held8 w (w7.drewN nq) h) := Lib.hid ⟨S8.out.b.drewN nq, below_drewN S8.out.bel nq⟩
  have B8q := Lib.hid (Blk.drewN B8.out nq)
  have B9 := Lib.hid (Blk.alloc ((hb9.block _ (Blk.lt B8q.out)).trans B8q.out) (.cells #[.int .i64 other, .int .i64 h.dst, .string h.pay] 23))
  have S9 := Lib.hid ((S8q.out.below hb9).alloc (.cells #[.int .i64 other, .int .i64 h.dst, .string h.pay] 23))
  clear hb9 S8 B8 S8q B8q G1
  have ⟨d0, d1, d2⟩ := Hc8.of (h := ⟨other, h.dst, h.pay⟩) B9.out
  go_wp2_with fail
  go_ret
  exact ⟨rfl, S9.out.bel⟩

end Go.Proofs.Ytcalpkdgpiebmaa
