/-
  The document's own answers: Check, two, and its Put.
-/
import Derived.Test.YtbfcccfgphelhaaDoorUdpA
import Derived.Test.YtbfcccfgphelhaaDoorGround
import Derived.Test.YtbfcccfgphelhaaDoorReading
import Derived.IntWalk
import Derived.Deep.RegionWith
namespace Go.Proofs.YtbfcccfgphelhaaDoor
open Go.RowKit
set_option linter.unusedVariables false

set_option maxHeartbeats 400000 in
theorem in8_any (n : Int) (w : World) : Calls Tryd.prog 42 #[.int .i64 n] w fun e w' => e = .returned (.bool (in8 n)) ∧ w' = w := by
  unfold in8
  by_cases h0 : 0 ≤ n
  · have t0 : decide ((0 : Int) ≤ n) = true := by simp; omega
    go_enter Tryd.func42, Tryd.ntmps42
    go_wp2_with fail
    go_ret
    exact ⟨by rw [t0]; rfl, rfl⟩
  · have t0 : decide ((0 : Int) ≤ n) = false := by simp; omega
    go_enter Tryd.func42, Tryd.ntmps42
    go_wp2_with fail
    go_ret
    exact ⟨rfl, rfl⟩

def RefCheck8End (h : D8) (w : World) (e : Ending) (w' : World) : Prop := e = .returned (.int .i64 (h.err : Nat)) ∧ Below w.heap.size w w'

set_option maxRecDepth 100000 in
set_option maxHeartbeats 1000000 in
theorem refcheck8_any (h : D8) (w : World) : Calls Tryd.prog 41 #[.agg h.cells] w (RefCheck8End h w) := by
  have S1 := Lib.hid (Held8.new w h)
  have ⟨c0, c1, c2⟩ := Hc8.of S1.out.b
  have H1 := Lib.hid (fun e => D8.err_port (h := h) e)
  have H4 := Lib.hid (fun e => D8.err_long (h := h) e)
  have H0 := Lib.hid (fun e => D8.err_ok (h := h) e)
  unfold D8.cells at S1 c0 c1 c2 ⊢
  unfold RefCheck8End
  go_enter Tryd.func41, Tryd.ntmps41
  go_wp2_with fail
  refine (in8_any _ _).mono ?_
  rintro e w' ⟨rfl, rfl⟩
  cases i0 : in8 h.src with
  | false =>
    go_wp2_with fail
    go_ret
    exact ⟨by rw [H1.out (by rw [i0]; rfl)]; rfl, S1.out.bel⟩
  | true =>
  go_wp2_with fail
  refine (in8_any _ _).mono ?_
  rintro e w' ⟨rfl, rfl⟩
  cases i1 : in8 h.dst with
  | false =>
    go_wp2_with fail
    go_ret
    exact ⟨by rw [H1.out (by rw [i0, i1]; rfl)]; rfl, S1.out.bel⟩
  | true =>
  by_cases hl : h.pay.size ≤ 65527
  case neg =>
    have HF := Lib.hid (H4.out (by rw [i0, i1]; rfl) hl)
    have t1 : decide ((65527 : Int) < (h.pay.size : Int)) = true := by simp; omega
    clear hl
    go_wp2_with fail
    go_ret
    exact ⟨by rw [HF.out]; rfl, S1.out.bel⟩
  have HF := Lib.hid (H0.out (by rw [i0, i1]; rfl) hl)
  have t1 : decide ((65527 : Int) < (h.pay.size : Int)) = false := by simp; omega
  clear hl
  go_wp2_with fail
  go_ret
  exact ⟨by rw [HF.out]; rfl, S1.out.bel⟩

set_option maxHeartbeats 400000 in
/-- A number's two bytes, under a name. -/
theorem two8_x (m : Int) (n : Nat) (x : ByteArray) (hm : m = (n : Nat)) (hn : n < 9223372036854775808) (hx : x = ⟨(be n 2).toArray⟩) (w : World) :
    Calls Tryd.prog 43 #[.int .i64 m] w fun e w' => e = .returned (.string x) ∧ Below w.heap.size w w' := by
  subst hm hx
  have q : IntKind.u64.wrap (n : Int) = (n : Int) := wrap_u64 _ (by omega) (by omega)
  have HB := Lib.hid (fun W => bytes_any n 2 W (by omega) (by decide))
  go_enter Tryd.func43, Tryd.ntmps43
  go_wp2_with fail
  refine (HB.out _).mono ?_
  rintro e w1 ⟨rfl, hb⟩
  go_wp2_with fail
  go_ret
  exact ⟨rfl, hb⟩

set_option maxHeartbeats 1000000 in
theorem refput8_check (h : D8) (sum : Int) (w : World) (hn : h.err ≠ 0) :
    Calls Tryd.prog 18 #[.agg h.cells, .int .i64 sum] w fun e w' => e = .returned (.tuple #[.string ⟨#[]⟩, .int .i64 (h.err : Nat)]) ∧ Below w.heap.size w w' := by
  have hc := refcheck8_any h (w.alloc (.cells h.cells 46))
  unfold RefCheck8End at hc
  have S1 := Lib.hid (Held8.new w h)
  generalize h.err = q at *
  have HC := Lib.hid hc
  clear hc
  have t1 : (((q : Nat) : Int) == 0) = false := by simp; omega
  have t2 : (((q : Nat) : Int) != 0) = true := by simp; omega
  clear hn
  unfold D8.cells at HC S1 ⊢
  go_enter Tryd.func18, Tryd.ntmps18
  go_wp2_with fail
  refine HC.out.mono ?_
  rintro e w1 ⟨rfl, hb⟩
  have S2 := Lib.hid (S1.out.below hb)
  clear S1 HC hb
  go_wp2_with fail
  go_ret2
  exact ⟨rfl, S2.out.bel⟩

set_option maxHeartbeats 1000000 in
theorem refput8_sumno (h : D8) (sum : Int) (w : World) (h0 : h.err = 0) (hn : in8 sum = false) :
    Calls Tryd.prog 18 #[.agg h.cells, .int .i64 sum] w fun e w' => e = .returned (.tuple #[.string ⟨#[]⟩, .int .i64 1]) ∧ Below w.heap.size w w' := by
  have hc := refcheck8_any h (w.alloc (.cells h.cells 46))
  unfold RefCheck8End at hc
  have S1 := Lib.hid (Held8.new w h)
  rw [h0] at hc
  have HC := Lib.hid hc
  have HN := Lib.hid hn
  clear hc hn h0
  unfold D8.cells at HC S1 ⊢
  go_enter Tryd.func18, Tryd.ntmps18
  go_wp2_with fail
  refine HC.out.mono ?_
  rintro e w1 ⟨rfl, hb⟩
  have S2 := Lib.hid (S1.out.below hb)
  clear S1 HC hb
  go_wp2_with fail
  refine (in8_any _ _).mono ?_
  rintro e w2 ⟨rfl, rfl⟩
  rw [HN.out]
  go_wp2_with fail
  go_ret2
  exact ⟨rfl, S2.out.bel⟩

/-- What the region holds while it draws its order. -/
theorem keep8r {w u u' : World} {h : D8} (k : u.cell? ⟨w.heap.size, 0, none⟩ = some (.int .i64 h.src) ∧ u.cell? ⟨w.heap.size, 1, none⟩ = some (.int .i64 h.dst) ∧ u.cell? ⟨w.heap.size, 2, none⟩ = some (.string h.pay) ∧ Hid (Held8 w u h)) (hb : Below u.heap.size u u') :
    u'.cell? ⟨w.heap.size, 0, none⟩ = some (.int .i64 h.src) ∧ u'.cell? ⟨w.heap.size, 1, none⟩ = some (.int .i64 h.dst) ∧ u'.cell? ⟨w.heap.size, 2, none⟩ = some (.string h.pay) ∧ Hid (Held8 w u' h) := by
  have s := k.2.2.2.out.below hb
  have ⟨c0, c1, c2⟩ := Hc8.of s.b
  exact ⟨c0, c1, c2, Lib.hid s⟩

set_option maxRecDepth 100000 in
set_option maxHeartbeats 4000000 in
theorem refput8_yes (h : D8) (sum : Int) (w : World) (hok : h.Ok) (hs : 0 ≤ sum ∧ sum ≤ 65535) :
    Calls Tryd.prog 18 #[.agg h.cells, .int .i64 sum] w fun e w' => e = .returned (.tuple #[.string ⟨(h.pack sum).toArray⟩, .int .i64 0]) ∧ Below w.heap.size w w' := by
  have hc := refcheck8_any h (w.alloc (.cells h.cells 46))
  unfold RefCheck8End at hc
  rw [(D8.err_zero h).2 hok] at hc
  have HC := Lib.hid hc
  have S1 := Lib.hid (Held8.new w h)
  have HS := Lib.hid ((in8_iff sum).2 hs)
  have HSU := Lib.hid hs
  have HOK := Lib.hid hok
  clear hc hok hs
  unfold D8.cells at HC S1 ⊢
  go_enter Tryd.func18, Tryd.ntmps18
  go_wp2_with fail
  refine HC.out.mono ?_
  rintro e w1 ⟨rfl, hb⟩
  have S2 := Lib.hid (S1.out.below hb)
  clear S1 HC hb
  go_wp2_with fail
  refine (in8_any _ _).mono ?_
  rintro e w2 ⟨rfl, rfl⟩
  rw [HS.out]
  have ⟨c0, c1, c2⟩ := Hc8.of S2.out.b
  go_wp2_with fail
  obtain ⟨x1, hx1⟩ : ∃ x, x = (⟨(be h.src.toNat 2).toArray⟩ : ByteArray) := ⟨_, rfl⟩
  obtain ⟨x2, hx2⟩ : ∃ x, x = (⟨(be h.dst.toNat 2).toArray⟩ : ByteArray) := ⟨_, rfl⟩
  obtain ⟨x3, hx3⟩ : ∃ x, x = (⟨(be (8 + h.pay.size) 2).toArray⟩ : ByteArray) := ⟨_, rfl⟩
  obtain ⟨x4, hx4⟩ : ∃ x, x = (⟨(be sum.toNat 2).toArray⟩ : ByteArray) := ⟨_, rfl⟩
  have ⟨k1, k2, k3⟩ := HOK.out
  have g3 := HSU.out
  obtain ⟨m5, hm5⟩ : ∃ d : Int, d = ((8 + h.pay.size : Nat) : Int) := ⟨_, rfl⟩
  have q6 : IntKind.i64.wrap (8 + (h.pay.size : Int)) = m5 := by rw [IntWalk.i64_in _ (by omega)]; omega
  have N1 := Lib.hid (two8_x h.src h.src.toNat x1 (by omega) (by omega) hx1)
  have N2 := Lib.hid (two8_x h.dst h.dst.toNat x2 (by omega) (by omega) hx2)
  have N3 := Lib.hid (two8_x m5 (8 + h.pay.size) x3 (by omega) (by omega) hx3)
  have N4 := Lib.hid (two8_x sum sum.toNat x4 (by omega) (by omega) hx4)
  have X : Hid ((x1 ++ x2 ++ x3 ++ x4 ++ h.pay).data.toList = h.pack sum) := by
    show (x1 ++ x2 ++ x3 ++ x4 ++ h.pay).data.toList = h.pack sum
    simp only [cat_list, hx1, hx2, hx3, hx4]
    rfl
  have sx1 : x1.size = 2 := by rw [hx1, be_size]
  have sx2 : x2.size = 2 := by rw [hx2, be_size]
  have sx3 : x3.size = 2 := by rw [hx3, be_size]
  have sx4 : x4.size = 2 := by rw [hx4, be_size]
  have a1 : ¬ (9223372036854775807 < x1.size + x2.size) := by omega
  have a2 : ¬ (9223372036854775807 < x1.size + x2.size + x3.size) := by omega
  have a3 : ¬ (9223372036854775807 < x1.size + x2.size + x3.size + x4.size) := by omega
  have a4 : ¬ (9223372036854775807 < x1.size + x2.size + x3.size + x4.size + h.pay.size) := by omega
  clear hx1 hx2 hx3 hx4 hm5 k1 k2 k3 g3 sx1 sx2 sx3 sx4
  go_region_held3 (fun W => W.cell? ⟨w.heap.size, 0, none⟩ = some (.int .i64 h.src) ∧ W.cell? ⟨w.heap.size, 1, none⟩ = some (.int .i64 h.dst) ∧ W.cell? ⟨w.heap.size, 2, none⟩ = some (.string h.pay) ∧ Hid (Held8 w W h))
    (first | exact ⟨c0, c1, c2, Lib.hid ⟨S2.out.b.drew, below_drewN S2.out.bel 1⟩⟩ | exact keep8r (by assumption) (by assumption))
    (first
      | (go_at_call 43; ((with_reducible refine (N1.out _).mono ?_); rintro e w' ⟨rfl, hb⟩))
      | (go_at_call 43; ((with_reducible refine (N2.out _).mono ?_); rintro e w' ⟨rfl, hb⟩))
      | (go_at_call 43; ((with_reducible refine (N3.out _).mono ?_); rintro e w' ⟨rfl, hb⟩))
      | (go_at_call 43; ((with_reducible refine (N4.out _).mono ?_); rintro e w' ⟨rfl, hb⟩)))
  rename_i held
  have S3 := held.2.2.2
  clear held c0 c1 c2 q6 a1 a2 a3 a4 N1 N2 N3 N4 S2
  have hfin : (⟨(h.pack sum).toArray⟩ : ByteArray) = x1 ++ x2 ++ x3 ++ x4 ++ h.pay := by
    apply text_ext
    show (h.pack sum).toArray.toList = _
    rw [X.out]
  have HFIN := Lib.hid hfin
  clear hfin X
  go_wp2_with fail
  go_ret2
  exact ⟨by rw [HFIN.out]; rfl, S3.out.bel⟩

theorem refput8_any (h : D8) (sum : Int) (w : World) : Calls Tryd.prog 18 #[.agg h.cells, .int .i64 sum] w fun e w' => e = .returned (.tuple #[.string (put8S h sum), .int .i64 (put8E h sum : Nat)]) ∧ Below w.heap.size w w' := by
  by_cases h0 : h.err = 0
  case neg =>
    rw [(put8_err h0).1, (put8_err h0).2]
    exact refput8_check h sum w h0
  cases hn : in8 sum with
  | false =>
    rw [(put8_sum h0 hn).1, (put8_sum h0 hn).2]
    exact refput8_sumno h sum w h0 hn
  | true =>
    have hok := (D8.err_zero h).1 h0
    have hs := (in8_iff _).1 hn
    rw [(put8_ok hok hs).1, (put8_ok hok hs).2]
    exact refput8_yes h sum w hok hs

end Go.Proofs.YtbfcccfgphelhaaDoor

/-
  The document's own Get.
-/
namespace Go.Proofs.YtbfcccfgphelhaaDoor
open Go.RowKit
set_option linter.unusedVariables false

/-- The document's Get's end. -/
def Ref8Got (p : ByteArray) (w : World) (e : Ending) (w' : World) : Prop := e = .returned (.tuple #[.agg (get8H p).cells, .int .i64 (get8N p : Nat), .int .i64 (get8E p : Nat)]) ∧ Below w.heap.size w w'

theorem refget8_ret {W : World} {tmps : Array Value} {k s : Int} {h : D8} {N : Nat} (hB : Blk W N h.cells 46) (t2 : tmps.getD 2 undef = .pointer (some ⟨N, 0, none⟩)) (t3 : tmps.getD 3 undef = .int .i64 s) (t4 : tmps.getD 4 undef = .int .i64 k) :
    (results Tryd.f27 tmps).run Tryd.prog W = .ok (.tuple #[.agg h.cells, .int .i64 s, .int .i64 k]) W := by
  have ⟨c0, c1, c2⟩ := Hc8.of hB
  unfold D8.cells
  simp at t2 t3 t4
  simp [results, Tryd.results27, go_sem, t2, t3, t4, c0, c1, c2]
theorem refget8_stop {w : World} {p : ByteArray} {tmps : Array Value} {k : Nat} (he : get8E p = k) (h0 : k ≠ 0) (t2 : tmps.getD 2 undef = .pointer (some ⟨w.heap.size, 0, none⟩)) (t3 : tmps.getD 3 undef = .int .i64 0) (t4 : tmps.getD 4 undef = .int .i64 (k : Nat)) :
    bodyPost Tryd.prog Tryd.f27 (Ref8Got p w) Exit.ret { tmps := tmps, defers := [] } (w.alloc (.cells #[.int .i64 0, .int .i64 0, .string ⟨#[]⟩] 46)) := by
  have hg := get8_err (b := p) (by omega)
  refine ⟨rfl, _, refget8_ret (h := D8.zero) (Blk.new w D8.zero.cells _) t2 t3 t4, ?_, (Below.refl _ _).alloc (Nat.le_refl _) _⟩
  rw [hg.1, hg.2, he]; rfl
theorem refget8_done {w : World} {p : ByteArray} {tmps : Array Value} {a0 a1 a3 : Int} {a2 : ByteArray} (he : get8E p = 0) (hh : (⟨a0, a1, a2⟩ : D8) = dat8 p) (h3 : a3 = (numOf p 6 2 : Nat)) (t2 : tmps.getD 2 undef = .pointer (some ⟨w.heap.size, 0, none⟩)) (t3 : tmps.getD 3 undef = .int .i64 a3) (t4 : tmps.getD 4 undef = .int .i64 0) :
    bodyPost Tryd.prog Tryd.f27 (Ref8Got p w) Exit.ret { tmps := tmps, defers := [] } (w.alloc (.cells #[.int .i64 a0, .int .i64 a1, .string a2] 46)).drew := by
  have hg := get8_ok he
  refine ⟨rfl, _, refget8_ret (h := ⟨a0, a1, a2⟩) (Blk.new w _ _).drew t2 t3 t4, ?_, below_drewN ((Below.refl _ _).alloc (Nat.le_refl _) _) 1⟩
  rw [hg.1, hg.2, he, ← hh, h3]
  rfl

set_option maxRecDepth 100000 in
set_option maxHeartbeats 4000000 in
theorem refget8_any (p : ByteArray) (w : World) (hs : p.size ≤ 1000000) :
    Calls Tryd.prog 27 #[.string p] w (Ref8Got p w) := by
  go_enter Tryd.func27, Tryd.ntmps27
  by_cases hp : 8 ≤ p.size
  case neg =>
    have t0 : decide ((p.size : Int) < 8) = true := by simp; omega
    go_wp2_with fail
    exact refget8_stop (k := 2) (get8E_short hp) (by decide) rfl rfl rfl
  have t0 : decide ((p.size : Int) < 8) = false := by simp; omega
  have b6 : (6 : Int) ≤ (p.size : Int) := by omega
  have E4 := Lib.hid (get8E_len hp)
  have E0 := Lib.hid (get8E_ok hp)
  have V0 := Lib.hid (fun W => value_num p 0 2 W (by omega) (by omega))
  have V2 := Lib.hid (fun W => value_num p 2 2 W (by omega) (by omega))
  have V4 := Lib.hid (fun W => value_num p 4 2 W (by omega) (by omega))
  have V6 := Lib.hid (fun W => value_num p 6 2 W (by omega) (by omega))
  have l0 : numOf p 0 2 < 65536 := numOf_lt p 0 2 (by omega)
  have l2 : numOf p 2 2 < 65536 := numOf_lt p 2 2 (by omega)
  have l4 : numOf p 4 2 < 65536 := numOf_lt p 4 2 (by omega)
  have l6 : numOf p 6 2 < 65536 := numOf_lt p 6 2 (by omega)
  simp only [Nat.reduceAdd] at V0 V2 V4 V6
  have HD : Hid (dat8 p = ⟨numOf p 0 2, numOf p 2 2, p.extract 8 p.size⟩) := rfl
  generalize numOf p 0 2 = n0 at *
  generalize numOf p 2 2 = n2 at *
  generalize numOf p 4 2 = n4 at *
  generalize h6 : numOf p 6 2 = n6 at *
  have H6 := Lib.hid h6
  clear h6
  go_wp2_with fail
  refine (V4.out _).mono ?_
  rintro e w' ⟨rfl, rfl⟩
  by_cases hl : n4 = p.size
  case neg =>
    have tl : ((n4 : Int) != (p.size : Int)) = true := by simp; omega
    go_wp2_with fail
    exact refget8_stop (k := 4) (E4.out hl) (by decide) rfl rfl rfl
  have tl : ((n4 : Int) != (p.size : Int)) = false := by simp; omega
  have G0 := Lib.hid (E0.out hl)
  clear hl E4 E0 V4
  go_wp2_with fail
  have b2 : (2 : Int) ≤ (p.size : Int) := by omega
  have b4 : (4 : Int) ≤ (p.size : Int) := by omega
  have b8 : (8 : Int) ≤ (p.size : Int) := by omega
  have m0 : IntKind.i64.wrap (n0 : Int) = (n0 : Int) := IntWalk.i64_in _ (by omega)
  have m2 : IntKind.i64.wrap (n2 : Int) = (n2 : Int) := IntWalk.i64_in _ (by omega)
  have m6 : IntKind.i64.wrap (n6 : Int) = (n6 : Int) := IntWalk.i64_in _ (by omega)
  clear t0 tl
  go_region_with (first
    | ((with_reducible refine (V0.out _).mono ?_); rintro e w' ⟨rfl, rfl⟩)
    | ((with_reducible refine (V2.out _).mono ?_); rintro e w' ⟨rfl, rfl⟩)
    | ((with_reducible refine (V6.out _).mono ?_); rintro e w' ⟨rfl, rfl⟩))
  all_goals
    go_wp2_with fail
    exact refget8_done G0.out (by rw [HD.out]) (by rw [H6.out]) rfl rfl rfl

end Go.Proofs.YtbfcccfgphelhaaDoor
