/-
  The document's own answers: Check, two, and its Put.
-/
import Derived.Test.YtimcjhekldnipaaDoorUdpA
import Derived.Test.YtimcjhekldnipaaDoorGround
import Derived.Test.YtimcjhekldnipaaDoorReading
import Derived.IntWalk
import Derived.Deep.RegionWith
namespace Go.Proofs.YtimcjhekldnipaaDoor
open Go.RowKit
set_option linter.unusedVariables false

set_option maxHeartbeats 400000 in
theorem in8_any (n : Int) (w : World) : Calls Tryd.prog 32 #[.int .i64 n] w fun e w' => e = .returned (.bool (in8 n)) ∧ w' = w := by
  unfold in8
  by_cases h0 : 0 ≤ n
  · have t0 : decide ((0 : Int) ≤ n) = true := by simp; omega
    go_enter Tryd.func32, Tryd.ntmps32
    go_wp2_with fail
    go_ret
    exact ⟨by rw [t0]; rfl, rfl⟩
  · have t0 : decide ((0 : Int) ≤ n) = false := by simp; omega
    go_enter Tryd.func32, Tryd.ntmps32
    go_wp2_with fail
    go_ret
    exact ⟨rfl, rfl⟩

def RefCheck8End (h : D8) (w : World) (e : Ending) (w' : World) : Prop := e = .returned (.int .i64 (h.err : Nat)) ∧ Below w.heap.size w w'

set_option maxRecDepth 100000 in
set_option maxHeartbeats 1000000 in
theorem refcheck8_any (h : D8) (w : World) : Calls Tryd.prog 31 #[.agg h.cells] w (RefCheck8End h w) := by
  have S1 := Lib.hid (Held8.new w h)
  have ⟨c0, c1, c2⟩ := Hc8.of S1.out.b
  have H1 := Lib.hid (fun e => D8.err_port (h := h) e)
  have H4 := Lib.hid (fun e => D8.err_long (h := h) e)
  have H0 := Lib.hid (fun e => D8.err_ok (h := h) e)
  unfold D8.cells at S1 c0 c1 c2 ⊢
  unfold RefCheck8End
  go_enter Tryd.func31, Tryd.ntmps31
  go_wp2_with fail
  refine (in8_any _ _).mono ?_
  rintro e w' ⟨rfl, rfl⟩
  cases i0 : in8 h.src with
  | false =>
    go_wp2_with fail
    go_ret
    exact ⟨by rw [H1.out (by rw [i0]; rfl)]; rfl, S1.out.bel⟩
  | true =>
  go_wp2_with fail
  refine (in8_any _ _).mono ?_
  rintro e w' ⟨rfl, rfl⟩
  cases i1 : in8 h.dst with
  | false =>
    go_wp2_with fail
    go_ret
    exact ⟨by rw [H1.out (by rw [i0, i1]; rfl)]; rfl, S1.out.bel⟩
  | true =>
  by_cases hl : h.pay.size ≤ 65527
  case neg =>
    have HF := Lib.hid (H4.out (by rw [i0, i1]; rfl) hl)
    have t1 : decide ((65527 : Int) < (h.pay.size : Int)) = true := by simp; omega
    clear hl
    go_wp2_with fail
    go_ret
    exact ⟨by rw [HF.out]; rfl, S1.out.bel⟩
  have HF := Lib.hid (H0.out (by rw [i0, i1]; rfl) hl)
  have t1 : decide ((65527 : Int) < (h.pay.size : Int)) = false := by simp; omega
  clear hl
  go_wp2_with fail
  go_ret
  exact ⟨by rw [HF.out]; rfl, S1.out.bel⟩

set_option maxHeartbeats 400000 in
/-- A number's two bytes, under a name. -/
theorem two8_x (m : Int) (n : Nat) (x : ByteArray) (hm : m = (n : Nat)) (hn : n < 9223372036854775808) (hx : x = ⟨(be n 2).toArray⟩) (w : World) :
    Calls Tryd.prog 33 #[.int .i64 m] w fun e w' => e = .returned (.string x) ∧ Below w.heap.size w w' := by
  subst hm hx
  have q : IntKind.u64.wrap (n : Int) = (n : Int) := wrap_u64 _ (by omega) (by omega)
  have HB := Lib.hid (fun W => bytes_any n 2 W (by omega) (by decide))
  go_enter Tryd.func33, Tryd.ntmps33
  go_wp2_with fail
  refine (HB.out _).mono ?_
  rintro e w1 ⟨rfl, hb⟩
  go_wp2_with fail
  go_ret
  exact ⟨rfl, hb⟩

set_option maxHeartbeats 1000000 in
theorem refput8_check (h : D8) (sum : Int) (w : World) (hn : h.err ≠ 0) :
    Calls Tryd.prog 15 #[.agg h.cells, .int .i64 sum] w fun e w' => e = .returned (.tuple #[.string ⟨#[]⟩, .int .i64 (h.err : Nat)]) ∧ Below w.heap.size w w' := by
  have hc := refcheck8_any h (w.alloc (.cells h.cells 41))
  unfold RefCheck8End at hc
  have S1 := Lib.hid (Held8.new w h)
  generalize h.err = q at *
  have HC := Lib.hid hc
  clear hc
  have t1 : (((q : Nat) : Int) == 0) = false := by simp; omega
  have t2 : (((q : Nat) : Int) != 0) = true := by simp; omega
  clear hn
  unfold D8.cells at HC S1 ⊢
  go_enter Tryd.func15, Tryd.ntmps15
  go_wp2_with fail
  refine HC.out.mono ?_
  rintro e w1 ⟨rfl, hb⟩
  have S2 := Lib.hid (S1.out.below hb)
  clear S1 HC hb
  go_wp2_with fail
  go_ret2
  exact ⟨rfl, S2.out.bel⟩

set_option maxHeartbeats 1000000 in
theorem refput8_sumno (h : D8) (sum : Int) (w : World) (h0 : h.err = 0) (hn : in8 sum = false) :
    Calls Tryd.prog 15 #[.agg h.cells, .int .i64 sum] w fun e w' => e = .returned (.tuple #[.string ⟨#[]⟩, .int .i64 1]) ∧ Below w.heap.size w w' := by
  have hc := refcheck8_any h (w.alloc (.cells h.cells 41))
  unfold RefCheck8End at hc
  have S1 := Lib.hid (Held8.new w h)
  rw [h0] at hc
  have HC := Lib.hid hc
  have HN := Lib.hid hn
  clear hc hn h0
  unfold D8.cells at HC S1 ⊢
  go_enter Tryd.func15, Tryd.ntmps15
  go_wp2_with fail
  refine HC.out.mono ?_
  rintro e w1 ⟨rfl, hb⟩
  have S2 := Lib.hid (S1.out.below hb)
  clear S1 HC hb
  go_wp2_with fail
  refine (in8_any _ _).mono ?_
  rintro e w2 ⟨rfl, rfl⟩
  rw [HN.out]
  go_wp2_with fail
  go_ret2
  exact ⟨rfl, S2.out.bel⟩

/-- What the region holds while it draws its order. -/
theorem keep8r {w u u' : World} {h : D8} (k : u.cell? ⟨w.heap.size, 0, none⟩ = some (.int .i64 h.src) ∧ u.cell? ⟨w.heap.size, 1, none⟩ = some (.int .i64 h.dst) ∧ u.cell? ⟨w.heap.size, 2, none⟩ = some (.string h.pay) ∧ Hid (Held8 w u h)) (hb : Below u.heap.size u u') :
    u'.cell? ⟨w.heap.size, 0, none⟩ = some (.int .i64 h.src) ∧ u'.cell? ⟨w.heap.size, 1, none⟩ = some (.int .i64 h.dst) ∧ u'.cell? ⟨w.heap.size, 2, none⟩ = some (.string h.pay) ∧ Hid (Held8 w u' h) := by
  have s := k.2.2.2.out.below hb
  have ⟨c0, c1, c2⟩ := Hc8.of s.b
  exact ⟨c0, c1, c2, Lib.hid s⟩

set_option maxRecDepth 100000 in
set_option maxHeartbeats 4000000 in
theorem refput8_yes (h : D8) (sum : Int) (w : World) (hok : h.Ok) (hs : 0 ≤ sum ∧ sum ≤ 65535) :
    Calls Tryd.prog 15 #[.agg h.cells, .int .i64 sum] w fun e w' => e = .returned (.tuple #[.string ⟨(h.pack sum).toArray⟩, .int .i64 0]) ∧ Below w.heap.size w w' := by
  have hc := refcheck8_any h (w.alloc (.cells h.cells 41))
  unfold RefCheck8End at hc
  rw [(D8.err_zero h).2 hok] at hc
  have HC := Lib.hid hc
  have S1 := Lib.hid (Held8.new w h)
  have HS := Lib.hid ((in8_iff sum).2 hs)
  have HSU := Lib.hid hs
  have HOK := Lib.hid hok
  clear hc hok hs
  unfold D8.cells at HC S1 ⊢
  go_enter Tryd.func15, Tryd.ntmps15
  go_wp2_with fail
  refine HC.out.mono ?_
  rintro e w1 ⟨rfl, hb⟩
  have S2 := Lib.hid (S1.out.below hb)
  clear S1 HC hb
  go_wp2_with fail
  refine (in8_any _ _).mono ?_
  rintro e w2 ⟨rfl, rfl⟩
  rw [HS.out]
  have ⟨c0, c1, c2⟩ := Hc8.of S2.out.b
  go_wp2_with fail
  obtain ⟨x1, hx1⟩ : ∃ x, x = (⟨(be h.src.toNat 2).toArray⟩ : ByteArray) := ⟨_, rfl⟩
  obtain ⟨x2, hx2⟩ : ∃ x, x = (⟨(be h.dst.toNat 2).toArray⟩ : ByteArray) := ⟨_, rfl⟩
  obtain ⟨x3, hx3⟩ : ∃ x, x = (⟨(be (8 + h.pay.size) 2).toArray⟩ : ByteArray) := ⟨_, rfl⟩
  obtain ⟨x4, hx4⟩ : ∃ x, x = (⟨(be sum.toNat 2).toArray⟩ : ByteArray) := ⟨_, rfl⟩
  have ⟨k1, k2, k3⟩ := HOK.out
  have g3 := HSU.out
  obtain ⟨m5, hm5⟩ : ∃ d : Int, d = ((8 + h.pay.size : Nat) : Int) := ⟨_, rfl⟩
  have q6 : IntKind.i64.wrap (8 + (h.pay.size : Int)) = m5 := by rw [IntWalk.i64_in _ (by omega)]; omega
  have N1 := Lib.hid (two8_x h.src h.src.toNat x1 (by omega) (by omega) hx1)
  have N2 := Lib.hid (two8_x h.dst h.dst.toNat x2 (by omega) (by omega) hx2)
  have N3 := Lib.hid (two8_x m5 (8 + h.pay.size) x3 (by omega) (by omega) hx3)
  have N4 := Lib.hid (two8_x sum sum.toNat x4 (by omega) (by omega) hx4)
  have X : Hid ((x1 ++ x2 ++ x3 ++ x4 ++ h.pay).data.toList = h.pack sum) := by
    show (x1 ++ x2 ++ x3 ++ x4 ++ h.pay).data.toList = h.pack sum
    simp only [cat_list, hx1, hx2, hx3, hx4]
    rfl
  have sx1 : x1.size = 2 := by rw [hx1, be_size]
  have sx2 : x2.size = 2 := by rw [hx2, be_size]
  have sx3 : x3.size = 2 := by rw [hx3, be_size]
  have sx4 : x4.size = 2 := by rw [hx4, be_size]
  have a1 : ¬ (9223372036854775807 < x1.size + x2.size) := by omega
  have a2 : ¬ (9223372036854775807 < x1.size + x2.size + x3.size) := by omega
  have a3 : ¬ (9223372036854775807 < x1.size + x2.size + x3.size + x4.size) := by omega
  have a4 : ¬ (9223372036854775807 < x1.size + x2.size + x3.size + x4.size + h.pay.size) := by omega
  clear hx1 hx2 hx3 hx4 hm5 k1 k2 k3 g3 sx1 sx2 sx3 sx4
  go_region_held3 (fun W => W.cell? ⟨w.heap.size, 0, none⟩ = some (.int .i64 h.src) ∧ W.cell? ⟨w.heap.size, 1, none⟩ = some (.int .i64 h.dst) ∧ W.cell? ⟨w.heap.size, 2, none⟩ = some (.string h.pay) ∧ Hid (Held8 w W h))
    (first | exact ⟨c0, c1, c2, Lib.hid ⟨S2.out.b.drew, below_drewN S2.out.bel 1⟩⟩ | exact keep8r (by assumption) (by assumption))
    (first
      | (go_at_call 33; ((with_reducible refine (N1.out _).mono ?_); rintro e w' ⟨rfl, hb⟩))
      | (go_at_call 33; ((with_reducible refine (N2.out _).mono ?_); rintro e w' ⟨rfl, hb⟩))
      | (go_at_call 33; ((with_reducible refine (N3.out _).mono ?_); rintro e w' ⟨rfl, hb⟩))
      | (go_at_call 33; ((with_reducible refine (N4.out _).mono ?_); rintro e w' ⟨rfl, hb⟩)))
  rename_i held
  have S3 := held.2.2.2
  clear held c0 c1 c2 q6 a1 a2 a3 a4 N1 N2 N3 N4 S2
  have hfin : (⟨(h.pack sum).toArray⟩ : ByteArray) = x1 ++ x2 ++ x3 ++ x4 ++ h.pay := by
    apply text_ext
    show (h.pack sum).toArray.toList = _
    rw [X.out]
  have HFIN := Lib.hid hfin
  clear hfin X
  go_wp2_with fail
  go_ret2
  exact ⟨by rw [HFIN.out]; rfl, S3.out.bel⟩

theorem refput8_any (h : D8) (sum : Int) (w : World) : Calls Tryd.prog 15 #[.agg h.cells, .int .i64 sum] w fun e w' => e = .returned (.tuple #[.string (put8S h sum), .int .i64 (put8E h sum : Nat)]) ∧ Below w.heap.size w w' := by
  by_cases h0 : h.err = 0
  case neg =>
    rw [(put8_err h0).1, (put8_err h0).2]
    exact refput8_check h sum w h0
  cases hn : in8 sum with
  | false =>
    rw [(put8_sum h0 hn).1, (put8_sum h0 hn).2]
    exact refput8_sumno h sum w h0 hn
  | true =>
    have hok := (D8.err_zero h).1 h0
    have hs := (in8_iff _).1 hn
    rw [(put8_ok hok hs).1, (put8_ok hok hs).2]
    exact refput8_yes h sum w hok hs

end Go.Proofs.YtimcjhekldnipaaDoor

/-
  The document's own Get.
-/
namespace Go.Proofs.YtimcjhekldnipaaDoor
open Go.RowKit
set_option linter.unusedVariables false

/-- The document's Get's end. -/
def Ref8Got (p : ByteArray) (w : World) (e : Ending) (w' : World) : Prop := e = .returned (.tuple #[.agg (get8H p).cells, .int .i64 (get8N p : Nat), .int .i64 (get8E p : Nat)]) ∧ Below w.heap.size w w'

end Go.Proofs.YtimcjhekldnipaaDoor
