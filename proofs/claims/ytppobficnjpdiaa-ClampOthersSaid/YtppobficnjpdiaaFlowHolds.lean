/-
  Does the sum hold?
-/
import Derived.Test.YtppobficnjpdiaaFlowRead
namespace Go.Proofs.Ytppobficnjpdiaa
open Go.RowKit
set_option linter.unusedVariables false

theorem pseudo_len (src dst : ByteArray) (proto n : Int) : (pseudoD src.data.toList dst.data.toList proto n).length ≤ src.size + dst.size + 8 := by
  unfold pseudoD
  split <;> simp only [List.length_append, size_list, List.length_cons, List.length_nil] <;> omega

set_option maxRecDepth 100000 in
set_option maxHeartbeats 1000000 in
theorem holds4_any (h : H4) (own : Nat) (b : ByteArray) (w : World) (hb : b.size ≤ 900000) (hs : h.src.size ≤ 400000) (hd : h.dst.size ≤ 400000) :
    Calls Try.prog 38 #[(A9.four h).value, .int .i64 (own : Nat), .string b] w (Tells (.bool ((A9.four h).holds own b)) w) := by
  have HH : Hid ((A9.four h).holds own b = if h.proto = 17 ∧ own = 0 then (A9.four h).lax else decide (sumD (ph9 h.proto h.src h.dst b) = 0)) := rfl
  have Q1 := Lib.hid (bare4_any h w)
  have Q2 := Lib.hid (lax4_any h)
  have Q3 := Lib.hid (fun W => pseudo_any h.src h.dst h.proto (b.size : Nat) W (by omega) (by omega))
  have HL : (pseudoD h.src.data.toList h.dst.data.toList h.proto (b.size : Nat)).length ≤ 1000000 := by
    have := pseudo_len h.src h.dst h.proto (b.size : Nat)
    omega
  have HP : Hid (ph9 h.proto h.src h.dst b = pseudoD h.src.data.toList h.dst.data.toList h.proto (b.size : Nat) ++ b.data.toList) := rfl
  rw [show (A9.four h).bare.cells = #[.int .i64 h.proto, .string h.src, .string h.dst, .int .i64 0, .int .i64 0] from rfl] at Q1
  generalize pseudoD h.src.data.toList h.dst.data.toList h.proto (b.size : Nat) = l at *
  generalize ph9 h.proto h.src h.dst b = ph at *
  generalize (A9.four h).holds own b = r at *
  generalize (A9.four h).lax = lx at *
  unfold Tells at Q1 Q2 ⊢
  unfold A9.value
  simp only
  generalize h.proto = pr at *
  generalize h.src = src at *
  generalize h.dst = dst at *
  generalize h.cells = cs at *
  clear hs hd
  go_enter Try.func38, Try.ntmps38
  go_wp2_with fail
  refine Q1.out.mono ?_
  rintro e w1 ⟨rfl, hb1⟩
  have ⟨B, L⟩ := got_made w w1 hb1 #[.int .i64 pr, .string src, .string dst, .int .i64 0, .int .i64 0] 30
  have HB := Lib.hid L
  clear B L hb1 Q1
  by_cases hp : pr = 17
  · have t1 : (pr == 17) = true := by simp; omega
    by_cases ho : own = 0
    · have t2 : ((own : Int) == 0) = true := by simp; omega
      have HR := Lib.hid (HH.out.trans (if_pos ⟨hp, ho⟩))
      clear HH hp ho
      go_wp2_with fail
      refine (Q2.out _).mono ?_
      rintro e w2 ⟨rfl, hb2⟩
      have HB2 := Lib.hid (HB.out.trans (hb2.mono HB.out.size))
      go_wp2_with fail
      go_ret
      exact ⟨by rw [HR.out]; rfl, HB2.out⟩
    · have t2 : ((own : Int) == 0) = false := by simp; omega
      have HR := Lib.hid (HH.out.trans (if_neg (fun x => ho x.2)))
      clear HH hp ho
      go_wp2_with fail
      refine (Q3.out _).mono ?_
      rintro e w2 ⟨rfl, hb2⟩
      have HB2 := Lib.hid (HB.out.trans (hb2.mono HB.out.size))
      clear hb2
      go_wp2_with fail
      refine (right_2n ⟨l.toArray⟩ b w2 _ rfl r (by rw [list_size]; omega) (by omega) (by rw [HR.out, HP.out])).mono ?_
      rintro e w3 ⟨rfl, hb3⟩
      have HB3 := Lib.hid (HB2.out.trans (hb3.mono HB2.out.size))
      clear hb3
      go_wp2_with fail
      go_ret
      exact ⟨rfl, HB3.out⟩
  · have t1 : (pr == 17) = false := by simp; omega
    have HR := Lib.hid (HH.out.trans (if_neg (fun x => hp x.1)))
    clear HH hp
    go_wp2_with fail
    refine (Q3.out _).mono ?_
    rintro e w2 ⟨rfl, hb2⟩
    have HB2 := Lib.hid (HB.out.trans (hb2.mono HB.out.size))
    clear hb2
    go_wp2_with fail
    refine (right_2n ⟨l.toArray⟩ b w2 _ rfl r (by rw [list_size]; omega) (by omega) (by rw [HR.out, HP.out])).mono ?_
    rintro e w3 ⟨rfl, hb3⟩
    have HB3 := Lib.hid (HB2.out.trans (hb3.mono HB2.out.size))
    clear hb3
    go_wp2_with fail
    go_ret
    exact ⟨rfl, HB3.out⟩

set_option maxRecDepth 100000 in
set_option maxHeartbeats 1000000 in
theorem holds6_any (h : H6) (own : Nat) (b : ByteArray) (w : World) (hb : b.size ≤ 900000) (hs : h.src.size ≤ 400000) (hd : h.dst.size ≤ 400000) :
    Calls Try.prog 38 #[(A9.six h).value, .int .i64 (own : Nat), .string b] w (Tells (.bool ((A9.six h).holds own b)) w) := by
  have HH : Hid ((A9.six h).holds own b = if h.nxt = 17 ∧ own = 0 then (A9.six h).lax else decide (sumD (ph9 h.nxt h.src h.dst b) = 0)) := rfl
  have Q1 := Lib.hid (bare6_any h w)
  have Q2 := Lib.hid (lax6_any h)
  have Q3 := Lib.hid (fun W => pseudo_any h.src h.dst h.nxt (b.size : Nat) W (by omega) (by omega))
  have HL : (pseudoD h.src.data.toList h.dst.data.toList h.nxt (b.size : Nat)).length ≤ 1000000 := by
    have := pseudo_len h.src h.dst h.nxt (b.size : Nat)
    omega
  have HP : Hid (ph9 h.nxt h.src h.dst b = pseudoD h.src.data.toList h.dst.data.toList h.nxt (b.size : Nat) ++ b.data.toList) := rfl
  rw [show (A9.six h).bare.cells = #[.int .i64 h.nxt, .string h.src, .string h.dst, .int .i64 0, .int .i64 0] from rfl] at Q1
  generalize pseudoD h.src.data.toList h.dst.data.toList h.nxt (b.size : Nat) = l at *
  generalize ph9 h.nxt h.src h.dst b = ph at *
  generalize (A9.six h).holds own b = r at *
  generalize (A9.six h).lax = lx at *
  unfold Tells at Q1 Q2 ⊢
  unfold A9.value
  simp only
  generalize h.nxt = pr at *
  generalize h.src = src at *
  generalize h.dst = dst at *
  generalize h.cells = cs at *
  clear hs hd
  go_enter Try.func38, Try.ntmps38
  go_wp2_with fail
  refine Q1.out.mono ?_
  rintro e w1 ⟨rfl, hb1⟩
  have ⟨B, L⟩ := got_made w w1 hb1 #[.int .i64 pr, .string src, .string dst, .int .i64 0, .int .i64 0] 30
  have HB := Lib.hid L
  clear B L hb1 Q1
  by_cases hp : pr = 17
  · have t1 : (pr == 17) = true := by simp; omega
    by_cases ho : own = 0
    · have t2 : ((own : Int) == 0) = true := by simp; omega
      have HR := Lib.hid (HH.out.trans (if_pos ⟨hp, ho⟩))
      clear HH hp ho
      go_wp2_with fail
      refine (Q2.out _).mono ?_
      rintro e w2 ⟨rfl, hb2⟩
      have HB2 := Lib.hid (HB.out.trans (hb2.mono HB.out.size))
      go_wp2_with fail
      go_ret
      exact ⟨by rw [HR.out]; rfl, HB2.out⟩
    · have t2 : ((own : Int) == 0) = false := by simp; omega
      have HR := Lib.hid (HH.out.trans (if_neg (fun x => ho x.2)))
      clear HH hp ho
      go_wp2_with fail
      refine (Q3.out _).mono ?_
      rintro e w2 ⟨rfl, hb2⟩
      have HB2 := Lib.hid (HB.out.trans (hb2.mono HB.out.size))
      clear hb2
      go_wp2_with fail
      refine (right_2n ⟨l.toArray⟩ b w2 _ rfl r (by rw [list_size]; omega) (by omega) (by rw [HR.out, HP.out])).mono ?_
      rintro e w3 ⟨rfl, hb3⟩
      have HB3 := Lib.hid (HB2.out.trans (hb3.mono HB2.out.size))
      clear hb3
      go_wp2_with fail
      go_ret
      exact ⟨rfl, HB3.out⟩
  · have t1 : (pr == 17) = false := by simp; omega
    have HR := Lib.hid (HH.out.trans (if_neg (fun x => hp x.1)))
    clear HH hp
    go_wp2_with fail
    refine (Q3.out _).mono ?_
    rintro e w2 ⟨rfl, hb2⟩
    have HB2 := Lib.hid (HB.out.trans (hb2.mono HB.out.size))
    clear hb2
    go_wp2_with fail
    refine (right_2n ⟨l.toArray⟩ b w2 _ rfl r (by rw [list_size]; omega) (by omega) (by rw [HR.out, HP.out])).mono ?_
    rintro e w3 ⟨rfl, hb3⟩
    have HB3 := Lib.hid (HB2.out.trans (hb3.mono HB2.out.size))
    clear hb3
    go_wp2_with fail
    go_ret
    exact ⟨rfl, HB3.out⟩

end Go.Proofs.Ytppobficnjpdiaa
