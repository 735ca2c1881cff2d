/-
  Put: a header, and a packet behind it; the laws' 'awake'.
-/
import Derived.Test.YtmghdgkdnacinaaDoorGreA
import Derived.Test.YtmghdgkdnacinaaDoorSums
import Derived.Test.YtmghdgkdnacinaaDoorIpipA
namespace Go.Proofs.YtmghdgkdnacinaaDoor
open Go.RowKit
set_option linter.unusedVariables false

/-- A header's block, and the table. -/
structure Ph12 (w W : World) (h : H12) : Prop where
  b : Blk W w.heap.size h.cells 66
  bel : Below w.heap.size w W
  vs : Vers W
theorem Ph12.below {w W W' : World} {h : H12} (r : Ph12 w W h) (hb : Below W.heap.size W W') : Ph12 w W' h :=
  ⟨(hb.block _ r.b.lt).trans r.b, r.bel.trans (hb.mono r.bel.size), r.vs.on hb⟩
theorem Ph12.new (w : World) (h : H12) (hg : Vers w) : Ph12 w (w.alloc (.cells h.cells 66)) h :=
  ⟨Blk.new _ _ _, (Below.refl _ _).alloc (Nat.le_refl _) _, hg.alloc _⟩
theorem kn_lt (v : V11) : v.kn < 65536 := by cases v <;> decide
theorem put12S_err {h : H12} {s : ByteArray} (e : (v11 s).en ≠ 0) : put12S h s = ⟨#[]⟩ := by unfold put12S; rw [if_neg e]
theorem put12S_ok {h : H12} {s : ByteArray} (e : (v11 s).en = 0) : put12S h s = ⟨(head12 h (v11 s).kn (own12 h s)).toArray⟩ ++ s := by
  unfold put12S put12L
  rw [if_pos e]
  apply text_ext
  rw [cat_list, list_text, list_text]
theorem cat_head (l : List UInt8) (s : ByteArray) : (⟨l.toArray⟩ : ByteArray).data.toList ++ s.data.toList = l ++ s.data.toList := rfl

set_option maxRecDepth 100000 in
set_option maxHeartbeats 1000000 in
theorem put12_any (h : H12) (s : ByteArray) (w : World) (hg : Vers w) (hv : h.v < 4294967296) (hs : s.size ≤ 1000000) :
    Calls Tryd.prog 28 #[.agg h.cells, .string s] w (Tells (.tuple #[.string (put12S h s), .int .i64 ((v11 s).en : Nat)]) w) := by
  have S0 := Lib.hid (Ph12.new w h hg)
  have HK := Lib.hid (fun W h => kind11_any s W h)
  have HKL := Lib.hid (kn_lt (v11 s))
  unfold Tells at HK ⊢
  rw [V11.kind_kn, V11.err_en] at HK
  by_cases he : (v11 s).en = 0
  case neg =>
    rw [put12S_err he]
    generalize (v11 s).kn = q at *
    generalize (v11 s).en = E at *
    have t1 : ((E : Int) != 0) = true := by simp; omega
    clear he hg hv hs
    unfold H12.cells at S0 ⊢
    go_enter Tryd.func28, Tryd.ntmps28
    go_wp2_with fail
    refine (HK.out _ S0.out.vs).mono ?_
    rintro e w1 ⟨rfl, hb⟩
    have S1 := Lib.hid (S0.out.below hb)
    clear hb S0
    go_wp2_with fail
    exact ⟨rfl, _, results_tmp2 rfl _ _ _, rfl, S1.out.bel⟩
  rw [put12S_ok he]
  have HW : Hid (own12 h s = match h.sum with | true => sumD (head12 h (v11 s).kn 0 ++ s.data.toList) | false => 0) := rfl
  have HOW : Hid (own12 h s < 65536) := by
    show own12 h s < 65536
    rw [HW.out]
    cases h.sum with
    | true => have := sumD_le (head12 h (v11 s).kn 0 ++ s.data.toList); show sumD _ < 65536; omega
    | false => show (0 : Nat) < 65536; decide
  rw [he] at HK ⊢
  generalize (v11 s).kn = q at *
  have HD := Lib.hid (fun o W ho => header12_any h q o W hv HKL.out ho)
  have HL : Hid ((head12 h q 0).length ≤ 12) := by
    show (head12 h q 0).length ≤ 12
    rw [head12_length]
    cases h.sum <;> cases h.key <;> decide
  have HSZ := Lib.hid hs
  unfold Tells at HD
  clear he hg hv hs
  generalize own12 h s = own at *
  simp only [show ((0 : Nat) : Int) = 0 from rfl] at HK ⊢
  obtain ⟨sm, k, v⟩ := h
  unfold H12.cells at S0 HD ⊢
  simp only at S0 HD HW ⊢
  cases sm with
  | true =>
    go_enter Tryd.func28, Tryd.ntmps28
    go_wp2_with fail
    refine (HK.out _ S0.out.vs).mono ?_
    rintro e w1 ⟨rfl, hb⟩
    have S1 := Lib.hid (S0.out.below hb)
    clear hb S0 HK
    have ⟨c0, c1, c2⟩ := Hc12s.of S1.out.b
    simp only at c0 c1 c2
    go_wp2_with fail
    have HD0 := Lib.hid (HD.out 0 w1 (by decide))
    simp only [show ((0 : Nat) : Int) = 0 from rfl] at HD0
    refine HD0.out.mono ?_
    rintro e w2 ⟨rfl, hb⟩
    have S2 := Lib.hid (S1.out.below hb)
    clear hb S1 HD0 c0 c1 c2
    have HSU := Lib.hid (lit_sum [⟨(head12 ⟨true, k, v⟩ q 0).toArray⟩, s] w2 2 _ rfl rfl (by rw [joined_2, cat_head, List.length_append]; have := HL.out; have := HSZ.out; simp; omega) (by decide))
    rw [joined_2, cat_head, ← HW.out] at HSU
    unfold SumEnd at HSU
    simp only [List.map_cons, List.map_nil] at HSU
    go_wp2_with fail
    refine HSU.out.mono ?_
    rintro e w3 ⟨rfl, hb⟩
    have S3 := Lib.hid (S2.out.below hb)
    clear hb S2 HSU HW HL
    have ⟨c0, c1, c2⟩ := Hc12s.of S3.out.b
    simp only at c0 c1 c2
    go_wp2_with fail
    refine (HD.out own w3 HOW.out).mono ?_
    rintro e w4 ⟨rfl, hb⟩
    have S4 := Lib.hid (S3.out.below hb)
    clear hb S3 HD c0 c1 c2
    have hln : ¬ 9223372036854775807 < (head12 ⟨true, k, v⟩ q own).length + s.size := by
      have := HSZ.out
      have := size12_le true k
      rw [head12_length]
      simp only
      omega
    go_wp2_with fail
    exact ⟨rfl, _, results_tmp2 rfl _ _ _, rfl, S4.out.bel⟩
  | false =>
    have h0 : own = 0 := HW.out
    subst h0
    go_enter Tryd.func28, Tryd.ntmps28
    go_wp2_with fail
    refine (HK.out _ S0.out.vs).mono ?_
    rintro e w1 ⟨rfl, hb⟩
    have S1 := Lib.hid (S0.out.below hb)
    clear hb S0 HK
    have ⟨c0, c1, c2⟩ := Hc12s.of S1.out.b
    simp only at c0 c1 c2
    go_wp2_with fail
    have HD0 := Lib.hid (HD.out 0 w1 (by decide))
    simp only [show ((0 : Nat) : Int) = 0 from rfl] at HD0
    refine HD0.out.mono ?_
    rintro e w2 ⟨rfl, hb⟩
    have S2 := Lib.hid (S1.out.below hb)
    clear hb S1 HD0 c0 c1 c2
    have hln : ¬ 9223372036854775807 < (head12 ⟨false, k, v⟩ q 0).length + s.size := by
      have := HSZ.out
      have := size12_le false k
      rw [head12_length]
      simp only
      omega
    go_wp2_with fail
    exact ⟨rfl, _, results_tmp2 rfl _ _ _, rfl, S2.out.bel⟩

end Go.Proofs.YtmghdgkdnacinaaDoor
