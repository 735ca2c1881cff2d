/-
  UdpBack returns true at every input.
-/
import Derived.Test.YtcalpkdgpiebmaaUdpAwake
import Derived.Test.YtcalpkdgpiebmaaUdpGet
import Derived.Deep.CutBlock
import Derived.Deep.DeepCutAuto
namespace Go.Proofs.Ytcalpkdgpiebmaa
open Go.RowKit
set_option linter.unusedVariables false

theorem put8_cases (h : D8) (sum : Int) : (put8E h sum = 0 ∧ Sent8 h sum (put8S h sum)) ∨ (put8E h sum ≠ 0 ∧ put8S h sum = ⟨#[]⟩) := by
  rcases put8_told h sum with ⟨e, hok, hn, hs⟩ | ⟨e, hs⟩
  · exact Or.inl ⟨e, by rw [hs]; exact put8_get h sum hok hn⟩
  · exact Or.inr ⟨e, hs⟩
theorem str_eq8 (s : ByteArray) : (s.toList == s.toList) = true := by simp
/-- A datagram with one byte more is none. -/
theorem Sent8.more {h : D8} {sum : Int} {P : ByteArray} (s : Sent8 h sum P) (z : ByteArray) (hz : z.size = 1) : get8E (P ++ z) = 4 := by
  have hs := s.size
  have hz : (P ++ z).size = P.size + 1 := by rw [cat_size, hz]
  have e : (P ++ z).data.toList.take 8 = P.data.toList.take 8 := by
    rw [cat_list, List.take_append_of_le_length (by simp; omega)]
  have hn : numOf (P ++ z) 4 2 = numOf P 4 2 := same_num e (by decide)
  exact get8E_len (by omega) (by rw [hn, s.len]; omega)
/-- .. nor is one with one byte less. -/
theorem Sent8.less {h : D8} {sum : Int} {P : ByteArray} (s : Sent8 h sum P) : get8E (P.extract 0 (P.size - 1)) ≠ 0 := by
  intro e
  obtain ⟨h8, hl⟩ := get8E_zero.1 e
  have hz : (P.extract 0 (P.size - 1)).size = P.size - 1 := by rw [ByteArray.size_extract]; omega
  have e6 : (P.extract 0 (P.size - 1)).data.toList.take 6 = P.data.toList.take 6 := by
    rw [sl_ext]; unfold sl; rw [List.drop_zero, List.take_take, Nat.min_eq_left (by omega)]
  have hn : numOf (P.extract 0 (P.size - 1)) 4 2 = numOf P 4 2 := same_num e6 (by decide)
  rw [hn, s.len, hz] at hl
  have := s.size
  omega

set_option maxRecDepth 100000 in
set_option maxHeartbeats 4000000 in
theorem back8_any (h : D8) (sum : Int) (p : ByteArray) (w : World) (hp2 : p.size ≤ 140737488355328) :
    Calls Try.prog 4 #[.agg h.cells, .int .i64 sum, .string p] w (AwakeEnd w) := by
  have HA := Lib.hid (awake8_any (w.alloc (.cells h.cells 23)))
  have H1 := Lib.hid (fun W => put8_any h sum W)
  have S1 := Lib.hid (Held8.new w h)
  have PT := Lib.hid (put8_cases h sum)
  unfold Put8End at H1
  generalize put8S h sum = P at *
  generalize put8E h sum = E at *
  unfold D8.cells at HA H1 S1 ⊢
  go_enter Try.func4, Try.ntmps4
  go_wp2_with fail
  refine HA.out.mono ?_
  rintro e w1 ⟨rfl, hb1⟩
  have S2 := Lib.hid (S1.out.below hb1)
  clear hb1 S1 HA
  have ⟨c0, c1, c2⟩ := Hc8.of S2.out.b
  by_cases h7 : h.pay.size ≤ 70000
  case neg =>
    have t7 : decide ((70000 : Int) < (h.pay.size : Int)) = true := by simp; omega
    go_wp2_with fail
    go_ret
    exact ⟨rfl, S2.out.bel⟩
  have t7 : decide ((70000 : Int) < (h.pay.size : Int)) = false := by simp; omega
  by_cases h8 : p.size ≤ 70000
  case neg =>
    have t8 : decide ((70000 : Int) < (p.size : Int)) = true := by simp; omega
    go_wp2_with fail
    go_ret
    exact ⟨rfl, S2.out.bel⟩
  have t8 : decide ((70000 : Int) < (p.size : Int)) = false := by simp; omega
  go_wp2_with fail
  refine (H1.out _).mono ?_
  rintro e w3 ⟨rfl, hb3⟩
  have S4 := Lib.hid (S2.out.below hb3)
  clear hb3 S2 H1 c0 c1 c2 t7 t8
  go_upto_if 41 with (fail)
  go_cut [6] (fun v wx => Hid (Below w.heap.size w wx))
  case first =>
    rcases PT.out with ⟨rfl, hsent⟩ | ⟨hE, rfl⟩
    · have hPz := hsent.size
      have hPs : P.size ≤ 80000 := by omega
      have G1 := Lib.hid (fun W => get8_any P W (by omega))
      unfold Get8End at G1
      have hg := hsent.got
      have hgo := get8_ok hg
      rw [hgo.1, hgo.2, hsent.dat, hsent.num, hg] at G1
      obtain ⟨Z, hZ⟩ : ∃ Z, Z = P ++ (⟨#[122]⟩ : ByteArray) := ⟨_, rfl⟩
      have hZs : Z.size ≤ 80001 := by
        have : (P ++ (⟨#[122]⟩ : ByteArray)).size = P.size + 1 := by rw [cat_size]; rfl
        rw [hZ, this]; omega
      have G2 := Lib.hid (fun W => get8_any Z W (by omega))
      have EZ : get8E Z = 4 := by rw [hZ]; exact hsent.more _ rfl
      have hzn := get8_err (b := Z) (by rw [EZ]; decide)
      unfold Get8End at G2
      rw [hzn.1, hzn.2, EZ] at G2
      rw [hZ] at G2
      obtain ⟨n, hn⟩ : ∃ n, n = P.size - 1 := ⟨_, rfl⟩
      have m1 : (P.size : Int) - 1 = (n : Int) := by omega
      have m2 : (n : Int) ≤ (P.size : Int) := by omega
      obtain ⟨L, hL⟩ : ∃ L, P.extract 0 (P.size - 1) = L := ⟨_, rfl⟩
      have hLs : L.size ≤ 80000 := by rw [← hL, ByteArray.size_extract]; omega
      have G3 := Lib.hid (fun W => get8_any L W (by omega))
      have EL : get8E L ≠ 0 := by rw [← hL]; exact hsent.less
      have hln := get8_err EL
      unfold Get8End at G3
      rw [hln.1, hln.2] at G3
      have hE0 := Lib.hid EL
      generalize get8E L = q at *
      have tE : ((q : Int) == 0) = false := by have := hE0.out; simp; omega
      have HLL : Hid (P.extract 0 n = L) := by show P.extract 0 n = L; rw [hn]; exact hL
      have HM := Lib.hid (And.intro m1 m2)
      clear hsent PT hg hgo hPz hZ hZs EZ hzn hL hLs EL hln hE0 hn m1 m2
      unfold D8.zero D8.cells at G2 G3
      unfold D8.cells at G1
      simp only at G2 G3
      go_wp2_with fail
      refine (G1.out _).mono ?_
      rintro e w4 ⟨rfl, hb4⟩
      have S5 := Lib.hid (S4.out.below hb4)
      clear hb4 S4 G1
      have B4 : Hid (Blk (w4.alloc (.cells h.cells 23)) w4.heap.size h.cells 23) := Blk.new w4 h.cells _
      have S6 := Lib.hid (S5.out.alloc (.cells h.cells 23))
      clear S5
      unfold D8.cells at B4 S6
      go_wp2_with fail
      generalize w4.alloc (.cells #[.int .i64 h.src, .int .i64 h.dst, .string h.pay] 23) = w5 at *
      generalize w4.heap.size = N at *
      refine (G2.out _).mono ?_
      rintro e w6 ⟨rfl, hb6⟩
      have B6 : Hid (Blk w6 N #[.int .i64 h.src, .int .i64 h.dst, .string h.pay] 23) := (hb6.block _ B4.out.lt).trans B4.out
      have S7 := Lib.hid ((S6.out.below hb6).alloc (.cells #[.int .i64 0, .int .i64 0, .string ⟨#[]⟩] 23))
      have B7 := Lib.hid (Blk.alloc B6.out (.cells #[.int .i64 0, .int .i64 0, .string ⟨#[]⟩] 23))
      clear hb6 S6 G2 B4 B6
      have ⟨m1, m2⟩ := HM.out
      have hL := HLL.out
      go_wp2_with fail
      generalize w6.alloc (.cells #[.int .i64 0, .int .i64 0, .string ⟨#[]⟩] 23) = w7 at *
      clear m1 m2 hL
      refine (G3.out _).mono ?_
      rintro e w8 ⟨rfl, hb8⟩
      have B8 : Hid (Blk w8 N #[.int .i64 h.src, .int .i64 h.dst, .string h.pay] 23) := (hb8.block _ (Blk.lt B7.out)).trans B7.out
      have S9 := Lib.hid ((S7.out.below hb8).alloc (.cells #[.int .i64 0, .int .i64 0, .string ⟨#[]⟩] 23))
      have B9 := Lib.hid (Blk.alloc B8.out (.cells #[.int .i64 0, .int .i64 0, .string ⟨#[]⟩] 23))
      clear hb8 S7 G3 B7 B8
      have ⟨c0, c1, c2⟩ := Hc8.of (h := h) S9.out.b
      have ⟨d0, d1, d2⟩ := Hc8.of (h := h) B9.out
      go_wp2_with fail
      go_meet
      exact Lib.hid S9.out.bel
    · have tE : ((E : Int) == 0) = false := by simp; omega
      clear PT hE
      go_wp2_with fail
      go_meet
      exact Lib.hid S4.out.bel
  case rest =>
  have B4 := hcut
  clear hcut PT S4
  have G1 := Lib.hid (fun W => get8_any p W (by omega))
  unfold Get8End at G1
  by_cases hg : get8E p = 0
  case neg =>
    have he := get8_err hg
    rw [he.1, he.2] at G1
    have tg : ((get8E p : Int) != 0) = true := by simp; omega
    generalize get8E p = E2 at *
    clear hg he
    unfold D8.zero D8.cells at G1
    simp only at G1
    go_wp2_with fail
    refine (G1.out _).mono ?_
    rintro e w5 ⟨rfl, hb5⟩
    have B5 := Lib.hid (B4.out.trans (hb5.mono B4.out.size))
    clear hb5 B4 G1
    go_wp2_with fail
    go_ret
    exact ⟨rfl, B5.out.alloc B5.out.size _⟩
  have hgo := get8_ok hg
  rw [hgo.1, hgo.2, hg] at G1
  have hgp := get8_put p hg
  have hpo := put8_ok hgp.1 hgp.2.1
  have H2 := Lib.hid (fun W => put8_any (dat8 p) (numOf p 6 2 : Int) W)
  unfold Put8End at H2
  rw [hpo.1, hpo.2, hgp.2.2] at H2
  clear hg hgo hgp hpo
  generalize dat8 p = hd at *
  generalize numOf p 6 2 = n2 at *
  have ts := str_eq8 p
  unfold D8.cells at G1 H2
  go_wp2_with fail
  refine (G1.out _).mono ?_
  rintro e w5 ⟨rfl, hb5⟩
  have B5 := Lib.hid (B4.out.trans (hb5.mono B4.out.size))
  clear hb5 B4 G1
  go_wp2_with fail
  refine (H2.out _).mono ?_
  rintro e w6 ⟨rfl, hb6⟩
  have B6 := Lib.hid ((B5.out.alloc B5.out.size _).trans (hb6.mono (B5.out.alloc B5.out.size _).size))
  clear hb6 B5 H2
  go_wp2_with fail
  go_ret
  exact ⟨rfl, B6.out⟩

end Go.Proofs.Ytcalpkdgpiebmaa
