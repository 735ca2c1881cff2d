/-
  The document's Clamp.
-/
import Derived.Test.YtppobficnjpdiaaClampRef
import Derived.Test.YtppobficnjpdiaaClampSum
import Derived.Test.YtppobficnjpdiaaFlowRefSeal
import Derived.Deep.RegionHeld3
namespace Go.Proofs.Ytppobficnjpdiaa
open Go.RowKit
set_option linter.unusedVariables false

set_option maxRecDepth 100000 in
set_option maxHeartbeats 2000000 in
theorem rclamp_stays (p : ByteArray) (lim : Int) (w : World) (hs : p.size ≤ 900000) (h : hasK p = false ∨ (hasK p = true ∧ (mssK p).is_ ≤ nearK lim)) :
    Calls Try.prog 12 #[.string p, .int .i64 lim] w (Tells (.string p) w) := by
  have G := Lib.hid (fun W => rfind_any p W hs)
  have key : (lim < 0 ∧ nearK lim = 0) ∨ (65535 < lim ∧ nearK lim = 65535) ∨ (0 ≤ lim ∧ lim ≤ 65535 ∧ ((nearK lim : Nat) : Int) = lim) := by unfold nearK; omega
  unfold Tells at G ⊢
  generalize (mssK p).is_ = n at *
  generalize rF p = a at *
  generalize rA p = b at *
  generalize nearK lim = l at *
  rcases h with hk | ⟨hk, hl⟩
  · rw [hk] at G
    clear hk
    rcases key with ⟨k1, k2⟩ | ⟨k1, k2⟩ | ⟨k1, k2, k3⟩
    · clear k2
      go_enter Try.func12, Try.ntmps12
      go_wp2_with fail
      refine (G.out _).mono ?_
      rintro e u ⟨rfl, hb⟩
      have L := Lib.hid hb
      clear hb G
      go_wp2_with fail
      go_ret
      exact ⟨rfl, L.out⟩
    · clear k2
      go_enter Try.func12, Try.ntmps12
      go_wp2_with fail
      refine (G.out _).mono ?_
      rintro e u ⟨rfl, hb⟩
      have L := Lib.hid hb
      clear hb G
      go_wp2_with fail
      go_ret
      exact ⟨rfl, L.out⟩
    · clear k3
      go_enter Try.func12, Try.ntmps12
      go_wp2_with fail
      refine (G.out _).mono ?_
      rintro e u ⟨rfl, hb⟩
      have L := Lib.hid hb
      clear hb G
      go_wp2_with fail
      go_ret
      exact ⟨rfl, L.out⟩
  · rw [hk] at G
    clear hk
    rcases key with ⟨k1, k2⟩ | ⟨k1, k2⟩ | ⟨k1, k2, k3⟩
    · have hn : n = 0 := by omega
      clear k2 hl
      subst hn
      go_enter Try.func12, Try.ntmps12
      go_wp2_with fail
      refine (G.out _).mono ?_
      rintro e u ⟨rfl, hb⟩
      have L := Lib.hid hb
      clear hb G
      go_wp2_with fail
      go_ret
      exact ⟨rfl, L.out⟩
    · have hn : n ≤ 65535 := by omega
      clear k2 hl
      go_enter Try.func12, Try.ntmps12
      go_wp2_with fail
      refine (G.out _).mono ?_
      rintro e u ⟨rfl, hb⟩
      have L := Lib.hid hb
      clear hb G
      go_wp2_with fail
      go_ret
      exact ⟨rfl, L.out⟩
    · subst k3
      go_enter Try.func12, Try.ntmps12
      go_wp2_with fail
      refine (G.out _).mono ?_
      rintro e u ⟨rfl, hb⟩
      have L := Lib.hid hb
      clear hb G
      go_wp2_with fail
      go_ret
      exact ⟨rfl, L.out⟩

/-- The flow's block. -/
structure Rk (w W : World) (N : Nat) (f : F9) : Prop where
  b : Blk W N f.cells 30
  bel : Below w.heap.size w W
theorem Rk.drew {w W : World} {N : Nat} {f : F9} (r : Rk w W N f) : Rk w W.drew N f := ⟨r.b.drew, below_drewN r.bel 1⟩
theorem keepRk {w W : World} {N : Nat} {f : F9} (r : Rk w W N f) : W.cell? ⟨N, 1, none⟩ = some (.string f.src) ∧ W.cell? ⟨N, 2, none⟩ = some (.string f.dst) ∧ Hid (Rk w W N f) := ⟨r.b.cell 1, r.b.cell 2, r⟩
theorem keepRk_step {w W W' : World} {N : Nat} {f : F9} (hb : Below W.heap.size W W') (r : W.cell? ⟨N, 1, none⟩ = some (.string f.src) ∧ W.cell? ⟨N, 2, none⟩ = some (.string f.dst) ∧ Hid (Rk w W N f)) :
    W'.cell? ⟨N, 1, none⟩ = some (.string f.src) ∧ W'.cell? ⟨N, 2, none⟩ = some (.string f.dst) ∧ Hid (Rk w W' N f) :=
  keepRk ⟨(hb.block _ r.2.2.out.b.lt).trans r.2.2.out.b, r.2.2.out.bel.trans (hb.mono r.2.2.out.bel.size)⟩
theorem seal9_size (proto : Int) (src dst s : ByteArray) : (seal9 proto src dst s).size = s.size := by
  unfold seal9
  by_cases h : pl9 proto s.size = 0
  · rw [if_pos h]
  · rw [if_neg h]; exact with9_size _ _ _ (pl9_long h)

set_option maxRecDepth 100000 in
set_option maxHeartbeats 2000000 in
theorem rclamp_low (p : ByteArray) (lim : Int) (w : World) (hs : p.size ≤ 500000) (n q : Nat) (h : HasK p n q) (hl : lim < 0) (hn : 0 < n) :
    Calls Try.prog 12 #[.string p, .int .i64 lim] w (Tells (.string (pktK p (fr9 p) q 0 (newK p 0))) w) := by
  have L := h.lies
  have G := Lib.hid (fun W => rfind_any p W (by omega))
  have G2 := Lib.hid (fun W => refget9_any p W (by omega))
  have hE := flowE_zero.2 h.good
  have hdoc := h.doc 0 (by omega)
  have hF : rF p = fr9 p := by unfold rF; rw [h.has]; rfl
  have hA : rA p = 20 + q := by unfold rA; rw [h.has, h.mss]; rfl
  rw [hF, hA, h.has, h.tells] at G
  rw [hE] at G2
  have hsrc : (any9 p).src = (flowH p).src := by rw [flowH_ok hE]; rfl
  have hdst : (any9 p).dst = (flowH p).dst := by rw [flowH_ok hE]; rfl
  have hsz := any9_sizes p
  rw [hsrc, hdst] at hsz hdoc
  have l1 := L.size
  have l2 := L.fit
  have z1 := with9_size (pay9 p) (20 + q) 0 l2
  have hcut := with9_cut (pay9 p) (20 + q) 0
  have ex := L.pay.symm
  unfold Tells at G G2 ⊢
  unfold F9.cells at G2
  simp only at G
  rw [← hdoc]
  clear hdoc hF hA hE hsrc hdst L h
  generalize flowH p = f at *
  have b0 : fr9 p ≤ p.size := by omega
  generalize fr9 p = fr at *
  generalize pay9 p = S at *
  generalize 20 + q = j at *
  obtain ⟨j2, hj2⟩ : ∃ j2, j2 = j + 2 := ⟨_, rfl⟩
  rw [← hj2] at hcut
  obtain ⟨A, hA⟩ : ∃ A, p.extract 0 fr = A := ⟨_, rfl⟩
  obtain ⟨SA, hSA⟩ : ∃ A, S.extract 0 j = A := ⟨_, rfl⟩
  obtain ⟨SD, hSD⟩ : ∃ A, S.extract j2 S.size = A := ⟨_, rfl⟩
  have sA : A.size ≤ 900000 := by rw [← hA, ByteArray.size_extract]; omega
  have sSA : SA.size ≤ 900000 := by rw [← hSA, ByteArray.size_extract]; omega
  have sSD : SD.size ≤ 900000 := by rw [← hSD, ByteArray.size_extract]; omega
  rw [hSA, hSD] at hcut
  rw [hA]
  obtain ⟨B, hB⟩ : ∃ B, B = (⟨(be 0 2).toArray⟩ : ByteArray) := ⟨_, rfl⟩
  have sB : B.size ≤ 2 := by rw [hB, be_size]; omega
  have NB := Lib.hid (bytes_x (0 : Int) 0 2 2 B rfl rfl (by omega) (by omega) hB)
  have hX : with9 S j 0 = SA ++ B ++ SD := by
    rw [← hcut]
    apply text_ext
    rw [cat_list, cat_list, hB]
  have sX : (SA ++ B ++ SD).size ≤ 600000 := by rw [← hX, z1]; omega
  rw [hX]
  clear hX hcut hB z1
  have HS := Lib.hid (fun W => refseal_any 6 f.src f.dst (SA ++ B ++ SD) W (by omega) (by omega) sX)
  have sZ : (seal9 6 f.src f.dst (SA ++ B ++ SD)).size ≤ 600000 := by rw [seal9_size]; exact sX
  clear sX
  generalize hZ : seal9 6 f.src f.dst (SA ++ B ++ SD) = Z at *
  have HZ := Lib.hid hZ
  clear hZ
  have q1 : IntKind.u64.wrap (0 : Int) = 0 := by rw [wrap_u64 _ (by omega) (by omega)]
  have q2 : IntKind.i64.wrap ((j : Int) + 2) = (j2 : Int) := (IntWalk.i64_in _ (by omega)).trans (by omega)
  have b1 : (0 : Int) ≤ (fr : Int) := by omega
  have b2 : (fr : Int) ≤ (p.size : Int) := by omega
  have b3 : (0 : Int) ≤ (j : Int) := by omega
  have b4 : (j : Int) ≤ (S.size : Int) := by omega
  have b5 : (0 : Int) ≤ (j2 : Int) := by omega
  have b6 : (j2 : Int) ≤ (S.size : Int) := by omega
  have a1 : ¬ (9223372036854775807 < SA.size + B.size) := by omega
  have a2 : ¬ (9223372036854775807 < SA.size + B.size + SD.size) := by omega
  have a3 : ¬ (9223372036854775807 < A.size + Z.size) := by omega
  have t1 : decide (n = 0) = false := by simp; omega
  have t2 : ¬ n = 0 := by omega
  have HJ2 := Lib.hid hj2
  clear hj2
  go_enter Try.func12, Try.ntmps12
  go_wp2_with fail
  refine (G.out _).mono ?_
  rintro e u ⟨rfl, hb⟩
  have L1 := Lib.hid hb
  clear hb G
  go_wp2_with fail
  refine (G2.out _).mono ?_
  rintro e u2 ⟨rfl, hb⟩
  have L2 := Lib.hid (L1.out.trans (hb.mono L1.out.size))
  clear hb G2 L1
  have L3 := Lib.hid (L2.out.alloc L2.out.size (.cells #[.int .i64 f.proto, .string f.src, .string f.dst, .int .i64 f.sp, .int .i64 f.dp] 30))
  have B3 := Lib.hid (Blk.new u2 #[.int .i64 f.proto, .string f.src, .string f.dst, .int .i64 f.sp, .int .i64 f.dp] 30)
  go_upto_region 10 with (fail)
  have R0 : Hid (Rk w (u2.alloc (.cells #[.int .i64 f.proto, .string f.src, .string f.dst, .int .i64 f.sp, .int .i64 f.dp] 30)) u2.heap.size f) := ⟨B3.out, L3.out⟩
  generalize u2.alloc (.cells #[.int .i64 f.proto, .string f.src, .string f.dst, .int .i64 f.sp, .int .i64 f.dp] 30) = u3 at *
  generalize u2.heap.size = N at *
  clear L3 B3 L2
  have ⟨k1, k2, k3⟩ := keepRk R0.out.drew
  go_region_held3 (fun W => W.cell? ⟨N, 1, none⟩ = some (.string f.src) ∧ W.cell? ⟨N, 2, none⟩ = some (.string f.dst) ∧ Hid (Rk w W N f))
    (first | exact ⟨k1, k2, k3⟩ | exact keepRk_step (by assumption) (by assumption))
    (first
      | (go_at_call 26; ((with_reducible refine (NB.out _).mono ?_); rintro e w' ⟨rfl, hb⟩))
      | (go_at_call 18; ((with_reducible refine (HS.out _).mono ?_); rintro e w' ⟨rfl, hb⟩)))
  rename_i held
  have S3 := held.2.2
  clear held
  go_wp2_with fail
  go_ret
  exact ⟨rfl, S3.out.bel⟩

set_option maxRecDepth 100000 in
set_option maxHeartbeats 2000000 in
theorem rclamp_mid (p : ByteArray) (lim : Int) (w : World) (hs : p.size ≤ 500000) (n q : Nat) (h : HasK p n q) (l : Nat) (hlim : lim = l) (hl : l ≤ 65535) (hn : l < n) :
    Calls Try.prog 12 #[.string p, .int .i64 lim] w (Tells (.string (pktK p (fr9 p) q l (newK p l))) w) := by
  have L := h.lies
  have G := Lib.hid (fun W => rfind_any p W (by omega))
  have G2 := Lib.hid (fun W => refget9_any p W (by omega))
  have hE := flowE_zero.2 h.good
  have hdoc := h.doc l (by omega)
  have hF : rF p = fr9 p := by unfold rF; rw [h.has]; rfl
  have hA : rA p = 20 + q := by unfold rA; rw [h.has, h.mss]; rfl
  rw [hF, hA, h.has, h.tells] at G
  rw [hE] at G2
  have hsrc : (any9 p).src = (flowH p).src := by rw [flowH_ok hE]; rfl
  have hdst : (any9 p).dst = (flowH p).dst := by rw [flowH_ok hE]; rfl
  have hsz := any9_sizes p
  rw [hsrc, hdst] at hsz hdoc
  have l1 := L.size
  have l2 := L.fit
  have z1 := with9_size (pay9 p) (20 + q) l l2
  have hcut := with9_cut (pay9 p) (20 + q) l
  have ex := L.pay.symm
  unfold Tells at G G2 ⊢
  unfold F9.cells at G2
  simp only at G
  rw [← hdoc]
  clear hdoc hF hA hE hsrc hdst L h
  generalize flowH p = f at *
  have b0 : fr9 p ≤ p.size := by omega
  generalize fr9 p = fr at *
  generalize pay9 p = S at *
  generalize 20 + q = j at *
  obtain ⟨j2, hj2⟩ : ∃ j2, j2 = j + 2 := ⟨_, rfl⟩
  rw [← hj2] at hcut
  obtain ⟨A, hA⟩ : ∃ A, p.extract 0 fr = A := ⟨_, rfl⟩
  obtain ⟨SA, hSA⟩ : ∃ A, S.extract 0 j = A := ⟨_, rfl⟩
  obtain ⟨SD, hSD⟩ : ∃ A, S.extract j2 S.size = A := ⟨_, rfl⟩
  have sA : A.size ≤ 900000 := by rw [← hA, ByteArray.size_extract]; omega
  have sSA : SA.size ≤ 900000 := by rw [← hSA, ByteArray.size_extract]; omega
  have sSD : SD.size ≤ 900000 := by rw [← hSD, ByteArray.size_extract]; omega
  rw [hSA, hSD] at hcut
  rw [hA]
  obtain ⟨B, hB⟩ : ∃ B, B = (⟨(be l 2).toArray⟩ : ByteArray) := ⟨_, rfl⟩
  have sB : B.size ≤ 2 := by rw [hB, be_size]; omega
  have NB := Lib.hid (bytes_x ((l : Int) : Int) l 2 2 B rfl rfl (by omega) (by omega) hB)
  have hX : with9 S j l = SA ++ B ++ SD := by
    rw [← hcut]
    apply text_ext
    rw [cat_list, cat_list, hB]
  have sX : (SA ++ B ++ SD).size ≤ 600000 := by rw [← hX, z1]; omega
  rw [hX]
  clear hX hcut hB z1
  have HS := Lib.hid (fun W => refseal_any 6 f.src f.dst (SA ++ B ++ SD) W (by omega) (by omega) sX)
  have sZ : (seal9 6 f.src f.dst (SA ++ B ++ SD)).size ≤ 600000 := by rw [seal9_size]; exact sX
  clear sX
  generalize hZ : seal9 6 f.src f.dst (SA ++ B ++ SD) = Z at *
  have HZ := Lib.hid hZ
  clear hZ
  have q1 : IntKind.u64.wrap ((l : Int) : Int) = (l : Int) := by rw [wrap_u64 _ (by omega) (by omega)]
  have q2 : IntKind.i64.wrap ((j : Int) + 2) = (j2 : Int) := (IntWalk.i64_in _ (by omega)).trans (by omega)
  have b1 : (0 : Int) ≤ (fr : Int) := by omega
  have b2 : (fr : Int) ≤ (p.size : Int) := by omega
  have b3 : (0 : Int) ≤ (j : Int) := by omega
  have b4 : (j : Int) ≤ (S.size : Int) := by omega
  have b5 : (0 : Int) ≤ (j2 : Int) := by omega
  have b6 : (j2 : Int) ≤ (S.size : Int) := by omega
  have a1 : ¬ (9223372036854775807 < SA.size + B.size) := by omega
  have a2 : ¬ (9223372036854775807 < SA.size + B.size + SD.size) := by omega
  have a3 : ¬ (9223372036854775807 < A.size + Z.size) := by omega
  have t1 : decide (n ≤ l) = false := by simp; omega
  subst hlim
  have HJ2 := Lib.hid hj2
  clear hj2
  go_enter Try.func12, Try.ntmps12
  go_wp2_with fail
  refine (G.out _).mono ?_
  rintro e u ⟨rfl, hb⟩
  have L1 := Lib.hid hb
  clear hb G
  go_wp2_with fail
  refine (G2.out _).mono ?_
  rintro e u2 ⟨rfl, hb⟩
  have L2 := Lib.hid (L1.out.trans (hb.mono L1.out.size))
  clear hb G2 L1
  have L3 := Lib.hid (L2.out.alloc L2.out.size (.cells #[.int .i64 f.proto, .string f.src, .string f.dst, .int .i64 f.sp, .int .i64 f.dp] 30))
  have B3 := Lib.hid (Blk.new u2 #[.int .i64 f.proto, .string f.src, .string f.dst, .int .i64 f.sp, .int .i64 f.dp] 30)
  go_upto_region 10 with (fail)
  have R0 : Hid (Rk w (u2.alloc (.cells #[.int .i64 f.proto, .string f.src, .string f.dst, .int .i64 f.sp, .int .i64 f.dp] 30)) u2.heap.size f) := ⟨B3.out, L3.out⟩
  generalize u2.alloc (.cells #[.int .i64 f.proto, .string f.src, .string f.dst, .int .i64 f.sp, .int .i64 f.dp] 30) = u3 at *
  generalize u2.heap.size = N at *
  clear L3 B3 L2
  have ⟨k1, k2, k3⟩ := keepRk R0.out.drew
  go_region_held3 (fun W => W.cell? ⟨N, 1, none⟩ = some (.string f.src) ∧ W.cell? ⟨N, 2, none⟩ = some (.string f.dst) ∧ Hid (Rk w W N f))
    (first | exact ⟨k1, k2, k3⟩ | exact keepRk_step (by assumption) (by assumption))
    (first
      | (go_at_call 26; ((with_reducible refine (NB.out _).mono ?_); rintro e w' ⟨rfl, hb⟩))
      | (go_at_call 18; ((with_reducible refine (HS.out _).mono ?_); rintro e w' ⟨rfl, hb⟩)))
  rename_i held
  have S3 := held.2.2
  clear held
  go_wp2_with fail
  go_ret
  exact ⟨rfl, S3.out.bel⟩

theorem rclamp_any (p : ByteArray) (lim : Int) (w : World) (hs : p.size ≤ 500000) :
    Calls Try.prog 12 #[.string p, .int .i64 lim] w (Tells (.string (clampK p (nearK lim))) w) := by
  cases hk : hasK p with
  | false => rw [clampK_none _ hk]; exact rclamp_stays p lim w (by omega) (Or.inl hk)
  | true =>
    obtain ⟨n, q, h⟩ := HasK.of hk
    rw [h.clamp]
    by_cases hl : nearK lim < n
    · rw [if_pos hl]
      have hm := h.lies.most
      by_cases h0 : lim < 0
      · have e : nearK lim = 0 := by unfold nearK; omega
        rw [e] at hl ⊢
        exact rclamp_low p lim w hs n q h h0 hl
      · have h1 : lim ≤ 65535 := by unfold nearK at hl; omega
        exact rclamp_mid p lim w hs n q h (nearK lim) (by unfold nearK; omega) (by unfold nearK; omega) hl
    · rw [if_neg hl]; exact rclamp_stays p lim w (by omega) (Or.inr ⟨hk, by rw [h.tells]; show n ≤ _; omega⟩)

end Go.Proofs.Ytppobficnjpdiaa
