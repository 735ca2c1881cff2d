/-
  Put: a header, and a datagram.
-/
import Derived.Test.YtbfcccfgphelhaaDoorGueSpec
import Derived.Test.YtbfcccfgphelhaaDoorUdpPut
import Derived.Deep.RegionHeld3
namespace Go.Proofs.YtbfcccfgphelhaaDoor
open Go.RowKit
set_option linter.unusedVariables false

/-- What was there, and both tables. -/
structure Gl13 (w W : World) : Prop where
  bel : Below w.heap.size w W
  vs : Vers W
  ps : Places W
theorem Places.on {w w' : World} (h : Places w) (hb : Below w.heap.size w w') : Places w' := h.below hb h.lt
theorem Places.kb {S : Nat → Prop} {w w' : World} (h : Places w) (k : Kb S w w') (hs : ¬ S 0) : Places w' := by
  have hlt := h.lt
  obtain ⟨T, fr, h0⟩ := h.at0
  exact ⟨T, fr, (k.block _ hlt hs).trans h0⟩
theorem Gl13.new {w : World} (hv : Vers w) (hp : Places w) : Gl13 w w := ⟨Below.refl _ _, hv, hp⟩
theorem Gl13.below {w W W' : World} (r : Gl13 w W) (hb : Below W.heap.size W W') : Gl13 w W' := ⟨r.bel.trans (hb.mono r.bel.size), r.vs.on hb, r.ps.on hb⟩
theorem Gl13.alloc {w W : World} (r : Gl13 w W) (o : Obj) : Gl13 w (W.alloc o) := r.below ((Below.refl _ _).alloc (Nat.le_refl _) o)
theorem Gl13.drew {w W : World} (r : Gl13 w W) : Gl13 w W.drew := r.below (below_drewN (Below.refl _ _) 1)

/-- A head's block besides. -/
structure Gm13 (w W : World) (N : Nat) (g : H13) : Prop where
  b : Blk W N g.cells 28
  gl : Gl13 w W
  le : w.heap.size ≤ N
theorem Gm13.below {w W W' : World} {N : Nat} {g : H13} (r : Gm13 w W N g) (hb : Below W.heap.size W W') : Gm13 w W' N g :=
  ⟨(hb.block _ r.b.lt).trans r.b, r.gl.below hb, r.le⟩
theorem Gm13.alloc {w W : World} {N : Nat} {g : H13} (r : Gm13 w W N g) (o : Obj) : Gm13 w (W.alloc o) N g := r.below ((Below.refl _ _).alloc (Nat.le_refl _) o)
theorem Gm13.drew {w W : World} {N : Nat} {g : H13} (r : Gm13 w W N g) : Gm13 w W.drew N g := r.below (below_drewN (Below.refl _ _) 1)
theorem Gm13.new {w W : World} (g : H13) (r : Gl13 w W) : Gm13 w (W.alloc (.cells g.cells 28)) W.heap.size g :=
  ⟨Blk.new _ _ _, r.alloc _, r.bel.size⟩
/-- Its cells. -/
structure Hc13 (u : World) (B : Nat) (h : H13) : Prop where
  c0 : u.cell? ⟨B, 0, none⟩ = some (.int .i64 h.port)
  c1 : u.cell? ⟨B, 1, none⟩ = some (.bool h.sum)
theorem Hc13.of {u : World} {B : Nat} {h : H13} {T : TypeId} (hb : Blk u B h.cells T) : Hc13 u B h := ⟨hb.cell 0, hb.cell 1⟩

set_option maxRecDepth 100000 in
set_option maxHeartbeats 1000000 in
theorem header13_any (n : Nat) (w : World) (hn : n ≤ 255) :
    Calls Tryd.prog 15 #[.int .i64 (n : Nat)] w fun e w' => e = .returned (.string ⟨(hd13 n).toArray⟩) ∧ Below w.heap.size w w' := by
  have P0 := Lib.hid (Pw9.new w)
  have HM : Hid (IntKind.u64.wrap (n : Int) = (n : Nat)) := by show IntKind.u64.wrap (n : Int) = (n : Nat); rw [wrap_u64_any]; omega
  have HN := Lib.hid hn
  clear hn
  go_enter Tryd.func15, Tryd.ntmps15
  go_wp2_with fail
  generalize w.alloc (.cells #[.slice none 0 0] 73) = u0 at *
  refine (wu8_any _ _ _ _ 0 u0 P0.out.wr (by decide) (by decide) (by simp)).mono ?_
  rintro e u1 ⟨rfl, h1, k1⟩
  have P1 := Lib.hid (P0.out.step h1 k1)
  clear h1 k1 P0
  go_wp2_with fail
  refine (wu8_any _ _ _ _ n u1 P1.out.wr HM.out (by have := HN.out; omega) (by simp [be_length])).mono ?_
  rintro e u2 ⟨rfl, h2, k2⟩
  have P2 := Lib.hid (P1.out.step h2 k2)
  clear h2 k2 P1
  go_wp2_with fail
  refine (wu16_any _ _ _ _ 0 u2 P2.out.wr (by decide) (by decide) (by simp [be_length])).mono ?_
  rintro e u3 ⟨rfl, h3, k3⟩
  have P3 := Lib.hid (P2.out.step h3 k3)
  clear h3 k3 P2
  go_wp2_with fail
  refine (wstring_any _ _ _ _ P3.out.wr).mono ?_
  rintro e w' ⟨rfl, rfl⟩
  go_wp2_with fail
  go_ret
  exact ⟨by simp [hd13], P3.out.bel⟩

theorem put8E_none (d : D8) : put8E d 0 = d.err := by
  unfold put8E
  split
  · rename_i h; rw [h]; rfl
  · rfl

theorem keep13 {w W W' : World} {N : Nat} {g : H13} (k : W.cell? ⟨N, 0, none⟩ = some (.int .i64 g.port) ∧ W.cell? ⟨N, 1, none⟩ = some (.bool g.sum) ∧ Hid (Gm13 w W N g)) (hb : Below W.heap.size W W') :
    W'.cell? ⟨N, 0, none⟩ = some (.int .i64 g.port) ∧ W'.cell? ⟨N, 1, none⟩ = some (.bool g.sum) ∧ Hid (Gm13 w W' N g) := by
  have s := k.2.2.out.below hb
  have ⟨c0, c1⟩ := Hc13.of s.b
  exact ⟨c0, c1, Lib.hid s⟩

set_option maxRecDepth 100000 in
set_option maxHeartbeats 2000000 in
theorem put13_any (h : H13) (src dst s : ByteArray) (w : World) (hv : Vers w) (hp : Places w) (hs : src.size ≤ 100000) (hd : dst.size ≤ 100000) (hz : s.size ≤ 1000000) :
    Calls Tryd.prog 9 #[.agg h.cells, .string src, .string dst, .string s] w (Tells (.tuple #[.string (put13S h src dst s), .int .i64 (put13E h.port s : Nat)]) w) := by
  have S0 := Lib.hid (Gm13.new h (Gl13.new hv hp))
  have HF := Lib.hid (fun W h => proto11_any s W h)
  have HE : Hid (put13E h.port s = if (v11 s).en ≠ 0 then (v11 s).en else (dg13 h.port s).err) := rfl
  have HX : Hid (put13S h src dst s = if put13E h.port s = 0 then full13 h src dst s else ⟨#[]⟩) := rfl
  obtain ⟨A, hA⟩ : ∃ A, A = (⟨(hd13 (v11 s).pn).toArray⟩ : ByteArray) := ⟨_, rfl⟩
  have HH := fun W => header13_any (v11 s).pn W (by have := (v11 s).pn_le; omega)
  rw [← hA] at HH
  have HD : Hid (A ++ s = pay13 s) := by show A ++ s = pay13 s; rw [hA]; rfl
  have zA : A.size = 4 := by rw [hA, list_size, hd13_length]
  have HP := Lib.hid (fun W => put8_any ⟨h.port, 6080, A ++ s⟩ 0 W)
  have a1 : ¬ (9223372036854775807 < A.size + s.size) := by omega
  have HZ := Lib.hid (show 8 + (A ++ s).size ≤ 800000 ∨ True from Or.inr trivial)
  have HQ : Hid (put8E ⟨h.port, 6080, A ++ s⟩ 0 = (dg13 h.port s).err) := by show put8E _ 0 = _; rw [put8E_none, HD.out]; rfl
  have HB : Hid ((dg13 h.port s).err = 0 → put8S ⟨h.port, 6080, A ++ s⟩ 0 = bare13 h.port s ∧ (bare13 h.port s).size ≤ 70000) := by
    show (dg13 h.port s).err = 0 → _
    intro h0
    have hok := (D8.err_zero _).1 h0
    rw [HD.out]
    refine ⟨(put8_ok hok (by decide)).2, ?_⟩
    have := (put8_get _ 0 hok (by decide)).size
    have hpl := hok.pay
    unfold bare13
    omega
  have HS := Lib.hid hs
  have HDs := Lib.hid hd
  have HFU : Hid (full13 h src dst s = match h.sum with | true => seal9 17 src dst (bare13 h.port s) | false => bare13 h.port s) := rfl
  unfold Tells at HF ⊢
  unfold Put8End at HP
  rw [V11.proto_pn, V11.err_en] at HF
  generalize put8E ⟨h.port, 6080, A ++ s⟩ 0 = F at *
  generalize put8S ⟨h.port, 6080, A ++ s⟩ 0 = X at *
  generalize full13 h src dst s = U at *
  generalize bare13 h.port s = B at *
  generalize (dg13 h.port s).err = D at *
  generalize put13S h src dst s = Y at *
  generalize put13E h.port s = E at *
  generalize (v11 s).pn = pn at *
  generalize (v11 s).en = en at *
  unfold D8.cells at HP
  simp only at HP
  have HHH := Lib.hid HH
  clear hv hp hs hd hz hA HH HZ HD zA
  unfold H13.cells at S0 ⊢
  go_enter Tryd.func9, Tryd.ntmps9
  go_wp2_with fail
  generalize w.alloc (.cells #[.int .i64 h.port, .bool h.sum] 28) = w0 at *
  refine (HF.out w0 S0.out.gl.vs).mono ?_
  rintro e w1 ⟨rfl, hb⟩
  have S1 := Lib.hid (S0.out.below hb)
  clear hb S0 HF
  by_cases h1 : en = 0
  case neg =>
    have he := HE.out
    rw [if_pos h1] at he
    have hy := HX.out
    rw [if_neg (by omega)] at hy
    have t1 : ((en : Int) != 0) = true := by simp; omega
    clear h1 HE HX
    subst he hy
    go_wp2_with fail
    exact ⟨rfl, _, results_tmp2 rfl _ _ _, rfl, S1.out.gl.bel⟩
  have he := HE.out
  rw [if_neg (by omega)] at he
  have t1 : ((en : Int) != 0) = false := by simp; omega
  clear h1 HE
  subst he
  have ⟨c0, c1⟩ := Hc13.of S1.out.b
  go_wp2_with fail
  go_region_held3 (fun W => W.cell? ⟨w.heap.size, 0, none⟩ = some (.int .i64 h.port) ∧ W.cell? ⟨w.heap.size, 1, none⟩ = some (.bool h.sum) ∧ Hid (Gm13 w W w.heap.size h))
    (first | exact ⟨c0, c1, Lib.hid S1.out.drew⟩ | exact keep13 (by assumption) (by assumption))
    (first
      | (go_at_call 15; ((with_reducible refine (HHH.out _).mono ?_); rintro e w' ⟨rfl, hb⟩))
      | (go_at_call 14; ((with_reducible refine (HP.out _).mono ?_); rintro e w' ⟨rfl, hb⟩)))
  rename_i held
  have S2 := held.2.2
  have d1 := held.2.1
  clear held c0 c1 HHH HP S1 a1
  have hq := HQ.out
  subst hq
  by_cases h2 : F = 0
  case neg =>
    have hy := HX.out
    rw [if_neg h2] at hy
    subst hy
    have t2 : ((F : Int) != 0) = true := by simp; omega
    clear h2
    go_wp2_with fail
    exact ⟨rfl, _, results_tmp2 rfl _ _ _, rfl, S2.out.gl.bel⟩
  have hy := HX.out
  rw [if_pos h2] at hy
  have ⟨hx, hl⟩ := HB.out h2
  subst hx hy h2
  have HFU' := HFU.out
  have HL := Lib.hid hl
  clear hl HX HB HFU HQ
  generalize hsm : h.sum = sm at *
  cases sm with
  | true =>
    have hu : Y = seal9 17 src dst X := HFU'
    have HU := Lib.hid hu
    clear hu HFU'
    go_wp2_with fail
    refine (seal_any 17 src dst X _ S2.out.gl.ps HS.out HDs.out (by have := HL.out; omega)).mono ?_
    rintro e w3 ⟨rfl, hb⟩
    have S3 := Lib.hid (S2.out.below hb)
    clear hb S2
    rw [← HU.out]
    go_wp2_with fail
    exact ⟨rfl, _, results_tmp2 rfl _ _ _, rfl, S3.out.gl.bel⟩
  | false =>
    have hu : Y = X := HFU'
    subst hu
    go_wp2_with fail
    exact ⟨rfl, _, results_tmp2 rfl _ _ _, rfl, S2.out.gl.bel⟩

end Go.Proofs.YtbfcccfgphelhaaDoor
