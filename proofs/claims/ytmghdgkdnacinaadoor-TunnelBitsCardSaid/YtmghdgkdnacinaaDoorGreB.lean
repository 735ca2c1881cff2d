/-
  Get: what bytes say as a header and a packet. (Written by wip/tools/genread.py.)
-/
import Derived.Test.YtmghdgkdnacinaaDoorGreA
import Derived.Test.YtmghdgkdnacinaaDoorGround
import Derived.Test.YtmghdgkdnacinaaDoorSums
import Derived.RegionTactic
import Derived.BigRegion
import Derived.Deep.RegionHeld3
namespace Go.Proofs.YtmghdgkdnacinaaDoor
open Go.RowKit
set_option linter.unusedVariables false
set_option linter.unusedSimpArgs false

/-- While it reads: the reader, the answer's block, the header's, the table. -/
structure Gw12 (u v : World) (R H i : Nat) (b : ByteArray) (h : H12) : Prop where
  rd : Rd v R b i
  kb : Kb (· = R) u v
  zb : Blk v u.heap.size H12.zero.cells 66
  hb : Blk v H h.cells 66
  vs : Vers v
  lt : R < u.heap.size ∧ u.heap.size < H ∧ 0 ≠ R
theorem Gw12.step {u v v' : World} {R H i j : Nat} {b : ByteArray} {h : H12} (g : Gw12 u v R H i b h) (hr : Rd v' R b j) (hk : Kb (· = R) v v') : Gw12 u v' R H j b h :=
  ⟨hr, g.kb.trans hk, g.zb.kb hk (by have := g.lt; omega), g.hb.kb hk (by have := g.lt; omega), g.vs.kb hk g.lt.2.2, g.lt⟩
theorem Gw12.below {u v v' : World} {R H i : Nat} {b : ByteArray} {h : H12} (g : Gw12 u v R H i b h) (hb : Below v.heap.size v v') : Gw12 u v' R H i b h :=
  g.step ((hb.block _ g.rd.lt).trans g.rd) ⟨hb.os, hb.tape, hb.output, hb.size, fun k hk _ => hb.block k hk⟩
theorem Gw12.drewN {u v : World} {R H i : Nat} {b : ByteArray} {h : H12} (g : Gw12 u v R H i b h) (n : Nat) : Gw12 u (v.drewN n) R H i b h := g.below (below_drewN (Below.refl _ _) n)
theorem Gw12.drew {u v : World} {R H i : Nat} {b : ByteArray} {h : H12} (g : Gw12 u v R H i b h) : Gw12 u v.drew R H i b h := g.drewN 1
theorem Gw12.key {u v : World} {R H i : Nat} {b : ByteArray} {h : H12} (g : Gw12 u v R H i b h) (n : Nat) : Gw12 u (v.setCell ⟨H, 2, none⟩ (.int .u32 (n : Nat))) R H i b ⟨h.sum, h.key, n⟩ := by
  have lt := g.lt
  have hg : 0 < H ∨ H < 0 ∨ H = 0 := by omega
  have hv := g.vs
  refine ⟨g.rd.set_other (by simp; omega) _, ?_, g.zb.set_other (by simp; omega) _, g.hb.set 2 _, ?_, lt⟩
  · exact g.kb.setCell (p := ⟨H, 2, none⟩) (fun h => absurd h (by simp; omega)) _
  · obtain ⟨T, fr, h0⟩ := hv.at0
    refine ⟨T, fr, (Below.heap_setCell v ⟨H, 2, none⟩ _ _ ?_).trans h0⟩
    intro e
    have h1 := g.hb
    simp only at e
    unfold Blk at h1
    rw [← e, h0] at h1
    simp [versions6, H12.cells] at h1
theorem Gw12.new {u u1 : World} {R : Nat} {b : ByteArray} {h : H12} (hr : Rd u1 R b 4) (hk : Kb (· = R) (u.alloc (.cells H12.zero.cells 66)) u1) (hv : Vers u) (hR : R < u.heap.size) (hg : 0 ≠ R) :
    Gw12 u (u1.alloc (.cells h.cells 66)) R u1.heap.size 4 b h := by
  have hz := (Blk.new u H12.zero.cells 66).kb hk (by omega)
  refine ⟨hr.alloc _, (((Kb.refl (· = R) u).alloc _).trans hk).alloc _, hz.alloc _, Blk.new u1 _ _, (((hv.alloc _).kb hk hg).alloc _), hR, hz.lt, hg⟩
theorem gw12_left {u v : World} {R H i : Nat} {b : ByteArray} {h : H12} (g : Gw12 u v R H i b h) (hi : i ≤ b.size) (hs : b.size ≤ 1000000) :
    Calls Tryd.prog 70 #[.pointer (some ⟨R, 0, none⟩)] v fun e v' => e = .returned (.int .i64 ((b.size : Int) - i)) ∧ Gw12 u v' R H i b h := by
  refine (left_any R b i v g.rd hi (by unfold maxLen; omega)).mono ?_
  rintro e v' ⟨rfl, n, rfl⟩
  exact ⟨rfl, g.drewN n⟩
theorem gw12_size {u v : World} {R H i : Nat} {b : ByteArray} {h : H12} (g : Gw12 u v R H i b h) (h' : H12) :
    Calls Tryd.prog 25 #[.agg h'.cells] v fun e v' => e = .returned (.int .i64 (size12 h'.sum h'.key : Nat)) ∧ Gw12 u v' R H i b h :=
  (gre_size_any h' v).mono fun e v' hh => ⟨hh.1, g.below hh.2⟩
theorem gw12_u16 {u v : World} {R H i : Nat} {b : ByteArray} {h : H12} (g : Gw12 u v R H i b h) (hi : i + 2 ≤ b.size) (hs : b.size ≤ 1000000) :
    Calls Tryd.prog 67 #[.pointer (some ⟨R, 0, none⟩)] v fun e v' => e = .returned (.int .i64 (numOf b i 2)) ∧ Gw12 u v' R H (i + 2) b h :=
  (u16_yes R b i v g.rd hi (by unfold maxLen; omega)).mono fun e v' hh => ⟨hh.1, g.step hh.2.1 hh.2.2⟩
theorem gw12_u32 {u v : World} {R H i : Nat} {b : ByteArray} {h : H12} (g : Gw12 u v R H i b h) (hi : i + 4 ≤ b.size) (hs : b.size ≤ 1000000) :
    Calls Tryd.prog 76 #[.pointer (some ⟨R, 0, none⟩)] v fun e v' => e = .returned (.int .u32 (numOf b i 4)) ∧ Gw12 u v' R H (i + 4) b h :=
  (u32_yes R b i v g.rd hi (by unfold maxLen; omega)).mono fun e v' hh => ⟨hh.1, g.step hh.2.1 hh.2.2⟩
theorem gw12_take {u v : World} {R H i : Nat} {b : ByteArray} {h : H12} (g : Gw12 u v R H i b h) (m : Int) (k : Nat) (hm : m = (k : Int)) (hi : i + k ≤ b.size) (hs : b.size ≤ 1000000) :
    Calls Tryd.prog 69 #[.pointer (some ⟨R, 0, none⟩), .int .i64 m] v fun e v' => e = .returned (.string (b.extract i (i + k))) ∧ Gw12 u v' R H (i + k) b h := by
  subst hm
  refine (take_nat R b i k v g.rd hi (by unfold maxLen; omega)).mono ?_
  rintro e v' ⟨rfl, n, rfl⟩
  exact ⟨rfl, g.step ((g.rd.drewN n).set 1 _) (Kb.setCell (S := (· = R)) ((Kb.refl (· = R) v).drewN n) (p := ⟨R, 1, none⟩) (fun _ => rfl) (.int .i64 ((i + k : Nat) : Int)))⟩
theorem gw12_right {u v : World} {R H i : Nat} {b : ByteArray} {h : H12} (g : Gw12 u v R H i b h) (hs : b.size ≤ 1000000) :
    Calls Tryd.prog 68 #[.slice (some ⟨v.heap.size, 0, none⟩) 1 1] (v.alloc (.cells #[.string b] 9)) fun e v' => e = .returned (.bool (decide (sumD b.data.toList = 0))) ∧ Gw12 u v' R H i b h := by
  have hj := joined_1 b
  refine (lit_right [b] v 1 (decide (sumD b.data.toList = 0)) _ rfl rfl (by rw [hj]; simp; omega) (by decide) (by rw [hj])).mono ?_
  rintro e v' ⟨rfl, hb⟩
  exact ⟨rfl, g.below hb⟩
theorem gw12_packet {u v : World} {R H i : Nat} {b : ByteArray} {h : H12} (g : Gw12 u v R H i b h) (kind : Nat) (hi : i ≤ b.size) (hs : b.size ≤ 1000000) :
    Calls Tryd.prog 77 #[.pointer (some ⟨R, 0, none⟩), .int .i64 (kind : Nat)] v fun e v' =>
      (Kb (· = R) u v' ∧ Blk v' u.heap.size H12.zero.cells 66 ∧ Blk v' H h.cells 66) ∧
      ((pk12 kind (v11 (b.extract i b.size)) = 0 ∧ e = .returned (.string (b.extract i b.size))) ∨ (pk12 kind (v11 (b.extract i b.size)) ≠ 0 ∧ e = .panicked (stopped (pk12 kind (v11 (b.extract i b.size)) : Nat)))) := by
  refine (readPacket_any R b i kind v g.rd hi hs g.vs g.lt.2.2).mono ?_
  rintro e v' ⟨hk, hh⟩
  exact ⟨⟨g.kb.trans hk, g.zb.kb hk (by have := g.lt; omega), g.hb.kb hk (by have := g.lt; omega)⟩, hh⟩

/-- How read ends. -/
def Read12End (u : World) (R : Nat) (b : ByteArray) (e : Ending) (u' : World) : Prop :=
  Kb (· = R) u u' ∧ ((get12E b = 0 ∧ e = .returned (.tuple #[.agg (hd12 b).cells, .string (in12 b)])) ∨ (get12E b ≠ 0 ∧ e = .panicked (stopped (get12E b : Nat))))
theorem Read12End.stop {u u' : World} {R : Nat} {b : ByteArray} {k : Nat} (hk : Kb (· = R) u u') (he : get12E b = k) (h0 : k ≠ 0) : Read12End u R b (.panicked (stopped (k : Nat))) u' := by
  subst he; exact ⟨hk, Or.inr ⟨h0, rfl⟩⟩

theorem keep12 {u v : World} {R H i : Nat} {b : ByteArray} {s k : Bool} {n : Nat} (g : Gw12 u v R H i b ⟨s, k, n⟩) :
    v.cell? ⟨H, 0, none⟩ = some (.bool s) ∧ v.cell? ⟨H, 1, none⟩ = some (.bool k) ∧ v.cell? ⟨H, 2, none⟩ = some (.int .u32 (n : Nat)) := ⟨g.hb.cell 0, g.hb.cell 1, g.hb.cell 2⟩

set_option maxRecDepth 100000 in
set_option maxHeartbeats 4000000 in
theorem read12_any (R : Nat) (b : ByteArray) (u : World) (hr : Rd u R b 0) (hs : b.size ≤ 1000000) (hg : Vers u) (hR : 0 ≠ R) :
    Calls Tryd.prog 53 #[.pointer (some ⟨R, 0, none⟩), .string b] u (Read12End u R b) := by
  have HF := Lib.hid (readFront_any R b (u.alloc (.cells H12.zero.cells 66)) (hr.alloc _) hs)
  have K0 := Lib.hid (show Kb (· = R) u (u.alloc (.cells H12.zero.cells 66)) from (Kb.refl _ _).alloc _)
  have G0 := Lib.hid (fun u1 h hr hk => Gw12.new (u1 := u1) (b := b) (h := h) hr hk hg (show R < u.heap.size from Blk.lt ‹Rd u R b 0›) hR)
  have HS := Lib.hid hs
  clear hr hs hg hR
  go_enter Tryd.func53, Tryd.ntmps53
  go_wp2_with fail
  simp only [show #[Value.bool false, Value.bool false, Value.int IntKind.u32 0] = H12.zero.cells from rfl]
  generalize u.alloc (.cells H12.zero.cells 66) = u0 at *
  refine HF.out.mono ?_
  rintro e u1 ⟨hk, ⟨s, k, hok, hr1, rfl⟩ | ⟨n, hst, rfl⟩⟩
  case inr =>
    have hp := f12_stop_pos hst
    exact ⟨rfl, Read12End.stop (K0.out.trans hk) (by unfold get12E; rw [hst]) (by omega)⟩
  unfold H12.cells
  simp only [show ((0 : Nat) : Int) = 0 from rfl]
  have hE : get12E b = rest12 s k b := by unfold get12E; rw [hok]
  have hH : hd12 b = ⟨s, k, key12 s k b⟩ := by unfold hd12; rw [hok]
  have hI : in12 b = b.extract (size12 s k) b.size := by unfold in12; rw [hok]
  have h4 := (f12_ok_bits hok).1
  have HE := Lib.hid hE
  have HH := Lib.hid hH
  have HI := Lib.hid hI
  have g1 := G0.out u1 ⟨s, k, 0⟩ hr1 hk
  clear hE hH hI hok hr1 hk HF K0 G0
  have hz := size12_le s k
  generalize hzz : size12 s k = z at *
  have HZ := Lib.hid hzz
  have HRE : Hid (rest12 s k b = if b.size < z then 2 else if sm12 s b ≠ 0 then sm12 s b else pk12 (numOf b 2 2) (v11 (b.extract z b.size))) := by
    show rest12 s k b = _
    unfold rest12
    rw [hzz]
  clear hzz
  have HZL := Lib.hid hz
  have G1 := Lib.hid g1
  clear g1 hz
  unfold H12.cells at G1
  simp only [show ((0 : Nat) : Int) = 0 from rfl] at G1
  go_upto_region 2 with (fail)
  generalize u1.heap.size = H at *
  generalize u1.alloc (.cells #[.bool s, .bool k, .int .u32 0] 66) = u2 at *
  have hzl := HZL.out
  have wz : IntKind.i64.wrap ((z : Int) - 4) = (z : Int) - 4 := IntWalk.i64_in _ (by omega)
  by_cases hlt : b.size < z
  case pos =>
    refine wp_region_held_drew (S := (fun W => W.cell? ⟨H, 0, none⟩ = some (.bool s) ∧ W.cell? ⟨H, 1, none⟩ = some (.bool k) ∧ W.cell? ⟨H, 2, none⟩ = some (.int .u32 0))) (by kernel_rfl) ?_ (fun hHeld => ?_)
    · exact keep12 G1.out.drew
    have G1d := Lib.hid G1.out.drew
    clear G1
    generalize u2.drew = u3 at *
    refine takeH_yes (i := 0) (d := some 13) (v := ?v1) rfl rfl (by kernel_rfl) (by kernel_rfl) (by kernel_rfl) (fun _ _ _ h => h) (by rfl) ?y1 (by assumption) ?_
    case y1 => (intro w hSw; (try dsimp only at hSw); go_simp <;> with_reducible rfl)
    simp only [Act.put, List.setIfInBounds_toArray, List.set_cons_zero, List.set_cons_succ]
    refine takeH_yes (i := 1) (d := some 14) (v := ?v2) rfl rfl (by kernel_rfl) (by kernel_rfl) (by kernel_rfl) (fun _ _ _ h => h) (by rfl) ?y2 (by assumption) ?_
    case y2 => (intro w hSw; (try dsimp only at hSw); go_simp <;> with_reducible rfl)
    simp only [Act.put, List.setIfInBounds_toArray, List.set_cons_zero, List.set_cons_succ]
    refine takeH_yes (i := 3) (d := some 16) (v := ?v3) rfl rfl (by kernel_rfl) (by kernel_rfl) (by kernel_rfl) (fun _ _ _ h => h) (by rfl) ?y3 (by assumption) ?_
    case y3 => (intro w hSw; (try dsimp only at hSw); go_simp <;> with_reducible rfl)
    simp only [Act.put, List.setIfInBounds_toArray, List.set_cons_zero, List.set_cons_succ]
    refine wpAnyH_ready (rs := [2]) (by kernel_rfl) (by simp) ?_
    refine AllReadyH.cons rfl (fun K hK => ?_) AllReadyH.nil
    go_simp
    refine (gw12_left G1d.out (by omega) HS.out).mono ?_
    rintro e vA ⟨rfl, gGA⟩
    have GA := Lib.hid gGA
    clear gGA
    dsimp only
    refine hK.out _ _ ?_ (fun held2 => ?_)
    · exact keep12 GA.out
    clear hK K
    try simp only [Act.put, List.setIfInBounds_toArray, List.set_cons_zero, List.set_cons_succ]
    refine wpAnyH_ready (rs := [4]) (by kernel_rfl) (by simp) ?_
    refine AllReadyH.cons rfl (fun K hK => ?_) AllReadyH.nil
    have HC := Lib.hid (gw12_size GA.out ⟨s, k, 0⟩)
    unfold H12.cells at HC
    simp only [show ((0 : Nat) : Int) = 0 from rfl] at HC
    rw [HZ.out] at HC
    go_simp
    refine (HC.out).mono ?_
    rintro e vB ⟨rfl, gGB⟩
    have GB := Lib.hid gGB
    clear gGB
    dsimp only
    refine hK.out _ _ ?_ (fun held4 => ?_)
    · exact keep12 GB.out
    clear hK K
    try simp only [Act.put, List.setIfInBounds_toArray, List.set_cons_zero, List.set_cons_succ]
    clear HC
    refine takeH_yes (i := 5) (d := some 18) (v := ?v4) rfl rfl (by kernel_rfl) (by kernel_rfl) (by kernel_rfl) (fun _ _ _ h => h) (by rfl) ?y4 (by assumption) ?_
    case y4 => (intro w hSw; (try dsimp only at hSw); go_simp <;> with_reducible rfl)
    simp only [Act.put, List.setIfInBounds_toArray, List.set_cons_zero, List.set_cons_succ]
    refine takeH_yes (i := 6) (d := some 19) (v := ?v5) rfl rfl (by kernel_rfl) (by kernel_rfl) (by kernel_rfl) (fun _ _ _ h => h) (by rfl) ?y5 (by assumption) ?_
    case y5 => (intro w hSw; (try dsimp only at hSw); go_simp <;> with_reducible rfl)
    simp only [Act.put, List.setIfInBounds_toArray, List.set_cons_zero, List.set_cons_succ]
    refine wpAnyH_ready (rs := [7]) (by kernel_rfl) (by simp) ?_
    refine AllReadyH.cons rfl (fun K hK => ?_) AllReadyH.nil
    go_simp
    refine (need_no _ _ _ _ (by simp; omega)).mono ?_
    rintro e w' ⟨rfl, rfl⟩
    exact ⟨rfl, Read12End.stop (k := 2) GB.out.kb (by rw [HE.out, HRE.out, if_pos hlt]) (by decide)⟩
  have H5 : Hid (rest12 s k b = if sm12 s b ≠ 0 then sm12 s b else pk12 (numOf b 2 2) (v11 (b.extract z b.size))) := by
    show rest12 s k b = _
    rw [HRE.out, if_neg hlt]
  clear HRE
  refine wp_region_held_drew (S := (fun W => W.cell? ⟨H, 0, none⟩ = some (.bool s) ∧ W.cell? ⟨H, 1, none⟩ = some (.bool k) ∧ W.cell? ⟨H, 2, none⟩ = some (.int .u32 0))) (by kernel_rfl) ?_ (fun hHeld => ?_)
  · exact keep12 G1.out.drew
  have G1d := Lib.hid G1.out.drew
  clear G1
  generalize u2.drew = u3 at *
  refine takeH_yes (i := 0) (d := some 13) (v := ?v6) rfl rfl (by kernel_rfl) (by kernel_rfl) (by kernel_rfl) (fun _ _ _ h => h) (by rfl) ?y6 (by assumption) ?_
  case y6 => (intro w hSw; (try dsimp only at hSw); go_simp <;> with_reducible rfl)
  simp only [Act.put, List.setIfInBounds_toArray, List.set_cons_zero, List.set_cons_succ]
  refine takeH_yes (i := 1) (d := some 14) (v := ?v7) rfl rfl (by kernel_rfl) (by kernel_rfl) (by kernel_rfl) (fun _ _ _ h => h) (by rfl) ?y7 (by assumption) ?_
  case y7 => (intro w hSw; (try dsimp only at hSw); go_simp <;> with_reducible rfl)
  simp only [Act.put, List.setIfInBounds_toArray, List.set_cons_zero, List.set_cons_succ]
  refine takeH_yes (i := 3) (d := some 16) (v := ?v8) rfl rfl (by kernel_rfl) (by kernel_rfl) (by kernel_rfl) (fun _ _ _ h => h) (by rfl) ?y8 (by assumption) ?_
  case y8 => (intro w hSw; (try dsimp only at hSw); go_simp <;> with_reducible rfl)
  simp only [Act.put, List.setIfInBounds_toArray, List.set_cons_zero, List.set_cons_succ]
  refine wpAnyH_ready (rs := [2]) (by kernel_rfl) (by simp) ?_
  refine AllReadyH.cons rfl (fun K hK => ?_) AllReadyH.nil
  go_simp
  refine (gw12_left G1d.out (by omega) HS.out).mono ?_
  rintro e vA ⟨rfl, gGA⟩
  have GA := Lib.hid gGA
  clear gGA
  dsimp only
  refine hK.out _ _ ?_ (fun held2 => ?_)
  · exact keep12 GA.out
  clear hK K
  try simp only [Act.put, List.setIfInBounds_toArray, List.set_cons_zero, List.set_cons_succ]
  refine wpAnyH_ready (rs := [4]) (by kernel_rfl) (by simp) ?_
  refine AllReadyH.cons rfl (fun K hK => ?_) AllReadyH.nil
  have HC := Lib.hid (gw12_size GA.out ⟨s, k, 0⟩)
  unfold H12.cells at HC
  simp only [show ((0 : Nat) : Int) = 0 from rfl] at HC
  rw [HZ.out] at HC
  go_simp
  refine (HC.out).mono ?_
  rintro e vB ⟨rfl, gGB⟩
  have GB := Lib.hid gGB
  clear gGB
  dsimp only
  refine hK.out _ _ ?_ (fun held4 => ?_)
  · exact keep12 GB.out
  clear hK K
  try simp only [Act.put, List.setIfInBounds_toArray, List.set_cons_zero, List.set_cons_succ]
  clear HC
  refine takeH_yes (i := 5) (d := some 18) (v := ?v9) rfl rfl (by kernel_rfl) (by kernel_rfl) (by kernel_rfl) (fun _ _ _ h => h) (by rfl) ?y9 (by assumption) ?_
  case y9 => (intro w hSw; (try dsimp only at hSw); go_simp <;> with_reducible rfl)
  simp only [Act.put, List.setIfInBounds_toArray, List.set_cons_zero, List.set_cons_succ]
  refine takeH_yes (i := 6) (d := some 19) (v := ?v10) rfl rfl (by kernel_rfl) (by kernel_rfl) (by kernel_rfl) (fun _ _ _ h => h) (by rfl) ?y10 (by assumption) ?_
  case y10 => (intro w hSw; (try dsimp only at hSw); go_simp <;> with_reducible rfl)
  simp only [Act.put, List.setIfInBounds_toArray, List.set_cons_zero, List.set_cons_succ]
  refine wpAnyH_ready (rs := [7]) (by kernel_rfl) (by simp) ?_
  refine AllReadyH.cons rfl (fun K hK => ?_) AllReadyH.nil
  go_simp
  refine (need_yes _ _ _ _ (by simp; omega)).mono ?_
  rintro e w' ⟨rfl, rfl⟩
  dsimp only
  refine hK.out _ _ ?_ (fun held7 => ?_)
  · exact keep12 GB.out
  clear hK K held2 held4 held7 hHeld GA
  try simp only [Act.put, List.setIfInBounds_toArray, List.set_cons_zero, List.set_cons_succ]
  refine wpAnyH_done (by kernel_rfl) ?_ _
  clear wz hzl
  have c0 := GB.out.hb.cell 0
  simp [H12.cells] at c0
  cases s
  case true =>
    have h8 : 8 ≤ z := by have h := HZ.out; rw [← h]; unfold size12; simp only [p12]; omega
    go_upto_region 4 with (fail)
    clear c0
    go_wp2_with fail
    have hn6 := numOf_lt b 6 2 (by omega)
    refine (gw12_take GB.out 2 2 rfl (by omega) HS.out).mono ?_
    rintro e v3 ⟨rfl, g3⟩
    have G3 := Lib.hid g3
    clear g3 GB
    go_wp2_with fail
    refine (gw12_u16 G3.out (by omega) HS.out).mono ?_
    rintro e v4 ⟨rfl, g4⟩
    have G4 := Lib.hid g4
    clear g4 G3
    have HSM : Hid (sm12 true b = if numOf b (4 + 2) 2 ≠ 0 then 9 else if sumD b.data.toList ≠ 0 then 5 else 0) := rfl
    generalize numOf b (4 + 2) 2 = n6 at *
    go_wp2_with fail
    by_cases h6 : n6 = 0
    case neg =>
      refine (need_no _ _ _ _ (by simp; omega)).mono ?_
      rintro e w' ⟨rfl, rfl⟩
      have hq : sm12 true b = 9 := by rw [HSM.out, if_pos h6]
      exact ⟨rfl, Read12End.stop (k := 9) G4.out.kb (by rw [HE.out, H5.out, hq]; rfl) (by decide)⟩
    refine (need_yes _ _ _ _ (by simp; omega)).mono ?_
    rintro e w' ⟨rfl, rfl⟩
    have HS6 : Hid (sm12 true b = if sumD b.data.toList ≠ 0 then 5 else 0) := by
      show sm12 true b = _
      rw [HSM.out, if_neg (by omega)]
    clear h6 HSM hn6
    go_wp2_with fail
    refine (gw12_right G4.out HS.out).mono ?_
    rintro e v5 ⟨rfl, g5⟩
    have G5 := Lib.hid g5
    clear g5 G4
    by_cases hsu : sumD b.data.toList = 0
    case neg =>
      have hd := decide_eq_false hsu
      rw [hd]
      go_wp2_with fail
      refine (need_no _ _ _ _ rfl).mono ?_
      rintro e w' ⟨rfl, rfl⟩
      have hq : sm12 true b = 5 := by rw [HS6.out, if_pos hsu]
      exact ⟨rfl, Read12End.stop (k := 5) G5.out.kb (by rw [HE.out, H5.out, hq]; rfl) (by decide)⟩
    have hd := decide_eq_true hsu
    rw [hd]
    have hq : sm12 true b = 0 := by rw [HS6.out, if_neg (by omega)]
    have H8 : Hid (rest12 true k b = pk12 (numOf b 2 2) (v11 (b.extract z b.size))) := by
      show rest12 true k b = _
      rw [H5.out, hq]; rfl
    clear hq hd hsu HS6 H5
    go_wp2_with fail
    refine (need_yes _ _ _ _ rfl).mono ?_
    rintro e w' ⟨rfl, rfl⟩
    cases k
    case true =>
      obtain rfl : 12 = z := HZ.out
      have c1 := G5.out.hb.cell 1
      simp [H12.cells] at c1
      go_upto_region 8 with (fail)
      clear c1
      go_wp2_with fail
      refine (gw12_u32 G5.out (by omega) HS.out).mono ?_
      rintro e v6 ⟨rfl, g6⟩
      have G6 := Lib.hid g6
      clear g6 G5
      have c2 := G6.out.hb.cell 2
      have f2 := G6.out.hb.frozen 2
      simp [H12.cells] at c2
      go_upto_region 9 with (fail)
      have G7 : Hid (Gw12 u _ R H 12 b ⟨true, true, numOf b (4 + 2 + 2) 4⟩) := Lib.hid (G6.out.key (numOf b (4 + 2 + 2) 4))
      clear c2 f2 G6
      generalize v6.setCell ⟨H, 2, none⟩ (.int .u32 (numOf b (4 + 2 + 2) 4 : Nat)) = v7 at *
      have HKY : Hid (key12 true true b = numOf b (4 + 2 + 2) 4) := rfl
      have HPK := Lib.hid (gw12_packet G7.out.drew (numOf b 2 2) (by omega) HS.out)
      generalize numOf b (4 + 2 + 2) 4 = ky at *
      generalize numOf b 2 2 = kd at *
      generalize pk12 kd (v11 (b.extract 12 b.size)) = Q at *
      refine wp_region_held_drew (S := (fun W => W.cell? ⟨H, 0, none⟩ = some (.bool true) ∧ W.cell? ⟨H, 1, none⟩ = some (.bool true) ∧ W.cell? ⟨H, 2, none⟩ = some (.int .u32 (ky : Nat)))) (by kernel_rfl) ?_ (fun hHeld => ?_)
      · exact keep12 G7.out.drew
      have LT : Hid (H ≠ u.heap.size) := by have h := G7.out.lt; show H ≠ u.heap.size; omega
      clear G7
      refine takeH_yes (i := 0) (d := some 40) (v := ?v11) rfl rfl (by kernel_rfl) (by kernel_rfl) (by kernel_rfl) (fun _ _ _ h => h) (by rfl) ?y11 (by assumption) ?_
      case y11 => (intro w hSw; (try dsimp only at hSw); go_simp <;> with_reducible rfl)
      simp only [Act.put, List.setIfInBounds_toArray, List.set_cons_zero, List.set_cons_succ]
      refine takeH_yes (i := 1) (d := some 41) (v := ?v12) rfl rfl (by kernel_rfl) (by kernel_rfl) (by kernel_rfl) (fun _ _ _ h => h) (by rfl) ?y12 (by assumption) ?_
      case y12 => (intro w hSw; (try dsimp only at hSw); go_simp <;> with_reducible rfl)
      simp only [Act.put, List.setIfInBounds_toArray, List.set_cons_zero, List.set_cons_succ]
      refine takeH_yes (i := 2) (d := some 42) (v := ?v13) rfl rfl (by kernel_rfl) (by kernel_rfl) (by kernel_rfl) (fun _ _ _ h => h) (by rfl) ?y13 (by assumption) ?_
      case y13 => (intro w hSw; (try dsimp only at hSw); go_simp <;> with_reducible rfl)
      simp only [Act.put, List.setIfInBounds_toArray, List.set_cons_zero, List.set_cons_succ]
      refine wpAnyH_ready (rs := [3]) (by kernel_rfl) (by simp) ?_
      refine AllReadyH.cons rfl (fun K hK => ?_) AllReadyH.nil
      go_simp
      refine HPK.out.mono ?_
      rintro e v8 ⟨⟨k8, z8, h8⟩, ⟨q8, rfl⟩ | ⟨q8, rfl⟩⟩
      case inr => exact ⟨rfl, Read12End.stop k8 (by rw [HE.out, H8.out]) q8⟩
      have K8 := Lib.hid k8
      have Z8 := Lib.hid z8
      have H8b := Lib.hid h8
      have Q8 := Lib.hid q8
      clear k8 z8 h8 q8 HPK
      dsimp only
      refine hK.out _ _ ?_ (fun held3 => ?_)
      · exact ⟨H8b.out.cell 0, H8b.out.cell 1, H8b.out.cell 2⟩
      clear hK K
      try simp only [Act.put, List.setIfInBounds_toArray, List.set_cons_zero, List.set_cons_succ]
      have ⟨z0, z1, z2⟩ := Hc12s.of Z8.out
      simp only [H12.zero] at z0 z1 z2
      have f0 := Z8.out.frozen 0
      have f1 := Z8.out.frozen 1
      have f2 := Z8.out.frozen 2
      refine wpAnyH_ready (rs := [4]) (by kernel_rfl) (by simp) ?_
      refine AllReadyH.cons rfl (fun K hK => ?_) AllReadyH.nil
      go_simp
      have B9 := put12c_blk Z8.out ⟨true, true, ky⟩
      have K9 := put12c_kb K8.out (N := u.heap.size) (fun h => absurd h (Nat.lt_irrefl _)) ⟨true, true, ky⟩
      have D9 := put12c_other H8b.out (N := u.heap.size) LT.out ⟨true, true, ky⟩
      have c := Hc12s.of B9
      unfold put12c at B9 K9 D9 c
      have ⟨y0, y1, y2⟩ := c
      clear z0 z1 z2 f0 f1 f2 c B9
      simp only [show ((0 : Nat) : Int) = 0 from rfl] at y0 y1 y2 K9 D9
      have K10 := Lib.hid K9
      have D10 := Lib.hid D9
      clear K9 D9
      refine hK.out _ _ ?_ (fun held4 => ?_)
      · exact ⟨D10.out.cell 0, D10.out.cell 1, D10.out.cell 2⟩
      clear hK K
      try simp only [Act.put, List.setIfInBounds_toArray, List.set_cons_zero, List.set_cons_succ]
      refine takeH_yes (i := 5) (d := some 5) (v := ?v14) rfl rfl (by kernel_rfl) (by kernel_rfl) (by kernel_rfl) (fun _ _ _ h => h) (by rfl) ?y14 (by assumption) ?_
      case y14 => (intro w hSw; (try dsimp only at hSw); go_simp <;> with_reducible rfl)
      simp only [Act.put, List.setIfInBounds_toArray, List.set_cons_zero, List.set_cons_succ]
      refine wpAnyH_done (by kernel_rfl) ?_ _
      go_wp2_with fail
      refine ⟨rfl, .tuple #[.agg (hd12 b).cells, .string (in12 b)], ?_, K10.out, Or.inl ⟨by rw [HE.out, H8.out, Q8.out], rfl⟩⟩
      rw [HH.out, HI.out, HKY.out]
      unfold H12.cells
      simp [results, Tryd.results53, go_sem, y0, y1, y2]
    case false =>
      obtain rfl : 8 = z := HZ.out
      have c1 := G5.out.hb.cell 1
      simp [H12.cells] at c1
      go_upto_region 9 with (fail)
      clear c1
      have G7 : Hid (Gw12 u _ R H 8 b ⟨true, false, 0⟩) := G5
      have HKY : Hid (key12 true false b = 0) := rfl
      clear G5
      have HPK := Lib.hid (gw12_packet G7.out.drew (numOf b 2 2) (by omega) HS.out)
      generalize numOf b 2 2 = kd at *
      generalize pk12 kd (v11 (b.extract 8 b.size)) = Q at *
      refine wp_region_held_drew (S := (fun W => W.cell? ⟨H, 0, none⟩ = some (.bool true) ∧ W.cell? ⟨H, 1, none⟩ = some (.bool false) ∧ W.cell? ⟨H, 2, none⟩ = some (.int .u32 0))) (by kernel_rfl) ?_ (fun hHeld => ?_)
      · exact keep12 G7.out.drew
      have LT : Hid (H ≠ u.heap.size) := by have h := G7.out.lt; show H ≠ u.heap.size; omega
      clear G7
      refine takeH_yes (i := 0) (d := some 40) (v := ?v15) rfl rfl (by kernel_rfl) (by kernel_rfl) (by kernel_rfl) (fun _ _ _ h => h) (by rfl) ?y15 (by assumption) ?_
      case y15 => (intro w hSw; (try dsimp only at hSw); go_simp <;> with_reducible rfl)
      simp only [Act.put, List.setIfInBounds_toArray, List.set_cons_zero, List.set_cons_succ]
      refine takeH_yes (i := 1) (d := some 41) (v := ?v16) rfl rfl (by kernel_rfl) (by kernel_rfl) (by kernel_rfl) (fun _ _ _ h => h) (by rfl) ?y16 (by assumption) ?_
      case y16 => (intro w hSw; (try dsimp only at hSw); go_simp <;> with_reducible rfl)
      simp only [Act.put, List.setIfInBounds_toArray, List.set_cons_zero, List.set_cons_succ]
      refine takeH_yes (i := 2) (d := some 42) (v := ?v17) rfl rfl (by kernel_rfl) (by kernel_rfl) (by kernel_rfl) (fun _ _ _ h => h) (by rfl) ?y17 (by assumption) ?_
      case y17 => (intro w hSw; (try dsimp only at hSw); go_simp <;> with_reducible rfl)
      simp only [Act.put, List.setIfInBounds_toArray, List.set_cons_zero, List.set_cons_succ]
      refine wpAnyH_ready (rs := [3]) (by kernel_rfl) (by simp) ?_
      refine AllReadyH.cons rfl (fun K hK => ?_) AllReadyH.nil
      go_simp
      refine HPK.out.mono ?_
      rintro e v8 ⟨⟨k8, z8, h8⟩, ⟨q8, rfl⟩ | ⟨q8, rfl⟩⟩
      case inr => exact ⟨rfl, Read12End.stop k8 (by rw [HE.out, H8.out]) q8⟩
      have K8 := Lib.hid k8
      have Z8 := Lib.hid z8
      have H8b := Lib.hid h8
      have Q8 := Lib.hid q8
      clear k8 z8 h8 q8 HPK
      dsimp only
      refine hK.out _ _ ?_ (fun held3 => ?_)
      · exact ⟨H8b.out.cell 0, H8b.out.cell 1, H8b.out.cell 2⟩
      clear hK K
      try simp only [Act.put, List.setIfInBounds_toArray, List.set_cons_zero, List.set_cons_succ]
      have ⟨z0, z1, z2⟩ := Hc12s.of Z8.out
      simp only [H12.zero] at z0 z1 z2
      have f0 := Z8.out.frozen 0
      have f1 := Z8.out.frozen 1
      have f2 := Z8.out.frozen 2
      refine wpAnyH_ready (rs := [4]) (by kernel_rfl) (by simp) ?_
      refine AllReadyH.cons rfl (fun K hK => ?_) AllReadyH.nil
      go_simp
      have B9 := put12c_blk Z8.out ⟨true, false, 0⟩
      have K9 := put12c_kb K8.out (N := u.heap.size) (fun h => absurd h (Nat.lt_irrefl _)) ⟨true, false, 0⟩
      have D9 := put12c_other H8b.out (N := u.heap.size) LT.out ⟨true, false, 0⟩
      have c := Hc12s.of B9
      unfold put12c at B9 K9 D9 c
      have ⟨y0, y1, y2⟩ := c
      clear z0 z1 z2 f0 f1 f2 c B9
      simp only [show ((0 : Nat) : Int) = 0 from rfl] at y0 y1 y2 K9 D9
      have K10 := Lib.hid K9
      have D10 := Lib.hid D9
      clear K9 D9
      refine hK.out _ _ ?_ (fun held4 => ?_)
      · exact ⟨D10.out.cell 0, D10.out.cell 1, D10.out.cell 2⟩
      clear hK K
      try simp only [Act.put, List.setIfInBounds_toArray, List.set_cons_zero, List.set_cons_succ]
      refine takeH_yes (i := 5) (d := some 5) (v := ?v18) rfl rfl (by kernel_rfl) (by kernel_rfl) (by kernel_rfl) (fun _ _ _ h => h) (by rfl) ?y18 (by assumption) ?_
      case y18 => (intro w hSw; (try dsimp only at hSw); go_simp <;> with_reducible rfl)
      simp only [Act.put, List.setIfInBounds_toArray, List.set_cons_zero, List.set_cons_succ]
      refine wpAnyH_done (by kernel_rfl) ?_ _
      go_wp2_with fail
      refine ⟨rfl, .tuple #[.agg (hd12 b).cells, .string (in12 b)], ?_, K10.out, Or.inl ⟨by rw [HE.out, H8.out, Q8.out], rfl⟩⟩
      rw [HH.out, HI.out, HKY.out]
      unfold H12.cells
      simp [results, Tryd.results53, go_sem, y0, y1, y2]
  case false =>
    have H8 : Hid (rest12 false k b = pk12 (numOf b 2 2) (v11 (b.extract z b.size))) := H5.out
    clear H5
    go_upto_region 7 with (fail)
    clear c0
    cases k
    case true =>
      obtain rfl : 8 = z := HZ.out
      have c1 := GB.out.hb.cell 1
      simp [H12.cells] at c1
      go_upto_region 8 with (fail)
      clear c1
      go_wp2_with fail
      refine (gw12_u32 GB.out (by omega) HS.out).mono ?_
      rintro e v6 ⟨rfl, g6⟩
      have G6 := Lib.hid g6
      clear g6 GB
      have c2 := G6.out.hb.cell 2
      have f2 := G6.out.hb.frozen 2
      simp [H12.cells] at c2
      go_upto_region 9 with (fail)
      have G7 : Hid (Gw12 u _ R H 8 b ⟨false, true, numOf b (4) 4⟩) := Lib.hid (G6.out.key (numOf b (4) 4))
      clear c2 f2 G6
      generalize v6.setCell ⟨H, 2, none⟩ (.int .u32 (numOf b (4) 4 : Nat)) = v7 at *
      have HKY : Hid (key12 false true b = numOf b (4) 4) := rfl
      have HPK := Lib.hid (gw12_packet G7.out.drew (numOf b 2 2) (by omega) HS.out)
      generalize numOf b (4) 4 = ky at *
      generalize numOf b 2 2 = kd at *
      generalize pk12 kd (v11 (b.extract 8 b.size)) = Q at *
      refine wp_region_held_drew (S := (fun W => W.cell? ⟨H, 0, none⟩ = some (.bool false) ∧ W.cell? ⟨H, 1, none⟩ = some (.bool true) ∧ W.cell? ⟨H, 2, none⟩ = some (.int .u32 (ky : Nat)))) (by kernel_rfl) ?_ (fun hHeld => ?_)
      · exact keep12 G7.out.drew
      have LT : Hid (H ≠ u.heap.size) := by have h := G7.out.lt; show H ≠ u.heap.size; omega
      clear G7
      refine takeH_yes (i := 0) (d := some 40) (v := ?v19) rfl rfl (by kernel_rfl) (by kernel_rfl) (by kernel_rfl) (fun _ _ _ h => h) (by rfl) ?y19 (by assumption) ?_
      case y19 => (intro w hSw; (try dsimp only at hSw); go_simp <;> with_reducible rfl)
      simp only [Act.put, List.setIfInBounds_toArray, List.set_cons_zero, List.set_cons_succ]
      refine takeH_yes (i := 1) (d := some 41) (v := ?v20) rfl rfl (by kernel_rfl) (by kernel_rfl) (by kernel_rfl) (fun _ _ _ h => h) (by rfl) ?y20 (by assumption) ?_
      case y20 => (intro w hSw; (try dsimp only at hSw); go_simp <;> with_reducible rfl)
      simp only [Act.put, List.setIfInBounds_toArray, List.set_cons_zero, List.set_cons_succ]
      refine takeH_yes (i := 2) (d := some 42) (v := ?v21) rfl rfl (by kernel_rfl) (by kernel_rfl) (by kernel_rfl) (fun _ _ _ h => h) (by rfl) ?y21 (by assumption) ?_
      case y21 => (intro w hSw; (try dsimp only at hSw); go_simp <;> with_reducible rfl)
      simp only [Act.put, List.setIfInBounds_toArray, List.set_cons_zero, List.set_cons_succ]
      refine wpAnyH_ready (rs := [3]) (by kernel_rfl) (by simp) ?_
      refine AllReadyH.cons rfl (fun K hK => ?_) AllReadyH.nil
      go_simp
      refine HPK.out.mono ?_
      rintro e v8 ⟨⟨k8, z8, h8⟩, ⟨q8, rfl⟩ | ⟨q8, rfl⟩⟩
      case inr => exact ⟨rfl, Read12End.stop k8 (by rw [HE.out, H8.out]) q8⟩
      have K8 := Lib.hid k8
      have Z8 := Lib.hid z8
      have H8b := Lib.hid h8
      have Q8 := Lib.hid q8
      clear k8 z8 h8 q8 HPK
      dsimp only
      refine hK.out _ _ ?_ (fun held3 => ?_)
      · exact ⟨H8b.out.cell 0, H8b.out.cell 1, H8b.out.cell 2⟩
      clear hK K
      try simp only [Act.put, List.setIfInBounds_toArray, List.set_cons_zero, List.set_cons_succ]
      have ⟨z0, z1, z2⟩ := Hc12s.of Z8.out
      simp only [H12.zero] at z0 z1 z2
      have f0 := Z8.out.frozen 0
      have f1 := Z8.out.frozen 1
      have f2 := Z8.out.frozen 2
      refine wpAnyH_ready (rs := [4]) (by kernel_rfl) (by simp) ?_
      refine AllReadyH.cons rfl (fun K hK => ?_) AllReadyH.nil
      go_simp
      have B9 := put12c_blk Z8.out ⟨false, true, ky⟩
      have K9 := put12c_kb K8.out (N := u.heap.size) (fun h => absurd h (Nat.lt_irrefl _)) ⟨false, true, ky⟩
      have D9 := put12c_other H8b.out (N := u.heap.size) LT.out ⟨false, true, ky⟩
      have c := Hc12s.of B9
      unfold put12c at B9 K9 D9 c
      have ⟨y0, y1, y2⟩ := c
      clear z0 z1 z2 f0 f1 f2 c B9
      simp only [show ((0 : Nat) : Int) = 0 from rfl] at y0 y1 y2 K9 D9
      have K10 := Lib.hid K9
      have D10 := Lib.hid D9
      clear K9 D9
      refine hK.out _ _ ?_ (fun held4 => ?_)
      · exact ⟨D10.out.cell 0, D10.out.cell 1, D10.out.cell 2⟩
      clear hK K
      try simp only [Act.put, List.setIfInBounds_toArray, List.set_cons_zero, List.set_cons_succ]
      refine takeH_yes (i := 5) (d := some 5) (v := ?v22) rfl rfl (by kernel_rfl) (by kernel_rfl) (by kernel_rfl) (fun _ _ _ h => h) (by rfl) ?y22 (by assumption) ?_
      case y22 => (intro w hSw; (try dsimp only at hSw); go_simp <;> with_reducible rfl)
      simp only [Act.put, List.setIfInBounds_toArray, List.set_cons_zero, List.set_cons_succ]
      refine wpAnyH_done (by kernel_rfl) ?_ _
      go_wp2_with fail
      refine ⟨rfl, .tuple #[.agg (hd12 b).cells, .string (in12 b)], ?_, K10.out, Or.inl ⟨by rw [HE.out, H8.out, Q8.out], rfl⟩⟩
      rw [HH.out, HI.out, HKY.out]
      unfold H12.cells
      simp [results, Tryd.results53, go_sem, y0, y1, y2]
    case false =>
      obtain rfl : 4 = z := HZ.out
      have c1 := GB.out.hb.cell 1
      simp [H12.cells] at c1
      go_upto_region 9 with (fail)
      clear c1
      have G7 : Hid (Gw12 u _ R H 4 b ⟨false, false, 0⟩) := GB
      have HKY : Hid (key12 false false b = 0) := rfl
      clear GB
      have HPK := Lib.hid (gw12_packet G7.out.drew (numOf b 2 2) (by omega) HS.out)
      generalize numOf b 2 2 = kd at *
      generalize pk12 kd (v11 (b.extract 4 b.size)) = Q at *
      refine wp_region_held_drew (S := (fun W => W.cell? ⟨H, 0, none⟩ = some (.bool false) ∧ W.cell? ⟨H, 1, none⟩ = some (.bool false) ∧ W.cell? ⟨H, 2, none⟩ = some (.int .u32 0))) (by kernel_rfl) ?_ (fun hHeld => ?_)
      · exact keep12 G7.out.drew
      have LT : Hid (H ≠ u.heap.size) := by have h := G7.out.lt; show H ≠ u.heap.size; omega
      clear G7
      refine takeH_yes (i := 0) (d := some 40) (v := ?v23) rfl rfl (by kernel_rfl) (by kernel_rfl) (by kernel_rfl) (fun _ _ _ h => h) (by rfl) ?y23 (by assumption) ?_
      case y23 => (intro w hSw; (try dsimp only at hSw); go_simp <;> with_reducible rfl)
      simp only [Act.put, List.setIfInBounds_toArray, List.set_cons_zero, List.set_cons_succ]
      refine takeH_yes (i := 1) (d := some 41) (v := ?v24) rfl rfl (by kernel_rfl) (by kernel_rfl) (by kernel_rfl) (fun _ _ _ h => h) (by rfl) ?y24 (by assumption) ?_
      case y24 => (intro w hSw; (try dsimp only at hSw); go_simp <;> with_reducible rfl)
      simp only [Act.put, List.setIfInBounds_toArray, List.set_cons_zero, List.set_cons_succ]
      refine takeH_yes (i := 2) (d := some 42) (v := ?v25) rfl rfl (by kernel_rfl) (by kernel_rfl) (by kernel_rfl) (fun _ _ _ h => h) (by rfl) ?y25 (by assumption) ?_
      case y25 => (intro w hSw; (try dsimp only at hSw); go_simp <;> with_reducible rfl)
      simp only [Act.put, List.setIfInBounds_toArray, List.set_cons_zero, List.set_cons_succ]
      refine wpAnyH_ready (rs := [3]) (by kernel_rfl) (by simp) ?_
      refine AllReadyH.cons rfl (fun K hK => ?_) AllReadyH.nil
      go_simp
      refine HPK.out.mono ?_
      rintro e v8 ⟨⟨k8, z8, h8⟩, ⟨q8, rfl⟩ | ⟨q8, rfl⟩⟩
      case inr => exact ⟨rfl, Read12End.stop k8 (by rw [HE.out, H8.out]) q8⟩
      have K8 := Lib.hid k8
      have Z8 := Lib.hid z8
      have H8b := Lib.hid h8
      have Q8 := Lib.hid q8
      clear k8 z8 h8 q8 HPK
      dsimp only
      refine hK.out _ _ ?_ (fun held3 => ?_)
      · exact ⟨H8b.out.cell 0, H8b.out.cell 1, H8b.out.cell 2⟩
      clear hK K
      try simp only [Act.put, List.setIfInBounds_toArray, List.set_cons_zero, List.set_cons_succ]
      have ⟨z0, z1, z2⟩ := Hc12s.of Z8.out
      simp only [H12.zero] at z0 z1 z2
      have f0 := Z8.out.frozen 0
      have f1 := Z8.out.frozen 1
      have f2 := Z8.out.frozen 2
      refine wpAnyH_ready (rs := [4]) (by kernel_rfl) (by simp) ?_
      refine AllReadyH.cons rfl (fun K hK => ?_) AllReadyH.nil
      go_simp
      have B9 := put12c_blk Z8.out ⟨false, false, 0⟩
      have K9 := put12c_kb K8.out (N := u.heap.size) (fun h => absurd h (Nat.lt_irrefl _)) ⟨false, false, 0⟩
      have D9 := put12c_other H8b.out (N := u.heap.size) LT.out ⟨false, false, 0⟩
      have c := Hc12s.of B9
      unfold put12c at B9 K9 D9 c
      have ⟨y0, y1, y2⟩ := c
      clear z0 z1 z2 f0 f1 f2 c B9
      simp only [show ((0 : Nat) : Int) = 0 from rfl] at y0 y1 y2 K9 D9
      have K10 := Lib.hid K9
      have D10 := Lib.hid D9
      clear K9 D9
      refine hK.out _ _ ?_ (fun held4 => ?_)
      · exact ⟨D10.out.cell 0, D10.out.cell 1, D10.out.cell 2⟩
      clear hK K
      try simp only [Act.put, List.setIfInBounds_toArray, List.set_cons_zero, List.set_cons_succ]
      refine takeH_yes (i := 5) (d := some 5) (v := ?v26) rfl rfl (by kernel_rfl) (by kernel_rfl) (by kernel_rfl) (fun _ _ _ h => h) (by rfl) ?y26 (by assumption) ?_
      case y26 => (intro w hSw; (try dsimp only at hSw); go_simp <;> with_reducible rfl)
      simp only [Act.put, List.setIfInBounds_toArray, List.set_cons_zero, List.set_cons_succ]
      refine wpAnyH_done (by kernel_rfl) ?_ _
      go_wp2_with fail
      refine ⟨rfl, .tuple #[.agg (hd12 b).cells, .string (in12 b)], ?_, K10.out, Or.inl ⟨by rw [HE.out, H8.out, Q8.out], rfl⟩⟩
      rw [HH.out, HI.out, HKY.out]
      unfold H12.cells
      simp [results, Tryd.results53, go_sem, y0, y1, y2]

end Go.Proofs.YtmghdgkdnacinaaDoor

/-
  Get: the closure, and the call itself.
-/
namespace Go.Proofs.YtmghdgkdnacinaaDoor
open Go.RowKit
set_option linter.unusedVariables false

/-- What the closure leaves. -/
def Got12At (b : ByteArray) (H Y : Nat) (k : Int) (u : World) : Prop := k = (get12E b : Nat) ∧ Blk u H (get12H b).cells 66 ∧ Blk u Y #[.string (get12S b)] 9

set_option maxHeartbeats 1000000 in
theorem get121_any (R X H Y : Nat) (b : ByteArray) (u : World) (hs : b.size ≤ 1000000) (hg : Vers u) (hr : Rd u R b 0) (hX : Blk u X #[.string b] 9) (hH : Blk u H H12.zero.cells 66) (hY : Blk u Y #[.string ⟨#[]⟩] 9) (h0 : 0 ≠ R) (h1 : R ≠ H) (h2 : R ≠ Y) (h3 : H ≠ Y) :
    Calls Tryd.prog 52 #[.pointer (some ⟨R, 0, none⟩), .pointer (some ⟨X, 0, none⟩), .pointer (some ⟨H, 0, none⟩), .pointer (some ⟨Y, 0, none⟩)] u (DoKb (fun k => k = H ∨ k = Y) R u (Got12At b H Y)) := by
  have HR := Lib.hid (read12_any R b u hr hs hg h0)
  have N1 := Lib.hid h1
  have N2 := Lib.hid h2
  have N3 := Lib.hid h3
  have cX := hX.cell 0
  simp at cX
  clear hr h0 h1 h2 h3 hX hg hs
  have HH := Lib.hid hH
  have HY := Lib.hid hY
  clear hH hY
  unfold Read12End at HR
  go_enter Tryd.func52, Tryd.ntmps52
  go_wp2_with fail
  refine HR.out.mono ?_
  rintro e u1 ⟨k1, ⟨g0, rfl⟩ | ⟨g0, rfl⟩⟩
  case inr =>
    have HGH : get12H b = H12.zero := by unfold get12H; rw [if_neg g0]
    have HGS : get12S b = ⟨#[]⟩ := by unfold get12S; rw [if_neg g0]
    refine ⟨rfl, Or.inr ⟨_, rfl, rfl, ?_, ?_⟩, k1.mono (fun k _ e => Or.inr e)⟩
    · rw [HGH]; exact HH.out.kb k1 (fun e => N1.out e.symm)
    · rw [HGS]; exact HY.out.kb k1 (fun e => N2.out e.symm)
  have H1 := Lib.hid (HH.out.kb k1 (fun e => N1.out e.symm))
  have Y1 := Lib.hid (HY.out.kb k1 (fun e => N2.out e.symm))
  have K1 := Lib.hid k1
  have G0 := Lib.hid g0
  have HGH : Hid (get12H b = hd12 b) := by show get12H b = _; unfold get12H; rw [if_pos g0]
  have HGS : Hid (get12S b = in12 b) := by show get12S b = _; unfold get12S; rw [if_pos g0]
  clear HR HH HY k1 g0 cX
  have ⟨z0, z1, z2⟩ := Hc12s.of H1.out
  simp only [H12.zero] at z0 z1 z2
  have f0 := H1.out.frozen 0
  have f1 := H1.out.frozen 1
  have f2 := H1.out.frozen 2
  have B2 := put12c_blk H1.out (hd12 b)
  have K2 := put12c_kb (S := (· = H)) (N := H) (Kb.refl _ u1) (fun _ => rfl) (hd12 b)
  have Y2 := Y1.out.kb K2 (fun e => N3.out e.symm)
  have KA := (K1.out.mono (T := fun k => (k = H ∨ k = Y) ∨ k = R) (fun k _ e => Or.inr e)).trans (K2.mono (fun k _ e => Or.inl (Or.inl e)))
  have cY := Y2.cell 0
  have fY := Y2.frozen 0
  simp at cY
  have BB := Lib.hid B2
  have YY := Lib.hid Y2
  have KK := Lib.hid KA
  clear B2 K2 Y2 KA H1 Y1 K1
  generalize hd12 b = h at *
  generalize in12 b = s at *
  unfold put12c at cY fY BB YY KK
  unfold H12.cells
  go_wp2_with fail
  go_end0
  refine ⟨Or.inl ⟨rfl, by rw [G0.out]; rfl, ?_, ?_⟩, ?_⟩
  · rw [HGH.out]; exact BB.out.set_other (p := ⟨Y, 0, none⟩) N3.out _
  · rw [HGS.out]; exact YY.out.set 0 _
  · exact Kb.setCell (S := fun k => (k = H ∨ k = Y) ∨ k = R) KK.out (p := ⟨Y, 0, none⟩) (fun _ => Or.inl (Or.inr rfl)) _

theorem call12get (args : Array Value) (u : World) : (callFunc 52 args).run Tryd.prog u = .ok (.enter 52 args) u := by kernel_rfl

/-- Get's own blocks. -/
structure Get12Blks (b : ByteArray) (w u : World) : Prop where
  x : Blk u w.heap.size #[.string b] 9
  z : Blk u (w.heap.size + 1) H12.zero.cells 66
  h : Blk u (w.heap.size + 1 + 1) H12.zero.cells 66
  y : Blk u (w.heap.size + 1 + 1 + 1) #[.string ⟨#[]⟩] 9
  bel : Below w.heap.size w u
  size : u.heap.size = w.heap.size + 4
theorem Get12Blks.new (b : ByteArray) (w : World) : Get12Blks b w ((((w.alloc (.cells #[.string b] 9)).alloc (.cells H12.zero.cells 66)).alloc (.cells H12.zero.cells 66)).alloc (.cells #[.string ⟨#[]⟩] 9)) := by
  have e1 := Blk.new w #[.string b] 9
  have b1 : Below w.heap.size w (w.alloc (.cells #[.string b] 9)) := (Below.refl _ _).alloc (Nat.le_refl _) _
  have s1 : (w.alloc (.cells #[.string b] 9)).heap.size = w.heap.size + 1 := by simp
  generalize w.alloc (.cells #[.string b] 9) = w1 at *
  have e2 := Blk.new w1 H12.zero.cells 66
  have b2 : Below w.heap.size w (w1.alloc (.cells H12.zero.cells 66)) := b1.alloc (by omega) _
  have s2 : (w1.alloc (.cells H12.zero.cells 66)).heap.size = w.heap.size + 1 + 1 := by simp; omega
  have e1' := e1.alloc (.cells H12.zero.cells 66)
  generalize w1.alloc (.cells H12.zero.cells 66) = w2 at *
  have e3 := Blk.new w2 H12.zero.cells 66
  have b3 : Below w.heap.size w (w2.alloc (.cells H12.zero.cells 66)) := b2.alloc (by omega) _
  have s3 : (w2.alloc (.cells H12.zero.cells 66)).heap.size = w.heap.size + 1 + 1 + 1 := by simp; omega
  have e1'' := e1'.alloc (.cells H12.zero.cells 66)
  have e2' := e2.alloc (.cells H12.zero.cells 66)
  generalize w2.alloc (.cells H12.zero.cells 66) = w3 at *
  have e4 := Blk.new w3 #[.string ⟨#[]⟩] 9
  rw [s1] at e2'
  rw [s2] at e3
  rw [s3] at e4
  exact ⟨e1''.alloc _, e2'.alloc _, e3.alloc _, e4, b3.alloc (by omega) _, by simp; omega⟩

set_option maxRecDepth 100000 in
set_option maxHeartbeats 2000000 in
theorem get12_any (b : ByteArray) (w : World) (hg : Vers w) (hs : b.size ≤ 1000000) :
    Calls Tryd.prog 30 #[.string b] w (Tells (.tuple #[.agg (get12H b).cells, .string (get12S b), .int .i64 (get12E b : Nat)]) w) := by
  have hmf : ∀ (fn : Fn) (first cap : Array Value) (w : World), (Instr.makeFunc fn first cap).run Tryd.prog w = .ok (.func fn first cap) w := fun _ _ _ _ => rfl
  have G := Lib.hid (Get12Blks.new b w)
  have HG := Lib.hid (hg.on G.out.bel)
  have HGL := Lib.hid hg.lt
  have HP : Hid (b.size ≤ 1000000) := hs
  clear hs hg
  go_enter Tryd.func30, Tryd.ntmps30
  go_wp2_with fail
  simp only [show #[Value.bool false, Value.bool false, Value.int IntKind.u32 0] = H12.zero.cells from rfl]
  generalize (((w.alloc (.cells #[.string b] 9)).alloc (.cells H12.zero.cells 66)).alloc (.cells H12.zero.cells 66)).alloc (.cells #[.string ⟨#[]⟩] 9) = u0 at *
  have hH : w.heap.size + 1 + 1 ≠ w.heap.size + 1 + 1 + 1 := by omega
  have RD := read_kb b 52 #[.pointer (some ⟨w.heap.size, 0, none⟩), .pointer (some ⟨w.heap.size + 1 + 1, 0, none⟩), .pointer (some ⟨w.heap.size + 1 + 1 + 1, 0, none⟩)] u0 (fun k => k = w.heap.size + 1 + 1 ∨ k = w.heap.size + 1 + 1 + 1) (Got12At b (w.heap.size + 1 + 1) (w.heap.size + 1 + 1 + 1))
    (fun k hk => by have := G.out.size; omega) (fun args u => call12get args u) (fun R u hr hR hk => get121_any R w.heap.size (w.heap.size + 1 + 1) (w.heap.size + 1 + 1 + 1) b u HP.out (HG.out.kb hk (fun f => f)) hr (G.out.x.kb hk (fun f => f)) (G.out.h.kb hk (fun f => f)) (G.out.y.kb hk (fun f => f)) (by have := G.out.size; have := HGL.out; omega) (by have := G.out.size; omega) (by have := G.out.size; omega) hH)
  refine RD.mono ?_
  rintro e w2 ⟨k, w1, rfl, ⟨rfl, hb1, hy1⟩, hk1, hk2⟩
  have HS := G.out.size
  have B2 := Lib.hid (hb1.kb hk2 (by omega))
  have Y2 := Lib.hid (hy1.kb hk2 (by omega))
  have Z2 := Lib.hid ((G.out.z.kb hk1 (by omega)).kb hk2 (by omega))
  have L2 : Hid (Below w.heap.size w w2) := by
    show Below w.heap.size w w2
    have hb := G.out.bel
    exact ⟨hk2.os.trans (hk1.os.trans hb.os), hk2.tape.trans (hk1.tape.trans hb.tape), hk2.output.trans (hk1.output.trans hb.output), Nat.le_trans hb.size (Nat.le_trans hk1.size hk2.size), fun k hk =>
      (hk2.block k (by have := hk1.size; omega) (by omega)).trans ((hk1.block k (by omega) (by omega)).trans (hb.block k hk))⟩
  clear hb1 hy1 hk1 hk2 RD G HS hH hmf HG HGL
  have ⟨c0, c1, c2⟩ := Hc12s.of B2.out
  have cY := Y2.out.cell 0
  simp at cY
  have ⟨z0, z1, z2⟩ := Hc12s.of Z2.out
  simp only [H12.zero] at z0 z1 z2
  have f0 := Z2.out.frozen 0
  have f1 := Z2.out.frozen 1
  have f2 := Z2.out.frozen 2
  generalize hgh : get12H b = h at *
  have HGH := Lib.hid hgh
  clear hgh
  go_wp2_with fail
  go_region
  clear c0 c1 c2 cY z0 z1 z2 f0 f1 f2
  go_wp2_with fail
  have B3 := (put12c_blk Z2.out h).drew
  have K3 := put12c_kb (S := fun k => w.heap.size ≤ k) (u := w) (N := w.heap.size + 1) ⟨L2.out.os, L2.out.tape, L2.out.output, L2.out.size, fun k hk _ => L2.out.block k hk⟩ (fun _ => by omega) h
  have L3 := K3.drew.below (Nat.le_refl _)
  clear K3 Z2 Y2 B2 L2
  unfold put12c at B3 L3
  generalize (((w2.setCell ⟨w.heap.size + 1, 0, none⟩ (.bool h.sum)).setCell ⟨w.heap.size + 1, 1, none⟩ (.bool h.key)).setCell ⟨w.heap.size + 1, 2, none⟩ (.int .u32 (h.v : Nat))).drew = W at *
  have ⟨c0, c1, c2⟩ := Hc12s.of B3
  refine ⟨rfl, .tuple #[.agg h.cells, .string (get12S b), .int .i64 (get12E b : Nat)], ?_, rfl, L3⟩
  unfold H12.cells
  simp [results, Tryd.results30, go_sem, c0, c1, c2]

end Go.Proofs.YtmghdgkdnacinaaDoor
