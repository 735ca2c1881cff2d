/-
  The document's pieces put together: payload.
-/
import Derived.Test.YtoijomdgcgbpbaaReasmRB
import Derived.Deep.QuietTactic
import Derived.BigQuiet
namespace Go.Proofs.Ytoijomdgcgbpbaa
open Go.RowKit
set_option linter.unusedVariables false

/-- What payload says of pieces whose sorted row is qs. -/
structure Pay16 (qs : List P16) (ps : List (H4 × ByteArray)) (hd : H4) (w : World) (r : Ending) (w' : World) : Prop where
  bel : Below w.heap.size w w'
  is : (whole16 qs = false ∧ ∃ x y, r = .returned (.tuple #[.string x, .agg (y : H4).cells, .bool false])) ∨ (whole16 qs = true ∧ r = .returned (.tuple #[.string (cat16 qs), .agg hd.cells, .bool true]))

/-- Payload's two headers' blocks. -/
structure Pb16 (w W : World) (f z : H4) : Prop where
  a : Blk W w.heap.size z.cells 43
  b : Blk W (w.heap.size + 1) f.cells 43
  bel : Below w.heap.size w W
theorem Pb16.below {w W W' : World} {f z : H4} (h : Pb16 w W f z) (hb : Below W.heap.size W W') : Pb16 w W' f z :=
  ⟨(hb.block _ h.a.lt).trans h.a, (hb.block _ h.b.lt).trans h.b, h.bel.trans (hb.mono h.bel.size)⟩

theorem put10_below {B N : Nat} {a W : World} (h : Below B a W) (hN : B ≤ N) (x : H4) : Below B a (put10 W N x) := by
  unfold put10
  exact (((((((((h.setCell (p := ⟨N, 0, none⟩) hN _).setCell (p := ⟨N, 1, none⟩) hN _).setCell (p := ⟨N, 2, none⟩) hN _).setCell (p := ⟨N, 3, none⟩) hN _).setCell (p := ⟨N, 4, none⟩) hN _).setCell (p := ⟨N, 5, none⟩) hN _).setCell (p := ⟨N, 6, none⟩) hN _).setCell (p := ⟨N, 7, none⟩) hN _).setCell (p := ⟨N, 8, none⟩) hN _).setCell (p := ⟨N, 9, none⟩) hN _
theorem put10_other {N b : Nat} {W : World} {xs : Array Value} {T : TypeId} (h : Blk W b xs T) (hne : b ≠ N) (x : H4) : Blk (put10 W N x) b xs T := by
  have k := put10_kb (S := fun i => i = N) (N := N) (Kb.refl (fun i => i = N) W) (fun _ => rfl) x
  exact (k.block b h.lt hne).trans h
/-- The first header kept; the answer's. -/
theorem Pb16.first {w W : World} {f z : H4} (h : Pb16 w W f z) (x : H4) : Pb16 w (put10 W (w.heap.size + 1) x) x z :=
  ⟨put10_other h.a (by omega) x, put10_blk h.b x, put10_below h.bel (by omega) x⟩
theorem Pb16.told {w W : World} {f z : H4} (h : Pb16 w W f z) (x : H4) : Pb16 w (put10 W w.heap.size x) f x :=
  ⟨put10_blk h.a x, put10_other h.b (by omega) x, put10_below h.bel (by omega) x⟩
theorem Pb16.drew {w W : World} {f z : H4} (h : Pb16 w W f z) : Pb16 w W.drew f z := ⟨h.a.drew, h.b.drew, ⟨h.bel.os, h.bel.tape, h.bel.output, h.bel.size, h.bel.block⟩⟩
theorem pay16_ret {W : World} {tmps : Array Value} {x : ByteArray} {h : H4} {N : Nat} {b : Bool} (hB : Blk W N h.cells 43) (t2 : tmps.getD 2 undef = .string x) (t3 : tmps.getD 3 undef = .pointer (some ⟨N, 0, none⟩)) (t4 : tmps.getD 4 undef = .bool b) :
    (results Try.f39 tmps).run Try.prog W = .ok (.tuple #[.string x, .agg h.cells, .bool b]) W := by
  have ⟨c0, c1, c2, c3, c4, c5, c6, c7, c8, c9⟩ := Hc.of hB
  unfold H4.cells
  simp at t2 t3 t4
  simp [results, Try.results39, go_sem, t2, t3, t4, c0, c1, c2, c3, c4, c5, c6, c7, c8, c9]
theorem chain_zero {qs : List P16} {j : Nat} (c : Chain16 qs j) (f : Fine16 qs) (h : sum16 (qs.take j) = 0) : j = 0 := by
  rcases Nat.eq_zero_or_pos j with e | e
  · exact e
  · exfalso
    have hl : 0 < qs.length := Nat.lt_of_lt_of_le e c.le
    rcases f with g | ⟨y, rfl, _, hl2, _⟩
    · have h1 := sum_take_mono qs (show 1 ≤ j from e)
      have h2 := take_one (qs := qs) (j := 0) hl
      have h3 := g.some _ (List.getElem_mem hl)
      rw [Nat.zero_add] at h2
      omega
    · have := c.last 0 (by simp) e
      have e2 : ([y] : List P16)[0]'(by simp) = y := rfl
      rw [e2, hl2] at this
      cases this
def Is16n (n : Nat) (x : H4 × ByteArray) : Prop := (pcOf x).lo = n ∧ (x.1.mf = false ∨ x.2.size ≠ 0)
theorem is16n (n : Nat) (x : H4 × ByteArray) : (decide ((pcOf x).lo = n) && !(x.1.mf && decide (x.2.size = 0))) = true ↔ Is16n n x := by
  unfold Is16n
  rw [Bool.and_eq_true, decide_eq_true_eq, Bool.not_eq_true', Bool.and_eq_false_iff, decide_eq_false_iff_not]
theorem nxt_at {ps : List (H4 × ByteArray)} {n k : Nat} (hk : k < ps.length) (h : Is16n n (ps[k]'hk)) (hno : ∀ i (hi : i < ps.length), i < k → ¬ Is16n n (ps[i]'hi)) : nxt16 ps n = k := by
  unfold nxt16
  rw [List.findIdx_eq hk]
  refine ⟨(is16n n _).2 h, fun i hi => ?_⟩
  rw [Bool.eq_false_iff]
  exact fun e => hno i (by omega) hi ((is16n n _).1 e)
theorem nxt_none {ps : List (H4 × ByteArray)} {n : Nat} (hno : ∀ i (hi : i < ps.length), ¬ Is16n n (ps[i]'hi)) : ¬ nxt16 ps n < ps.length := by
  unfold nxt16
  rw [List.findIdx_lt_length]
  rintro ⟨x, hx, e⟩
  obtain ⟨i, hi, rfl⟩ := List.getElem_of_mem hx
  exact hno i hi ((is16n n _).1 e)
theorem empty_is (s : ByteArray) : s.toList.isEmpty = decide (s.size = 0) := by
  rw [Bool.eq_iff_iff, List.isEmpty_iff_length_eq_zero, decide_eq_true_eq, ByteArray.toList_eq, Array.length_toList]
  exact Iff.rfl
def szOf : Value → Nat
  | .string s => s.size
  | _ => 0

set_option maxRecDepth 100000 in
set_option maxHeartbeats 2000000 in
theorem pay16_any (qs : List P16) (ps : List (H4 × ByteArray)) (hd : H4) (v : Value) (w : World) (hrow : RRow w v ps) (hf : Fine16 qs) (hp : qs.Perm (ps.map pcOf)) (hpc : ∀ x ∈ ps, Pc16 x) (hfirst : ∀ x ∈ ps, (pcOf x).lo = 0 → hd = x.1) (hlen : ps.length ≤ 65536) (hsum : sum16 qs ≤ 65536) :
    Calls Try.prog 39 #[v] w (Pay16 qs ps hd w) := by
  have HR := Lib.hid hrow
  have HF := Lib.hid hf
  have HP := Lib.hid hp
  have HPC := Lib.hid hpc
  have HFI := Lib.hid hfirst
  have HS := Lib.hid hsum
  obtain ⟨a, cap, rfl⟩ := owns_len hrow
  clear hrow hf hp hpc hfirst hsum
  obtain ⟨w0, hw0⟩ : ∃ w0, w0 = (w.alloc (.cells #[.int .i64 0, .int .i64 0, .int .i64 0, .int .i64 0, .int .i64 0, .bool false, .bool false, .string ⟨#[]⟩, .string ⟨#[]⟩, .string ⟨#[]⟩] 43)).alloc (.cells #[.int .i64 0, .int .i64 0, .int .i64 0, .int .i64 0, .int .i64 0, .bool false, .bool false, .string ⟨#[]⟩, .string ⟨#[]⟩, .string ⟨#[]⟩] 43) := ⟨_, rfl⟩
  have P0 : Hid (Pb16 w w0 H4.zero H4.zero) := by
    have e2 := Blk.new (w.alloc (.cells H4.zero.cells 43)) H4.zero.cells 43
    simp only [World.size_alloc] at e2
    rw [hw0]
    exact ⟨(Blk.new w _ _).alloc _, e2, ((Below.refl _ w).alloc (Nat.le_refl _) _).alloc (by simp) _⟩
  go_enter Try.func39, Try.ntmps39
  go_upto_region 3 with (fail)
  simp only [← hw0]
  clear hw0
  go_loopw [5] (fun x wr => ∃ (j : Nat) (f : H4), x = .string (cat16 (qs.take j)) ∧ Chain16 qs j ∧ (0 < j → f = hd) ∧ Pb16 w wr f H4.zero) (fun x _ => sum16 qs + 1 - szOf x)
  case atStart => exact ⟨0, H4.zero, rfl, Chain16.start qs, fun h => absurd h (Nat.lt_irrefl 0), P0.out⟩
  case round =>
    obtain ⟨j, f, rfl, hc, hfh, hpb⟩ := hrel
    have CH := Lib.hid hc
    have FH := Lib.hid hfh
    have PB := Lib.hid hpb
    clear hc hfh hpb P0
    obtain ⟨n, hn⟩ : ∃ n, n = sum16 (qs.take j) := ⟨_, rfl⟩
    have hsz : (cat16 (qs.take j)).size = n := by rw [cat16_size, hn]
    have hnle : n ≤ 65536 := by
      have h1 := sum_split qs j
      have := HS.out
      omega
    generalize hS : cat16 (qs.take j) = S at *
    have HSE := Lib.hid hS
    have HN := Lib.hid hn
    clear hS hn
    subst hsz
    go_wp2_with fail
    go_loopw [7] (fun y wr2 => ∃ k : Nat, y = .int .i64 (k : Nat) ∧ k ≤ ps.length ∧ (∀ i (hi : i < ps.length), i < k → ¬ Is16n S.size (ps[i]'hi)) ∧ Pb16 w wr2 f H4.zero) (fun y _ => ps.length - (intOf y).toNat)
    case atStart => exact ⟨0, rfl, Nat.zero_le _, (fun i _ h => absurd h (Nat.not_lt_zero _)), PB.out⟩
    case round =>
      obtain ⟨k, rfl, hk, hno, hpb⟩ := hrel
      have NO := Lib.hid hno
      have PK := Lib.hid hpb
      clear hno hpb PB
      by_cases hlt : k < ps.length
      · obtain ⟨g, cap', hv, hg, hcell⟩ := RRow.piece (HR.out) hlt
        simp only [Value.slice.injEq, true_and] at hv
        obtain ⟨rfl, rfl⟩ := hv
        have d0 := (PK.out.bel.cell (p := ⟨g, k * 11 + 0, none⟩) hg).trans (hcell 0 (by omega))
        have d1 := (PK.out.bel.cell (p := ⟨g, k * 11 + 1, none⟩) hg).trans (hcell 1 (by omega))
        have d2 := (PK.out.bel.cell (p := ⟨g, k * 11 + 2, none⟩) hg).trans (hcell 2 (by omega))
        have d3 := (PK.out.bel.cell (p := ⟨g, k * 11 + 3, none⟩) hg).trans (hcell 3 (by omega))
        have d4 := (PK.out.bel.cell (p := ⟨g, k * 11 + 4, none⟩) hg).trans (hcell 4 (by omega))
        have d5 := (PK.out.bel.cell (p := ⟨g, k * 11 + 5, none⟩) hg).trans (hcell 5 (by omega))
        have d6 := (PK.out.bel.cell (p := ⟨g, k * 11 + 6, none⟩) hg).trans (hcell 6 (by omega))
        have d7 := (PK.out.bel.cell (p := ⟨g, k * 11 + 7, none⟩) hg).trans (hcell 7 (by omega))
        have d8 := (PK.out.bel.cell (p := ⟨g, k * 11 + 8, none⟩) hg).trans (hcell 8 (by omega))
        have d9 := (PK.out.bel.cell (p := ⟨g, k * 11 + 9, none⟩) hg).trans (hcell 9 (by omega))
        have d10 := (PK.out.bel.cell (p := ⟨g, k * 11 + 10, none⟩) hg).trans (hcell 10 (by omega))
        simp only [pccells, List.getElem?_cons_zero, List.getElem?_cons_succ, Nat.add_zero] at d0 d1 d2 d3 d4 d5 d6 d7 d8 d9 d10
        have hpk := HPC.out _ (List.getElem_mem hlt)
        have HFR := Lib.hid (fun W => rfrom16_any (ps[k]'hlt) hpk W)
        unfold Tells pccells at HFR
        have hsz2 := hpk.size
        have HCL := Lib.hid hcell
        have HG := Lib.hid hg
        have hx : ∃ x, x = ps[k]'hlt := ⟨_, rfl⟩
        obtain ⟨x, hx⟩ := hx
        have ISK := Lib.hid (show ∀ n, Is16n n x ↔ (pcOf x).lo = n ∧ (x.1.mf = false ∨ x.2.size ≠ 0) from fun n => Iff.rfl)
        rw [← hx] at d0 d1 d2 d3 d4 d5 d6 d7 d8 d9 d10 HFR hsz2
        have HXE := Lib.hid hx
        clear hpk hcell hg hx
        have t1 : decide ((k : Int) < (ps.length : Int)) = true := decide_eq_true (by omega)
        have u0 : (0 : Int) ≤ (k : Int) := by omega
        have u1 : (k : Int) < (ps.length : Int) := by omega
        have ew : IntKind.i64.wrap ((k : Int) + 1) = ((k + 1 : Nat) : Int) := by rw [IntWalk.i64_in _ (by omega)]; omega
        generalize hlo : (pcOf x).lo = lo at *
        have HLO := Lib.hid hlo
        clear hlo
        go_wp2_with fail
        refine (HFR.out _).mono ?_
        rintro e w5 ⟨rfl, hb5⟩
        have P5 := Lib.hid (PK.out.below hb5)
        have HLT := Lib.hid hlt
        clear hb5 d0 d1 d2 d3 d4 d5 d6 d7 d8 d9 d10 PK HFR
        have HCELL := Lib.hid (fun (W : World) (b : Below w.heap.size w W) t (ht : t < 11) => show W.cell? ⟨g, k * 11 + t, none⟩ = (pccells x)[t]? from by rw [HXE.out]; exact (b.cell (p := ⟨g, k * 11 + t, none⟩) HG.out).trans (HCL.out t ht))
        clear HCL
        by_cases hA : lo = S.size
        case neg =>
          have t2 : ((lo : Int) != (S.size : Int)) = true := by simp; omega
          go_wp2_with fail
          refine ⟨⟨k + 1, rfl, HLT.out, fun i hi h => ?_, P5.out⟩, ?_⟩
          · by_cases e : i = k
            · subst e
              rw [← HXE.out]
              exact fun h => hA (HLO.out ▸ h.1)
            · exact NO.out i hi (by omega)
          · have := HLT.out
            simp [intOf]
            omega
        have t2 : ((lo : Int) != (S.size : Int)) = false := by rw [hA]; simp
        have tE := empty_is x.2
        have e0 := HCELL.out w5 P5.out.bel 0 (by omega)
        have e1 := HCELL.out w5 P5.out.bel 1 (by omega)
        have e2 := HCELL.out w5 P5.out.bel 2 (by omega)
        have e3 := HCELL.out w5 P5.out.bel 3 (by omega)
        have e4 := HCELL.out w5 P5.out.bel 4 (by omega)
        have e5 := HCELL.out w5 P5.out.bel 5 (by omega)
        have e6 := HCELL.out w5 P5.out.bel 6 (by omega)
        have e7 := HCELL.out w5 P5.out.bel 7 (by omega)
        have e8 := HCELL.out w5 P5.out.bel 8 (by omega)
        have e9 := HCELL.out w5 P5.out.bel 9 (by omega)
        have e10 := HCELL.out w5 P5.out.bel 10 (by omega)
        simp only [pccells, List.getElem?_cons_zero, List.getElem?_cons_succ, Nat.add_zero] at e0 e1 e2 e3 e4 e5 e6 e7 e8 e9 e10
        by_cases hC : x.1.mf = true ∧ x.2.size = 0
        case pos =>
          rw [hC.1] at e6
          rw [decide_eq_true hC.2] at tE
          go_wp2_with fail
          refine ⟨⟨k + 1, rfl, HLT.out, fun i hi h => ?_, P5.out⟩, ?_⟩
          · by_cases e : i = k
            · subst e
              rw [← HXE.out]
              rintro ⟨_, h2 | h2⟩
              · rw [hC.1] at h2; cases h2
              · exact h2 hC.2
            · exact NO.out i hi (by omega)
          · have := HLT.out
            simp [intOf]
            omega
        have hIs : Is16n S.size x := ⟨HLO.out.trans hA, by
          cases hmf : x.1.mf with
          | false => exact Or.inl rfl
          | true => exact Or.inr (fun e => hC ⟨hmf, e⟩)⟩
        have hnx := nxt_at HLT.out (by rw [← HXE.out]; exact hIs) NO.out
        obtain ⟨hj, hpe, hqlo, hlast, hmore⟩ := CH.out.yes HF.out HP.out HLT.out (by rw [← HN.out]; exact hnx)
        rw [← HXE.out] at hpe
        have hcat := cat_one hj
        have htk := take_one hj
        rw [HSE.out, ← hpe] at hcat
        rw [← hpe] at htk hlast hmore
        have hcat' : cat16 (qs.take (j + 1)) = S ++ x.2 := hcat
        have htk' : sum16 (qs.take (j + 1)) = sum16 (qs.take j) + x.2.size := htk
        have hlastE : (pcOf x).last = !x.1.mf := rfl
        rw [hlastE] at hlast hmore
        have LS := Lib.hid (And.intro hlast hmore)
        have CT := Lib.hid (And.intro hcat' htk')
        have hjz := Lib.hid (chain_zero CH.out HF.out)
        have HFX : Hid (j = 0 → x.1 = hd) := fun e => by
          have := HFI.out x (by rw [HXE.out]; exact List.getElem_mem _) (by
            rw [hIs.1, HN.out, e]
            rfl)
          exact this.symm
        clear hcat htk hcat' htk' hlast hmore hlastE hpe hqlo hnx hj
        have t3 : ((k : Int) == (ps.length : Int)) = false := beq_false_of_ne (by have := HLT.out; omega)
        have ⟨z0, z1, z2, z3, z4, z5, z6, z7, z8, z9⟩ := Hc.of P5.out.b
        have f0 := P5.out.b.frozen 0
        have f1 := P5.out.b.frozen 1
        have f2 := P5.out.b.frozen 2
        have f3 := P5.out.b.frozen 3
        have f4 := P5.out.b.frozen 4
        have f5 := P5.out.b.frozen 5
        have f6 := P5.out.b.frozen 6
        have f7 := P5.out.b.frozen 7
        have f8 := P5.out.b.frozen 8
        have f9 := P5.out.b.frozen 9
        cases hmf : x.1.mf with
        | true =>
          rw [hmf] at e6
          rw [decide_eq_false (show ¬ x.2.size = 0 from fun e => hC ⟨hmf, e⟩)] at tE
          by_cases h0 : S.size = 0
          case pos =>
            have t4 : ((S.size : Int) == 0) = true := by rw [beq_iff_eq]; omega
            have P6 : Hid (Pb16 w ((((((((((w5.setCell ⟨w.heap.size + 1, 0, none⟩ (.int .i64 x.1.tos)).setCell ⟨w.heap.size + 1, 1, none⟩ (.int .i64 x.1.id)).setCell ⟨w.heap.size + 1, 2, none⟩ (.int .i64 x.1.off)).setCell ⟨w.heap.size + 1, 3, none⟩ (.int .i64 x.1.ttl)).setCell ⟨w.heap.size + 1, 4, none⟩ (.int .i64 x.1.proto)).setCell ⟨w.heap.size + 1, 5, none⟩ (.bool x.1.df)).setCell ⟨w.heap.size + 1, 6, none⟩ (.bool true)).setCell ⟨w.heap.size + 1, 7, none⟩ (.string x.1.src)).setCell ⟨w.heap.size + 1, 8, none⟩ (.string x.1.dst)).setCell ⟨w.heap.size + 1, 9, none⟩ (.string x.1.opt)) hd H4.zero) := by
              have q := P5.out.first x.1
              unfold put10 at q
              rw [hmf] at q
              have e := HFX.out (hjz.out (HN.out ▸ h0))
              rw [← e]
              exact q
            go_upto_region 10 with (fail)
            generalize (((((((((w5.setCell ⟨w.heap.size + 1, 0, none⟩ (.int .i64 x.1.tos)).setCell ⟨w.heap.size + 1, 1, none⟩ (.int .i64 x.1.id)).setCell ⟨w.heap.size + 1, 2, none⟩ (.int .i64 x.1.off)).setCell ⟨w.heap.size + 1, 3, none⟩ (.int .i64 x.1.ttl)).setCell ⟨w.heap.size + 1, 4, none⟩ (.int .i64 x.1.proto)).setCell ⟨w.heap.size + 1, 5, none⟩ (.bool x.1.df)).setCell ⟨w.heap.size + 1, 6, none⟩ (.bool true)).setCell ⟨w.heap.size + 1, 7, none⟩ (.string x.1.src)).setCell ⟨w.heap.size + 1, 8, none⟩ (.string x.1.dst)).setCell ⟨w.heap.size + 1, 9, none⟩ (.string x.1.opt) = w6 at *
            clear e0 e1 e2 e3 e4 e5 e6 e7 e8 e9 e10 z0 z1 z2 z3 z4 z5 z6 z7 z8 z9 f0 f1 f2 f3 f4 f5 f6 f7 f8 f9 t2 t3 t4 tE P5
            have e6 := HCELL.out w6 P6.out.bel 6 (by omega)
            have e10 := HCELL.out w6 P6.out.bel 10 (by omega)
            simp only [pccells, List.getElem?_cons_zero, List.getElem?_cons_succ] at e6 e10
            rw [hmf] at e6
            go_wp2_with fail
            refine ⟨⟨j + 1, hd, by rw [CT.out.1], LS.out.2 (by rw [hmf]; rfl), fun _ => rfl, P6.out⟩, ?_⟩
            show sum16 qs + 1 - (S ++ x.2).size < sum16 qs + 1 - S.size
            have h1 := HS.out
            have h2 := sum_split qs (j + 1)
            rw [CT.out.2, ← HN.out] at h2
            have h3 : x.2.size ≠ 0 := fun e => hC ⟨hmf, e⟩
            rw [ByteArray.size_append]
            omega
          case neg =>
            have t4 : ((S.size : Int) == 0) = false := beq_false_of_ne (by omega)
            have P6 : Hid (Pb16 w w5 hd H4.zero) := by
              have e := FH.out (by
                rcases Nat.eq_zero_or_pos j with e | e
                · exfalso
                  apply h0
                  rw [HN.out, e]
                  rfl
                · exact e)
              rw [← e]
              exact P5.out
            go_upto_region 10 with (fail)
            obtain ⟨w6, hw6⟩ : ∃ w6, w6 = w5 := ⟨_, rfl⟩
            rw [← hw6] at P6
            simp only [← hw6]
            clear hw6
            clear e0 e1 e2 e3 e4 e5 e6 e7 e8 e9 e10 z0 z1 z2 z3 z4 z5 z6 z7 z8 z9 f0 f1 f2 f3 f4 f5 f6 f7 f8 f9 t2 t3 t4 tE P5
            have e6 := HCELL.out w6 P6.out.bel 6 (by omega)
            have e10 := HCELL.out w6 P6.out.bel 10 (by omega)
            simp only [pccells, List.getElem?_cons_zero, List.getElem?_cons_succ] at e6 e10
            rw [hmf] at e6
            go_wp2_with fail
            refine ⟨⟨j + 1, hd, by rw [CT.out.1], LS.out.2 (by rw [hmf]; rfl), fun _ => rfl, P6.out⟩, ?_⟩
            show sum16 qs + 1 - (S ++ x.2).size < sum16 qs + 1 - S.size
            have h1 := HS.out
            have h2 := sum_split qs (j + 1)
            rw [CT.out.2, ← HN.out] at h2
            have h3 : x.2.size ≠ 0 := fun e => hC ⟨hmf, e⟩
            rw [ByteArray.size_append]
            omega
        | false =>
          rw [hmf] at e6
          by_cases h0 : S.size = 0
          case pos =>
            have t4 : ((S.size : Int) == 0) = true := by rw [beq_iff_eq]; omega
            have P6 : Hid (Pb16 w ((((((((((w5.setCell ⟨w.heap.size + 1, 0, none⟩ (.int .i64 x.1.tos)).setCell ⟨w.heap.size + 1, 1, none⟩ (.int .i64 x.1.id)).setCell ⟨w.heap.size + 1, 2, none⟩ (.int .i64 x.1.off)).setCell ⟨w.heap.size + 1, 3, none⟩ (.int .i64 x.1.ttl)).setCell ⟨w.heap.size + 1, 4, none⟩ (.int .i64 x.1.proto)).setCell ⟨w.heap.size + 1, 5, none⟩ (.bool x.1.df)).setCell ⟨w.heap.size + 1, 6, none⟩ (.bool false)).setCell ⟨w.heap.size + 1, 7, none⟩ (.string x.1.src)).setCell ⟨w.heap.size + 1, 8, none⟩ (.string x.1.dst)).setCell ⟨w.heap.size + 1, 9, none⟩ (.string x.1.opt)) hd H4.zero) := by
              have q := P5.out.first x.1
              unfold put10 at q
              rw [hmf] at q
              have e := HFX.out (hjz.out (HN.out ▸ h0))
              rw [← e]
              exact q
            go_upto_region 10 with (fail)
            generalize (((((((((w5.setCell ⟨w.heap.size + 1, 0, none⟩ (.int .i64 x.1.tos)).setCell ⟨w.heap.size + 1, 1, none⟩ (.int .i64 x.1.id)).setCell ⟨w.heap.size + 1, 2, none⟩ (.int .i64 x.1.off)).setCell ⟨w.heap.size + 1, 3, none⟩ (.int .i64 x.1.ttl)).setCell ⟨w.heap.size + 1, 4, none⟩ (.int .i64 x.1.proto)).setCell ⟨w.heap.size + 1, 5, none⟩ (.bool x.1.df)).setCell ⟨w.heap.size + 1, 6, none⟩ (.bool false)).setCell ⟨w.heap.size + 1, 7, none⟩ (.string x.1.src)).setCell ⟨w.heap.size + 1, 8, none⟩ (.string x.1.dst)).setCell ⟨w.heap.size + 1, 9, none⟩ (.string x.1.opt) = w6 at *
            clear e0 e1 e2 e3 e4 e5 e6 e7 e8 e9 e10 z0 z1 z2 z3 z4 z5 z6 z7 z8 z9 f0 f1 f2 f3 f4 f5 f6 f7 f8 f9 t2 t3 t4 tE P5
            have e6 := HCELL.out w6 P6.out.bel 6 (by omega)
            have e10 := HCELL.out w6 P6.out.bel 10 (by omega)
            simp only [pccells, List.getElem?_cons_zero, List.getElem?_cons_succ] at e6 e10
            rw [hmf] at e6
            have ⟨y0, y1, y2, y3, y4, y5, y6, y7, y8, y9⟩ := Hc.of P6.out.b
            have ⟨z0, z1, z2, z3, z4, z5, z6, z7, z8, z9⟩ := Hc.of P6.out.a
            have f0 := P6.out.a.frozen 0
            have f1 := P6.out.a.frozen 1
            have f2 := P6.out.a.frozen 2
            have f3 := P6.out.a.frozen 3
            have f4 := P6.out.a.frozen 4
            have f5 := P6.out.a.frozen 5
            have f6 := P6.out.a.frozen 6
            have f7 := P6.out.a.frozen 7
            have f8 := P6.out.a.frozen 8
            have f9 := P6.out.a.frozen 9
            go_upto_region 12 with (fail)
            go_region
            have P7 := Lib.hid (P6.out.told hd).drew
            unfold put10 at P7
            clear e6 e10 y0 y1 y2 y3 y4 y5 y6 y7 y8 y9 z0 z1 z2 z3 z4 z5 z6 z7 z8 z9 f0 f1 f2 f3 f4 f5 f6 f7 f8 f9 P6
            generalize ((((((((((w6.setCell ⟨w.heap.size, 0, none⟩ (.int .i64 hd.tos)).setCell ⟨w.heap.size, 1, none⟩ (.int .i64 hd.id)).setCell ⟨w.heap.size, 2, none⟩ (.int .i64 hd.off)).setCell ⟨w.heap.size, 3, none⟩ (.int .i64 hd.ttl)).setCell ⟨w.heap.size, 4, none⟩ (.int .i64 hd.proto)).setCell ⟨w.heap.size, 5, none⟩ (.bool hd.df)).setCell ⟨w.heap.size, 6, none⟩ (.bool hd.mf)).setCell ⟨w.heap.size, 7, none⟩ (.string hd.src)).setCell ⟨w.heap.size, 8, none⟩ (.string hd.dst)).setCell ⟨w.heap.size, 9, none⟩ (.string hd.opt)).drew = w7 at *
            go_wp2_with fail
            refine ⟨rfl, _, pay16_ret P7.out.a rfl rfl rfl, P7.out.bel, Or.inr ?_⟩
            obtain ⟨hw, hl⟩ := LS.out.1 (by rw [hmf]; rfl)
            refine ⟨hw, ?_⟩
            have e := CT.out.1
            rw [hl, List.take_length] at e
            rw [e]
          case neg =>
            have t4 : ((S.size : Int) == 0) = false := beq_false_of_ne (by omega)
            have P6 : Hid (Pb16 w w5 hd H4.zero) := by
              have e := FH.out (by
                rcases Nat.eq_zero_or_pos j with e | e
                · exfalso
                  apply h0
                  rw [HN.out, e]
                  rfl
                · exact e)
              rw [← e]
              exact P5.out
            go_upto_region 10 with (fail)
            obtain ⟨w6, hw6⟩ : ∃ w6, w6 = w5 := ⟨_, rfl⟩
            rw [← hw6] at P6
            simp only [← hw6]
            clear hw6
            clear e0 e1 e2 e3 e4 e5 e6 e7 e8 e9 e10 z0 z1 z2 z3 z4 z5 z6 z7 z8 z9 f0 f1 f2 f3 f4 f5 f6 f7 f8 f9 t2 t3 t4 tE P5
            have e6 := HCELL.out w6 P6.out.bel 6 (by omega)
            have e10 := HCELL.out w6 P6.out.bel 10 (by omega)
            simp only [pccells, List.getElem?_cons_zero, List.getElem?_cons_succ] at e6 e10
            rw [hmf] at e6
            have ⟨y0, y1, y2, y3, y4, y5, y6, y7, y8, y9⟩ := Hc.of P6.out.b
            have ⟨z0, z1, z2, z3, z4, z5, z6, z7, z8, z9⟩ := Hc.of P6.out.a
            have f0 := P6.out.a.frozen 0
            have f1 := P6.out.a.frozen 1
            have f2 := P6.out.a.frozen 2
            have f3 := P6.out.a.frozen 3
            have f4 := P6.out.a.frozen 4
            have f5 := P6.out.a.frozen 5
            have f6 := P6.out.a.frozen 6
            have f7 := P6.out.a.frozen 7
            have f8 := P6.out.a.frozen 8
            have f9 := P6.out.a.frozen 9
            go_upto_region 12 with (fail)
            go_region
            have P7 := Lib.hid (P6.out.told hd).drew
            unfold put10 at P7
            clear e6 e10 y0 y1 y2 y3 y4 y5 y6 y7 y8 y9 z0 z1 z2 z3 z4 z5 z6 z7 z8 z9 f0 f1 f2 f3 f4 f5 f6 f7 f8 f9 P6
            generalize ((((((((((w6.setCell ⟨w.heap.size, 0, none⟩ (.int .i64 hd.tos)).setCell ⟨w.heap.size, 1, none⟩ (.int .i64 hd.id)).setCell ⟨w.heap.size, 2, none⟩ (.int .i64 hd.off)).setCell ⟨w.heap.size, 3, none⟩ (.int .i64 hd.ttl)).setCell ⟨w.heap.size, 4, none⟩ (.int .i64 hd.proto)).setCell ⟨w.heap.size, 5, none⟩ (.bool hd.df)).setCell ⟨w.heap.size, 6, none⟩ (.bool hd.mf)).setCell ⟨w.heap.size, 7, none⟩ (.string hd.src)).setCell ⟨w.heap.size, 8, none⟩ (.string hd.dst)).setCell ⟨w.heap.size, 9, none⟩ (.string hd.opt)).drew = w7 at *
            go_wp2_with fail
            refine ⟨rfl, _, pay16_ret P7.out.a rfl rfl rfl, P7.out.bel, Or.inr ?_⟩
            obtain ⟨hw, hl⟩ := LS.out.1 (by rw [hmf]; rfl)
            refine ⟨hw, ?_⟩
            have e := CT.out.1
            rw [hl, List.take_length] at e
            rw [e]
      · have t1 : decide ((k : Int) < (ps.length : Int)) = false := decide_eq_false (by omega)
        obtain rfl : k = ps.length := by omega
        have ⟨z0, z1, z2, z3, z4, z5, z6, z7, z8, z9⟩ := Hc.of PK.out.a
        have f0 := PK.out.a.frozen 0
        have f1 := PK.out.a.frozen 1
        have f2 := PK.out.a.frozen 2
        have f3 := PK.out.a.frozen 3
        have f4 := PK.out.a.frozen 4
        have f5 := PK.out.a.frozen 5
        have f6 := PK.out.a.frozen 6
        have f7 := PK.out.a.frozen 7
        have f8 := PK.out.a.frozen 8
        have f9 := PK.out.a.frozen 9
        have t3 : ((ps.length : Int) == (ps.length : Int)) = true := by simp
        have hwh := CH.out.no HF.out HP.out (nxt_none (fun i hi => by rw [← HN.out]; exact NO.out i hi hi))
        have P7 := Lib.hid (PK.out.told H4.zero)
        have HW := Lib.hid hwh
        clear hwh
        unfold put10 at P7
        dsimp only [H4.zero] at P7
        go_wp2_with fail
        refine ⟨rfl, _, pay16_ret (h := H4.zero) P7.out.a rfl rfl rfl, P7.out.bel, Or.inl ⟨HW.out, ⟨#[]⟩, H4.zero, rfl⟩⟩

end Go.Proofs.Ytoijomdgcgbpbaa
