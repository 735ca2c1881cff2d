/-
  fits: does a piece clash with one that is there. (The library's IndexFunc and ContainsFunc, at a method's value.)
-/
import Derived.Test.YtoijomdgcgbpbaaReasmHas
import Derived.Test.YtoijomdgcgbpbaaGround
namespace Go.Proofs.Ytoijomdgcgbpbaa
open Go.RowKit
set_option linter.unusedVariables false

/-- A method's value, bound to its receiver. -/
def clashOf (x : P16) : Value := .func (.func 78) #[x.val] #[]

set_option maxRecDepth 100000 in
set_option maxHeartbeats 1000000 in
theorem indexfunc16_any (v : Value) (qs : List P16) (x : P16) (hl : qs.length ≤ 65515) (hx : x.Small) (hs : ∀ y ∈ qs, y.Small) (w : World) (h : Near16 w v qs) :
    Calls Try.prog 94 #[v, clashOf x] w (Found16 (clash16 x) qs w) := by
  have H0 := Lib.hid h
  have HC := Lib.hid (fun y W (hy : y.Small) => clashes16_any x y W hx hy)
  have HSM := Lib.hid hs
  have hv : ∃ a c, v = .slice a qs.length c := by
    rcases h with ⟨hq, a, c, r⟩ | ⟨g, o, cap, r, _⟩
    · exact ⟨a, c, by rw [r, hq]; rfl⟩
    · exact ⟨_, _, r⟩
  obtain ⟨a, c, rfl⟩ := hv
  clear h hs hx
  unfold Found16
  unfold Tells at HC
  unfold clashOf
  obtain ⟨xv, hxv⟩ : ∃ xv, x.val = xv := ⟨_, rfl⟩
  rw [hxv] at HC ⊢
  clear hxv
  unfold P16.val at HC
  have B0 := Lib.hid (Below.refl w.heap.size w)
  go_enter Try.func94, Try.ntmps94
  go_wp2_with fail
  go_loopw [8] (fun i wr => ∃ k : Nat, i = .int .i64 (k : Nat) ∧ k ≤ qs.length ∧ (∀ j (hj : j < qs.length), j < k → clash16 x (qs[j]'hj) = false) ∧ Below w.heap.size w wr) (fun i _ => qs.length - (intOf i).toNat)
  case atStart => exact ⟨0, rfl, Nat.zero_le _, fun j hj h => absurd h (Nat.not_lt_zero _), Below.refl _ _⟩
  case round =>
    obtain ⟨k, rfl, hk, hno, hb⟩ := hrel
    have HNO := Lib.hid hno
    have BK := Lib.hid hb
    have H1 := H0.out.below hb
    clear hno hb
    by_cases hlt : k < qs.length
    · have t1 : decide ((k : Int) < (qs.length : Int)) = true := decide_eq_true (by omega)
      have hk0 : (0 : Int) ≤ (k : Int) := by omega
      have hk1 : (k : Int) < (qs.length : Int) := by omega
      rcases H1 with ⟨hq, _⟩ | ⟨g, o, cap, rr, hg, hc⟩
      · rw [hq] at hlt; cases hlt
      obtain ⟨rfl, rfl⟩ : a = some ⟨g, o, none⟩ ∧ c = cap := by simpa using rr
      have ⟨d0, d1, d2⟩ := hc k hlt
      have HK := Lib.hid hlt
      have HCK := Lib.hid (fun W => HC.out (qs[k]'hlt) W (HSM.out _ (List.getElem_mem hlt)))
      have hnext : ∀ (p : clash16 x (qs[k]'hlt) = false), ∀ j (hj : j < qs.length), j < k + 1 → clash16 x (qs[j]'hj) = false := by
        intro p j hj hjk
        by_cases e : j = k
        · subst e; exact p
        · exact HNO.out j hj (by omega)
      have hyes := fun p : clash16 x (qs[k]'hlt) = true => some16 (p := clash16 x) hlt p
      have HNX := Lib.hid hnext
      have HYS := Lib.hid hyes
      clear rr hc hnext hyes HC
      generalize qs[k]'hlt = y at *
      obtain ⟨yl, ys, yf⟩ := y
      dsimp only at d0 d1 d2 HCK
      have ew : IntKind.i64.wrap ((k : Int) + 1) = ((k + 1 : Nat) : Int) := by rw [IntWalk.i64_in _ (by omega)]; omega
      have hkk := HK.out
      obtain ⟨b, hb⟩ : ∃ b, clash16 x ⟨yl, ys, yf⟩ = b := ⟨_, rfl⟩
      rw [hb] at HCK
      have HBV := Lib.hid hb
      clear hb
      go_wp2_with fail
      refine (HCK.out _).mono ?_
      rintro e w1 ⟨rfl, hb1⟩
      have BK1 := Lib.hid (BK.out.trans (hb1.mono BK.out.size))
      clear hb1 HCK d0 d1 d2
      cases b with
      | true =>
        have HANY := Lib.hid (HYS.out HBV.out)
        clear HYS HNX HBV
        go_wp2_with fail
        go_ret
        exact ⟨k, rfl, by rw [HANY.out]; simp, BK1.out⟩
      | false =>
        have hal := HBV.out
        clear HYS HBV
        go_wp2_with fail
        exact ⟨⟨k + 1, by first | rfl | rw [← ew]; rfl, by omega, HNX.out hal, BK1.out⟩, by simp [intOf]; omega⟩
    · have t1 : decide ((k : Int) < (qs.length : Int)) = false := decide_eq_false (by omega)
      have hn := none16 HNO.out (by omega)
      clear H1
      go_wp2_with fail
      go_ret
      exact ⟨-1, rfl, by rw [hn]; rfl, BK.out⟩

theorem containsfunc16_any (v : Value) (qs : List P16) (x : P16) (hl : qs.length ≤ 65515) (hx : x.Small) (hs : ∀ y ∈ qs, y.Small) (w : World) (h : Near16 w v qs) :
    Calls Try.prog 77 #[v, clashOf x] w (Tells (.bool (qs.any (clash16 x))) w) := by
  have HC := Lib.hid (indexfunc16_any v qs x hl hx hs w h)
  unfold Found16 at HC
  unfold Tells
  clear h hs hx
  generalize clashOf x = f at *
  generalize qs.any (clash16 x) = b at *
  go_enter Try.func77, Try.ntmps77
  go_wp2_with fail
  refine HC.out.mono ?_
  rintro e w1 ⟨r, rfl, hr, hb1⟩
  have HB1 := Lib.hid hb1
  have HR := Lib.hid hr
  clear hb1 HC hr
  go_wp2_with fail
  go_ret
  exact ⟨by rw [← HR.out]; first | rfl | simp, HB1.out⟩

theorem Good16.small {qs : List P16} (g : Good16 qs) : ∀ y ∈ qs, y.Small := fun y hy => by
  have := g.top y hy
  unfold P16.hi at this
  exact ⟨by omega, by omega⟩

set_option maxRecDepth 100000 in
set_option maxHeartbeats 1000000 in
theorem fits16_any (e : E16) (eb : Nat) (v : Value) (x : P16) (w : World) (h : En16 w e eb v) (hg : Good16 e.qs) (hx : x.Small) :
    Calls Try.prog 54 #[.pointer (some ⟨eb, 0, none⟩), x.val] w (Tells (.bool (!(near16 e.qs x.lo).any (clash16 x))) w) := by
  have hfew := hg.few
  have hlen : (near16 e.qs x.lo).length ≤ 65515 := by
    have : (near16 e.qs x.lo).length = min (place16 e.qs x.lo + 1) e.qs.length - (place16 e.qs x.lo - 1) := by simp [near16]
    omega
  have hsm : ∀ y ∈ near16 e.qs x.lo, y.Small := fun y hy => hg.small y (near16_sub hy)
  have N0 := Lib.hid (Blk.new w #[.int .i64 (x.lo : Nat), .string x.s, .bool x.last] 79)
  have hb : Below w.heap.size w (w.alloc (.cells #[.int .i64 (x.lo : Nat), .string x.s, .bool x.last] 79)) := (Below.refl _ w).alloc (Nat.le_refl _) _
  have HE := Lib.hid (h.below hb)
  have HB := Lib.hid hb
  have HC := Lib.hid (fun W (hW : En16 W e eb v) => near16_any e eb v x W hW hg)
  have HD := Lib.hid (fun u W (hW : Near16 W u (near16 e.qs x.lo)) => containsfunc16_any u (near16 e.qs x.lo) x hlen hx hsm W hW)
  have hmf : ∀ (fn : Fn) (first cap : Array Value) (w : World), (Instr.makeFunc fn first cap).run Try.prog w = .ok (.func fn first cap) w := fun _ _ _ _ => rfl
  unfold Tells at HD ⊢
  unfold clashOf at HD
  unfold P16.val at HC HD ⊢
  clear hb h hlen hfew hsm hx hg
  generalize (near16 e.qs x.lo).any (clash16 x) = b at *
  generalize near16 e.qs x.lo = L at *
  have S0 := Lib.hid (show Hs16 w (w.alloc (.cells #[.int .i64 (x.lo : Nat), .string x.s, .bool x.last] 79)).drew x from ⟨N0.out.drew, HB.out.drew⟩)
  have HED : Hid (En16 (w.alloc (.cells #[.int .i64 (x.lo : Nat), .string x.s, .bool x.last] 79)).drew e eb v) := HE.out.kb (S := fun _ => False) (Kb.refl _ _).drew id (fun _ _ => id)
  clear N0 HE HB
  obtain ⟨xl, xs, xf⟩ := x
  dsimp only at *
  go_enter Try.func54, Try.ntmps54
  go_upto_region 1 with (fail)
  refine wp_region_held_drew (S := fun W => W.cell? ⟨w.heap.size, 0, none⟩ = some (.int .i64 (xl : Nat)) ∧ W.cell? ⟨w.heap.size, 1, none⟩ = some (.string xs) ∧ W.cell? ⟨w.heap.size, 2, none⟩ = some (.bool xf) ∧ Hid (Hs16 w W ⟨xl, xs, xf⟩)) (by kernel_rfl) ?_ (fun hHeld => ?_)
  · exact ⟨S0.out.b.cell 0, S0.out.b.cell 1, S0.out.b.cell 2, S0⟩
  generalize (w.alloc (.cells #[.int .i64 (xl : Nat), .string xs, .bool xf] 79)).drew = w2 at *
  refine takeH_yes (i := 0) (d := some 5) (v := ?v1) rfl rfl (by kernel_rfl) (by kernel_rfl) (by kernel_rfl) (fun _ _ _ h => h) (by rfl) ?y1 (by assumption) ?_
  case y1 => (intro w hSw; (try dsimp only at hSw); go_simp <;> with_reducible rfl)
  simp only [Act.put, List.setIfInBounds_toArray, List.set_cons_zero, List.set_cons_succ]
  refine takeH_yes (i := 1) (d := some 6) (v := ?v2) rfl rfl (by kernel_rfl) (by kernel_rfl) (by kernel_rfl) (fun _ _ _ h => h) (by rfl) ?y2 (by assumption) ?_
  case y2 => (intro w hSw; (try dsimp only at hSw); go_simp <;> with_reducible rfl)
  simp only [Act.put, List.setIfInBounds_toArray, List.set_cons_zero, List.set_cons_succ]
  refine takeH_yes (i := 3) (d := some 8) (v := ?v3) rfl rfl (by kernel_rfl) (by kernel_rfl) (by kernel_rfl) (fun _ _ _ h => h) (by rfl) ?y3 (by assumption) ?_
  case y3 => (intro w hSw; (try dsimp only at hSw); go_simp <;> with_reducible rfl)
  simp only [Act.put, List.setIfInBounds_toArray, List.set_cons_zero, List.set_cons_succ]
  refine takeH_yes (i := 4) (d := some 9) (v := ?v4) rfl rfl (by kernel_rfl) (by kernel_rfl) (by kernel_rfl) (fun _ _ _ h => h) (by rfl) ?y4 (by assumption) ?_
  case y4 => (intro w hSw; (try dsimp only at hSw); go_simp <;> with_reducible rfl)
  simp only [Act.put, List.setIfInBounds_toArray, List.set_cons_zero, List.set_cons_succ]
  refine wpAnyH_ready (rs := [2]) (by kernel_rfl) (by simp) ?_
  refine AllReadyH.cons rfl (fun K hK => ?_) AllReadyH.nil
  go_simp
  refine (HC.out _ HED.out).mono ?_
  rintro e w' ⟨u, rfl, hb, hn⟩
  refine hK.out _ _ ?_ (fun held2 => ?_)
  · exact keepH16 hb (by assumption)
  clear hK K
  try simp only [Act.put, List.setIfInBounds_toArray, List.set_cons_zero, List.set_cons_succ]
  refine wpAnyH_ready (rs := [5]) (by kernel_rfl) (by simp) ?_
  refine AllReadyH.cons rfl (fun K hK => ?_) AllReadyH.nil
  go_simp
  refine (HD.out _ _ hn).mono ?_
  rintro e w' ⟨rfl, hb⟩
  refine hK.out _ _ ?_ (fun held5 => ?_)
  · exact keepH16 hb (by assumption)
  clear hK K
  try simp only [Act.put, List.setIfInBounds_toArray, List.set_cons_zero, List.set_cons_succ]
  refine takeH_yes (i := 6) (d := some 11) (v := ?v5) rfl rfl (by kernel_rfl) (by kernel_rfl) (by kernel_rfl) (fun _ _ _ h => h) (by rfl) ?y5 (by assumption) ?_
  case y5 => (intro w hSw; (try dsimp only at hSw); go_simp <;> with_reducible rfl)
  simp only [Act.put, List.setIfInBounds_toArray, List.set_cons_zero, List.set_cons_succ]
  refine takeH_yes (i := 7) (d := some 4) (v := ?v6) rfl rfl (by kernel_rfl) (by kernel_rfl) (by kernel_rfl) (fun _ _ _ h => h) (by rfl) ?y6 (by assumption) ?_
  case y6 => (intro w hSw; (try dsimp only at hSw); go_simp <;> with_reducible rfl)
  simp only [Act.put, List.setIfInBounds_toArray, List.set_cons_zero, List.set_cons_succ]
  refine wpAnyH_done (by kernel_rfl) ?_ _
  have S2 := held5.2.2.2.out
  clear held5
  go_wp2_with fail
  go_ret
  exact ⟨rfl, S2.bel⟩

end Go.Proofs.Ytoijomdgcgbpbaa
