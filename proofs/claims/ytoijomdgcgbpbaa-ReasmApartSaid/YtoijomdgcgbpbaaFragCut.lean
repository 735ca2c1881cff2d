/-
  Cut: a packet's pieces, at every text and every number.
-/
import Derived.Test.YtoijomdgcgbpbaaFragPut
import Derived.Test.YtoijomdgcgbpbaaFragPart
namespace Go.Proofs.Ytoijomdgcgbpbaa
open Go.RowKit Go.Shelf
set_option linter.unusedVariables false

/-- What Cut answers. -/
def CutEnd (p : ByteArray) (m : Int) (w : World) (e : Ending) (w' : World) : Prop :=
  Below w.heap.size w w' ∧ ∃ v, e = .returned (.tuple #[v, .int .i64 (cutE p m : Nat)]) ∧ TextsAt w' v (cutL p m)

theorem bounded15 {M : Nat} : ∀ (l : List (H4 × ByteArray)), (∀ x ∈ l, x.2.size ≤ M) → ∃ xs : List (It15 M), xs.map (·.1) = l
  | [], _ => ⟨[], rfl⟩
  | x :: l, h => by
    obtain ⟨xs, e⟩ := bounded15 l (fun y hy => h y (List.mem_cons_of_mem _ hy))
    exact ⟨⟨x, h x (List.mem_cons_self ..)⟩ :: xs, by simp [e]⟩
theorem items15_bounded (h : H4) (pay : ByteArray) (n : Nat) : ∀ x ∈ items15 h pay n, x.2.size ≤ pay.size := by
  intro x hx
  unfold items15 upto15 at hx
  simp only [List.mem_append, List.mem_map, List.mem_range, List.mem_singleton] at hx
  rcases hx with ⟨i, _, rfl⟩ | rfl
  · show (pay.extract _ _).size ≤ _
    rw [ByteArray.size_extract]; omega
  · show (pay.extract _ _).size ≤ _
    rw [ByteArray.size_extract]; omega

theorem puts15 (hb pb sb : Nat) (h : H4) (pay : ByteArray) (n : Nat) (hn : 0 < n) (hn2 : n ≤ 65535) (hp : pay.size ≤ 1000000) (ho : 0 ≤ h.off ∧ h.off ≤ 8191) (w : World) (hc : Cap15 w w.heap.size hb pb sb h pay n) :
    Calls Try.prog 44 #[.func (.func 66) #[] #[.pointer (some ⟨hb, 0, none⟩), .pointer (some ⟨pb, 0, none⟩), .pointer (some ⟨sb, 0, none⟩)]] w (PutsEnd (items15 h pay n) w) := by
  obtain ⟨xs, hx⟩ := bounded15 (M := pay.size) (items15 h pay n) (items15_bounded h pay n)
  exact callsIn_wide.1 (put15_in (M := pay.size) (by omega) hb pb sb h pay n xs hx hn hn2 hp ho w hc)

/-- pieces: its three arguments, each in a block, and the iterator. -/
def PiecesEnd (h : H4) (pay : ByteArray) (n : Nat) (w : World) (e : Ending) (w' : World) : Prop :=
  Below w.heap.size w w' ∧ e = .returned (.func (.func 66) #[] #[.pointer (some ⟨w.heap.size, 0, none⟩), .pointer (some ⟨w.heap.size + 1, 0, none⟩), .pointer (some ⟨w.heap.size + 2, 0, none⟩)]) ∧ Cap15 w' w'.heap.size w.heap.size (w.heap.size + 1) (w.heap.size + 2) h pay n
theorem pieces_any (h : H4) (pay : ByteArray) (n : Nat) (w : World) : Calls Try.prog 45 #[.agg h.cells, .string pay, .int .i64 (n : Int)] w (PiecesEnd h pay n w) := by
  have hmf : ∀ (fn : Fn) (first cap : Array Value) (w : World), (Instr.makeFunc fn first cap).run Try.prog w = .ok (.func fn first cap) w := fun _ _ _ _ => rfl
  have e1 := Blk.new w h.cells 43
  have e2 := Blk.new (w.alloc (.cells h.cells 43)) #[.string pay] 9
  have e3 := Blk.new ((w.alloc (.cells h.cells 43)).alloc (.cells #[.string pay] 9)) #[.int .i64 (n : Int)] 3
  simp only [World.size_alloc] at e2 e3
  have hb : Below w.heap.size w (((w.alloc (.cells h.cells 43)).alloc (.cells #[.string pay] 9)).alloc (.cells #[.int .i64 (n : Int)] 3)) :=
    (((Below.refl _ w).alloc (Nat.le_refl _) _).alloc (by simp) _).alloc (by simp; omega) _
  have HC := Lib.hid (show Cap15 (((w.alloc (.cells h.cells 43)).alloc (.cells #[.string pay] 9)).alloc (.cells #[.int .i64 (n : Int)] 3)) (w.heap.size + 3) w.heap.size (w.heap.size + 1) (w.heap.size + 2) h pay n from
    ⟨(e1.alloc _).alloc _, e2.alloc _, e3, by omega, by omega, by omega⟩)
  have HB := Lib.hid hb
  unfold H4.cells at HC HB ⊢
  clear e1 e2 e3 hb
  go_enter Try.func45, Try.ntmps45
  go_wp2_with fail
  go_ret
  refine ⟨HB.out, rfl, ?_⟩
  have hs : ((((w.alloc (.cells h.cells 43)).alloc (.cells #[.string pay] 9)).alloc (.cells #[.int .i64 (n : Int)] 3))).heap.size = w.heap.size + 3 := by simp
  unfold H4.cells at hs
  rw [hs]
  exact HC.out

/-- Cut's header, in its block. -/
structure Lc15 (w W : World) (h : H4) : Prop where
  b : Blk W w.heap.size h.cells 43
  bel : Below w.heap.size w W
  lt : w.heap.size < W.heap.size

theorem one15 (W : World) (o : Obj) (s : ByteArray) (T : TypeId) : ((W.alloc o).alloc (.cells #[.string s] T)).cell? ⟨W.heap.size + 1, 0, none⟩ = some (.string s) := by
  have h := (Blk.new (W.alloc o) #[.string s] T).cell 0
  simp only [World.size_alloc] at h
  exact h

set_option maxHeartbeats 1000000 in
theorem cut_any (p : ByteArray) (m : Int) (w : World) (hs : p.size ≤ 1000000) :
    Calls Try.prog 23 #[.string p, .int .i64 m] w (CutEnd p m w) := by
  have HG := Lib.hid (fun W => get_any p W hs)
  unfold GetEnd at HG
  have HS : Hid (p.size ≤ 1000000) := hs
  clear hs
  by_cases hE : getE p = 0
  case neg =>
    have hc := cutE_get (m := m) hE
    have t1 : ((getE p : Int) != 0) = true := by simp; omega
    have hl := cutL_err (p := p) (m := m) (by rw [hc]; exact hE)
    unfold CutEnd
    rw [hc, hl]
    clear hc hl
    generalize getE p = E at *
    generalize getH p = H at *
    generalize getS p = S at *
    unfold H4.cells at HG
    go_enter Try.func23, Try.ntmps23
    go_wp2_with fail
    refine (HG.out _).mono ?_
    rintro e w1 ⟨rfl, hb1⟩
    have HB := Lib.hid hb1
    clear hb1 HG
    go_wp2_with fail
    refine ⟨rfl, .tuple #[.slice none 0 0, .int .i64 (E : Nat)], by simp [results, Try.results23, go_sem], HB.out.alloc (by have := HB.out.size; omega) _, _, rfl, Or.inl ⟨rfl, rfl⟩⟩
  case pos =>
    have hr := right15 hE
    have t0 : ((getE p : Int) != 0) = false := by rw [hE]; rfl
    have hcE := @cutE_mtu p m hE
    have hcW := @cutE_whole p m hE
    have hcD := @cutE_df p m hE
    have hcN := @cutE_none p m hE
    have hcP := @cutE_put p m hE
    have hall : all15 p m = items15 (getH p) (getS p) (n15 p m) := rfl
    have hlE := @cutL_err p m
    have hlW := @cutL_whole p m
    have hlP := @cutL_put p m
    have hmany := @many15 p m hE
    have hrest : ((p.size : Int) - ((getS p).size : Int)) = (hsz p : Int) := by rw [hr.pay]; have := hr.hz; omega
    have hpt : pt15 (hsz p) m = (n15 p m : Nat) := pt15_nat _ _
    have hz := hr.hz
    have hgh : (getH p).Ok := by rw [hr.gh]; exact hr.ok
    have HR := Lib.hid hrest
    have HS2 : Hid ((getS p).size ≤ 1000000) := by have := hr.pay; have := HS.out; show _ ≤ _; omega
    clear hr hrest
    generalize hEq : getE p = E at *
    subst hE
    generalize getH p = H at *
    generalize getS p = S at *
    have HO := Lib.hid hgh.off
    clear hgh
    unfold H4.cells at HG
    unfold CutEnd
    go_enter Try.func23, Try.ntmps23
    go_wp2_with fail
    refine (HG.out _).mono ?_
    rintro e w1 ⟨rfl, hb1⟩
    have HB := Lib.hid (hb1.alloc hb1.size (.cells H.cells 43))
    have HK := Lib.hid (Blk.new w1 H.cells 43)
    unfold H4.cells at HB HK
    clear hb1 HG
    generalize hd : H.df = d at *
    have HD := Lib.hid hd
    clear hd
    by_cases h1 : m < 28 ∨ 65535 < m
    · have hce := hcE h1
      have hcl := hlE (by rw [hce]; decide)
      clear hcE hcW hcD hcN hcP hlE hlW hlP hmany
      have hx : decide (m < 28) = true ∨ (decide (m < 28) = false ∧ decide (m > 65535) = true) := by simp only [decide_eq_true_eq, decide_eq_false_iff_not]; omega
      rcases hx with t1 | ⟨t1, t2⟩
      · go_wp2_with fail
        refine ⟨rfl, .tuple #[.slice none 0 0, .int .i64 (cutE p m : Nat)], by rw [hce]; simp [results, Try.results23, go_sem], HB.out, _, rfl, Or.inl ⟨hcl, rfl⟩⟩
      · go_wp2_with fail
        refine ⟨rfl, .tuple #[.slice none 0 0, .int .i64 (cutE p m : Nat)], by rw [hce]; simp [results, Try.results23, go_sem], HB.out, _, rfl, Or.inl ⟨hcl, rfl⟩⟩
    · have t1 : decide (m < 28) = false := by simp only [decide_eq_false_iff_not]; omega
      have t2 : decide (m > 65535) = false := by simp only [decide_eq_false_iff_not]; omega
      by_cases h2 : (p.size : Int) ≤ m
      · have t3 : decide ((p.size : Int) ≤ m) = true := by simp only [decide_eq_true_eq]; exact h2
        have hce := hcW h1 h2
        have hcl := hlW hce h2
        clear hcE hcW hcD hcN hcP hlE hlW hlP hmany
        go_wp2_with fail
        refine ⟨rfl, .tuple #[.slice (some ⟨w1.heap.size + 1, 0, none⟩) 1 1, .int .i64 (cutE p m : Nat)], by rw [hce]; simp [results, Try.results23, go_sem], HB.out.alloc HB.out.size _, _, rfl, ?_⟩
        rw [hcl]
        refine Or.inr ⟨_, _, rfl, by simp, ?_, by simp⟩
        intro i hi
        have : i = 0 := by simpa using hi
        subst this
        exact one15 _ _ _ _
      · have t3 : decide ((p.size : Int) ≤ m) = false := by simp only [decide_eq_false_iff_not]; exact h2
        have ⟨c0, c1, c2, c3, c4, c5, c6, c7, c8, c9⟩ := Hc.of (h := ⟨H.tos, H.id, H.off, H.ttl, H.proto, d, H.mf, H.src, H.dst, H.opt⟩) HK.out
        dsimp only at c0 c1 c2 c3 c4 c5 c6 c7 c8 c9
        cases d with
        | true =>
          have hce := hcD h1 (by omega) rfl
          have hcl := hlE (by rw [hce]; decide)
          clear hcE hcW hcD hcN hcP hlE hlW hlP hmany
          go_wp2_with fail
          refine ⟨rfl, .tuple #[.slice none 0 0, .int .i64 (cutE p m : Nat)], by rw [hce]; simp [results, Try.results23, go_sem], HB.out, _, rfl, Or.inl ⟨hcl, rfl⟩⟩
        | false =>
          have hrest := HR.out
          have e1 : IntKind.i64.wrap ((hsz p : Nat) : Int) = (hsz p : Nat) := IntWalk.i64_in _ (by omega)
          have HP := Lib.hid (fun W => part_any (hsz p) m W (by omega) (by omega))
          rw [hpt] at HP
          by_cases h4 : n15 p m = 0
          · have t4 : ((n15 p m : Nat) : Int) = 0 := by omega
            have hce := hcN h1 (by omega) rfl h4
            have hcl := hlE (by rw [hce]; decide)
            rw [t4] at HP
            clear hcE hcW hcD hcN hcP hlE hlW hlP hmany
            go_wp2_with fail
            refine (HP.out _).mono ?_
            rintro e w2 ⟨rfl, hb2⟩
            have HB2 := Lib.hid (HB.out.trans (hb2.mono HB.out.size))
            clear HB hb2 HP
            go_wp2_with fail
            refine ⟨rfl, .tuple #[.slice none 0 0, .int .i64 (cutE p m : Nat)], by rw [hce]; simp [results, Try.results23, go_sem], HB2.out, _, rfl, Or.inl ⟨hcl, rfl⟩⟩
          · have hm := hmany h1 (by omega) rfl h4
            have t4 : (((n15 p m : Nat) : Int) == 0) = false := by simp; exact h4
            have hcp := hcP h1 (by omega) rfl h4
            have hlp := hlP
            have hle := hlE
            have HN := Lib.hid (show 0 < n15 p m ∧ n15 p m ≤ 65535 from ⟨by omega, by have := hm.most; omega⟩)
            clear hcE hcW hcD hcN hcP hlE hlW hlP hmany hm
            go_wp2_with fail
            refine (HP.out _).mono ?_
            rintro e w2 ⟨rfl, hb2⟩
            have HB2 := Lib.hid (HB.out.trans (hb2.mono HB.out.size))
            have HK2 := (hb2.block _ HK.out.lt).trans HK.out
            have ⟨d0, d1, d2, d3, d4, d5, d6, d7, d8, d9⟩ := Hc.of (h := ⟨H.tos, H.id, H.off, H.ttl, H.proto, false, H.mf, H.src, H.dst, H.opt⟩) HK2
            clear c0 c1 c2 c3 c4 c5 c6 c7 c8 c9 HB hb2 HP HK
            have HQ := fun W => pieces_any H S (n15 p m) W
            unfold H4.cells at HQ
            simp only [HD.out] at HQ
            have HQ := Lib.hid HQ
            have HA := Lib.hid hall
            have HCP := Lib.hid hcp
            have HLP := Lib.hid hlp
            have HLE := Lib.hid hle
            clear hall hcp hlp hle
            generalize n15 p m = n at *
            go_wp2_with fail
            refine (HQ.out _).mono ?_
            rintro e w3 ⟨hb3, rfl, hc3⟩
            have HB3 := Lib.hid (HB2.out.trans (hb3.mono HB2.out.size))
            clear d0 d1 d2 d3 d4 d5 d6 d7 d8 d9 HQ hb3 HK2
            have HC3 := Lib.hid (puts15 _ _ _ H S n HN.out.1 HN.out.2 HS2.out HO.out w3 hc3)
            clear hc3
            go_wp2_with fail
            refine HC3.out.mono ?_
            rintro e w4 ⟨hb4, ⟨ha, v, rfl, ht⟩ | ⟨ha, rfl⟩⟩
            · rw [← HA.out] at ha ht
              have hce := HCP.out
              rw [if_pos ha] at hce
              have hcl := HLP.out hce (by omega)
              have HB4 := Lib.hid (HB3.out.trans (hb4.mono HB3.out.size))
              have HT := Lib.hid ht
              clear HC3 hb4 ha HB3 HCP HLP HLE ht
              go_wp2_with fail
              refine ⟨rfl, .tuple #[v, .int .i64 (cutE p m : Nat)], by rw [hce]; simp [results, Try.results23, go_sem], HB4.out, v, rfl, ?_⟩
              rw [hcl]
              exact HT.out
            · rw [← HA.out] at ha
              have hce := HCP.out
              rw [if_neg (by rw [ha]; decide)] at hce
              have hcl := HLE.out (by rw [hce]; decide)
              have HB4 := Lib.hid (HB3.out.trans (hb4.mono HB3.out.size))
              clear HC3 hb4 ha HB3 HCP HLP HLE
              go_wp2_with fail
              refine ⟨rfl, .tuple #[.slice none 0 0, .int .i64 (cutE p m : Nat)], by rw [hce]; simp [results, Try.results23, go_sem], HB4.out, _, rfl, Or.inl ⟨hcl, rfl⟩⟩

end Go.Proofs.Ytoijomdgcgbpbaa
