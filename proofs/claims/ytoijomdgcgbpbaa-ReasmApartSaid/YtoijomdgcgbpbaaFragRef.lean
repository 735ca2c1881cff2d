/-
  The document's Cut and Texts.
-/
import Derived.Test.YtoijomdgcgbpbaaFragCut
import Derived.Test.YtoijomdgcgbpbaaIp4RefGet
import Derived.Test.YtoijomdgcgbpbaaIp4B
import Derived.OwnWalk
namespace Go.Proofs.Ytoijomdgcgbpbaa
open Go.RowKit Go.Shelf
set_option linter.unusedVariables false

/-- The loop's blocks: the header as it was got, the one that is turned, and the slice. -/
structure Rc15 (w : World) (B X : Nat) (W : World) (h x : H4) (v : Value) (l : List ByteArray) : Prop where
  hb : Blk W B h.cells 43
  xb : Blk W X x.cells 43
  row : W.ownsRow (X + 1) 9 1 v l.length (strs15 l)
  bel : Below w.heap.size w W
  old : w.heap.size ≤ B
  lt : B < X
theorem Rc15.below {w W W' : World} {B X : Nat} {h x : H4} {v : Value} {l : List ByteArray} (r : Rc15 w B X W h x v l) (b : Below W.heap.size W W') : Rc15 w B X W' h x v l :=
  ⟨(b.block _ r.hb.lt).trans r.hb, (b.block _ r.xb.lt).trans r.xb,
    row15_kb (S := fun k => W.heap.size ≤ k) r.row (fun g e => by have := (r.row.lt g e).2; omega) ⟨b.os, b.tape, b.output, b.size, fun i hi _ => b.block i (by omega)⟩, r.bel.trans (b.mono r.bel.size), r.old, r.lt⟩
theorem Rc15.drew {w W : World} {B X : Nat} {h x : H4} {v : Value} {l : List ByteArray} (r : Rc15 w B X W h x v l) : Rc15 w B X W.drew h x v l :=
  r.below ⟨rfl, rfl, rfl, Nat.le_refl _, fun _ _ => rfl⟩
theorem Rc15.set {w W : World} {B X : Nat} {h x x' : H4} {v : Value} {l : List ByteArray} (r : Rc15 w B X W h x v l) (k : Nat) (u : Value) (e : x.cells.setIfInBounds k u = x'.cells) : Rc15 w B X (W.setCell ⟨X, k, none⟩ u) h x' v l :=
  ⟨r.hb.set_other (by have := r.lt; simp; omega) _, by rw [← e]; exact r.xb.set k u,
    row15_kb (S := fun j => j = X) r.row (fun g e => by have := (r.row.lt g e).1; omega) (Kb.setCell (S := fun j => j = X) (Kb.refl _ W) (p := ⟨X, k, none⟩) (fun _ => rfl) _), r.bel.setCell (by have := r.old; have := r.lt; simp; omega) _, r.old, r.lt⟩
theorem Rc15.appended {w W W' : World} {B X : Nat} {h x : H4} {v v' : Value} {l : List ByteArray} (r : Rc15 w B X W h x v l) {s : ByteArray} (hrow : W'.ownsRow (X + 1) 9 1 v' (l.length + 1) (strs15 l ++ [.string s]))
    (hg : (W.alloc (.cells #[.string s] 9)).grownBy W' v.ownBlock) : Rc15 w B X W' h x v' (l ++ [s]) := by
  have hlt := r.row.lt
  have hl := r.lt
  refine ⟨?_, ?_, ?_, ?_, r.old, r.lt⟩
  · exact (hg.block _ (by have := r.hb.lt; simp; omega) (fun e => by have := (hlt B e.symm).1; omega)).trans (r.hb.alloc _)
  · exact (hg.block _ (by have := r.xb.lt; simp; omega) (fun e => by have := (hlt X e.symm).1; omega)).trans (r.xb.alloc _)
  · rw [strs15_snoc, List.length_append]; exact hrow
  · have hz := r.xb.lt
    have ho := r.old
    exact (r.bel.alloc (by omega) _).grown hg (by simp; omega) (fun g e => by have := (hlt g e).1; omega)
theorem Rc15.texts {w W : World} {B X : Nat} {h x : H4} {v : Value} {l : List ByteArray} (r : Rc15 w B X W h x v l) : TextsAt W v l := TextsAt.of_row r.row

set_option maxRecDepth 100000 in
set_option maxHeartbeats 1000000 in
theorem refcut_any (p : ByteArray) (m : Int) (w : World) (hs : p.size ≤ 1000000) :
    Calls Try.prog 27 #[.string p, .int .i64 m] w (CutEnd p m w) := by
  have HG := Lib.hid (fun W => refget_any p W hs)
  unfold RefGot at HG
  have HS : Hid (p.size ≤ 1000000) := hs
  clear hs
  by_cases hE : getE p = 0
  case neg =>
    have hc := cutE_get (m := m) hE
    have t1 : ((getE p : Int) != 0) = true := by simp; omega
    have hl := cutL_err (p := p) (m := m) (by rw [hc]; exact hE)
    unfold CutEnd
    rw [hc, hl]
    clear hc hl
    generalize getE p = E at *
    generalize getH p = H at *
    generalize getS p = S at *
    unfold H4.cells at HG
    go_enter Try.func27, Try.ntmps27
    go_wp2_with fail
    refine (HG.out _).mono ?_
    rintro e w1 ⟨rfl, hb1⟩
    have HB := Lib.hid hb1
    clear hb1 HG
    go_wp2_with fail
    refine ⟨rfl, .tuple #[.slice none 0 0, .int .i64 (E : Nat)], by simp [results, Try.results27, go_sem], HB.out.alloc (by have := HB.out.size; omega) _, _, rfl, Or.inl ⟨rfl, rfl⟩⟩
  case pos =>
    have hr := right15 hE
    have t0 : ((getE p : Int) != 0) = false := by rw [hE]; rfl
    have hcE := @cutE_mtu p m hE
    have hcW := @cutE_whole p m hE
    have hcD := @cutE_df p m hE
    have hcN := @cutE_none p m hE
    have hcP := @cutE_put p m hE
    have hall : all15 p m = items15 (getH p) (getS p) (n15 p m) := rfl
    have hlE := @cutL_err p m
    have hlW := @cutL_whole p m
    have hlP := @cutL_put p m
    have hmany := @many15 p m hE
    have hrest : ((p.size : Int) - ((getS p).size : Int)) = (hsz p : Int) := by rw [hr.pay]; have := hr.hz; omega
    have hpt : pt15 (hsz p) m = (n15 p m : Nat) := pt15_nat _ _
    have hz := hr.hz
    have hos : 20 + ((getH p).opt.size : Int) = (hsz p : Nat) := by
      have h1 := hr.size
      rw [← hr.gh] at h1
      unfold H4.size at h1
      omega
    have hlep := hr.le
    have hpay := hr.pay
    have hgh : (getH p).Ok := by rw [hr.gh]; exact hr.ok
    have HR := Lib.hid hrest
    have HS2 : Hid ((getS p).size ≤ 1000000) := by have := hr.pay; have := HS.out; show _ ≤ _; omega
    clear hr hrest
    generalize hEq : getE p = E at *
    subst hE
    generalize hHp : getH p = H at *
    have HHP := Lib.hid hHp
    clear hHp
    generalize getS p = S at *
    have HO := Lib.hid hgh.off
    clear hgh
    unfold H4.cells at HG
    unfold CutEnd
    go_enter Try.func27, Try.ntmps27
    go_wp2_with fail
    refine (HG.out _).mono ?_
    rintro e w1 ⟨rfl, hb1⟩
    have HW := Lib.hid hb1.size
    have HB := Lib.hid (hb1.alloc hb1.size (.cells H.cells 43))
    have HK := Lib.hid (Blk.new w1 H.cells 43)
    unfold H4.cells at HB HK
    clear hb1 HG
    generalize hd : H.df = d at *
    have HD := Lib.hid hd
    clear hd
    by_cases h1 : m < 28 ∨ 65535 < m
    · have hce := hcE h1
      have hcl := hlE (by rw [hce]; decide)
      clear hcE hcW hcD hcN hcP hlE hlW hlP hmany
      have hx : decide (m < 28) = true ∨ (decide (m < 28) = false ∧ decide (m > 65535) = true) := by simp only [decide_eq_true_eq, decide_eq_false_iff_not]; omega
      rcases hx with t1 | ⟨t1, t2⟩
      · go_wp2_with fail
        refine ⟨rfl, .tuple #[.slice none 0 0, .int .i64 (cutE p m : Nat)], by rw [hce]; simp [results, Try.results27, go_sem], HB.out, _, rfl, Or.inl ⟨hcl, rfl⟩⟩
      · go_wp2_with fail
        refine ⟨rfl, .tuple #[.slice none 0 0, .int .i64 (cutE p m : Nat)], by rw [hce]; simp [results, Try.results27, go_sem], HB.out, _, rfl, Or.inl ⟨hcl, rfl⟩⟩
    · have t1 : decide (m < 28) = false := by simp only [decide_eq_false_iff_not]; omega
      have t2 : decide (m > 65535) = false := by simp only [decide_eq_false_iff_not]; omega
      by_cases h2 : (p.size : Int) ≤ m
      · have t3 : decide ((p.size : Int) ≤ m) = true := by simp only [decide_eq_true_eq]; exact h2
        have hce := hcW h1 h2
        have hcl := hlW hce h2
        clear hcE hcW hcD hcN hcP hlE hlW hlP hmany
        go_wp2_with fail
        refine ⟨rfl, .tuple #[.slice (some ⟨w1.heap.size + 1, 0, none⟩) 1 1, .int .i64 (cutE p m : Nat)], by rw [hce]; simp [results, Try.results27, go_sem], HB.out.alloc HB.out.size _, _, rfl, ?_⟩
        rw [hcl]
        refine Or.inr ⟨_, _, rfl, by simp, ?_, by simp⟩
        intro i hi
        have : i = 0 := by simpa using hi
        subst this
        exact one15 _ _ _ _
      · have t3 : decide ((p.size : Int) ≤ m) = false := by simp only [decide_eq_false_iff_not]; exact h2
        have ⟨c0, c1, c2, c3, c4, c5, c6, c7, c8, c9⟩ := Hc.of (h := ⟨H.tos, H.id, H.off, H.ttl, H.proto, d, H.mf, H.src, H.dst, H.opt⟩) HK.out
        dsimp only at c0 c1 c2 c3 c4 c5 c6 c7 c8 c9
        cases d with
        | true =>
          have hce := hcD h1 (by omega) rfl
          have hcl := hlE (by rw [hce]; decide)
          clear hcE hcW hcD hcN hcP hlE hlW hlP hmany
          go_wp2_with fail
          refine ⟨rfl, .tuple #[.slice none 0 0, .int .i64 (cutE p m : Nat)], by rw [hce]; simp [results, Try.results27, go_sem], HB.out, _, rfl, Or.inl ⟨hcl, rfl⟩⟩
        | false =>
          have hrest := HR.out
          have e1 : IntKind.i64.wrap ((hsz p : Nat) : Int) = (hsz p : Nat) := IntWalk.i64_in _ (by omega)
          have HP := Lib.hid (fun W => refpart_any (hsz p) m W (by omega) (by omega))
          rw [hpt] at HP
          by_cases h4 : n15 p m = 0
          · have t4 : ((n15 p m : Nat) : Int) = 0 := by omega
            have hce := hcN h1 (by omega) rfl h4
            have hcl := hlE (by rw [hce]; decide)
            rw [t4] at HP
            clear hcE hcW hcD hcN hcP hlE hlW hlP hmany
            go_wp2_with fail
            refine (HP.out _).mono ?_
            rintro e w2 ⟨rfl, hb2⟩
            have HB2 := Lib.hid (HB.out.trans (hb2.mono HB.out.size))
            clear HB hb2 HP
            go_wp2_with fail
            refine ⟨rfl, .tuple #[.slice none 0 0, .int .i64 (cutE p m : Nat)], by rw [hce]; simp [results, Try.results27, go_sem], HB2.out, _, rfl, Or.inl ⟨hcl, rfl⟩⟩
          · have hm := hmany h1 (by omega) rfl h4
            have hft := hm.fit
            rw [HHP.out] at hft
            have HFIT := Lib.hid hft
            have HALL := Lib.hid (hft.all S)
            clear hft HHP
            have t4 : (((n15 p m : Nat) : Int) == 0) = false := by simp; exact h4
            have hcp := hcP h1 (by omega) rfl h4
            have hlp := hlP
            have hle := hlE
            have HN := Lib.hid (show 0 < n15 p m ∧ n15 p m ≤ 65535 from ⟨by omega, by have := hm.most; omega⟩)
            clear hcE hcW hcD hcN hcP hlE hlW hlP hmany hm
            go_wp2_with fail
            refine (HP.out _).mono ?_
            rintro e w2 ⟨rfl, hb2⟩
            have HW1 : Hid (w.heap.size ≤ w1.heap.size) := HW.out
            have HB2 := Lib.hid (HB.out.trans (hb2.mono HB.out.size))
            have HK2 := (hb2.block _ HK.out.lt).trans HK.out
            have ⟨d0, d1, d2, d3, d4, d5, d6, d7, d8, d9⟩ := Hc.of (h := ⟨H.tos, H.id, H.off, H.ttl, H.proto, false, H.mf, H.src, H.dst, H.opt⟩) HK2
            clear c0 c1 c2 c3 c4 c5 c6 c7 c8 c9 HB hb2 HP HK
            have HPUT := Lib.hid (fun (x : H4) (s : ByteArray) (hs : s.size ≤ 1000000) (W : World) => refput_any x s W (by omega))
            have HSZ : Hid (S.size ≤ 65535) := by have := HR.out; show _ ≤ _; omega
            rw [hall] at hcp hlp
            have HCP := Lib.hid hcp
            have HLP := Lib.hid hlp
            have HLE := Lib.hid hle
            have HM := Lib.hid h2
            have HK3 := Lib.hid HK2
            clear hall hcp hlp hle hlep hpay hos hrest HK2
            generalize n15 p m = n at *
            obtain ⟨a0, a1, a2, a3, a4, a5, a6, a7, a8, a9⟩ := H
            have h5 : a5 = false := HD.out
            subst h5
            dsimp only at d0 d1 d2 d3 d4 d5 d6 d7 d8 d9 HB2 HK3
            go_wp2_with fail
            obtain ⟨i0, hi0, hz0, hz1, hz2⟩ := info_parts Try.infoS
            have R0 := Lib.hid (show Rc15 w w1.heap.size w2.heap.size (w2.alloc (.cells #[.int .i64 a0, .int .i64 a1, .int .i64 a2, .int .i64 a3, .int .i64 a4, .bool false, .bool a6, .string a7, .string a8, .string a9] 43)) ⟨a0, a1, a2, a3, a4, false, a6, a7, a8, a9⟩ ⟨a0, a1, a2, a3, a4, false, a6, a7, a8, a9⟩ (.slice none 0 0) [] from
              ⟨Blk.alloc (h := HK3.out) _, Blk.new w2 _ _, World.ownsRow_nil _ _ _ _, HB2.out.alloc HB2.out.size _, HW1.out, (show Blk w2 w1.heap.size _ 43 from HK3.out).lt⟩)
            generalize w2.alloc (.cells #[.int .i64 a0, .int .i64 a1, .int .i64 a2, .int .i64 a3, .int .i64 a4, .bool false, .bool a6, .string a7, .string a8, .string a9] 43) = w3 at *
            generalize w2.heap.size = X at *
            generalize w1.heap.size = B at *
            clear d0 d1 d2 d3 d4 d5 d6 d7 d8 d9 HK3 HB2
            obtain ⟨K, hK⟩ : ∃ K : H4, K = ⟨a0, a1, a2, a3, a4, false, a6, a7, a8, a9⟩ := ⟨_, rfl⟩
            rw [← hK] at R0
            go_loopw [10, 11] (fun v r wr => ∃ (i : Nat) (b : Bool), i ≤ fore15 S n ∧ r = .string (S.extract (i * n) S.size) ∧ K.off + ((i * (n / 8) : Nat) : Int) ≤ 8191 ∧ Rc15 w B X wr K (K.at15 (i * (n / 8)) b) v (texts15 (upto15 K S n i))) (fun _ r _ => len15 r)
            case atStart =>
              refine ⟨0, a6, Nat.zero_le _, by rw [Nat.zero_mul, ext15_all], by rw [Nat.zero_mul, hK]; have := HO.out.2; show a2 + _ ≤ _; omega, ?_⟩
              rw [Nat.zero_mul, show K.at15 0 a6 = K from by rw [hK]; simp [H4.at15]]
              exact R0.out
            case round =>
              obtain ⟨i, b, hi, rfl, ho, hR⟩ := hrel
              subst hK
              clear R0
              have hle := fore15_le HN.out.1 hi
              have hLs : (S.extract (i * n) S.size).size = S.size - i * n := by rw [ByteArray.size_extract]; omega
              have HL := Lib.hid hLs
              have HI := Lib.hid hi
              have HF : Hid (i < fore15 S n ↔ n < S.size - i * n) := fore15_lt HN.out.1
              have HR1 := Lib.hid hR
              have ⟨c0, c1, c2, c3, c4, c5, c6, c7, c8, c9⟩ := Hc.of hR.xb
              unfold H4.at15 at c0 c1 c2 c3 c4 c5 c6 c7 c8 c9
              dsimp only at c0 c1 c2 c3 c4 c5 c6 c7 c8 c9 ho
              have f6 := hR.xb.frozen 6
              have f2 := hR.xb.frozen 2
              have hlen : (texts15 (upto15 ⟨a0, a1, a2, a3, a4, false, a6, a7, a8, a9⟩ S n i)).length = i := by simp [texts15, upto15]
              have hO0 : 0 ≤ a2 + ((i * (n / 8) : Nat) : Int) := by have := HO.out.1; omega
              by_cases hlt : i < fore15 S n
              case neg =>
                have hik : i = fore15 S n := by omega
                have y6 := (Hc.of hR.hb).c6
                dsimp only at y6
                have t5 : decide (n < (S.extract (i * n) S.size).size) = false := by
                  rw [decide_eq_false_iff_not, hLs, ← HF.out]; exact hlt
                have hall0 : allput15 (items15 ⟨a0, a1, a2, a3, a4, false, a6, a7, a8, a9⟩ S n) = true := by
                  rw [HALL.out]
                  exact decide_eq_true (by rw [← hik]; exact ho)
                have hce : cutE p m = 0 := by have := HCP.out; rw [if_pos hall0] at this; exact this
                have hcl : cutL p m = texts15 (upto15 ⟨a0, a1, a2, a3, a4, false, a6, a7, a8, a9⟩ S n i) ++ [putS ((⟨a0, a1, a2, a3, a4, false, a6, a7, a8, a9⟩ : H4).at15 (i * (n / 8)) a6) (S.extract (i * n) S.size)] := by
                  rw [HLP.out hce (by have := HM.out; omega), hik]
                  unfold items15
                  rw [texts15_snoc]
                  rfl
                have HCL := Lib.hid hcl
                have HCE := Lib.hid hce
                clear hall0 hce hcl hik HALL HCP HLP HLE
                have HRR := Lib.hid (HR1.out.set (x' := (⟨a0, a1, a2, a3, a4, false, a6, a7, a8, a9⟩ : H4).at15 (i * (n / 8)) a6) 6 (.bool a6) rfl)
                have HP := Lib.hid (HPUT.out ((⟨a0, a1, a2, a3, a4, false, a6, a7, a8, a9⟩ : H4).at15 (i * (n / 8)) a6) (S.extract (i * n) S.size) (by have := HSZ.out; omega))
                generalize hQ : putS ((⟨a0, a1, a2, a3, a4, false, a6, a7, a8, a9⟩ : H4).at15 (i * (n / 8)) a6) (S.extract (i * n) S.size) = Q at *
                generalize putE ((⟨a0, a1, a2, a3, a4, false, a6, a7, a8, a9⟩ : H4).at15 (i * (n / 8)) a6) (S.extract (i * n) S.size) = E at *
                unfold H4.at15 H4.cells at HP
                dsimp only at HP
                clear hQ
                generalize hO : a2 + ((i * (n / 8) : Nat) : Int) = O at *
                generalize hLL : S.extract (i * n) S.size = L at *
                clear hi hle hLs hR hlt HPUT
                go_wp2_with fail
                refine (HP.out _).mono ?_
                rintro e W5 ⟨rfl, hb5⟩
                have R5 := Lib.hid (HRR.out.below hb5)
                have HROW := Lib.hid (R5.out.row.alloc (.cells #[.string Q] 9))
                have HX := Lib.hid R5.out.xb.lt
                have HT := Lib.hid hlen
                have HI2 : Hid (i ≤ 70000) := by
                  have h1 := HI.out
                  have h2 : fore15 S n ≤ S.size - 1 := Nat.div_le_self _ _
                  have h3 := HSZ.out
                  show i ≤ 70000
                  omega
                clear hb5 HRR HP c0 c1 c2 c3 c4 c5 c6 c7 c8 c9 f6 f2 y6 hlen
                go_wp2_with (at_builtin; refine wpList_append_own _ rfl _ _ 24 rfl (X + 1) 9 i0 (.string ⟨#[]⟩) 1 16 (by kernel_rfl) hi0 hz0 hz1 hz2 rfl (by decide) _ _ _ rfl HROW.out ⟨W5.heap.size, 0, none⟩ 1 1 [.string Q] rfl rfl (new15 W5 _ _) (by simp [Value.oneCell']) (by have := HI2.out; have := HT.out; unfold maxLen; omega) (by have := HI2.out; have := HT.out; omega) (by have := HX.out; simp; omega) ?_; intro v' w6 hown' hgrow _; have R6 := Lib.hid (R5.out.appended hown' hgrow); clear hown' hgrow)
                refine ⟨rfl, .tuple #[v', .int .i64 (cutE p m : Nat)], by rw [HCE.out]; simp [results, Try.results27, go_sem], R6.out.bel, v', rfl, ?_⟩
                rw [HCL.out]
                exact R6.out.texts
              case pos =>
                have hgt : n < S.size - i * n := HF.out.1 hlt
                have hft : i * n + n ≤ S.size := by omega
                have EF := Lib.hid (ext15_front hft)
                have ER := Lib.hid (ext15_rest hft)
                have hmul : (i + 1) * (n / 8) ≤ fore15 S n * (n / 8) := Nat.mul_le_mul_right _ hlt
                have HO2 : Hid (a2 + ((i * (n / 8) : Nat) : Int) + ((n / 8 : Nat) : Int) = a2 + (((i + 1) * (n / 8) : Nat) : Int)) := by
                  show _ = _
                  rw [Nat.add_mul, Nat.one_mul]
                  omega
                have HBAD : Hid (8191 < a2 + (((i + 1) * (n / 8) : Nat) : Int) → cutE p m = 4) := by
                  intro hbig
                  have := HCP.out
                  rw [HALL.out, if_neg (by simp only [decide_eq_true_eq]; omega)] at this
                  exact this
                have HSN : Hid (texts15 (upto15 ⟨a0, a1, a2, a3, a4, false, a6, a7, a8, a9⟩ S n (i + 1)) = texts15 (upto15 ⟨a0, a1, a2, a3, a4, false, a6, a7, a8, a9⟩ S n i) ++ [putS ((⟨a0, a1, a2, a3, a4, false, a6, a7, a8, a9⟩ : H4).at15 (i * (n / 8)) true) (S.extract (i * n) (i * n + n))]) := by
                  show _ = _
                  rw [upto15_succ, texts15_snoc]
                  rfl
                have HRR := Lib.hid (HR1.out.set (x' := (⟨a0, a1, a2, a3, a4, false, a6, a7, a8, a9⟩ : H4).at15 (i * (n / 8)) true) 6 (.bool true) rfl)
                have HP := Lib.hid (HPUT.out ((⟨a0, a1, a2, a3, a4, false, a6, a7, a8, a9⟩ : H4).at15 (i * (n / 8)) true) (S.extract (i * n) (i * n + n)) (by rw [ByteArray.size_extract]; have := HSZ.out; omega))
                generalize hQ : putS ((⟨a0, a1, a2, a3, a4, false, a6, a7, a8, a9⟩ : H4).at15 (i * (n / 8)) true) (S.extract (i * n) (i * n + n)) = Q at *
                generalize putE ((⟨a0, a1, a2, a3, a4, false, a6, a7, a8, a9⟩ : H4).at15 (i * (n / 8)) true) (S.extract (i * n) (i * n + n)) = E at *
                have HLT := Lib.hid hlt
                clear hQ hmul hi hle hR hlt HCP HALL HLP HPUT HR1 hft
                unfold H4.at15 H4.cells at HP
                dsimp only at HP
                generalize hO : a2 + ((i * (n / 8) : Nat) : Int) = O at *
                have HOO := Lib.hid hO
                clear hO
                generalize hLL : S.extract (i * n) S.size = L at *
                generalize S.extract (i * n) (i * n + n) = T at *
                have ef := EF.out
                have er := ER.out
                have hlen2 : n < L.size := by rw [hLs]; exact hgt
                have t5 : decide (n < L.size) = true := decide_eq_true hlen2
                clear hLs hLL hgt
                go_wp2_with fail
                have R2 := Lib.hid HRR.out
                generalize wr.setCell ⟨X, 6, none⟩ (.bool true) = w4 at *
                clear c0 c1 c2 c3 c4 c5 c6 c7 c8 c9 f6 f2 HRR
                have hxb := R2.out.xb
                unfold H4.at15 at hxb
                dsimp only at hxb
                rw [HOO.out] at hxb
                have ⟨c0, c1, c2, c3, c4, c5, c6, c7, c8, c9⟩ := Hc.of hxb
                dsimp only at c0 c1 c2 c3 c4 c5 c6 c7 c8 c9
                clear hxb
                go_region_with (refine (HP.out _).mono ?_; rintro e W5 ⟨rfl, hb5⟩)
                all_goals
                  have R5 := Lib.hid (R2.out.drew.below hb5)
                  clear c0 c1 c2 c3 c4 c5 c6 c7 c8 c9 R2 HP hb5
                  have HROW := Lib.hid (R5.out.row.alloc (.cells #[.string Q] 9))
                  have HX := Lib.hid R5.out.xb.lt
                  have HT := Lib.hid hlen
                  have HI2 : Hid (i ≤ 70000) := by
                    have h1 := HI.out
                    have h2 : fore15 S n ≤ S.size - 1 := Nat.div_le_self _ _
                    have h3 := HSZ.out
                    show i ≤ 70000
                    omega
                  have hn2 : n ≤ 65535 := HN.out.2
                  have hle2 : n ≤ L.size := by omega
                  clear hlen
                  have hs1 : (S.extract (i * n + n) S.size).size = S.size - (i * n + n) := by rw [ByteArray.size_extract]; omega
                  by_cases hbig : 8191 < O + (n : Int) / 8
                  · have t6 : decide (O + (n : Int) / 8 > 8191) = true := decide_eq_true hbig
                    have hbad := HBAD.out (by rw [← HO2.out]; omega)
                    have HBB := Lib.hid hbad
                    have hcl := HLE.out (by rw [hbad]; decide)
                    have HCL := Lib.hid hcl
                    clear hbad hbig hcl HBAD HO2 HSN HLE hs1
                    go_wp2_with (at_builtin; refine wpList_append_own _ rfl _ _ 24 rfl (X + 1) 9 i0 (.string ⟨#[]⟩) 1 16 (by kernel_rfl) hi0 hz0 hz1 hz2 rfl (by decide) _ _ _ rfl HROW.out ⟨W5.heap.size, 0, none⟩ 1 1 [.string Q] rfl rfl (new15 W5 _ _) (by simp [Value.oneCell']) (by have := HI2.out; have := HT.out; unfold maxLen; omega) (by have := HI2.out; have := HT.out; omega) (by have := HX.out; simp; omega) ?_; intro v' w6 hown' hgrow _; have R6 := Lib.hid (R5.out.appended hown' hgrow); have c2 := (Hc.of R6.out.xb).c2; have f2 := R6.out.xb.frozen 2; unfold H4.at15 at c2; dsimp only at c2; rw [HOO.out] at c2; clear hown' hgrow)
                    refine ⟨rfl, .tuple #[.slice none 0 0, .int .i64 (cutE p m : Nat)], by rw [HBB.out]; simp [results, Try.results27, go_sem], R6.out.bel.setCell (by have := R6.out.old; have := R6.out.lt; simp; omega) _, _, rfl, Or.inl ⟨HCL.out, rfl⟩⟩
                  · have t6 : decide (O + (n : Int) / 8 > 8191) = false := decide_eq_false hbig
                    go_wp2_with (at_builtin; refine wpList_append_own _ rfl _ _ 24 rfl (X + 1) 9 i0 (.string ⟨#[]⟩) 1 16 (by kernel_rfl) hi0 hz0 hz1 hz2 rfl (by decide) _ _ _ rfl HROW.out ⟨W5.heap.size, 0, none⟩ 1 1 [.string Q] rfl rfl (new15 W5 _ _) (by simp [Value.oneCell']) (by have := HI2.out; have := HT.out; unfold maxLen; omega) (by have := HI2.out; have := HT.out; omega) (by have := HX.out; simp; omega) ?_; intro v' w6 hown' hgrow _; have R6 := Lib.hid (R5.out.appended hown' hgrow); have c2 := (Hc.of R6.out.xb).c2; have f2 := R6.out.xb.frozen 2; unfold H4.at15 at c2; dsimp only at c2; rw [HOO.out] at c2; clear hown' hgrow)
                    have hv : O + (n : Int) / 8 = a2 + (((i + 1) * (n / 8) : Nat) : Int) := by have := HO2.out; omega
                    rw [hv]
                    refine ⟨⟨i + 1, true, HLT.out, by rw [Nat.add_mul, Nat.one_mul], by have := hbig; omega, ?_⟩, ?_⟩
                    · rw [HSN.out]
                      exact R6.out.set 2 (.int .i64 (a2 + (((i + 1) * (n / 8) : Nat) : Int))) rfl
                    · simp only [len15, hs1]
                      have := HL.out
                      omega

end Go.Proofs.Ytoijomdgcgbpbaa
