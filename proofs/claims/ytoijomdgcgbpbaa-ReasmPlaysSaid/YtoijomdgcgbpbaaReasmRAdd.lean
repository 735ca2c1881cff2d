/-
  The document's Add.
-/
import Derived.Test.YtoijomdgcgbpbaaReasmRT8
import Derived.Test.YtoijomdgcgbpbaaReasmRC
import Derived.Test.YtoijomdgcgbpbaaReasmRB
import Derived.Test.YtoijomdgcgbpbaaReasmRfit
import Derived.Test.YtoijomdgcgbpbaaReasmRPay
import Derived.Test.YtoijomdgcgbpbaaIp4RefGet
import Derived.Test.YtoijomdgcgbpbaaIp4B
import Derived.Deep.CutBlock
import Derived.Deep.DeepCutAuto
namespace Go.Proofs.Ytoijomdgcgbpbaa
open Go.RowKit
set_option linter.unusedVariables false

theorem add16_is {E B : Nat} {l : List E16} {x : ByteArray} {k : K16} {z : P16} (hg : getE x = 0) (hk : (getH x).key = k) (hz : piece16 (getH x) (getS x) = z) :
    add16 E B l x = if no16 E B l k z ≠ 0 then ((⟨#[]⟩, no16 E B l k z), l) else made16 l (getH x) z := by
  unfold add16
  rw [if_neg (fun e => e hg), hk, hz]

set_option maxRecDepth 100000 in
set_option maxHeartbeats 4000000 in
theorem radd16_any {R : Nat → Prop} {mb : Nat} {s : S16} {v : Value} {ms : List (R16 × Value)} {l : List E16} (p : ByteArray) (hp : p.size ≤ 1000000) (w : World) (h : RT16 R w mb s v ms) (hs : s.Right) (t : Tab16 s.e.toNat s.b.toNat s.l.toNat l) (rel : Rels l (ms.map (·.1))) :
    Calls Try.prog 16 #[.pointer (some ⟨mb, 0, none⟩), .string p] w (RAdd16 R w mb s (add16 s.e.toNat s.b.toNat l p)) := by
  have H := Lib.hid h
  have T := Lib.hid t
  have REL := Lib.hid rel
  have HS := Lib.hid hs
  have HG := Lib.hid (refget_any p w hp)
  unfold RefGot at HG
  have A0 := Lib.hid (show getE p ≠ 0 → add16 s.e.toNat s.b.toNat l p = ((⟨#[]⟩, getE p), l) from fun e => by unfold add16; rw [if_pos e])
  have A1 := Lib.hid (show getE p = 0 → add16 s.e.toNat s.b.toNat l p = if rno s.e.toNat s.b.toNat (ms.map (·.1)) (getH p, getS p) ≠ 0 then ((⟨#[]⟩, rno s.e.toNat s.b.toNat (ms.map (·.1)) (getH p, getS p)), l) else made16 l (getH p) (pcOf (getH p, getS p)) from fun e => by
    rw [← rno_is t rel]
    exact add16_is e rfl rfl)
  have hgot := fun e : getE p = 0 => got15 e
  generalize add16 s.e.toNat s.b.toNat l p = A at *
  clear h t rel hs
  by_cases he : getE p = 0
  case neg =>
    have te : (((getE p : Nat) : Int) != 0) = true := by simp; omega
    have AE := Lib.hid (A0.out he)
    unfold H4.cells at HG
    clear A0 A1 hgot he
    go_enter Try.func16, Try.ntmps16
    go_wp2_with fail
    refine HG.out.mono ?_
    rintro e w1 ⟨rfl, hb1⟩
    have B1 := Lib.hid hb1
    clear hb1 HG
    go_wp2_with fail
    go_ret2
    refine ⟨by rw [AE.out]; rfl, ?_⟩
    rw [AE.out]
    have b2 := B1.out.alloc B1.out.size (.cells #[.int .i64 (getH p).tos, .int .i64 (getH p).id, .int .i64 (getH p).off, .int .i64 (getH p).ttl, .int .i64 (getH p).proto, .bool (getH p).df, .bool (getH p).mf, .string (getH p).src, .string (getH p).dst, .string (getH p).opt] 43)
    exact (H.out.below b2).same REL.out b2
  have te : (((getE p : Nat) : Int) != 0) = false := by simp; omega
  have AE := Lib.hid (A1.out he)
  have GT := Lib.hid (hgot he)
  clear A0 A1 hgot
  rw [he] at HG
  clear he te
  obtain ⟨x, hx⟩ : ∃ x, x = (getH p, getS p) := ⟨_, rfl⟩
  have hx1 : getH p = x.1 := by rw [hx]
  have hx2 : getS p = x.2 := by rw [hx]
  have HOK : Hid (x.1.Ok ∧ x.2.size ≤ 65535) := by
    have q := GT.out
    rw [hx1, hx2] at q
    exact ⟨q.1, by omega⟩
  rw [← hx, hx1] at AE
  rw [hx1, hx2] at HG
  clear hx hx1 hx2 GT
  have hpc : Pc16 x := ⟨HOK.out.1.off, HOK.out.2⟩
  have HEN := Lib.hid (fun W => rend16_any x hpc W)
  have HFI := Lib.hid (fun W (h : RT16 R W mb s v ms) => rfind16_any x.1 W h (by
    have h1 := T.out.len
    have h2 := REL.out.length
    have h3 := T.out.store
    rw [List.length_map] at h2
    omega))
  have MAY := Lib.hid (rmay x hpc.off.1)
  unfold Tells at HEN HFI
  unfold pccells at HEN
  have PC := Lib.hid hpc
  clear hpc
  unfold H4.cells at HG HFI
  go_enter Try.func16, Try.ntmps16
  go_wp2_with fail
  refine HG.out.mono ?_
  rintro e w1 ⟨rfl, hb1⟩
  have B1 := Lib.hid hb1
  clear hb1 HG
  go_upto_region 5 with (fail)
  have AD2 : Hid (AdR16 R w ((w1.alloc (.cells #[.int .i64 x.1.tos, .int .i64 x.1.id, .int .i64 x.1.off, .int .i64 x.1.ttl, .int .i64 x.1.proto, .bool x.1.df, .bool x.1.mf, .string x.1.src, .string x.1.dst, .string x.1.opt] 43)).alloc (.cells #[.int .i64 x.1.tos, .int .i64 x.1.id, .int .i64 x.1.off, .int .i64 x.1.ttl, .int .i64 x.1.proto, .bool x.1.df, .bool x.1.mf, .string x.1.src, .string x.1.dst, .string x.1.opt, .string x.2] 85)) mb w1.heap.size s v ms x) := by
    have b2 : Below w.heap.size w ((w1.alloc (.cells #[.int .i64 x.1.tos, .int .i64 x.1.id, .int .i64 x.1.off, .int .i64 x.1.ttl, .int .i64 x.1.proto, .bool x.1.df, .bool x.1.mf, .string x.1.src, .string x.1.dst, .string x.1.opt] 43)).alloc (.cells #[.int .i64 x.1.tos, .int .i64 x.1.id, .int .i64 x.1.off, .int .i64 x.1.ttl, .int .i64 x.1.proto, .bool x.1.df, .bool x.1.mf, .string x.1.src, .string x.1.dst, .string x.1.opt, .string x.2] 85)) := (B1.out.alloc B1.out.size _).alloc (by have := B1.out.size; simp; omega) _
    have e2 := Blk.new (w1.alloc (.cells x.1.cells 43)) (pccells x).toArray 85
    simp only [World.size_alloc] at e2
    exact ⟨H.out.below b2, (Blk.new w1 _ _).alloc _, e2, b2, B1.out.size⟩
  clear B1
  generalize (w1.alloc (.cells #[.int .i64 x.1.tos, .int .i64 x.1.id, .int .i64 x.1.off, .int .i64 x.1.ttl, .int .i64 x.1.proto, .bool x.1.df, .bool x.1.mf, .string x.1.src, .string x.1.dst, .string x.1.opt] 43)).alloc (.cells #[.int .i64 x.1.tos, .int .i64 x.1.id, .int .i64 x.1.off, .int .i64 x.1.ttl, .int .i64 x.1.proto, .bool x.1.df, .bool x.1.mf, .string x.1.src, .string x.1.dst, .string x.1.opt, .string x.2] 85) = w2 at *
  generalize w1.heap.size = hb at *
  go_cut [55] (fun vv wx => vv = .bool (!(pcOf x).mayBe) ∧ Hid (AdR16 R w wx mb hb s v ms x))
  case first =>
    have HX : Blk w2 (hb + 1) _ _ := AD2.out.x
    have d0 := HX.cell 0
    have d1 := HX.cell 1
    have d2 := HX.cell 2
    have d3 := HX.cell 3
    have d4 := HX.cell 4
    have d5 := HX.cell 5
    have d6 := HX.cell 6
    have d7 := HX.cell 7
    have d8 := HX.cell 8
    have d9 := HX.cell 9
    have d10 := HX.cell 10
    simp only [pccells, List.getElem?_toArray, List.getElem?_cons_zero, List.getElem?_cons_succ] at d0 d1 d2 d3 d4 d5 d6 d7 d8 d9 d10
    clear HX
    have hm := MAY.out
    have hsz := HOK.out.2
    generalize hhi : (pcOf x).hi = hi at *
    have T1 : decide ((65515 : Int) < (hi : Int)) = decide (65515 < hi) := by rw [Bool.eq_iff_iff]; simp; omega
    have T2 : (((x.2.size : Int) % 8) != 0) = decide (x.2.size % 8 ≠ 0) := by
      rw [Bool.eq_iff_iff]
      simp
      omega
    have T3 := empty_is x.2
    generalize hg1 : decide (65515 < hi) = g1 at *
    generalize hg2 : decide (x.2.size % 8 ≠ 0) = g2 at *
    generalize hg3 : decide (x.2.size = 0) = g3 at *
    generalize hg4 : decide (0 < x.1.off) = g4 at *
    have HGS := Lib.hid (And.intro hg1 (And.intro hg2 (And.intro hg3 hhi)))
    clear hg1 hg2 hg3 hhi
    go_wp2_with fail
    refine (HEN.out _).mono ?_
    rintro e w3 ⟨rfl, hb3⟩
    have AD3 := Lib.hid (AD2.out.below hb3)
    clear hb3 d0 d1 d2 d3 d4 d5 d6 d7 d8 d9 d10 AD2
    have h2 := (show Blk w3 hb _ _ from AD3.out.h).cell 2
    have h6 := (show Blk w3 hb _ _ from AD3.out.h).cell 6
    simp only [H4.cells, List.getElem?_toArray, List.getElem?_cons_zero, List.getElem?_cons_succ] at h2 h6
    clear HEN HFI MAY
    cases g1 with
    | true =>
      go_wp2_with fail
      go_meet
      exact ⟨by rw [hm]; simp, AD3⟩
    | false =>
      cases hmf : x.1.mf with
      | true =>
        rw [hmf] at h6 hm
        cases g2 with
        | true =>
          go_wp2_with fail
          go_meet
          exact ⟨by rw [hm]; simp, AD3⟩
        | false =>
          cases g3 with
          | true =>
            go_wp2_with fail
            go_meet
            exact ⟨by rw [hm]; simp, AD3⟩
          | false =>
            cases g4 with
            | true =>
              go_wp2_with fail
              go_meet
              exact ⟨by rw [hm]; simp, AD3⟩
            | false =>
              go_wp2_with fail
              go_meet
              exact ⟨by rw [hm]; simp, AD3⟩
      | false =>
        rw [hmf] at h6 hm
        cases g4 with
        | false =>
          go_wp2_with fail
          go_meet
          exact ⟨by rw [hm]; simp, AD3⟩
        | true =>
          cases g3 with
          | true =>
            go_wp2_with fail
            go_meet
            exact ⟨by rw [hm]; simp, AD3⟩
          | false =>
            go_wp2_with fail
            go_meet
            exact ⟨by rw [hm]; simp, AD3⟩
  case rest =>
  obtain ⟨rfl, ad⟩ := hcut
  have AD3 := ad
  clear ad AD2 HEN MAY
  cases hmay : (pcOf x).mayBe with
  | false =>
    have AEE := Lib.hid (show A = ((⟨#[]⟩, 4), l) from by rw [AE.out]; unfold rno; rw [if_pos hmay]; rfl)
    go_wp2_with fail
    go_ret2
    refine ⟨by rw [AEE.out]; rfl, ?_⟩
    rw [AEE.out]
    exact AD3.out.tab.same REL.out AD3.out.bel
  | true =>
  have MT := Lib.hid hmay
  clear hmay
  have h0 := (show Blk wc hb _ _ from AD3.out.h).cell 0
  have h1 := (show Blk wc hb _ _ from AD3.out.h).cell 1
  have h2 := (show Blk wc hb _ _ from AD3.out.h).cell 2
  have h3 := (show Blk wc hb _ _ from AD3.out.h).cell 3
  have h4 := (show Blk wc hb _ _ from AD3.out.h).cell 4
  have h5 := (show Blk wc hb _ _ from AD3.out.h).cell 5
  have h6 := (show Blk wc hb _ _ from AD3.out.h).cell 6
  have h7 := (show Blk wc hb _ _ from AD3.out.h).cell 7
  have h8 := (show Blk wc hb _ _ from AD3.out.h).cell 8
  have h9 := (show Blk wc hb _ _ from AD3.out.h).cell 9
  simp only [H4.cells, List.getElem?_toArray, List.getElem?_cons_zero, List.getElem?_cons_succ] at h0 h1 h2 h3 h4 h5 h6 h7 h8 h9
  go_wp2_with fail
  refine (HFI.out _ AD3.out.tab).mono ?_
  rintro e w4 ⟨rfl, hb4⟩
  have AD4 := Lib.hid (AD3.out.below hb4)
  clear hb4 h0 h1 h2 h3 h4 h5 h6 h7 h8 h9 AD3 HFI
  have hml : ms.length ≤ 64 := by
    have h1 := T.out.len
    have h2 := REL.out.length
    have h3 := T.out.store
    rw [List.length_map] at h2
    omega
  have FO : Hid ((∃ (i : Nat) (hi : i < ms.length), findOf (ms.map (·.1)) x.1.key = (i : Nat) ∧ rfind (ms.map (·.1)) x.1.key = i ∧ rold (ms.map (·.1)) x.1 = (ms[i]'hi).1) ∨ (findOf (ms.map (·.1)) x.1.key = -1 ∧ rfind (ms.map (·.1)) x.1.key = ms.length ∧ rold (ms.map (·.1)) x.1 = ⟨x.1, [], false, 0⟩)) := by
    show _ ∨ _
    unfold findOf rold
    by_cases hi : rfind (ms.map (·.1)) x.1.key < (ms.map (·.1)).length
    · left
      have hi2 : rfind (ms.map (·.1)) x.1.key < ms.length := by rwa [List.length_map] at hi
      refine ⟨rfind (ms.map (·.1)) x.1.key, hi2, by rw [if_pos hi], rfl, ?_⟩
      rw [List.getD_eq_getElem?_getD, List.getElem?_eq_getElem hi, Option.getD_some, List.getElem_map]
    · right
      have hle : rfind (ms.map (·.1)) x.1.key ≤ (ms.map (·.1)).length := List.findIdx_le_length
      refine ⟨by rw [if_neg hi], by rw [List.length_map] at hi hle; omega, ?_⟩
      rw [List.getD_eq_getElem?_getD, List.getElem?_eq_none (by omega)]
      rfl
  generalize findOf (ms.map (·.1)) x.1.key = KI at *
  go_upto_if 60 with (fail)
  go_cut [11] (fun vo wx => Hid (RRow wx vo (rold (ms.map (·.1)) x.1).ps ∧ (rold (ms.map (·.1)) x.1).done = false ∧ ∀ g, vo.ownBlock = some g → R g) ∧ Hid (AdR16 R w wx mb hb s v ms x))
  case first =>
    rcases FO.out with ⟨i, hi, rfl, hrf, hro⟩ | ⟨rfl, hrf, hro⟩
    · have t1 : decide ((0 : Int) ≤ (i : Int)) = true := decide_eq_true (by omega)
      obtain ⟨g, cap, hv, hg, hc, _⟩ := AD4.out.tab.entry hi
      subst hv
      have HB : Blk w4 mb _ _ := AD4.out.tab.tb
      have c3 := HB.cell 3
      simp only [List.getElem?_toArray, List.getElem?_cons_zero, List.getElem?_cons_succ] at c3
      clear HB
      have c10 := hc 10 (by omega)
      have c11 := hc 11 (by omega)
      simp only [recells, List.getElem?_cons_zero, List.getElem?_cons_succ] at c10 c11
      clear hc
      have u0 : (0 : Int) ≤ (i : Int) := by omega
      have u1 : (i : Int) < (ms.length : Int) := by omega
      have hmem := List.getElem_mem hi
      have hpr := AD4.out.tab.ps _ hmem
      have hpo := AD4.out.tab.rp _ hmem
      rw [← hro] at c11 hpr
      have HPR := Lib.hid hpr
      have HPO := Lib.hid hpo
      clear hpr hpo hmem
      generalize (ms[i]'hi).2 = vo at *
      cases hd : (rold (ms.map (·.1)) x.1).done with
      | true =>
        rw [hd] at c11
        have hr : rno s.e.toNat s.b.toNat (ms.map (·.1)) x = 12 := by
          unfold rno
          rw [if_neg (by rw [MT.out]; simp), if_pos hd]
        have AEE := Lib.hid (show A = ((⟨#[]⟩, 12), l) from by
          rw [AE.out, hr]
          rfl)
        clear hr
        clear hd
        go_wp2_with fail
        go_ret2
        refine ⟨by rw [AEE.out]; rfl, ?_⟩
        rw [AEE.out]
        exact AD4.out.tab.same REL.out AD4.out.bel
      | false =>
        rw [hd] at c11
        have HD := Lib.hid hd
        clear hd
        go_wp2_with fail
        go_meet
        exact ⟨⟨HPR.out, HD.out, HPO.out⟩, AD4⟩
    · have t1 : decide ((0 : Int) ≤ (-1 : Int)) = false := by decide
      go_wp2_with fail
      go_meet
      exact ⟨⟨by rw [hro]; exact ⟨rfl, Or.inl ⟨rfl, rfl⟩⟩, by rw [hro], fun g e => by cases e⟩, AD4⟩
  case rest =>
  obtain ⟨HO, ad⟩ := hcut
  have AD5 := ad
  clear ad AD4
  -- THE LOOPS
  have ro := (REL.out.old x.1)
  have g := (old16_ent T.out x.1.key).good
  have hpl : (rold (ms.map (·.1)) x.1).ps.length ≤ 65536 := by
    have h1 := ro.perm.length_eq
    rw [List.length_map] at h1
    have h2 := g.few.2
    omega
  have EACH := Lib.hid ro.each
  clear ro g
  obtain ⟨ps, hps⟩ : ∃ ps, ps = (rold (ms.map (·.1)) x.1).ps := ⟨_, rfl⟩
  obtain ⟨hrow, hnd, hown⟩ := HO.out
  rw [← hps] at hrow hpl EACH
  have LA5 : Hid (La16 R w wc mb hb s v ms x u11 ps) := ⟨AD5.out, hrow⟩
  have HOWN := Lib.hid (And.intro hnd hown)
  obtain ⟨oa, cap, hvo⟩ := owns_len hrow
  subst hvo
  subst hps
  refine onto (c := rcode16 8) (Q := bodyPost Try.prog Try.f16 (RAdd16 R w mb s A)) (by assumption) ?_
  exact radd_t8 LA5.out FO.out rfl REL.out T.out HS.out AE.out HOK.out.1 HOK.out.2 hpl hml MT.out hnd EACH.out

end Go.Proofs.Ytoijomdgcgbpbaa
