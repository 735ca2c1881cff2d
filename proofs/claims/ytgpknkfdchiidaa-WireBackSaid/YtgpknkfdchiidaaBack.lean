/-
  WireBack, walked: true at every list of calls and every cut, and what was there is there.
-/
import Derived.Test.YtgpknkfdchiidaaBackSpec
import Derived.Test.YtgpknkfdchiidaaReads
import Derived.Deep.RegionWith
namespace Go.Proofs.Ytgpknkfdchiidaa
open Go.RowKit
set_option linter.unusedVariables false

theorem Try.info43 : (Try.prog.info? 43).map (fun i => (i.zero, i.size, i.bytes)) = some (some (.agg #[.int .i64 0, .int .i64 0, .int .u64 0, .string ⟨#[]⟩]), 4, 40) := by kernel_rfl

/-- The memory in a round: the new call's variable A. -/
structure Gm (w wx : World) (A : Nat) (v : Value) (k : Nat) (D : Nat → CallD) (xs : Array Value) : Prop where
  own : wx.ownsRow w.heap.size 43 4 v k (callCells D k)
  a : Blk wx A xs 43
  bel : Below w.heap.size w wx
  lA : w.heap.size ≤ A
  nA : v.ownBlock ≠ some A
theorem Gm.set {w wx : World} {A : Nat} {v : Value} {k : Nat} {D : Nat → CallD} {xs : Array Value} (h : Gm w wx A v k D xs) (i : Nat) (x : Value) : Gm w (wx.setCell ⟨A, i, none⟩ x) A v k D (xs.setIfInBounds i x) :=
  ⟨h.own.kept (row := some A) ⟨rfl, rfl, rfl, by simp [World.setCell], fun k hk hne => Below.heap_setCell _ _ _ _ (fun e => hne (by rw [e]))⟩ (Or.inr h.nA), h.a.set i x, h.bel.setCell (p := ⟨A, i, none⟩) h.lA x, h.lA, h.nA⟩
theorem Gm.drew {w wx : World} {A : Nat} {v : Value} {k : Nat} {D : Nat → CallD} {xs : Array Value} (h : Gm w wx A v k D xs) : Gm w wx.drew A v k D xs := ⟨h.own.drew, h.a.drew, h.bel.drew, h.lA, h.nA⟩
theorem Gm.new {w wr : World} {v : Value} {k : Nat} {D : Nat → CallD} (own : wr.ownsRow w.heap.size 43 4 v k (callCells D k)) (bel : Below w.heap.size w wr) (xs : Array Value) : Gm w (wr.alloc (.cells xs 43)) wr.heap.size v k D xs := by
  have hs := bel.size
  refine ⟨own.alloc _, Blk.new wr xs 43, bel.alloc hs _, hs, fun e => ?_⟩
  have := (own.lt _ e).2
  omega

/-- At a round's head. -/
structure GInv (w wr : World) (v : Value) (k : Nat) (D : Nat → CallD) : Prop where
  own : wr.ownsRow w.heap.size 43 4 v k (callCells D k)
  bel : Below w.heap.size w wr

/-- The cells of one answer of a list that is given by a function. -/
theorem own_good {w : World} {B g cap m : Nat} {G : Nat → AnsD} (h : w.ownsRow B 46 4 (.slice (some ⟨g, 0, none⟩) m cap) m (ansCells ((List.range m).map G))) (i : Nat) (hi : i < m) :
    w.cell? ⟨g, i * 4, none⟩ = some (.int .u64 (G i).n) ∧ w.cell? ⟨g, i * 4 + 1, none⟩ = some (.string (G i).s) ∧ w.cell? ⟨g, i * 4 + 2, none⟩ = some (.int .i64 (G i).pos) ∧ w.cell? ⟨g, i * 4 + 3, none⟩ = some (.int .i64 (G i).left) := by
  have hl : ((List.range m).map G).length = m := by simp
  have := own_ans (l := (List.range m).map G) (by rw [hl]; exact h) i (by omega)
  simpa using this

theorem gm_n {w w0 : World} {A k : Nat} {v : Value} {D : Nat → CallD} {c d : CallD} {kd : Int} (h : Gm w w0 A v k D #[.int .i64 kd, .int .i64 c.k, .int .u64 c.n, .string c.s]) (n m : Nat) (hd : d = ⟨kd, c.k, n % m, c.s⟩) :
    Gm w (w0.setCell ⟨A, 2, none⟩ (.int .u64 ((n : Int) % m))).drew A v k D #[.int .i64 d.kind, .int .i64 d.k, .int .u64 d.n, .string d.s] := by
  subst hd
  have := (h.set 2 (.int .u64 ((n : Int) % m))).drew
  simpa using this
theorem gm_s {w w0 : World} {A k : Nat} {v : Value} {D : Nat → CallD} {c d : CallD} {kd : Int} (h : Gm w w0 A v k D #[.int .i64 kd, .int .i64 c.k, .int .u64 c.n, .string c.s]) (hd : d = ⟨4, c.s.size, c.n, c.s⟩) :
    Gm w ((w0.setCell ⟨A, 0, none⟩ (.int .i64 4)).setCell ⟨A, 1, none⟩ (.int .i64 c.s.size)) A v k D #[.int .i64 d.kind, .int .i64 d.k, .int .u64 d.n, .string d.s] := by
  subst hd
  simpa using (h.set 0 (.int .i64 4)).set 1 (.int .i64 c.s.size)
theorem shl_1 (W : World) : (Op.shift BinOp.shl IntKind.u64 1 IntKind.i64 (IntKind.i64.wrap 8)).run Try.prog W = .ok (.int .u64 256) W := by kernel_rfl
theorem shl_2 (W : World) : (Op.shift BinOp.shl IntKind.u64 1 IntKind.i64 (IntKind.i64.wrap 16)).run Try.prog W = .ok (.int .u64 65536) W := by kernel_rfl
theorem shl_4 (W : World) : (Op.shift BinOp.shl IntKind.u64 1 IntKind.i64 (IntKind.i64.wrap 32)).run Try.prog W = .ok (.int .u64 4294967296) W := by kernel_rfl
theorem and_8 (n : Nat) (h : n < 18446744073709551616) : bits .and .u64 (n : Int) 255 = ((n % 256 : Nat) : Int) := by
  rw [show (255 : Int) = ((255 : Nat) : Int) from rfl, u64_and_nat _ _ h (by omega), show (255 : Nat) = 2 ^ 8 - 1 from rfl, Nat.and_two_pow_sub_one_eq_mod]
theorem and_16 (n : Nat) (h : n < 18446744073709551616) : bits .and .u64 (n : Int) 65535 = ((n % 65536 : Nat) : Int) := by
  rw [show (65535 : Int) = ((65535 : Nat) : Int) from rfl, u64_and_nat _ _ h (by omega), show (65535 : Nat) = 2 ^ 16 - 1 from rfl, Nat.and_two_pow_sub_one_eq_mod]
theorem and_32 (n : Nat) (h : n < 18446744073709551616) : bits .and .u64 (n : Int) 4294967295 = ((n % 4294967296 : Nat) : Int) := by
  rw [show (4294967295 : Int) = ((4294967295 : Nat) : Int) from rfl, u64_and_nat _ _ h (by omega), show (4294967295 : Nat) = 2 ^ 32 - 1 from rfl, Nat.and_two_pow_sub_one_eq_mod]

set_option maxRecDepth 100000 in
set_option maxHeartbeats 4000000 in
theorem back_any (cut : Int) (a : Option Addr) (len cap : Nat) (C : Nat → CallD) (w : World) (hC : CallsAt w w.heap.size a len C) (hl : len ≤ 140737488355328) (hsz : ∀ i, (C i).s.size ≤ 140737488355328) (hn : ∀ i, (C i).n < 18446744073709551616) :
    Calls Try.prog 5 #[.slice a len cap, .int .i64 cut] w fun e w' => e = .returned (.bool true) ∧ Below w.heap.size w w' := by
  obtain ⟨j0, hj0, hz0, hz1, hz2⟩ := info_parts Try.info43
  have HC := Lib.hid hC
  have HS := Lib.hid hsz
  have HN := Lib.hid hn
  clear hC hsz hn
  go_enter Try.func5, Try.ntmps5
  go_wp2_with fail
  refine (awake_any w).mono ?_
  rintro e w1 ⟨rfl, hb1⟩
  have HC1 := Lib.hid (HC.out.below hb1)
  have HB1 := Lib.hid hb1
  have hs1 := hb1.size
  clear hb1 HC
  go_wp2_with fail
  refine (few_any a len cap C w1 w.heap.size HC1.out hl HS.out).mono ?_
  rintro e w' ⟨t, rfl, ht, rfl⟩
  cases t with
  | false =>
    clear ht
    go_wp2_with fail
    go_ret
    exact ⟨rfl, HB1.out⟩
  | true =>
    obtain ⟨h1, h2⟩ := ht rfl
    clear ht
    go_upto_block 0 with (fail)
    go_cut [5] (fun v wx => Hid (GInv w1 wx v len (fun i => norm (C i))))
    case first =>
      have H0 : Hid (GInv w1 w1 (.slice none 0 0) 0 (fun i => norm (C i))) := ⟨World.ownsRow_nil _ _ _ _, Below.refl _ _⟩
      go_wp2_with fail
      go_loopg [5, 6] len (fun g v i wr => ∃ k : Nat, k ≤ len ∧ g = len - k ∧ i = .int .i64 k ∧ Hid (GInv w1 wr v k (fun i => norm (C i))))
      case atStart => exact ⟨0, Nat.zero_le _, rfl, rfl, H0⟩
      case round =>
        obtain ⟨k, hk, rfl, rfl, HI⟩ := hrel
        by_cases hlt : k < len
        · obtain h0 | ⟨cb, off, rfl, hcb, hc⟩ := HC1.out
          · omega
          have hcw : CallAt wr cb (off + k * 4) (C k) := (hc k hlt).block (HI.out.bel.block cb (by omega))
          have c0 := hcw.c0
          have c1 := hcw.c1
          have c2 := hcw.c2
          have c3 := hcw.c3
          have GM := Lib.hid (Gm.new HI.out.own HI.out.bel #[.int .i64 (C k).kind, .int .i64 (C k).k, .int .u64 (C k).n, .string (C k).s])
          have hnn := HN.out k
          have hss := HS.out k
          have n0 := Lib.hid (norm_0 (C k))
          have n1 := Lib.hid (norm_1 (C k))
          have n2 := Lib.hid (norm_2 (C k))
          have n3 := Lib.hid (norm_3 (C k))
          have n4 := Lib.hid (norm_4 (C k))
          clear hc hcw HI H0
          go_upto_region 10 with (fail)
          clear c0 c1 c2 c3
          generalize wr.alloc (.cells #[.int .i64 (C k).kind, .int .i64 (C k).k, .int .u64 (C k).n, .string (C k).s] 43) = w0 at *
          generalize wr.heap.size = A at *
          have a0 := GM.out.a.cell 0
          have a1 := GM.out.a.cell 1
          have a2 := GM.out.a.cell 2
          have a3 := GM.out.a.cell 3
          have f0 := GM.out.a.frozen 0
          have f1 := GM.out.a.frozen 1
          have f2 := GM.out.a.frozen 2
          simp at a0 a1 a2 a3
          generalize hkd : (C k).kind = kd at *
          have HKD := Lib.hid hkd
          clear hkd
          go_upto_block 2 with (fail)
          go_cut [6] (fun i wx => i = .int .i64 k ∧ Hid (Gm w1 wx A u5 k (fun i => norm (C i)) #[.int .i64 (norm (C k)).kind, .int .i64 (norm (C k)).k, .int .u64 (norm (C k)).n, .string (norm (C k)).s]))
          case first =>
            by_cases q0 : kd = 0
            · have t0 : (kd == 0) = true := by simp [q0]
              have HZ := Lib.hid (size_0 kd q0)
              have HD := Lib.hid (n0.out q0)
              have e1 := shl_1
              have e2 : IntKind.u64.wrap 255 = 255 := wrap_u64 _ (by omega) (by omega)
              have e3 := and_8 (C k).n hnn
              clear q0 n0 n1 n2 n3 n4
              go_upto_region 15 with (fail)
              go_region_with (go_at_call 18; refine (size_z _ 1 _ HZ.out).mono ?_; rintro e w' ⟨rfl, rfl⟩)
              all_goals
                have GM2 := Lib.hid (gm_n GM.out (C k).n 256 HD.out)
                clear e1 e2 e3 a0 a1 a2 a3 f0 f1 f2
                go_wp2_with fail
                go_meet
                exact ⟨rfl, GM2.out⟩
            have t0 : (kd == 0) = false := by simp [q0]
            by_cases q1 : kd = 1
            · have t1 : (kd == 1) = true := by simp [q1]
              have HZ := Lib.hid (size_1 kd q1)
              have HD := Lib.hid (n1.out q1)
              have e1 := shl_2
              have e2 : IntKind.u64.wrap 65535 = 65535 := wrap_u64 _ (by omega) (by omega)
              have e3 := and_16 (C k).n hnn
              clear q0 q1 n0 n1 n2 n3 n4
              go_upto_region 15 with (fail)
              go_region_with (go_at_call 18; refine (size_z _ 2 _ HZ.out).mono ?_; rintro e w' ⟨rfl, rfl⟩)
              all_goals
                have GM2 := Lib.hid (gm_n GM.out (C k).n 65536 HD.out)
                clear e1 e2 e3 a0 a1 a2 a3 f0 f1 f2
                go_wp2_with fail
                go_meet
                exact ⟨rfl, GM2.out⟩
            have t1 : (kd == 1) = false := by simp [q1]
            by_cases q2 : kd = 2
            · have t2 : (kd == 2) = true := by simp [q2]
              have HZ := Lib.hid (size_2 kd q2)
              have HD := Lib.hid (n2.out q2)
              have e1 := shl_4
              have e2 : IntKind.u64.wrap 4294967295 = 4294967295 := wrap_u64 _ (by omega) (by omega)
              have e3 := and_32 (C k).n hnn
              clear q0 q1 q2 n0 n1 n2 n3 n4
              go_upto_region 15 with (fail)
              go_region_with (go_at_call 18; refine (size_z _ 4 _ HZ.out).mono ?_; rintro e w' ⟨rfl, rfl⟩)
              all_goals
                have GM2 := Lib.hid (gm_n GM.out (C k).n 4294967296 HD.out)
                clear e1 e2 e3 a0 a1 a2 a3 f0 f1 f2
                go_wp2_with fail
                go_meet
                exact ⟨rfl, GM2.out⟩
            have t2 : (kd == 2) = false := by simp [q2]
            by_cases q3 : kd = 3
            · have t3 : (kd == 3) = true := by simp [q3]
              have HD := Lib.hid (n3.out q3)
              clear q0 q1 q2 q3 n0 n1 n2 n3 n4
              go_wp2_with fail
              go_meet
              refine ⟨rfl, ?_⟩
              rw [HD.out, HKD.out]
              exact GM.out
            have t3 : (kd == 3) = false := by simp [q3]
            have HD := Lib.hid (n4.out q0 q1 q2 q3)
            have GM2 := Lib.hid (gm_s GM.out HD.out)
            clear q0 q1 q2 q3 n0 n1 n2 n3 n4
            go_wp2_with fail
            go_meet
            exact ⟨rfl, GM2.out⟩
          case rest =>
            obtain ⟨rfl, GM4⟩ := hcut
            clear GM a0 a1 a2 a3 f0 f1 f2 n0 n1 n2 n3 n4 HKD
            have cA0 := GM4.out.a.cell 0
            have cA1 := GM4.out.a.cell 1
            have cA2 := GM4.out.a.cell 2
            have cA3 := GM4.out.a.cell 3
            simp at cA0 cA1 cA2 cA3
            have hsz := GM4.out.bel.size
            generalize hdk : norm (C k) = dk at *
            have HDK := Lib.hid hdk
            clear hdk
            go_wp2_with (at_builtin; refine wpList_append_lies _ rfl _ _ _ rfl w1.heap.size 43 j0 _ 4 40 Try.underlying22 hj0 hz0 hz1 hz2 rfl (by omega) u5 k (callCells (fun i => norm (C i)) k) rfl (GM4.out.own.alloc _) ⟨wc.heap.size, 0, none⟩ 1 1 (callCell dk) rfl rfl (World.news_of_block (cs := #[.int .i64 dk.kind, .int .i64 dk.k, .int .u64 dk.n, .string dk.s]) (t := 43) (fr := (0, 0)) (heap_alloc_new wc _)) (by simp [callCell, Value.oneCell']) (by omega) (by unfold maxLen; omega) (by omega) (by simp; omega) (wc.heap.size + 1) (by simp) ?_; intro g cp w5 hown1 hgrow hat hlt1; have HN2 : Hid (GInv w1 w5 (.slice (some ⟨g, 0, none⟩) (k + 1) cp) (k + 1) (fun i => norm (C i))) := ⟨by rw [callCells_succ, HDK.out]; exact hown1, (GM4.out.bel.alloc hsz _).grown hgrow (by simp; omega) (fun b e => (GM4.out.own.lt b e).1)⟩; clear hown1 hgrow)
            go_roundg (len - (k + 1))
            case measure => omega
            case rel => exact ⟨k + 1, by omega, rfl, by go_num, HN2⟩
        · have hkl := Lib.hid (show k = len by omega)
          go_wp2_with fail
          go_meet
          have := hkl.out
          subst this
          exact HI
    case rest =>
      generalize wc = wz at *
      obtain ⟨D, hD⟩ : ∃ D : Nat → CallD, (fun i => norm (C i)) = D := ⟨_, rfl⟩
      have HDN : Hid (∀ i, Normal (D i)) := fun i => by rw [← hD]; exact norm_normal (C i) (HN.out i)
      have HDn : Hid (∀ i, (D i).n < 18446744073709551616) := fun i => by rw [← hD]; exact norm_n (C i) (HN.out i)
      have htt : tot D len ≤ 5000 := by rw [← hD, tot_norm]; exact h2
      rw [hD] at hcut
      obtain ⟨a1, c1, rfl, hcd⟩ := own_calls hcut.out.own
      have HD := Lib.hid hcd
      have HBc := Lib.hid (HB1.out.trans (hcut.out.bel.mono hs1))
      have hsc : w.heap.size ≤ wz.heap.size := HBc.out.size
      clear hcd hcut HS HN HC1 HB1 h2 hs1 hD
      have HW2 := Lib.hid (Wr.new wz)
      have HC2 := Lib.hid (HD.out.below ((Below.refl _ _).alloc (w := wz) (Nat.le_refl _) (.cells #[.slice none 0 0] 35)))
      have HB2 := Lib.hid (HBc.out.alloc hsc (.cells #[.slice none 0 0] 35))
      have HZ2 := Lib.hid (show (wz.alloc (.cells #[.slice none 0 0] 35)).heap.size = wz.heap.size + 1 by simp)
      clear HD HBc
      go_wp2_with fail
      generalize wz.alloc (.cells #[.slice none 0 0] 35) = w2 at *
      refine (write_any wz.heap.size (wz.heap.size + 1) [] a1 len c1 D w2 HW2.out HC2.out (by simp; omega) HDn.out).mono ?_
      rintro e w3 ⟨rfl, hw3, hk3⟩
      rw [List.nil_append] at hw3
      have hz2 : w2.heap.size = wz.heap.size + 1 := HZ2.out
      have HB3 := Lib.hid (HB2.out.trans ((hk3.mono (T := fun k => w.heap.size ≤ k) fun k _ h => by omega).below (by omega)))
      have HC3 := Lib.hid (HC2.out.kb hk3 (by omega) (fun j hj => by omega))
      have HW3 := Lib.hid hw3
      have hs3 := hk3.size
      have hs4 : wz.heap.size ≤ w3.heap.size := by omega
      have hs5 : w.heap.size ≤ w3.heap.size := by omega
      have HPL := Lib.hid (pieces_le D len)
      clear hw3 hk3 HW2 HC2 HB2 HZ2 hz2 hs3
      go_wp2_with fail
      refine (wstring_any wz.heap.size _ (pieces D len) w3 HW3.out).mono ?_
      rintro e w5 ⟨rfl, rfl⟩
      have HCW := Lib.hid (cut_whole D len)
      have hps : (⟨(pieces D len).toArray⟩ : ByteArray).size = offs D len := (cut_whole D len).size
      have HCP : Hid (∀ c, c ≤ offs D len → Cut D len c ((⟨(pieces D len).toArray⟩ : ByteArray).extract 0 c)) := fun c hc => cut_part D len c hc
      have hofl : offs D len ≤ 10000 := by have h := HPL.out; unfold offs; omega
      generalize (⟨(pieces D len).toArray⟩ : ByteArray) = PS at *
      have hps' : PS.size ≤ 10000 := by omega
      have HPS := Lib.hid hps
      clear hps HW3 HPL
      have HST := Lib.hid (st_whole HCW.out HDN.out)
      go_wp2_with fail
      refine (told_any PS a1 len c1 D w3 (HC3.out.le hs4) (by unfold maxLen; omega) (by omega)).mono ?_
      rintro e w4 ⟨v1, B1, hB1, rfl, ho1, hb4⟩
      rw [HST.out] at ho1 ⊢
      have hlr : ((List.range len).map (good D (offs D len))).length = len := by simp
      simp only [hlr] at ho1
      obtain ⟨va, vc, rfl⟩ := own_len ho1
      have HO1 := Lib.hid ho1
      have HC4 := Lib.hid (HC3.out.below (hb4.mono hs4))
      have HB4 := Lib.hid (HB3.out.trans (hb4.mono hs5))
      have hs6 := hb4.size
      clear ho1 hb4 HC3 HB3 hlr HST
      rw [show errOf ⟨(List.range len).map (good D (offs D len)), offs D len, none⟩ = 0 from rfl]
      have hll : ((len : Int) != len) = false := by simp
      go_upto_block 3 with (fail)
      go_cut [12] (fun i wx => Hid (∃ n, wx = w4.drewN n))
      case first =>
        go_wp2_with fail
        go_loopg [12] len (fun g i wr => ∃ k n : Nat, k ≤ len ∧ g = len - k ∧ i = .int .i64 k ∧ wr = w4.drewN n)
        case atStart => exact ⟨0, 0, Nat.zero_le _, rfl, rfl, rfl⟩
        case round =>
          obtain ⟨k, n, hk, rfl, rfl, rfl⟩ := hrel
          by_cases hlt : k < len
          · obtain h0 | ⟨cb, off, rfl, hcb, hc⟩ := HC4.out
            · omega
            have c0 := (hc k hlt).c0
            have c2 := (hc k hlt).c2
            have c3 := (hc k hlt).c3
            obtain ⟨g1, q1, eg, _⟩ := World.ownsRow.form HO1.out (by omega)
            simp at eg
            obtain ⟨rfl, rfl⟩ := eg
            obtain ⟨x0, x1, x2, x3⟩ := own_good HO1.out k hlt
            have hk0 : (0 : Int) ≤ (k : Int) := by omega
            have hk1 : (k : Int) < (len : Int) := by omega
            have gn : (D k).kind ≤ 3 → (good D (offs D len) k).n = (D k).n := fun h => if_pos h
            have gs : ¬ (D k).kind ≤ 3 → (good D (offs D len) k).s = (D k).s := fun h => if_neg h
            clear hc
            by_cases q3 : (D k).kind ≤ 3
            · rw [gn q3] at x0
              have d4 : decide ((D k).kind < 4) = true := by simp; omega
              have t4 : ((D k).kind == 4) = false := by simp; omega
              have nn : (((D k).n : Int) != (D k).n) = false := by simp
              clear gn gs x1 x2 x3
              generalize (D k).kind = kd at *
              generalize (D k).n = dn at *
              go_wp2_with fail
              go_quiet (fail)
              go_wp2_with fail
              go_roundg (len - (k + 1))
              case measure => omega
              case rel => exact ⟨k + 1, n + nq, by omega, rfl, by go_num, rfl⟩
            · have hN := HDN.out k
              have k4 : (D k).kind = 4 := by rcases hN with h | h; omega; exact h.1
              rw [gs q3] at x1
              have d4 : decide ((D k).kind < 4) = false := by simp; omega
              have t4 : ((D k).kind == 4) = true := by simp [k4]
              clear gn gs x0 x2 x3 q3 k4 hN
              generalize (D k).kind = kd at *
              generalize (D k).s = ds at *
              go_wp2_with fail
              go_quiet (fail)
              go_wp2_with fail
              go_roundg (len - (k + 1))
              case measure => omega
              case rel => exact ⟨k + 1, n + nq, by omega, rfl, by go_num, rfl⟩
          · go_wp2_with fail
            go_meet
            exact ⟨n, rfl⟩
      case rest =>
        obtain ⟨n4, hn4⟩ := hcut.out
        have HO5 : Hid (wc.ownsRow B1 46 4 (.slice va len vc) len (ansCells ((List.range len).map (good D (offs D len))))) := by rw [hn4]; exact HO1.out
        have HC5 : Hid (CallsAt wc wz.heap.size a1 len D) := HC4.out.kb (S := fun _ => False) (by rw [hn4]; exact (Kb.refl _ _).drewN n4) (by omega) (fun _ _ f => f)
        have HB5 : Hid (Below w.heap.size w wc) := by rw [hn4]; exact HB4.out.trans ⟨rfl, rfl, rfl, Nat.le_refl _, fun _ _ => rfl⟩
        have hs7 : wz.heap.size ≤ wc.heap.size := by rw [hn4]; show _ ≤ w4.heap.size; omega
        have hs8 : w.heap.size ≤ wc.heap.size := by omega
        have hs9 : w3.heap.size ≤ wc.heap.size := by rw [hn4]; exact hs6
        clear hn4 hcut HO1 HC4 HB4 hs6 hll
        generalize wc = w5 at *
        rcases Nat.eq_zero_or_pos len with h0 | hp
        · subst h0
          have hp0 : PS.size ≤ 0 := by have h := HPS.out; have e : offs D 0 = 0 := rfl; omega
          by_cases q0 : cut < 0
          · go_wp2_with fail
            go_ret
            exact ⟨rfl, HB5.out⟩
          · have q1 : (PS.size : Int) ≤ cut := by omega
            go_wp2_with fail
            go_ret
            exact ⟨rfl, HB5.out⟩
        obtain ⟨g1, q1, eg, hg1, _⟩ := World.ownsRow.form HO5.out hp
        simp at eg
        obtain ⟨rfl, rfl⟩ := eg
        obtain ⟨m, rfl⟩ : ∃ m, len = m + 1 := ⟨len - 1, by omega⟩
        have x3 := (own_good HO5.out m (by omega)).2.2.2
        have hl0 : (good D (offs D (m + 1)) m).left = 0 := Nat.sub_self _
        rw [hl0] at x3
        clear hl0
        simp at x3
        by_cases q0 : cut < 0
        · go_wp2_with fail
          go_ret
          exact ⟨rfl, HB5.out⟩
        by_cases q1 : (PS.size : Int) ≤ cut
        · go_wp2_with fail
          go_ret
          exact ⟨rfl, HB5.out⟩
        obtain ⟨c, rfl⟩ := Int.eq_ofNat_of_zero_le (show 0 ≤ cut by omega)
        have q2 : c < PS.size := by omega
        have hcz : (PS.extract 0 c).size ≤ 10000 := by rw [ByteArray.size_extract]; omega
        have HCC := Lib.hid (HCP.out c (by have h := HPS.out; omega))
        obtain ⟨q, hq, hst⟩ := st_cut HCC.out HDN.out (by have h := HPS.out; omega)
        have HST := Lib.hid hst
        clear hst HCC HCP HCW HPS q0 q1
        go_wp2_with fail
        refine (told_any (PS.extract 0 c) a1 (m + 1) c1 D w5 (HC5.out.le hs7) (by unfold maxLen; omega) (by omega)).mono ?_
        rintro e w6 ⟨v2, B2, hB2, rfl, ho2, hb6⟩
        rw [HST.out] at ho2 ⊢
        have hlr : ((List.range q).map (good D c)).length = q := by simp
        simp only [hlr] at ho2
        obtain ⟨vb, vd, rfl⟩ := own_len ho2
        have HO2 := Lib.hid ho2
        have HO6 := Lib.hid (own_below HO5.out hb6)
        have HB6 := Lib.hid (HB5.out.trans (hb6.mono hs8))
        rw [show errOf ⟨(List.range q).map (good D c), offs D q, some 2⟩ = 2 from rfl]
        clear ho2 hb6 HO5 HC5 HB5 hlr HST x3
        have hqm : ¬ m + 1 ≤ q := by omega
        go_wp2_with fail
        go_loopg [15] q (fun g i wr => ∃ k n : Nat, k ≤ q ∧ g = q - k ∧ i = .int .i64 k ∧ wr = w6.drewN n)
        case atStart => exact ⟨0, 0, Nat.zero_le _, rfl, rfl, rfl⟩
        case round =>
          obtain ⟨k, n, hk, rfl, rfl, rfl⟩ := hrel
          by_cases hlt : k < q
          · obtain ⟨g2, q2, eg, _⟩ := World.ownsRow.form HO2.out (by omega)
            simp at eg
            obtain ⟨rfl, rfl⟩ := eg
            obtain ⟨x0, x1, x2, _⟩ := own_good HO6.out k (by omega)
            obtain ⟨y0, y1, y2, _⟩ := own_good HO2.out k hlt
            have gn : (good D c k).n = (good D (offs D (m + 1)) k).n := rfl
            have gs : (good D c k).s = (good D (offs D (m + 1)) k).s := rfl
            have gp : (good D c k).pos = (good D (offs D (m + 1)) k).pos := rfl
            rw [gn] at y0
            rw [gs] at y1
            rw [gp] at y2
            clear gn gs gp
            generalize good D (offs D (m + 1)) k = ga at *
            have hk0 : (0 : Int) ≤ (k : Int) := by omega
            have hk1 : (k : Int) < (q : Int) := by omega
            have hk2 : (k : Int) < ((m + 1 : Nat) : Int) := by omega
            have hk3 : (k : Int) < (m : Int) + 1 := by omega
            have b1 : ((ga.n : Int) != ga.n) = false := by simp
            have b2 : ((ga.pos : Int) != ga.pos) = false := by simp
            go_wp2_with fail
            go_quiet (fail)
            go_wp2_with fail
            go_roundg (q - (k + 1))
            case measure => omega
            case rel => exact ⟨k + 1, n + nq, by omega, rfl, by go_num, rfl⟩
          · go_wp2_with fail
            go_ret
            exact ⟨rfl, HB6.out.trans ⟨rfl, rfl, rfl, Nat.le_refl _, fun _ _ => rfl⟩⟩

end Go.Proofs.Ytgpknkfdchiidaa
