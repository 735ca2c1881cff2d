/-
  The document's own answer to what any calls tell of a text.
-/
import Derived.Test.YtgpknkfdchiidaaRead5
namespace Go.Proofs.Ytgpknkfdchiidaa
open Go.RowKit
set_option linter.unusedVariables false

theorem val_step (t : ByteArray) (q : Nat) (hq : q < t.size) (h8 : t.size ≤ 8) :
    IntKind.u64.wrap (IntKind.u64.wrap (((val (t.data.toList.take q) : Nat) : Int) * 256) + IntKind.u64.wrap ((t[q]'hq).toNat : Int)) = ((val (t.data.toList.take (q + 1)) : Nat) : Int) := by
  have h1 := val_lt q (t.data.toList.take q) (by simp; omega)
  have h2 := pow256 q (by omega)
  have h3 := (t[q]'hq).toNat_lt
  have e : val (t.data.toList.take (q + 1)) = val (t.data.toList.take q) * 256 + (t[q]'hq).toNat := by
    rw [List.take_succ_eq_append_getElem (by simpa using hq), val_snoc]; rfl
  rw [e, wrap_u64 ((t[q]'hq).toNat : Int) (by omega) (by omega), wrap_u64 (((val (t.data.toList.take q) : Nat) : Int) * 256) (by omega) (by omega), wrap_u64 _ (by omega) (by omega)]
  omega

set_option maxHeartbeats 400000 in
theorem value_any (t : ByteArray) (w : World) (ht : t.size ≤ 8) :
    Calls Try.prog 35 #[.string t] w fun e w' => e = .returned (.int .u64 (val t.data.toList)) ∧ w = w' := by
  go_enter Try.func35, Try.ntmps35
  go_wp2_with fail
  go_loop [3, 4] (fun n i => ∃ q : Nat, q ≤ t.size ∧ i = .int .i64 q ∧ n = .int .u64 (val (t.data.toList.take q))) (fun _ i => t.size - (intOf i).toNat)
  case atStart => exact ⟨0, Nat.zero_le _, rfl, rfl⟩
  case round =>
    obtain ⟨q, hq, rfl, rfl⟩ := hrel
    by_cases hlt : q < t.size
    · have HV := Lib.hid (val_step t q hlt ht)
      go_wp2
      exact ⟨⟨q + 1, by omega, by go_num, by rw [HV.out]⟩, by simp [intOf]; omega⟩
    · have hkl := Lib.hid (show t.data.toList.take q = t.data.toList from List.take_of_length_le (by simp; exact Nat.le_of_not_lt hlt))
      go_wp2
      go_ret
      exact ⟨by rw [hkl.out]; rfl, rfl⟩


/-- The memory in a round: the new answer's variable A. -/
structure Fm (w wx : World) (A : Nat) (v : Value) (ans : List AnsD) (xs : Array Value) : Prop where
  own : wx.ownsRow w.heap.size 46 4 v ans.length (ansCells ans)
  a : Blk wx A xs 46
  bel : Below w.heap.size w wx
  lA : w.heap.size ≤ A
  nA : v.ownBlock ≠ some A

theorem Fm.set {w wx : World} {A : Nat} {v : Value} {ans : List AnsD} {xs : Array Value} (h : Fm w wx A v ans xs) (i : Nat) (x : Value) : Fm w (wx.setCell ⟨A, i, none⟩ x) A v ans (xs.setIfInBounds i x) :=
  ⟨h.own.kept (row := some A) ⟨rfl, rfl, rfl, by simp [World.setCell], fun k hk hne => Below.heap_setCell _ _ _ _ (fun e => hne (by rw [e]))⟩ (Or.inr h.nA), h.a.set i x, h.bel.setCell (p := ⟨A, i, none⟩) h.lA x, h.lA, h.nA⟩
theorem Fm.new {w wr : World} {v : Value} {ans : List AnsD} (own : wr.ownsRow w.heap.size 46 4 v ans.length (ansCells ans)) (bel : Below w.heap.size w wr) (ys xs : Array Value) (T : TypeId) :
    Fm w ((wr.alloc (.cells ys T)).alloc (.cells xs 46)) (wr.heap.size + 1) v ans xs := by
  have hs := bel.size
  refine ⟨(own.alloc _).alloc _, ?_, (bel.alloc hs _).alloc (by simp; omega) _, by omega, fun e => ?_⟩
  · have := Blk.new (wr.alloc (.cells ys T)) xs 46
    rw [show (wr.alloc (.cells ys T)).heap.size = wr.heap.size + 1 from by simp] at this
    exact this
  · have := (own.lt _ e).2
    omega

/-- At a round's head. -/
structure FInv (w wr : World) (s : ByteArray) (v : Value) (C : Nat → CallD) (k : Nat) : Prop where
  go : (st s C k).err = none
  own : wr.ownsRow w.heap.size 46 4 v (st s C k).ans.length (ansCells (st s C k).ans)
  bel : Below w.heap.size w wr

theorem extract_nil (s : ByteArray) (i : Nat) : s.extract i i = ⟨#[]⟩ := by
  apply ByteArray.ext
  rw [ByteArray.data_extract]
  apply Array.eq_empty_of_size_eq_zero
  rw [Array.size_extract]
  omega

theorem value_num (s : ByteArray) (i z : Nat) (w : World) (hi : i + z ≤ s.size) (hz : z ≤ 8) :
    Calls Try.prog 35 #[.string (s.extract i (i + z))] w fun e w' => e = .returned (.int .u64 (numOf s i z)) ∧ w = w' :=
  value_any (s.extract i (i + z)) w (by rw [ByteArray.size_extract]; omega)

theorem fm_num {w w0 : World} {A : Nat} {v : Value} {ans : List AnsD} (h : Fm w w0 A v ans #[.int .u64 0, .string ⟨#[]⟩, .int .i64 0, .int .i64 0]) (n : Nat) (p q : Int) (pn qn : Nat) (hp : p = pn) (hq : q = qn) :
    Fm w (((w0.setCell ⟨A, 0, none⟩ (.int .u64 n)).setCell ⟨A, 2, none⟩ (.int .i64 p)).setCell ⟨A, 3, none⟩ (.int .i64 q)) A v ans #[.int .u64 n, .string ⟨#[]⟩, .int .i64 pn, .int .i64 qn] := by
  subst hp hq
  simpa using ((h.set 0 (.int .u64 n)).set 2 (.int .i64 pn)).set 3 (.int .i64 qn)
theorem fm_str {w w0 : World} {A : Nat} {v : Value} {ans : List AnsD} (h : Fm w w0 A v ans #[.int .u64 0, .string ⟨#[]⟩, .int .i64 0, .int .i64 0]) (x : ByteArray) (p q : Int) (pn qn : Nat) (hp : p = pn) (hq : q = qn) :
    Fm w (((w0.setCell ⟨A, 1, none⟩ (.string x)).setCell ⟨A, 2, none⟩ (.int .i64 p)).setCell ⟨A, 3, none⟩ (.int .i64 q)) A v ans #[.int .u64 0, .string x, .int .i64 pn, .int .i64 qn] := by
  subst hp hq
  simpa using ((h.set 1 (.string x)).set 2 (.int .i64 pn)).set 3 (.int .i64 qn)
theorem size_le8 (kd : Int) : sizeOf' kd ≤ 8 := by unfold sizeOf'; split; omega; split; omega; split; omega; omega
theorem size_z (kd : Int) (z : Nat) (w : World) (h : sizeOf' kd = z) : Calls Try.prog 18 #[.int .i64 kd] w fun e w' => e = .returned (.int .i64 z) ∧ w = w' := h ▸ size_any kd w

theorem finv_next {w w6 : World} {s : ByteArray} {x : Value} {C : Nat → CallD} {k : Nat} {ad : AnsD} (hg : (st s C k).err = none) (hs : step s (C k) (st s C k).pos = .ans ad)
    (hown : w6.ownsRow w.heap.size 46 4 x ((st s C k).ans.length + 1) (ansCells (st s C k).ans ++ ansCell ad)) (hb : Below w.heap.size w w6) : FInv w w6 s x C (k + 1) := by
  have e := st_ans hg hs
  refine ⟨by rw [e], ?_, hb⟩
  rw [e, ansCells_snoc, List.length_append, List.length_singleton]
  exact hown

theorem fstop_end {w wr : World} {s : ByteArray} {v : Value} {C : Nat → CallD} {k len : Nat} {e : Int} (hg : (st s C k).err = none) (hown : wr.ownsRow w.heap.size 46 4 v (st s C k).ans.length (ansCells (st s C k).ans)) (hb : Below w.heap.size w wr)
    (hs : step s (C k) (st s C k).pos = .stop e) (hk : k < len) : Told (st s C len) w (.returned (.tuple #[v, .int .i64 e])) wr := by
  rw [st_end hg hs hk]
  exact ⟨v, _, Nat.le_refl _, rfl, hown, hb⟩

set_option maxRecDepth 100000 in
set_option maxHeartbeats 4000000 in
theorem ref_any (s : ByteArray) (a : Option Addr) (len cap : Nat) (C : Nat → CallD) (w : World) (hC : CallsAt w w.heap.size a len C) (hs : s.size ≤ maxLen) (hl : len ≤ 1000) :
    Calls Try.prog 12 #[.string s, .slice a len cap] w (Told (st s C len) w) := by
  obtain ⟨i0, hi0, hz0, hz1, hz2⟩ := info_parts Try.info46
  have HC := Lib.hid hC
  have H0 : Hid (FInv w w s (.slice none 0 0) C 0) := ⟨rfl, World.ownsRow_nil _ _ _ _, Below.refl _ _⟩
  have hs' := hs
  unfold maxLen at hs'
  clear hC
  go_enter Try.func12, Try.ntmps12
  go_wp2_with fail
  go_loopg [6, 7, 8] len (fun g o p i wr => ∃ (k : Nat), k ≤ len ∧ g = len - k ∧ i = .int .i64 k ∧ p = .int .i64 (st s C k).pos ∧ Hid (FInv w wr s o C k))
  case atStart => exact ⟨0, Nat.zero_le _, rfl, rfl, rfl, H0⟩
  case round =>
    obtain ⟨k, hk, rfl, rfl, rfl, HI⟩ := hrel
    by_cases hlt : k < len
    · obtain h0 | ⟨cb, off, rfl, hcb, hc⟩ := HC.out
      · omega
      have hcw : CallAt wr cb (off + k * 4) (C k) := (hc k hlt).block (HI.out.bel.block cb hcb)
      have c0 := hcw.c0
      have c1 := hcw.c1
      have c2 := hcw.c2
      have c3 := hcw.c3
      have hpos := st_pos s C k
      have hlen := st_length s C k
      have HG := Lib.hid HI.out.go
      have FM := Lib.hid (Fm.new HI.out.own HI.out.bel #[.int .i64 (C k).kind, .int .i64 (C k).k, .int .u64 (C k).n, .string (C k).s] #[.int .u64 0, .string ⟨#[]⟩, .int .i64 0, .int .i64 0] 43)
      have FB : Hid (Blk ((wr.alloc (.cells #[.int .i64 (C k).kind, .int .i64 (C k).k, .int .u64 (C k).n, .string (C k).s] 43)).alloc (.cells #[.int .u64 0, .string ⟨#[]⟩, .int .i64 0, .int .i64 0] 46)) wr.heap.size #[.int .i64 (C k).kind, .int .i64 (C k).k, .int .u64 (C k).n, .string (C k).s] 43) := (Blk.new wr _ _).alloc _
      clear hc hcw HI H0
      go_upto_block 2 with (fail)
      clear c0 c1 c2 c3
      generalize (wr.alloc (.cells #[.int .i64 (C k).kind, .int .i64 (C k).k, .int .u64 (C k).n, .string (C k).s] 43)).alloc (.cells #[.int .u64 0, .string ⟨#[]⟩, .int .i64 0, .int .i64 0] 46) = w0 at *
      have c0 := FB.out.cell 0
      have c1 := FB.out.cell 1
      have c2 := FB.out.cell 2
      simp at c0 c1 c2
      generalize wr.heap.size = Cb at *
      have a0 := FM.out.a.cell 0
      have a1 := FM.out.a.cell 1
      have a2 := FM.out.a.cell 2
      have a3 := FM.out.a.cell 3
      have f0 := FM.out.a.frozen 0
      have f1 := FM.out.a.frozen 1
      have f2 := FM.out.a.frozen 2
      have f3 := FM.out.a.frozen 3
      simp at a0 a1 a2 a3
      by_cases hn : 0 ≤ (C k).kind ∧ (C k).kind ≤ 3
      · have h8 := size_le8 (C k).kind
        by_cases hq : (st s C k).pos + sizeOf' (C k).kind ≤ s.size
        · have HS := Lib.hid (step_num s (C k) (st s C k).pos (sizeOf' (C k).kind) hn.1 hn.2 rfl hq)
          obtain ⟨n0, n3⟩ := hn
          generalize hz : sizeOf' (C k).kind = z at *
          have HZ := Lib.hid hz
          clear hz
          generalize (C k).kind = kd at *
          go_upto_region 26 with (first | (go_at_call 18; refine (size_z _ z _ HZ.out).mono ?_; rintro e w' ⟨rfl, rfl⟩) | (go_at_call 35; refine (value_num s (st s C k).pos z _ hq h8).mono ?_; rintro e w' ⟨rfl, rfl⟩))
          have FM4 := Lib.hid (fm_num FM.out (numOf s (st s C k).pos z) ((st s C k).pos + z : Int) ((s.size : Int) - ((st s C k).pos + z)) ((st s C k).pos + z) (s.size - ((st s C k).pos + z)) (by omega) (by omega))
          clear a0 a1 a2 a3 f0 f1 f2 f3 c0 c1 c2
          generalize hW4 : World.setCell _ ⟨Cb + 1, 3, none⟩ _ = w4 at *
          clear hW4
          have cA0 := FM4.out.a.cell 0
          have cA1 := FM4.out.a.cell 1
          have cA2 := FM4.out.a.cell 2
          have cA3 := FM4.out.a.cell 3
          simp at cA0 cA1 cA2 cA3
          have hsz := FM4.out.bel.size
          go_wp2_with (at_builtin; refine wpList_append_lies _ rfl _ _ _ rfl w.heap.size 46 i0 _ 4 40 Try.underlying25 hi0 hz0 hz1 hz2 rfl (by omega) u6 (st s C k).ans.length (ansCells (st s C k).ans) rfl (FM4.out.own.alloc _) ⟨w4.heap.size, 0, none⟩ 1 1 (ansCell ⟨numOf s (st s C k).pos z, ⟨#[]⟩, (st s C k).pos + z, s.size - ((st s C k).pos + z)⟩) rfl rfl (World.news_of_block (cs := #[.int .u64 (numOf s (st s C k).pos z : Nat), .string ⟨#[]⟩, .int .i64 (((st s C k).pos + z : Nat) : Int), .int .i64 ((s.size - ((st s C k).pos + z) : Nat) : Int)]) (t := 46) (fr := (0, 0)) (heap_alloc_new w4 _)) (by simp [ansCell, Value.oneCell']) (by omega) (by unfold maxLen; omega) (by omega) (by simp; omega) (w4.heap.size + 1) (by simp) ?_; intro g cp w5 hown1 hgrow hat hlt1; have HN := Lib.hid (finv_next HG.out HS.out hown1 ((FM4.out.bel.alloc hsz _).grown hgrow (by simp; omega) (fun b e => (FM4.out.own.lt b e).1))); clear hown1 hgrow)
          go_roundg (len - (k + 1))
          case measure => omega
          case rel => exact ⟨k + 1, by omega, rfl, by go_num, by rw [st_ans HG.out HS.out]; go_num, HN⟩
        · have HS := Lib.hid (step_num_no s (C k) (st s C k).pos (sizeOf' (C k).kind) hn.1 hn.2 rfl (by omega))
          obtain ⟨n0, n3⟩ := hn
          generalize hz : sizeOf' (C k).kind = z at *
          have HZ := Lib.hid hz
          clear hz
          generalize (C k).kind = kd at *
          go_wp2_with (go_at_call 18; refine (size_z _ z _ HZ.out).mono ?_; rintro e w' ⟨rfl, rfl⟩)
          go_ret2
          exact fstop_end HG.out FM.out.own FM.out.bel HS.out hlt
      by_cases k4 : (C k).kind = 4
      · have t4 : ((C k).kind == 4) = true := by simp [k4]
        have n3 : 3 < (C k).kind := by omega
        by_cases hq : (C k).k < 0 ∨ (s.size : Int) - (st s C k).pos < (C k).k
        · have HS := Lib.hid (step_take_no s (C k) (st s C k).pos k4 hq)
          clear hn k4
          generalize (C k).kind = kd at *
          generalize (C k).k = kk at *
          by_cases hk0 : kk < 0
          · clear hq
            go_wp2_with fail
            go_ret2
            exact fstop_end HG.out FM.out.own FM.out.bel HS.out hlt
          · have hq2 : (s.size : Int) - (st s C k).pos < kk := by omega
            clear hq
            go_wp2_with fail
            go_ret2
            exact fstop_end HG.out FM.out.own FM.out.bel HS.out hlt
        · have HS := Lib.hid (step_take s (C k) (st s C k).pos k4 (by omega) (by omega))
          clear hn k4
          generalize (C k).kind = kd at *
          generalize (C k).k = kk at *
          obtain ⟨m, rfl⟩ := Int.eq_ofNat_of_zero_le (show 0 ≤ kk by omega)
          rw [Int.toNat_natCast] at HS
          have hq0 : (m : Int) ≤ (s.size : Int) - (st s C k).pos := by omega
          have hq1 : (st s C k).pos + m ≤ s.size := by omega
          clear hq
          go_upto_region 26 with (fail)
          have FM4 := Lib.hid (fm_str FM.out (s.extract (st s C k).pos ((st s C k).pos + m)) ((st s C k).pos + m : Int) ((s.size : Int) - ((st s C k).pos + m)) ((st s C k).pos + m) (s.size - ((st s C k).pos + m)) (by omega) (by omega))
          clear a0 a1 a2 a3 f0 f1 f2 f3 c0 c1 c2
          generalize hW4 : World.setCell _ ⟨Cb + 1, 3, none⟩ _ = w4 at *
          clear hW4
          have cA0 := FM4.out.a.cell 0
          have cA1 := FM4.out.a.cell 1
          have cA2 := FM4.out.a.cell 2
          have cA3 := FM4.out.a.cell 3
          simp at cA0 cA1 cA2 cA3
          have hsz := FM4.out.bel.size
          go_wp2_with (at_builtin; refine wpList_append_lies _ rfl _ _ _ rfl w.heap.size 46 i0 _ 4 40 Try.underlying25 hi0 hz0 hz1 hz2 rfl (by omega) u6 (st s C k).ans.length (ansCells (st s C k).ans) rfl (FM4.out.own.alloc _) ⟨w4.heap.size, 0, none⟩ 1 1 (ansCell ⟨0, s.extract (st s C k).pos ((st s C k).pos + m), (st s C k).pos + m, s.size - ((st s C k).pos + m)⟩) rfl rfl (World.news_of_block (cs := #[.int .u64 (0 : Nat), .string (s.extract (st s C k).pos ((st s C k).pos + m)), .int .i64 (((st s C k).pos + m : Nat) : Int), .int .i64 ((s.size - ((st s C k).pos + m) : Nat) : Int)]) (t := 46) (fr := (0, 0)) (heap_alloc_new w4 _)) (by simp [ansCell, Value.oneCell']) (by omega) (by unfold maxLen; omega) (by omega) (by simp; omega) (w4.heap.size + 1) (by simp) ?_; intro g cp w5 hown1 hgrow hat hlt1; have HN := Lib.hid (finv_next HG.out HS.out hown1 ((FM4.out.bel.alloc hsz _).grown hgrow (by simp; omega) (fun b e => (FM4.out.own.lt b e).1))); clear hown1 hgrow)
          go_roundg (len - (k + 1))
          case measure => omega
          case rel => exact ⟨k + 1, by omega, rfl, by go_num, by rw [st_ans HG.out HS.out]; go_num, HN⟩
      by_cases k5 : (C k).kind = 5
      · have t5 : ((C k).kind == 5) = true := by simp [k5]
        have t4 : ((C k).kind == 4) = false := by simp [k4]
        have n3 : 3 < (C k).kind := by omega
        have HS := Lib.hid (step_rest s (C k) (st s C k).pos k5)
        clear hn k4 k5
        generalize (C k).kind = kd at *
        go_upto_region 26 with (fail)
        have FM4 := Lib.hid (fm_str FM.out (s.extract (st s C k).pos s.size) ((st s C k).pos + ((s.size : Int) - (st s C k).pos)) ((s.size : Int) - ((st s C k).pos + ((s.size : Int) - (st s C k).pos))) s.size 0 (by omega) (by omega))
        clear a0 a1 a2 a3 f0 f1 f2 f3 c0 c1 c2
        generalize hW4 : World.setCell _ ⟨Cb + 1, 3, none⟩ _ = w4 at *
        clear hW4
        have cA0 := FM4.out.a.cell 0
        have cA1 := FM4.out.a.cell 1
        have cA2 := FM4.out.a.cell 2
        have cA3 := FM4.out.a.cell 3
        simp at cA0 cA1 cA2 cA3
        have hsz := FM4.out.bel.size
        go_wp2_with (at_builtin; refine wpList_append_lies _ rfl _ _ _ rfl w.heap.size 46 i0 _ 4 40 Try.underlying25 hi0 hz0 hz1 hz2 rfl (by omega) u6 (st s C k).ans.length (ansCells (st s C k).ans) rfl (FM4.out.own.alloc _) ⟨w4.heap.size, 0, none⟩ 1 1 (ansCell ⟨0, s.extract (st s C k).pos s.size, s.size, 0⟩) rfl rfl (World.news_of_block (cs := #[.int .u64 (0 : Nat), .string (s.extract (st s C k).pos s.size), .int .i64 (s.size : Int), .int .i64 ((0 : Nat) : Int)]) (t := 46) (fr := (0, 0)) (heap_alloc_new w4 _)) (by simp [ansCell, Value.oneCell']) (by omega) (by unfold maxLen; omega) (by omega) (by simp; omega) (w4.heap.size + 1) (by simp) ?_; intro g cp w5 hown1 hgrow hat hlt1; have HN := Lib.hid (finv_next HG.out HS.out hown1 ((FM4.out.bel.alloc hsz _).grown hgrow (by simp; omega) (fun b e => (FM4.out.own.lt b e).1))); clear hown1 hgrow)
        go_roundg (len - (k + 1))
        case measure => omega
        case rel => exact ⟨k + 1, by omega, rfl, by go_num, by rw [st_ans HG.out HS.out]; go_num, HN⟩
      have t5 : ((C k).kind == 5) = false := by simp [k5]
      have t4 : ((C k).kind == 4) = false := by simp [k4]
      have n3 : (C k).kind < 0 ∨ 5 < (C k).kind := by omega
      by_cases hq : (C k).n % 2 = 1
      · have HS := Lib.hid (step_need_no s (C k) (st s C k).pos n3 hq)
        have hb : (((C k).n : Int) % 2 == 1) = true := by simp; omega
        clear hn k4 k5 hq
        generalize (C k).kind = kd at *
        by_cases hk0 : kd < 0
        · clear n3
          go_wp2_with fail
          go_quiet (fail)
          go_wp2_with fail
          go_ret2
          exact fstop_end HG.out FM.out.own (FM.out.bel.trans ⟨rfl, rfl, rfl, Nat.le_refl _, fun _ _ => rfl⟩) HS.out hlt
        · have n5 : 5 < kd := by omega
          clear n3
          go_wp2_with fail
          go_quiet (fail)
          go_wp2_with fail
          go_ret2
          exact fstop_end HG.out FM.out.own (FM.out.bel.trans ⟨rfl, rfl, rfl, Nat.le_refl _, fun _ _ => rfl⟩) HS.out hlt
      · have HS := Lib.hid (step_need s (C k) (st s C k).pos n3 hq)
        have hb : (((C k).n : Int) % 2 == 1) = false := by simp; omega
        clear hn k4 k5 hq
        generalize (C k).kind = kd at *
        by_cases hk0 : kd < 0
        · clear n3
          go_upto_region 26 with (fail)
          rw [show ByteArray.empty = (⟨#[]⟩ : ByteArray) from rfl]
          have FM4 := Lib.hid (fm_str FM.out ⟨#[]⟩ ((st s C k).pos : Int) ((s.size : Int) - (st s C k).pos) (st s C k).pos (s.size - (st s C k).pos) rfl (by omega))
          clear a0 a1 a2 a3 f0 f1 f2 f3 c0 c1 c2
          generalize hW4 : World.setCell _ ⟨Cb + 1, 3, none⟩ _ = w4 at *
          clear hW4
          have cA0 := FM4.out.a.cell 0
          have cA1 := FM4.out.a.cell 1
          have cA2 := FM4.out.a.cell 2
          have cA3 := FM4.out.a.cell 3
          simp at cA0 cA1 cA2 cA3
          have hsz := FM4.out.bel.size
          go_wp2_with (at_builtin; refine wpList_append_lies _ rfl _ _ _ rfl w.heap.size 46 i0 _ 4 40 Try.underlying25 hi0 hz0 hz1 hz2 rfl (by omega) u6 (st s C k).ans.length (ansCells (st s C k).ans) rfl (FM4.out.own.alloc _) ⟨w4.heap.size, 0, none⟩ 1 1 (ansCell ⟨0, ⟨#[]⟩, (st s C k).pos, s.size - (st s C k).pos⟩) rfl rfl (World.news_of_block (cs := #[.int .u64 (0 : Nat), .string ⟨#[]⟩, .int .i64 ((st s C k).pos : Int), .int .i64 ((s.size - (st s C k).pos : Nat) : Int)]) (t := 46) (fr := (0, 0)) (heap_alloc_new w4 _)) (by simp [ansCell, Value.oneCell']) (by omega) (by unfold maxLen; omega) (by omega) (by simp; omega) (w4.heap.size + 1) (by simp) ?_; intro g cp w5 hown1 hgrow hat hlt1; have HN := Lib.hid (finv_next HG.out HS.out hown1 ((FM4.out.bel.alloc hsz _).grown hgrow (by simp; omega) (fun b e => (FM4.out.own.lt b e).1))); clear hown1 hgrow)
          go_roundg (len - (k + 1))
          case measure => omega
          case rel => exact ⟨k + 1, by omega, rfl, by go_num, by rw [st_ans HG.out HS.out], HN⟩
        · have n5 : 5 < kd := by omega
          clear n3
          go_upto_region 26 with (fail)
          rw [show ByteArray.empty = (⟨#[]⟩ : ByteArray) from rfl]
          have FM4 := Lib.hid (fm_str FM.out ⟨#[]⟩ ((st s C k).pos : Int) ((s.size : Int) - (st s C k).pos) (st s C k).pos (s.size - (st s C k).pos) rfl (by omega))
          clear a0 a1 a2 a3 f0 f1 f2 f3 c0 c1 c2
          generalize hW4 : World.setCell _ ⟨Cb + 1, 3, none⟩ _ = w4 at *
          clear hW4
          have cA0 := FM4.out.a.cell 0
          have cA1 := FM4.out.a.cell 1
          have cA2 := FM4.out.a.cell 2
          have cA3 := FM4.out.a.cell 3
          simp at cA0 cA1 cA2 cA3
          have hsz := FM4.out.bel.size
          go_wp2_with (at_builtin; refine wpList_append_lies _ rfl _ _ _ rfl w.heap.size 46 i0 _ 4 40 Try.underlying25 hi0 hz0 hz1 hz2 rfl (by omega) u6 (st s C k).ans.length (ansCells (st s C k).ans) rfl (FM4.out.own.alloc _) ⟨w4.heap.size, 0, none⟩ 1 1 (ansCell ⟨0, ⟨#[]⟩, (st s C k).pos, s.size - (st s C k).pos⟩) rfl rfl (World.news_of_block (cs := #[.int .u64 (0 : Nat), .string ⟨#[]⟩, .int .i64 ((st s C k).pos : Int), .int .i64 ((s.size - (st s C k).pos : Nat) : Int)]) (t := 46) (fr := (0, 0)) (heap_alloc_new w4 _)) (by simp [ansCell, Value.oneCell']) (by omega) (by unfold maxLen; omega) (by omega) (by simp; omega) (w4.heap.size + 1) (by simp) ?_; intro g cp w5 hown1 hgrow hat hlt1; have HN := Lib.hid (finv_next HG.out HS.out hown1 ((FM4.out.bel.alloc hsz _).grown hgrow (by simp; omega) (fun b e => (FM4.out.own.lt b e).1))); clear hown1 hgrow)
          go_roundg (len - (k + 1))
          case measure => omega
          case rel => exact ⟨k + 1, by omega, rfl, by go_num, by rw [st_ans HG.out HS.out], HN⟩
    · have hkl := Lib.hid (show k = len by omega)
      go_wp2_with fail
      go_ret2
      have := hkl.out
      subst this
      exact ⟨_, _, Nat.le_refl _, by unfold errOf; rw [HI.out.go]; rfl, HI.out.own, HI.out.bel⟩

end Go.Proofs.Ytgpknkfdchiidaa
