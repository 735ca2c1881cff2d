/-
  Tick: the walk.
-/
import Derived.Test.YtoijomdgcgbpbaaReasmTick
import Derived.Deep.RegionLaw
import Derived.Test.YtoijomdgcgbpbaaReasmQ
import Derived.Test.YtoijomdgcgbpbaaReasmNew
namespace Go.Proofs.Ytoijomdgcgbpbaa
open Go.RowKit
set_option linter.unusedVariables false

/-- What Tick leaves. -/
def TickEnd (O : Nat → Prop) (w : World) (tb mb E B L clock : Nat) (ms : List M16) (e : Ending) (w' : World) : Prop :=
  ∃ ms', e = .returned (.int .i64 ((ms.length - ms'.length : Nat) : Int)) ∧ ms'.map (·.e) = tick16 L (ms.map (·.e)) ∧ Tb16 O w' tb mb E B L ms' clock ∧ Kb O w w'

set_option maxRecDepth 100000 in
set_option maxHeartbeats 1000000 in
theorem tick16_any {O : Nat → Prop} {tb mb E B L clock : Nat} {ms : List M16} (w : World) (h : Tb16 O w tb mb E B L ms clock) :
    Calls Try.prog 13 #[.pointer (some ⟨tb, 0, none⟩)] w (TickEnd O w tb mb E B L clock ms) := by
  have H0 := h.cut
  have HLT := h.lt
  have H := Lib.hid H0
  have HN := Lib.hid h.nodup
  have HST := h.tab.store
  have HL := Lib.hid (show ms.length ≤ 64 by have := h.tab.len; rw [List.length_map] at this; omega)
  have HOO : Hid (∀ O' : Nat → Prop, (∀ i, O' i ↔ (O i ∧ i < w.heap.size)) → ∀ i, O' i → O i ∧ i < w.heap.size) := fun O' h i hi => (h i).1 hi
  have c3 := h.tbl.cell 3
  simp only [List.getElem?_toArray, List.getElem?_cons_zero, List.getElem?_cons_succ] at c3
  obtain ⟨O1, hO1⟩ : ∃ O1 : Nat → Prop, O1 = fun i => O i ∧ i < w.heap.size := ⟨_, rfl⟩
  rw [← hO1] at H H0
  have HO : Hid (∀ i, O1 i → O i ∧ i < w.heap.size) := by rw [hO1]; exact fun i hi => hi
  clear h HOO H0 hO1
  unfold TickEnd
  go_enter Try.func13, Try.ntmps13
  go_wp2_with (at_range; refine wpList_range16 rfl _ rfl mb clock _ rfl H.out.map ?_; intro w0 hi0 hb0 hs0)
  go_frame
  go_loopw [3] (fun t wr => ∃ (n : Nat) (seen : Array Nat), t = .int .i64 (n : Nat) ∧ n + (cur16 L seen ms).length = ms.length ∧ Tb16 O1 wr tb mb E B L (cur16 L seen ms) clock ∧ Iter16 wr w.heap.size mb clock seen ∧ Kb O1 w wr) (fun _ wr => wr.rangeLeft mb w.heap.size)
  case atStart => exact ⟨0, #[], rfl, by rw [cur16_start]; omega, by rw [cur16_start]; exact H.out.below hb0, hi0, ⟨hb0.os, hb0.tape, hb0.output, hb0.size, fun i hi _ => hb0.block i hi⟩⟩
  case round =>
    obtain ⟨n, seen, rfl, hn, ht, hi, hk⟩ := hrel
    have T1 := Lib.hid ht
    have HNE : Hid (mb ≠ w.heap.size) := (show mb ≠ w.heap.size from by have := HLT.2.1; omega)
    have HI := Lib.hid hi
    have HNN := Lib.hid hn
    have HK := Lib.hid hk
    have HLEN := Lib.hid (rangeLeft16 hi T1.out.map)
    clear hi hn hk ht hi0 hb0 hs0 c3
    go_wp2_with (at_next; refine wpList_next16 rfl _ rfl w.heap.size mb clock clock seen _ rfl HI.out T1.out.map (fun m hm => ?hold) (Nat.le_refl _) ?nod HNE.out ?done ?more)
    case hold =>
      obtain ⟨x, hx, rfl⟩ := List.mem_map.1 hm
      exact T1.out.born x hx
    case nod =>
      have := T1.out.nodup
      rw [List.map_map]
      exact this
    case done =>
      intro hl
      have e := cur16_end hl
      have hn2 := HNN.out
      have : n = ms.length - (cur16 L seen ms).length := by omega
      subst this
      clear hl hn2
      go_wp2_with fail
      go_ret
      exact ⟨_, rfl, e, T1.out.mono (fun i hi => (HO.out i hi).1), HK.out.mono (fun i _ hi => (HO.out i hi).1)⟩
    case more =>
      intro x w1 hx hk hsz hi1 hen
      obtain ⟨y, hy, rfl⟩ := List.mem_map.1 (List.mem_filter.1 hx).1
      have hs : seen.contains y.born = false := by have := (List.mem_filter.1 hx).2; simpa [M16.me] using this
      obtain ⟨a, b, e1, e2, ha, hb⟩ := cur16_step HN.out hy hs
      have T2 := T1.out.kb hk (fun i hi e => by have := (HO.out i hi).2; omega)
      have K2 : Kb O1 w w1 := ⟨hk.os.trans HK.out.os, hk.tape.trans HK.out.tape, hk.output.trans HK.out.output, Nat.le_trans HK.out.size hk.size, fun i hi h1 => (hk.block i (Nat.lt_of_lt_of_le hi HK.out.size) (by omega)).trans (HK.out.block i hi h1)⟩
      rw [e1] at T2
      have hlen1 := HLEN.out
      rw [e1] at hlen1
      have hnn := HNN.out
      rw [e1] at hnn
      have T3 := T2.below ((Below.refl w1.heap.size w1).alloc (Nat.le_refl _) (.cells #[.string y.e.k.src, .string y.e.k.dst, .int .i64 y.e.k.proto, .int .i64 y.e.k.id] 68))
      have KK := Blk.new w1 #[.string y.e.k.src, .string y.e.k.dst, .int .i64 y.e.k.proto, .int .i64 y.e.k.id] 68
      have K3 := K2.alloc (.cells #[.string y.e.k.src, .string y.e.k.dst, .int .i64 y.e.k.proto, .int .i64 y.e.k.id] 68)
      have I3 := hi1.kb (S := fun _ => False) ((Kb.refl _ w1).alloc (.cells #[.string y.e.k.src, .string y.e.k.dst, .int .i64 y.e.k.proto, .int .i64 y.e.k.id] 68)) id
      have HW1 := T2.lt
      have hymm : y ∈ a ++ y :: b := by simp
      have hkne : w1.heap.size ≠ y.eb := by have := HW1.2.2 y hymm y.eb (Or.inl rfl); omega
      have hye := T3.ents y hymm
      have q := hye.b.cell 12
      have f12 := hye.b.frozen 12
      simp only [E16.cells, List.getElem?_toArray, List.getElem?_cons_zero, List.getElem?_cons_succ] at q
      have hage := (T3.tab.each y.e (by simp)).age
      have TT := Lib.hid T3
      have KK3 := Lib.hid K3
      have II3 := Lib.hid I3
      have KB3 := Lib.hid KK
      have HYE := Lib.hid hye
      have ew : IntKind.i64.wrap (((y.e.age : Nat) : Int) + 1) = ((y.e.age + 1 : Nat) : Int) := by rw [IntWalk.i64_in _ (by omega)]; omega
      have EV : Hid (y.me.k.val = .agg #[.string y.e.k.src, .string y.e.k.dst, .int .i64 y.e.k.proto, .int .i64 y.e.k.id]) := rfl
      have HE1 := Lib.hid e1
      have HE2 := Lib.hid e2
      have HLESS := Lib.hid (fun c hc => left16_less (c := c) hs ha hb hc)
      have heb : y.me.eb = y.eb := rfl
      rw [heb, EV.out] at hen ⊢
      clear hk hsz hi1 T2 K2 T3 KK K3 I3 hye HI HN HNN HK T1 hx hy e1 e2 hs ha hb heb HLEN EV
      go_upto_region 6 with (fail)
      generalize hwk : w1.alloc (.cells #[.string y.e.k.src, .string y.e.k.dst, .int .i64 y.e.k.proto, .int .i64 y.e.k.id] 68) = wk at *
      have hcast : ((y.e.age + 1 : Nat) : Int) = (y.e.age : Int) + 1 := by omega
      have hold := HYE.out.older
      rw [hcast] at hold
      have kset : Kb (fun k => k = y.eb) wk (wk.setCell ⟨y.eb, 12, none⟩ (.int .i64 ((y.e.age : Int) + 1))) := Kb.setCell (S := fun k => k = y.eb) (Kb.refl _ wk) (p := ⟨y.eb, 12, none⟩) (fun _ => rfl) _
      have KB4 := Lib.hid (KB3.out.kb kset hkne)
      have nes := TT.out.ne
      have hnt : ¬ tb = y.eb := fun e => (nes.2 y hymm).1 (Or.inl e)
      have hnm : ¬ mb = y.eb := fun e => (nes.2 y hymm).2 (Or.inl e)
      have TB4 := Lib.hid (TT.out.tbl.kb kset hnt)
      have II4 := Lib.hid (II3.out.kb kset (fun e => by have h1 := (HO.out _ (TT.out.oe y hymm y.eb (Or.inl rfl))).2; omega))
      have KK4 := Lib.hid (KK3.out.trans (kset.mono (fun k _ e => by subst e; exact TT.out.oe y hymm _ (Or.inl rfl))))
      have KS := Lib.hid kset
      have HOLD := Lib.hid hold
      have c2 := TB4.out.cell 2
      have c3 := TB4.out.cell 3
      have q4 := HOLD.out.b.cell 12
      simp only [E16.cells, E16.older, List.getElem?_toArray, List.getElem?_cons_zero, List.getElem?_cons_succ] at c2 c3 q4
      rw [hcast] at q4
      clear hold kset hkne q f12 hen
      have hw4 : ∀ b, b = wk.setCell ⟨y.eb, 12, none⟩ (.int .i64 ((y.e.age : Int) + 1)) → b = b := fun _ _ => rfl
      generalize wk.setCell ⟨y.eb, 12, none⟩ (.int .i64 ((y.e.age : Int) + 1)) = w4 at *
      by_cases hl : y.e.age + 1 < L
      · have t1 : decide ((y.e.age : Int) + 1 ≥ (L : Int)) = false := by simp; omega
        have t2 : decide ((L : Int) ≤ (y.e.age : Int) + 1) = false := by simp; omega
        have h2 := HE2.out
        rw [if_pos hl] at h2
        have T5 := Lib.hid (TT.out.set (O' := O1) (m' := y.older) KS.out (fun i e => Or.inl e) rfl rfl rfl HOLD.out (fun i e => Or.inl e) (by
          have := TT.out.tab
          rw [List.map_append, List.map_cons] at this ⊢
          exact this.aged hl) (fun _ h => h) (fun i hi e => by have := TT.out.lt.2.2 y hymm i e; omega))
        rw [← h2] at T5
        go_quiet (fail)
        go_wp2_with fail
        go_roundw
        case rel => exact ⟨n, seen.push y.born, rfl, by rw [h2]; simp at hnn ⊢; omega, T5.out.drewN _, II4.out.drewN _, KK4.out.drewN _⟩
        case measure =>
          rw [hlen1, rangeLeft16 (II4.out.drewN _) (T5.out.drewN _).map, h2]
          exact HLESS.out _ (Or.inl rfl)
      · have t1 : decide ((y.e.age : Int) + 1 ≥ (L : Int)) = true := by simp; omega
        have t2 : decide ((L : Int) ≤ (y.e.age : Int) + 1) = true := by simp; omega
        have h2 := HE2.out
        rw [if_neg hl] at h2
        go_quiet (fail)
        go_upto_region 7 with (fail)
        have hseek : seek16 ((a ++ y :: b).map M16.me) y.e.k = a.length := by
          unfold seek16
          have hkeys := TT.out.tab.keys
          rw [List.map_append, List.map_cons, List.pairwise_append] at hkeys
          rw [List.map_append, List.map_cons, List.findIdx_append]
          have hno : (a.map M16.me).findIdx (fun m => decide (m.k = y.e.k)) = (a.map M16.me).length := by
            rw [List.findIdx_eq_length]
            intro x hx
            obtain ⟨z, hz, rfl⟩ := List.mem_map.1 hx
            have := hkeys.2.2 z.e (List.mem_map_of_mem hz) y.e (List.mem_cons_self ..)
            exact decide_eq_false this
          rw [hno]
          simp [List.findIdx_cons, M16.me]
        have HM := Lib.hid (TT.out.map.kb KS.out hnm)
        have herase : ((a ++ y :: b).map M16.me).eraseIdx (seek16 ((a ++ y :: b).map M16.me) y.e.k) = (a ++ b).map M16.me := by
          rw [hseek, List.map_append, List.map_cons, List.eraseIdx_append_of_length_le (by simp)]
          simp
        have hse : seek16 ((a ++ y :: b).map M16.me) y.e.k < ((a ++ y :: b).map M16.me).length := by rw [hseek]; simp
        obtain ⟨lx, hlx⟩ : ∃ lx, lx = (a ++ y :: b).map M16.me := ⟨_, rfl⟩
        obtain ⟨ly, hly⟩ : ∃ ly, ly = (a ++ b).map M16.me := ⟨_, rfl⟩
        rw [← hlx] at HM hse
        rw [← hlx, ← hly] at herase
        have HER := Lib.hid herase
        have HSE := Lib.hid hse
        have HLY := Lib.hid hly
        have ⟨k0, k1, k2, k3⟩ : w4.cell? ⟨w1.heap.size, 0, none⟩ = some (.string y.e.k.src) ∧ w4.cell? ⟨w1.heap.size, 1, none⟩ = some (.string y.e.k.dst) ∧ w4.cell? ⟨w1.heap.size, 2, none⟩ = some (.int .i64 y.e.k.proto) ∧ w4.cell? ⟨w1.heap.size, 3, none⟩ = some (.int .i64 y.e.k.id) := ⟨KB4.out.cell 0, KB4.out.cell 1, KB4.out.cell 2, KB4.out.cell 3⟩
        clear herase hse hseek q4 c2 t1 t2 hlx hly
        go_region_law (refine step_delete16 rfl _ _ rfl mb clock lx y.e.k (by rfl) (by rfl) HM.out HSE.out ly HER.out ?_; intro w5 hk5 hm5)
        all_goals
          have M5 := hm5
          have kb5 : Kb (fun k => k = y.eb ∨ k = mb) wk w5 := ((KS.out.drewN (nq + 1)).mono (fun k _ e => Or.inl e)).trans (hk5.mono (fun k _ e => Or.inr e))
          have I5 := (II4.out.drewN (nq + 1)).kb hk5 (fun e => HNE.out e.symm)
          have K5 := (KK4.out.drewN (nq + 1)).trans (hk5.mono (fun k _ e => by subst e; exact TT.out.om))
          clear hk5 hm5
          rw [HLY.out] at M5
          have T6 := Lib.hid (TT.out.drop kb5 (fun i e => by rcases e with e | e; exact Or.inl (Or.inl e); exact Or.inr e) M5 (by
            have := TT.out.tab
            rw [List.map_append, List.map_cons] at this
            rw [List.map_append]
            exact this.less))
          rw [← h2] at T6
          have hn1 : n ≤ 64 := by have := HL.out; omega
          have ew2 : IntKind.i64.wrap ((n : Int) + 1) = ((n + 1 : Nat) : Int) := by rw [IntWalk.i64_in _ (by omega)]; omega
          have I6 := Lib.hid I5
          have K6 := Lib.hid K5
          clear M5 kb5 I5 K5 HER HSE HLY k0 k1 k2 k3 c3
          go_wp2_with fail
          refine ⟨⟨n + 1, seen.push y.born, by first | rfl | rw [← ew2]; rfl, by rw [h2]; simp at hnn ⊢; omega, T6.out, I6.out, K6.out⟩, ?_⟩
          rw [hlen1, rangeLeft16 I6.out T6.out.map, h2]
          exact HLESS.out _ (Or.inr rfl)

end Go.Proofs.Ytoijomdgcgbpbaa

/-
  A table as the laws see it: a plain list of entries.
-/
namespace Go.Proofs.Ytoijomdgcgbpbaa
open Go.RowKit Go.Shelf
set_option linter.unusedVariables false

/-- A table that holds these entries; all its blocks, and all that are made later, are of S. -/
structure TbL16 (S : Nat → Prop) (w : World) (tb E B L : Nat) (l : List E16) : Prop where
  is : ∃ mb ms clock, Tb16 S w tb mb E B L ms clock ∧ ms.map (·.e) = l
  up : ∀ i, w.heap.size ≤ i → S i
theorem TbL16.tab {S : Nat → Prop} {w : World} {tb E B L : Nat} {l : List E16} (h : TbL16 S w tb E B L l) : Tab16 E B L l := by
  obtain ⟨mb, ms, clock, t, rfl⟩ := h.is
  exact t.tab
theorem TbL16.below {S : Nat → Prop} {w w' : World} {tb E B L : Nat} {l : List E16} (h : TbL16 S w tb E B L l) (hb : Below w.heap.size w w') : TbL16 S w' tb E B L l := by
  obtain ⟨mb, ms, clock, t, rfl⟩ := h.is
  exact ⟨⟨mb, ms, clock, t.below hb, rfl⟩, fun i hi => h.up i (Nat.le_trans hb.size hi)⟩
theorem TbL16.drewN {S : Nat → Prop} {w : World} {tb E B L : Nat} {l : List E16} (h : TbL16 S w tb E B L l) (n : Nat) : TbL16 S (w.drewN n) tb E B L l := h.below (below_drewN (Below.refl _ _) n)
theorem TbL16.drew {S : Nat → Prop} {w : World} {tb E B L : Nat} {l : List E16} (h : TbL16 S w tb E B L l) : TbL16 S w.drew tb E B L l := h.below (Below.refl _ _).drew
/-- A block of another's is changed. -/
theorem TbL16.kb {S T : Nat → Prop} {w w' : World} {tb E B L : Nat} {l : List E16} (h : TbL16 S w tb E B L l) (k : Kb T w w') (hs : ∀ i, S i → ¬ T i) : TbL16 S w' tb E B L l := by
  obtain ⟨mb, ms, clock, t, rfl⟩ := h.is
  exact ⟨⟨mb, ms, clock, t.kb k hs, rfl⟩, fun i hi => h.up i (Nat.le_trans k.size hi)⟩
/-- A new block is another's. -/
theorem TbL16.but {S : Nat → Prop} {w w' : World} {tb E B L : Nat} {l : List E16} (h : TbL16 S w tb E B L l) (hb : Below w.heap.size w w') (hl : w.heap.size < w'.heap.size) : TbL16 (fun i => S i ∧ i ≠ w.heap.size) w' tb E B L l := by
  obtain ⟨mb, ms, clock, t, rfl⟩ := h.is
  exact ⟨⟨mb, ms, clock, (t.cut.below hb).mono (fun i hi => ⟨hi.1, by have := hi.2; omega⟩), rfl⟩, fun i hi => ⟨h.up i (by omega), by omega⟩⟩

theorem addL16 {S : Nat → Prop} {tb E B L : Nat} {l : List E16} (p : ByteArray) (hp : p.size ≤ 1000000) (w : World) (h : TbL16 S w tb E B L l) :
    Calls Try.prog 15 #[.pointer (some ⟨tb, 0, none⟩), .string p] w fun r w' => r = .returned (.tuple #[.string (add16 E B l p).1.1, .int .i64 ((add16 E B l p).1.2 : Nat)]) ∧ TbL16 S w' tb E B L (add16 E B l p).2 ∧ Kb S w w' := by
  obtain ⟨mb, ms, clock, t, rfl⟩ := h.is
  refine (add16_any p hp w t).mono ?_
  rintro r w' ⟨ms', clock', rfl, t', e, k⟩
  exact ⟨rfl, ⟨⟨mb, ms', clock', t'.mono (fun i hi => hi.elim id (h.up i)), e⟩, fun i hi => h.up i (Nat.le_trans k.size hi)⟩, k⟩
theorem tick16_length (L : Nat) (l : List E16) : (tick16 L l).length ≤ l.length := by
  unfold tick16
  exact Nat.le_trans (List.length_filter_le _ _) (by simp)
theorem tickL16 {S : Nat → Prop} {tb E B L : Nat} {l : List E16} (w : World) (h : TbL16 S w tb E B L l) :
    Calls Try.prog 13 #[.pointer (some ⟨tb, 0, none⟩)] w fun r w' => r = .returned (.int .i64 ((l.length - (tick16 L l).length : Nat) : Int)) ∧ TbL16 S w' tb E B L (tick16 L l) ∧ Kb S w w' := by
  obtain ⟨mb, ms, clock, t, rfl⟩ := h.is
  refine (tick16_any w t).mono ?_
  rintro r w' ⟨ms', rfl, e, t', k⟩
  have e1 : (tick16 L (ms.map (·.e))).length = ms'.length := by rw [← e, List.length_map]
  refine ⟨?_, ⟨⟨mb, ms', clock, t', e⟩, fun i hi => h.up i (Nat.le_trans k.size hi)⟩, k⟩
  rw [e1, List.length_map]
theorem lenL16 {S : Nat → Prop} {tb E B L : Nat} {l : List E16} (w : World) (h : TbL16 S w tb E B L l) :
    Calls Try.prog 17 #[.pointer (some ⟨tb, 0, none⟩)] w (Tells (.int .i64 (l.length : Nat)) w) := by
  obtain ⟨mb, ms, clock, t, rfl⟩ := h.is
  have e : (ms.map (·.e)).length = ms.length := List.length_map ..
  rw [e]
  exact len16_any w t
theorem bytesL16 {S : Nat → Prop} {tb E B L : Nat} {l : List E16} (w : World) (h : TbL16 S w tb E B L l) :
    Calls Try.prog 18 #[.pointer (some ⟨tb, 0, none⟩)] w (Tells (.int .i64 (bytes16 l : Nat)) w) := by
  obtain ⟨mb, ms, clock, t, rfl⟩ := h.is
  exact bytes16_any w t
theorem openL16 {S : Nat → Prop} {tb E B L : Nat} {l : List E16} (w : World) (h : TbL16 S w tb E B L l) :
    Calls Try.prog 20 #[.pointer (some ⟨tb, 0, none⟩)] w (Tells (.int .i64 (open16 l : Nat)) w) := by
  obtain ⟨mb, ms, clock, t, rfl⟩ := h.is
  exact open16_any w t
/-- New's answer, so. -/
def NewL16 (s : S16) (w : World) (r : Ending) (w' : World) : Prop :=
  (s.Right ∧ ∃ tb, r = .returned (.tuple #[.pointer (some ⟨tb, 0, none⟩), .int .i64 0]) ∧ TbL16 (fun i => w.heap.size ≤ i) w' tb s.e.toNat s.b.toNat s.l.toNat [] ∧ Below w.heap.size w w') ∨
  (¬ s.Right ∧ r = .returned (.tuple #[.pointer none, .int .i64 1]) ∧ Below w.heap.size w w')
theorem newL16 (s : S16) (w : World) : Calls Try.prog 11 #[.agg s.cells] w (NewL16 s w) := by
  refine (new16_any s w).mono ?_
  rintro r w' (⟨hr, tb, mb, clock, rfl, t, b⟩ | ⟨hr, rfl, b⟩)
  · exact Or.inl ⟨hr, tb, rfl, ⟨⟨mb, [], clock, t, rfl⟩, fun i hi => Nat.le_trans b.size hi⟩, b⟩
  · exact Or.inr ⟨hr, rfl, b⟩
/-- Cells that aren't the table's stay. -/
theorem Kb.cellK {S : Nat → Prop} {w w' : World} (k : Kb S w w') {p : Addr} (hl : p.block < w.heap.size) (hs : ¬ S p.block) : w'.cell? p = w.cell? p := by
  unfold World.cell?
  rw [k.block _ hl hs]

end Go.Proofs.Ytoijomdgcgbpbaa
