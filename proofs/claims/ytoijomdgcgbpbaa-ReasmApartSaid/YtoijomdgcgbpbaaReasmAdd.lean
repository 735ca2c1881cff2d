/-
  Add: a piece.
-/
import Derived.Test.YtoijomdgcgbpbaaReasmMade
import Derived.Test.YtoijomdgcgbpbaaReasmFinish
import Derived.Test.YtoijomdgcgbpbaaReasmEntry
import Derived.Test.YtoijomdgcgbpbaaIp4A
namespace Go.Proofs.Ytoijomdgcgbpbaa
open Go.RowKit
set_option linter.unusedVariables false

/-- What Add leaves. -/
def AddEnd16 (O : Nat → Prop) (w : World) (tb mb E B L : Nat) (ms : List M16) (p : ByteArray) (r : Ending) (w' : World) : Prop :=
  ∃ (ms' : List M16) (clock' : Nat), r = .returned (.tuple #[.string (add16 E B (ms.map (·.e)) p).1.1, .int .i64 ((add16 E B (ms.map (·.e)) p).1.2 : Nat)]) ∧
    Tb16 (fun i => O i ∨ w.heap.size ≤ i) w' tb mb E B L ms' clock' ∧ ms'.map (·.e) = (add16 E B (ms.map (·.e)) p).2 ∧ Kb O w w'

/-- The header, the piece and the key in their blocks; the table. -/
structure Ad16 (O : Nat → Prop) (w W : World) (M : Nat) (h : H4) (x : P16) (tb mb E B L : Nat) (ms : List M16) (clock : Nat) : Prop where
  hb : Blk W M h.cells 43
  xb : Blk W (M + 1) #[.int .i64 (x.lo : Nat), .string x.s, .bool x.last] 79
  kb : Blk W (M + 2) #[.string h.src, .string h.dst, .int .i64 h.proto, .int .i64 h.id] 68
  tb : Tb16 O W tb mb E B L ms clock
  bel : Below w.heap.size w W
  lt : w.heap.size ≤ M
theorem Ad16.below {O : Nat → Prop} {w W W' : World} {M : Nat} {h : H4} {x : P16} {tb mb E B L clock : Nat} {ms : List M16} (a : Ad16 O w W M h x tb mb E B L ms clock) (hb : Below W.heap.size W W') : Ad16 O w W' M h x tb mb E B L ms clock :=
  ⟨(hb.block _ a.hb.lt).trans a.hb, (hb.block _ a.xb.lt).trans a.xb, (hb.block _ a.kb.lt).trans a.kb, a.tb.below hb, a.bel.trans (hb.mono a.bel.size), a.lt⟩

/-- The table behind all that Add does. -/
theorem addDone16 {O O1 : Nat → Prop} {w w6 w7 W' : World} {tb mb E B L clock' : Nat} {a b : List M16} {m : M16} {e' : E16} {v' : Value} (HO : ∀ i, O1 i → O i ∧ i < w.heap.size) (h6 : Below w.heap.size w w6)
    (hT : Tb16 (fun i => O1 i ∨ w6.heap.size ≤ i) w7 tb mb E B L (a ++ m :: b) clock') (h7 : Kb O1 w6 w7) (hk : Kb (fun k => k = m.eb ∨ m.v.ownBlock = some k) w7 W') (he : En16 W' e' m.eb v') (ho : ∀ g, v'.ownBlock = some g → m.v.ownBlock = some g ∨ w7.heap.size ≤ g)
    (hke : e'.k = m.e.k) (ht : Tab16 E B L (a.map (·.e) ++ e' :: b.map (·.e))) :
    Tb16 (fun i => O i ∨ w.heap.size ≤ i) W' tb mb E B L (a ++ ⟨e', m.eb, v', m.born⟩ :: b) clock' ∧ Kb O w W' := by
  have hmm : m ∈ a ++ m :: b := by simp
  have z6 := h6.size
  have z7 := h7.size
  refine ⟨hT.set (m' := ⟨e', m.eb, v', m.born⟩) hk (fun i hi => hi) hke rfl rfl he (fun i hi => ?_) (by simpa using ht) (fun i hi => ?_) (fun i hi _ => Or.inr (by omega)), ?_⟩
  · rcases hi with hi | hi
    · exact Or.inl (Or.inl hi)
    · rcases ho i hi with h | h
      · exact Or.inl (Or.inr h)
      · exact Or.inr h
  · rcases hi with hi | hi
    · exact Or.inl (HO i hi).1
    · exact Or.inr (by omega)
  · have k1 : Kb (fun i => O i ∨ w.heap.size ≤ i) w w6 := kb_of_below h6
    have k2 : Kb (fun i => O i ∨ w.heap.size ≤ i) w6 w7 := h7.mono (fun i _ hi => Or.inl (HO i hi).1)
    have k3 : Kb (fun i => O i ∨ w.heap.size ≤ i) w7 W' := hk.mono (fun i _ hi => by
      rcases hT.oe m hmm i hi with h | h
      · exact Or.inl (HO i h).1
      · exact Or.inr (by omega))
    refine ((k1.trans k2).trans k3).mono (fun i hi h => ?_)
    rcases h with h | h
    · exact h
    · omega

set_option maxRecDepth 100000 in
set_option maxHeartbeats 1000000 in
theorem add16_any {O : Nat → Prop} {tb mb E B L clock : Nat} {ms : List M16} (p : ByteArray) (hp : p.size ≤ 1000000) (w : World) (h : Tb16 O w tb mb E B L ms clock) :
    Calls Try.prog 15 #[.pointer (some ⟨tb, 0, none⟩), .string p] w (AddEnd16 O w tb mb E B L ms p) := by
  obtain ⟨O1, hO1⟩ : ∃ O1 : Nat → Prop, O1 = fun i => O i ∧ i < w.heap.size := ⟨_, rfl⟩
  have hcut := h.cut
  rw [← hO1] at hcut
  have HO : Hid (∀ i, O1 i → O i ∧ i < w.heap.size) := by rw [hO1]; exact fun i hi => hi
  have HG := Lib.hid (fun W => get_any p W hp)
  unfold GetEnd at HG
  have HC := Lib.hid hcut
  have HT := Lib.hid h
  have HGOT := Lib.hid (fun e => got15 (p := p) e)
  clear h hcut hO1
  go_enter Try.func15, Try.ntmps15
  go_wp2_with fail
  refine (HG.out _).mono ?_
  rintro r w1 ⟨rfl, hb1⟩
  have B1 := Lib.hid hb1
  clear hb1
  by_cases hge : getE p = 0
  · have t1 : decide ((getE p : Int) ≠ 0) = false := by rw [hge]; rfl
    have ⟨hok, hsz1, hsz2, hsz3, hsz4, hsz5⟩ := HGOT.out hge
    have hoff := hok.off
    have ew : IntKind.i64.wrap (8 * (getH p).off) = ((piece16 (getH p) (getS p)).lo : Nat) := by
      rw [IntWalk.i64_in _ (by omega)]
      unfold piece16
      dsimp only
      omega
    have hx : (piece16 (getH p) (getS p)).Small := ⟨by unfold piece16; dsimp only; omega, by unfold piece16; dsimp only; omega⟩
    have HA := Lib.hid (show add16 E B (ms.map (·.e)) p = if no16 E B (ms.map (·.e)) (getH p).key (piece16 (getH p) (getS p)) ≠ 0 then ((⟨#[]⟩, no16 E B (ms.map (·.e)) (getH p).key (piece16 (getH p) (getS p))), ms.map (·.e)) else made16 (ms.map (·.e)) (getH p) (piece16 (getH p) (getS p)) from by unfold add16; rw [if_neg (fun e => e hge)])
    have hsx : (piece16 (getH p) (getS p)).s = getS p := rfl
    have hsl : (piece16 (getH p) (getS p)).last = !(getH p).mf := rfl
    have HYT := Lib.hid (fun (y : Yes16 E B (ms.map (·.e)) (getH p).key (piece16 (getH p) (getS p))) (hw : whole16 (ins16 (piece16 (getH p) (getS p)) (old16 (ms.map (·.e)) (getH p).key).qs) = false) => y.tab HC.out.tab hok hw)
    have HYO := Lib.hid (fun (y : Yes16 E B (ms.map (·.e)) (getH p).key (piece16 (getH p) (getS p))) => y.tabOver HC.out.tab)
    have e0 := Blk.new w1 (getH p).cells 43
    have c0 := Hc.of e0
    obtain ⟨c0, c1, c2, c3, c4, c5, c6, c7, c8, c9⟩ := c0
    have e00 := (Below.refl w1.heap.size w1).alloc (Nat.le_refl _) (.cells (getH p).cells 43)
    have E0 := Lib.hid e0
    have E00 := Lib.hid (B1.out.alloc B1.out.size (.cells (getH p).cells 43))
    have E000 := Lib.hid (show (w1.alloc (.cells (getH p).cells 43)).heap.size = w1.heap.size + 1 by simp)
    have ELT : Hid (w.heap.size ≤ w1.heap.size) := B1.out.size
    clear e0 e00 hsz1 hsz2 hsz4 hsz5
    generalize getH p = h at *
    generalize piece16 h (getS p) = x at *
    obtain ⟨w2, hw2⟩ : ∃ w2, w2 = w1.alloc (.cells h.cells 43) := ⟨_, rfl⟩
    rw [← hw2] at c0 c1 c2 c3 c4 c5 c6 c7 c8 c9 E0 E00 E000
    unfold H4.cells at hw2 ⊢
    go_upto_region 4 with (fail)
    simp only [← hw2]
    go_upto_region 5 with (fail)
    go_upto_region 6 with (fail)
    have A0 : Hid (Ad16 O1 w (((w1.alloc (.cells #[.int .i64 h.tos, .int .i64 h.id, .int .i64 h.off, .int .i64 h.ttl, .int .i64 h.proto, .bool h.df, .bool h.mf, .string h.src, .string h.dst, .string h.opt] 43)).alloc (.cells #[.int .i64 (x.lo : Nat), .string (getS p), .bool (!h.mf)] 79)).alloc (.cells #[.string h.src, .string h.dst, .int .i64 h.proto, .int .i64 h.id] 68)) w1.heap.size h x tb mb E B L ms clock) := by
      have bel := ((B1.out.alloc B1.out.size (.cells #[.int .i64 h.tos, .int .i64 h.id, .int .i64 h.off, .int .i64 h.ttl, .int .i64 h.proto, .bool h.df, .bool h.mf, .string h.src, .string h.dst, .string h.opt] 43)).alloc (by have := B1.out.size; simp; omega) (.cells #[.int .i64 (x.lo : Nat), .string (getS p), .bool (!h.mf)] 79)).alloc (by have := B1.out.size; simp; omega) (.cells #[.string h.src, .string h.dst, .int .i64 h.proto, .int .i64 h.id] 68)
      refine ⟨((Blk.new w1 _ _).alloc _).alloc _, ?_, ?_, HC.out.below bel, bel, ELT.out⟩
      · have q := (Blk.new (w1.alloc (.cells #[.int .i64 h.tos, .int .i64 h.id, .int .i64 h.off, .int .i64 h.ttl, .int .i64 h.proto, .bool h.df, .bool h.mf, .string h.src, .string h.dst, .string h.opt] 43)) #[.int .i64 (x.lo : Nat), .string (getS p), .bool (!h.mf)] 79).alloc (.cells #[.string h.src, .string h.dst, .int .i64 h.proto, .int .i64 h.id] 68)
        simp only [World.size_alloc] at q
        rw [hsx, hsl]
        exact q
      · have q := Blk.new ((w1.alloc (.cells #[.int .i64 h.tos, .int .i64 h.id, .int .i64 h.off, .int .i64 h.ttl, .int .i64 h.proto, .bool h.df, .bool h.mf, .string h.src, .string h.dst, .string h.opt] 43)).alloc (.cells #[.int .i64 (x.lo : Nat), .string (getS p), .bool (!h.mf)] 79)) #[.string h.src, .string h.dst, .int .i64 h.proto, .int .i64 h.id] 68
        simp only [World.size_alloc] at q
        exact q
    have HSX := Lib.hid (show x.s.size ≤ 65535 from hx.s)
    clear c0 c1 c2 c3 c4 c5 c6 c7 c8 c9 hw2 E0 E00 E000 B1 hsx hsl
    generalize ((w1.alloc (.cells #[.int .i64 h.tos, .int .i64 h.id, .int .i64 h.off, .int .i64 h.ttl, .int .i64 h.proto, .bool h.df, .bool h.mf, .string h.src, .string h.dst, .string h.opt] 43)).alloc (.cells #[.int .i64 (x.lo : Nat), .string (getS p), .bool (!h.mf)] 79)).alloc (.cells #[.string h.src, .string h.dst, .int .i64 h.proto, .int .i64 h.id] 68) = w5 at *
    have x0 := A0.out.xb.cell 0
    have x1 := A0.out.xb.cell 1
    have x2 := A0.out.xb.cell 2
    have k0 := A0.out.kb.cell 0
    have k1 := A0.out.kb.cell 1
    have k2 := A0.out.kb.cell 2
    have k3 := A0.out.kb.cell 3
    simp only [List.getElem?_toArray, List.getElem?_cons_zero, List.getElem?_cons_succ] at x0 x1 x2 k0 k1 k2 k3
    have HR := Lib.hid (refuse16_any h.key x hx w5 A0.out.tb)
    have hkv : h.key.val = .agg #[.string h.src, .string h.dst, .int .i64 h.proto, .int .i64 h.id] := rfl
    rw [hkv] at HR
    unfold Tells P16.val at HR
    have HY := Lib.hid (fun h0 => yes16 (k := h.key) (x := x) A0.out.tb.tab h0)
    have HMADE := Lib.hid (show made16 (ms.map (·.e)) h x = made16 (ms.map (·.e)) h x from rfl)
    generalize M0 : w1.heap.size = M at *
    go_wp2_with fail
    refine HR.out.mono ?_
    rintro r w6 ⟨rfl, hb6⟩
    have A1 := Lib.hid (A0.out.below hb6)
    clear x0 x1 x2 k0 k1 k2 k3 hb6 HR A0
    by_cases hno : no16 E B (ms.map (·.e)) h.key x = 0
    · have t2 : decide ((no16 E B (ms.map (·.e)) h.key x : Int) ≠ 0) = false := by rw [hno]; rfl
      rw [if_neg (fun e => e hno)] at HA
      have HYES := Lib.hid (HY.out hno)
      have HG16 := Lib.hid (old16_ent A1.out.tb.tab h.key).good
      have hos : h.src.size ≤ 65535 ∧ h.dst.size ≤ 65535 ∧ h.opt.size ≤ 65535 := by
        have := hok.src; have := hok.dst; have := hok.opt
        omega
      have HOS := Lib.hid hos
      have HEN := Lib.hid (entry16_any h.key ⟨hos.1, hos.2.1⟩ w6 A1.out.tb (fun e => by have := HYES.out.room (by rw [e]; simp); simpa using this))
      rw [hkv] at HEN
      have k0 := A1.out.kb.cell 0
      have k1 := A1.out.kb.cell 1
      have k2 := A1.out.kb.cell 2
      have k3 := A1.out.kb.cell 3
      simp only [List.getElem?_toArray, List.getElem?_cons_zero, List.getElem?_cons_succ] at k0 k1 k2 k3
      clear HY hos hok hoff ew hx hkv
      generalize HR : no16 E B (ms.map (·.e)) h.key x = R at *
      go_wp2_with fail
      refine HEN.out.mono ?_
      rintro r w7 ⟨a, b, m, clock7, rfl, hT7, hme, hal, ha, hb, hk7⟩
      have hmm : m ∈ a ++ m :: b := by simp
      have hnO : ∀ i, w.heap.size ≤ i → ¬ O1 i := fun i hi ho => by have := (HO.out i ho).2; omega
      have hM := A1.out.lt
      have h7 := A1.out.hb.kb hk7 (hnO _ hM)
      have x7 := A1.out.xb.kb hk7 (hnO _ (by omega))
      have ⟨c0, c1, c2, c3, c4, c5, c6, c7, c8, c9⟩ := Hc.of h7
      have x0 := x7.cell 0
      have x1 := x7.cell 1
      have x2 := x7.cell 2
      simp only [List.getElem?_toArray, List.getElem?_cons_zero, List.getElem?_cons_succ] at x0 x1 x2
      have HEQ : Hid (m.e = old16 (ms.map (·.e)) h.key ∧ a.length = find16 (ms.map (·.e)) h.key ∧ a.map (·.e) = (ms.map (·.e)).take a.length ∧ b.map (·.e) = (ms.map (·.e)).drop (a.length + 1)) := ⟨hme, hal, ha, hb⟩
      have hten : Few16 (m.e.put h x).qs := by
        have := HYES.out.few A1.out.tb.tab
        rw [← hme] at this
        exact this
      have hne : (m.e.put h x).qs ≠ [] := fun e => by
        have l : (m.e.put h x).qs.length = m.e.qs.length + 1 := ins16_length _ _
        rw [e] at l
        cases l
      have HTEN := Lib.hid hten
      have HNE := Lib.hid hne
      have HP := Lib.hid (put16_any h x m.e m.eb m.v w7 (hT7.ents m hmm) (hme ▸ HG16.out) HSX.out HOS.out)
      unfold P16.val H4.cells at HP
      have HT7 := Lib.hid hT7
      have HK7 := Lib.hid hk7
      clear k0 k1 k2 k3 hT7 hk7 hme hal ha hb h7 x7 hnO hM hten hne HEN HG16 hmm
      go_wp2_with fail
      refine HP.out.mono ?_
      rintro r w8 ⟨v', rfl, hen8, hkb8, hov8⟩
      have HW := Lib.hid (whole16_any (m.e.put h x) m.eb v' w8 hen8 HNE.out HTEN.out)
      have HEN8 := Lib.hid hen8
      have HKB8 := Lib.hid hkb8
      have HOV8 := Lib.hid hov8
      unfold Tells at HW
      clear c0 c1 c2 c3 c4 c5 c6 c7 c8 c9 x0 x1 x2 hen8 hkb8 hov8 HP
      have HAW : Hid (add16 E B (ms.map (·.e)) p = if whole16 (m.e.put h x).qs = true then ((putS (m.e.put h x).hd.whole (cat16 (m.e.put h x).qs), putE (m.e.put h x).hd.whole (cat16 (m.e.put h x).qs)), upd16 (ms.map (·.e)) (find16 (ms.map (·.e)) h.key) (m.e.put h x).over) else ((⟨#[]⟩, 10), upd16 (ms.map (·.e)) (find16 (ms.map (·.e)) h.key) (m.e.put h x))) := by
        rw [HA.out, HEQ.out.1]
        rfl
      have HUP : ∀ e', Hid (a.map (·.e) ++ e' :: b.map (·.e) = upd16 (ms.map (·.e)) (find16 (ms.map (·.e)) h.key) e') := fun e' => by
        have := HEQ.out
        unfold upd16
        rw [this.2.2.1, this.2.2.2, this.2.1]
        rfl
      have HY1 : Hid (whole16 (m.e.put h x).qs = false → Tab16 E B L (upd16 (ms.map (·.e)) (find16 (ms.map (·.e)) h.key) (m.e.put h x))) := fun hw => by
        have e := HEQ.out.1
        rw [e] at hw ⊢
        exact HYT.out HYES.out hw
      have HY2 : Hid (Tab16 E B L (upd16 (ms.map (·.e)) (find16 (ms.map (·.e)) h.key) (m.e.put h x).over)) := by
        have e := HEQ.out.1
        rw [e]
        exact HYO.out HYES.out
      clear HA HMADE HYT HYO
      by_cases hw : whole16 (m.e.put h x).qs = true
      · have HF := Lib.hid (fun W (hh : En16 W (m.e.put h x) m.eb v') => finish16_any (m.e.put h x) m.eb v' W hh HTEN.out)
        rw [hw] at HW
        rw [if_pos hw] at HAW
        clear HY1 hw
        go_wp2_with fail
        refine HW.out.mono ?_
        rintro r w9 ⟨rfl, hb9⟩
        have HEN9 := Lib.hid (HEN8.out.below hb9)
        have HKB9 := Lib.hid (HKB8.out.trans (kb_of_below hb9))
        have HZ9 : Hid (w7.heap.size ≤ w9.heap.size) := Nat.le_trans HKB8.out.size hb9.size
        clear hb9 HW HEN8 HKB8
        go_wp2_with fail
        refine (HF.out w9 HEN9.out).mono ?_
        rintro r w10 ⟨rfl, hen10, hkb10⟩
        have HD := Lib.hid (addDone16 (v' := .slice none 0 0) HO.out A1.out.bel HT7.out HK7.out (HKB9.out.trans (hkb10.mono (fun k _ e => Or.inl e))) hen10 (fun g e => by simp [Value.ownBlock] at e) rfl (by rw [HUP]; exact HY2.out))
        clear hen10 hkb10 HF
        go_wp2_with fail
        go_ret2
        refine ⟨_, clock7, ?_, HD.out.1, ?_, HD.out.2⟩
        · rw [HAW.out]; rfl
        · rw [HAW.out, List.map_append, List.map_cons]
          exact (HUP _).out
      · have hwf : whole16 (m.e.put h x).qs = false := by simpa using hw
        rw [hwf] at HW
        rw [if_neg hw] at HAW
        have HY3 := Lib.hid (HY1.out hwf)
        clear HY1 HY2 hw hwf
        go_wp2_with fail
        refine HW.out.mono ?_
        rintro r w9 ⟨rfl, hb9⟩
        have HD := Lib.hid (addDone16 (v' := v') HO.out A1.out.bel HT7.out HK7.out (HKB8.out.trans (kb_of_below hb9)) (HEN8.out.below hb9) HOV8.out rfl (by rw [HUP]; exact HY3.out))
        clear hb9 HW HEN8 HKB8
        go_wp2_with fail
        go_ret2
        refine ⟨_, clock7, ?_, HD.out.1, ?_, HD.out.2⟩
        · rw [HAW.out]; rfl
        · rw [HAW.out, List.map_append, List.map_cons]
          exact (HUP _).out
    · have t2 : decide ((no16 E B (ms.map (·.e)) h.key x : Int) ≠ 0) = true := decide_eq_true (by omega)
      rw [if_pos hno] at HA
      generalize no16 E B (ms.map (·.e)) h.key x = R at *
      have HE := Lib.hid ((HT.out.below A1.out.bel).mono (O' := fun i => O i ∨ w.heap.size ≤ i) (fun _ => Or.inl))
      have HK := Lib.hid (kb_of_below (O := O) A1.out.bel)
      go_wp2_with fail
      go_ret2
      refine ⟨ms, clock, ?_, HE.out, ?_, HK.out⟩
      · rw [HA.out]; rfl
      · rw [HA.out]
  · have t1 : decide ((getE p : Int) ≠ 0) = true := decide_eq_true (by omega)
    have HA := Lib.hid (show add16 E B (ms.map (·.e)) p = ((⟨#[]⟩, getE p), ms.map (·.e)) from by unfold add16; rw [if_pos hge])
    have HE := Lib.hid ((HT.out.below (B1.out.alloc B1.out.size (.cells (getH p).cells 43))).mono (O' := fun i => O i ∨ w.heap.size ≤ i) (fun _ => Or.inl))
    have HK := Lib.hid (kb_of_below (O := O) (B1.out.alloc B1.out.size (.cells (getH p).cells 43)))
    clear B1
    obtain ⟨w2, hw2⟩ : ∃ w2, w2 = w1.alloc (.cells (getH p).cells 43) := ⟨_, rfl⟩
    rw [← hw2] at HE HK
    generalize getH p = h at *
    unfold H4.cells at hw2 ⊢
    go_wp2_with fail
    go_ret2
    simp only [← hw2]
    refine ⟨ms, clock, ?_, HE.out, ?_, HK.out⟩
    · rw [HA.out]; rfl
    · rw [HA.out]

end Go.Proofs.Ytoijomdgcgbpbaa
