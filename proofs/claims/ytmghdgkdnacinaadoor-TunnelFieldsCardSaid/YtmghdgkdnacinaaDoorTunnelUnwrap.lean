/-
  Unwrap. (Written by wip/tools/genunwrap2.py.)
-/
import Derived.Test.YtmghdgkdnacinaaDoorTunnelGet
namespace Go.Proofs.YtmghdgkdnacinaaDoor
open Go.RowKit
set_option linter.unusedVariables false
set_option linter.unusedSimpArgs false

/-- Both answers' blocks, and the tables. -/
structure Un14 (w W : World) (t : T14) (y : W14) : Prop where
  tb : Blk W w.heap.size t.cells 24
  yb : Blk W (w.heap.size + 1) y.cells 32
  gl : Gl13 w W
  hv : Vers w
  hp : Places w
theorem Un14.below {w W W' : World} {t : T14} {y : W14} (r : Un14 w W t y) (hb : Below W.heap.size W W') : Un14 w W' t y :=
  ⟨(hb.block _ r.tb.lt).trans r.tb, (hb.block _ r.yb.lt).trans r.yb, r.gl.below hb, r.hv, r.hp⟩
theorem Un14.new (w : World) (t : T14) (y : W14) (hv : Vers w) (hp : Places w) : Un14 w ((w.alloc (.cells t.cells 24)).alloc (.cells y.cells 32)) t y :=
  ⟨(Blk.new _ _ _).alloc _, bare14 _ _ _ _ _, ((Gl13.new hv hp).alloc _).alloc _, hv, hp⟩
theorem Un14.alloc {w W : World} {t : T14} {y : W14} (r : Un14 w W t y) (o : Obj) : Un14 w (W.alloc o) t y := r.below ((Below.refl _ _).alloc (Nat.le_refl _) o)
theorem Un14.drew {w W : World} {t : T14} {y : W14} (r : Un14 w W t y) : Un14 w W.drew t y := r.below (below_drewN (Below.refl _ _) 1)
theorem Gl13.row {w W : World} (r : Gl13 w W) (hv : Vers w) (hp : Places w) {k : Nat} (hk : w.heap.size ≤ k) (ys : Array Value) : Gl13 w (W.setRow k ys) :=
  ⟨below_row r.bel hk ys, hv.on (below_row r.bel hk ys), hp.on (below_row r.bel hk ys)⟩
theorem Un14.rowT {w W : World} {t : T14} {y : W14} (r : Un14 w W t y) (t' : T14) : Un14 w (W.setRow w.heap.size t'.cells) t' y :=
  ⟨r.tb.row _, r.yb.row_other (by omega) _, r.gl.row r.hv r.hp (Nat.le_refl _) _, r.hv, r.hp⟩
theorem Un14.rowY {w W : World} {t : T14} {y : W14} (r : Un14 w W t y) (y' : W14) : Un14 w (W.setRow (w.heap.size + 1) y'.cells) t y' :=
  ⟨r.tb.row_other (by omega) _, r.yb.row _, r.gl.row r.hv r.hp (Nat.le_succ _) _, r.hv, r.hp⟩
theorem Un14.row5 {w W : World} {t : T14} {y : W14} (r : Un14 w W t y) {k : Nat} (hk : w.heap.size + 1 < k) (ys : Array Value) : Un14 w (W.setRow k ys) t y :=
  ⟨r.tb.row_other (by omega) _, r.yb.row_other (by omega) _, r.gl.row r.hv r.hp (by omega) _, r.hv, r.hp⟩
/-- The header's block besides. -/
structure Uh14 (w W : World) (t : T14) (y : W14) (H : Nat) (h : H4) : Prop where
  un : Un14 w W t y
  hb : Blk W H h.cells 52
  le : w.heap.size + 1 < H
theorem Uh14.below {w W W' : World} {t : T14} {y : W14} {H : Nat} {h : H4} (r : Uh14 w W t y H h) (hb : Below W.heap.size W W') : Uh14 w W' t y H h :=
  ⟨r.un.below hb, (hb.block _ r.hb.lt).trans r.hb, r.le⟩
theorem Uh14.new {w W : World} {t : T14} {y : W14} (r : Un14 w W t y) (h : H4) : Uh14 w (W.alloc (.cells h.cells 52)) t y W.heap.size h :=
  ⟨r.alloc _, Blk.new _ _ _, r.yb.lt⟩
theorem Uh14.row {w W : World} {t : T14} {y : W14} {H : Nat} {h : H4} (r : Uh14 w W t y H h) {k : Nat} (hk : w.heap.size + 1 < k) (hH : H ≠ k) (ys : Array Value) : Uh14 w (W.setRow k ys) t y H h :=
  ⟨r.un.row5 hk ys, r.hb.row_other hH ys, r.le⟩
theorem Uh14.drew {w W : World} {t : T14} {y : W14} {H : Nat} {h : H4} (r : Uh14 w W t y H h) : Uh14 w W.drew t y H h := r.below (below_drewN (Below.refl _ _) 1)
theorem Uh14.alloc {w W : World} {t : T14} {y : W14} {H : Nat} {h : H4} (r : Uh14 w W t y H h) (o : Obj) : Uh14 w (W.alloc o) t y H h := r.below ((Below.refl _ _).alloc (Nat.le_refl _) o)

/-- What is told, and what will be: their blocks besides. -/
structure Uz14 (w W : World) (H : Nat) (h : H4) (P : Nat) (xs : Array Value) (N : Nat) (ts : Array Value) (t : T14) (y : W14) : Prop where
  uh : Uh14 w W t y H h
  pb : Blk W P xs 59
  nb : Blk W N ts 24
  lp : w.heap.size + 1 < P
  ln : w.heap.size + 1 < N
  hn : H ≠ N
  pn : P ≠ N
theorem Uz14.below {w W W' : World} {H : Nat} {h : H4} {P : Nat} {xs : Array Value} {N : Nat} {ts : Array Value} {t : T14} {y : W14} (r : Uz14 w W H h P xs N ts t y) (hb : Below W.heap.size W W') : Uz14 w W' H h P xs N ts t y :=
  ⟨r.uh.below hb, (hb.block _ r.pb.lt).trans r.pb, (hb.block _ r.nb.lt).trans r.nb, r.lp, r.ln, r.hn, r.pn⟩
theorem Uz14.drew {w W : World} {H : Nat} {h : H4} {P : Nat} {xs : Array Value} {N : Nat} {ts : Array Value} {t : T14} {y : W14} (r : Uz14 w W H h P xs N ts t y) : Uz14 w W.drew H h P xs N ts t y := r.below (below_drewN (Below.refl _ _) 1)
theorem Uz14.new {w W : World} {H : Nat} {h : H4} {t : T14} {y : W14} (r : Uh14 w W t y H h) (x : P14) (ts : Array Value) :
    Uz14 w ((W.alloc (.cells x.cells 59)).alloc (.cells ts 24)) H h W.heap.size x.cells (W.heap.size + 1) ts t y :=
  ⟨(r.alloc _).alloc _, (Blk.new _ _ _).alloc _, bare14 _ _ _ _ _, r.un.yb.lt, Nat.lt_succ_of_lt r.un.yb.lt, Nat.ne_of_lt (Nat.lt_succ_of_lt r.hb.lt), by omega⟩
theorem Gl13.setCell {w W : World} (r : Gl13 w W) (hv : Vers w) (hp : Places w) {p : Addr} (hk : w.heap.size ≤ p.block) (x : Value) : Gl13 w (W.setCell p x) :=
  ⟨r.bel.setCell hk x, hv.on (r.bel.setCell hk x), hp.on (r.bel.setCell hk x)⟩
theorem Uz14.set {w W : World} {H : Nat} {h : H4} {P : Nat} {xs : Array Value} {N : Nat} {ts : Array Value} {t : T14} {y : W14} (r : Uz14 w W H h P xs N ts t y) (i : Nat) (v : Value) : Uz14 w (W.setCell ⟨N, i, none⟩ v) H h P xs N (ts.setIfInBounds i v) t y :=
  ⟨⟨⟨r.uh.un.tb.set_other (p := ⟨N, i, none⟩) (by have := r.ln; show _ ≠ N; omega) _, r.uh.un.yb.set_other (p := ⟨N, i, none⟩) (by have := r.ln; show _ ≠ N; omega) _, r.uh.un.gl.setCell r.uh.un.hv r.uh.un.hp (p := ⟨N, i, none⟩) (by have := r.ln; show _ ≤ N; omega) _, r.uh.un.hv, r.uh.un.hp⟩,
    r.uh.hb.set_other (p := ⟨N, i, none⟩) r.hn _, r.uh.le⟩, r.pb.set_other (p := ⟨N, i, none⟩) r.pn _, r.nb.set i v, r.lp, r.ln, r.hn, r.pn⟩
theorem Uz14.rowT {w W : World} {H : Nat} {h : H4} {P : Nat} {xs : Array Value} {N : Nat} {ts : Array Value} {t : T14} {y : W14} (r : Uz14 w W H h P xs N ts t y) (t' : T14) : Uz14 w (W.setRow w.heap.size t'.cells) H h P xs N ts t' y :=
  ⟨⟨r.uh.un.rowT t', r.uh.hb.row_other (by have := r.uh.le; omega) _, r.uh.le⟩, r.pb.row_other (by have := r.lp; omega) _, r.nb.row_other (by have := r.ln; omega) _, r.lp, r.ln, r.hn, r.pn⟩
theorem Uz14.rowY {w W : World} {H : Nat} {h : H4} {P : Nat} {xs : Array Value} {N : Nat} {ts : Array Value} {t : T14} {y : W14} (r : Uz14 w W H h P xs N ts t y) (y' : W14) : Uz14 w (W.setRow (w.heap.size + 1) y'.cells) H h P xs N ts t y' :=
  ⟨⟨r.uh.un.rowY y', r.uh.hb.row_other (by have := r.uh.le; omega) _, r.uh.le⟩, r.pb.row_other (by have := r.lp; omega) _, r.nb.row_other (by have := r.ln; omega) _, r.lp, r.ln, r.hn, r.pn⟩
theorem Uz14.keep5 {w W : World} {H : Nat} {h : H4} {P : Nat} {xs : Array Value} {N : Nat} {ts : Array Value} {t : T14} {y : W14} (r : Uz14 w W H h P xs N ts t y) :
    W.cell? ⟨H, 5, none⟩ = some (.bool h.df) ∧ W.cell? ⟨H, 3, none⟩ = some (.int .i64 h.ttl) ∧ W.cell? ⟨H, 0, none⟩ = some (.int .i64 h.tos) := ⟨r.uh.hb.cell 5, r.uh.hb.cell 3, r.uh.hb.cell 0⟩
theorem Uz14.keep15 {w W : World} {H : Nat} {h : H4} {P : Nat} {x : P14} {N : Nat} {k : T14} {t : T14} {y : W14} (r : Uz14 w W H h P x.cells N k.cells t y) :
    W.cell? ⟨N, 0, none⟩ = some (.int .i64 k.mode) ∧ W.cell? ⟨N, 1, none⟩ = some (.bool k.sum) ∧ W.cell? ⟨N, 2, none⟩ = some (.bool k.key) ∧ W.cell? ⟨N, 3, none⟩ = some (.int .u32 (k.v : Nat)) ∧ W.cell? ⟨N, 4, none⟩ = some (.bool k.df) ∧ W.cell? ⟨N, 5, none⟩ = some (.int .i64 k.ttl) ∧ W.cell? ⟨N, 6, none⟩ = some (.int .i64 k.tos) ∧
    W.cell? ⟨H, 7, none⟩ = some (.string h.src) ∧ W.cell? ⟨H, 8, none⟩ = some (.string h.dst) ∧ W.cell? ⟨H, 1, none⟩ = some (.int .i64 h.id) ∧ W.cell? ⟨P, 7, none⟩ = some (.int .i64 x.port) ∧ W.cell? ⟨P, 8, none⟩ = some (.string x.inner) :=
  ⟨r.nb.cell 0, r.nb.cell 1, r.nb.cell 2, r.nb.cell 3, r.nb.cell 4, r.nb.cell 5, r.nb.cell 6, r.uh.hb.cell 7, r.uh.hb.cell 8, r.uh.hb.cell 1, r.pb.cell 7, r.pb.cell 8⟩
theorem unw14_err {p : ByteArray} (h : unw14E p ≠ 0) : unw14T p = T14.zero ∧ unw14W p = W14.zero ∧ unw14S p = ⟨#[]⟩ := by
  unfold unw14T unw14W unw14S
  rw [if_neg h, if_neg h, if_neg h]
  exact ⟨rfl, rfl, rfl⟩
theorem unw14_ok {p : ByteArray} (h : unw14E p = 0) : unw14T p = in14T (getH p) (getS p) ∧ unw14W p = in14W (getH p) (getS p) ∧ unw14S p = ((of14 (getH p).proto).get (getH p) (getS p)).inner := by
  unfold unw14T unw14W unw14S
  rw [if_pos h, if_pos h, if_pos h]
  exact ⟨rfl, rfl, rfl⟩

set_option maxRecDepth 100000 in
set_option maxHeartbeats 4000000 in
theorem unwrap14_any (p : ByteArray) (w : World) (hv : Vers w) (hp : Places w) (hz : p.size ≤ 900000) :
    Calls Tryd.prog 9 #[.string p] w (Tells (.tuple #[.agg (unw14T p).cells, .agg (unw14W p).cells, .string (unw14S p), .int .i64 (unw14E p)]) w) := by
  have S0 : Hid (Un14 w ((w.alloc (.cells #[.int .i64 0, .bool false, .bool false, .int .u32 0, .bool false, .int .i64 0, .int .i64 0] 24)).alloc (.cells #[.string ⟨#[]⟩, .string ⟨#[]⟩, .int .i64 0, .int .i64 0] 32)) T14.zero W14.zero) := Lib.hid (Un14.new w T14.zero W14.zero hv hp)
  have HG := Lib.hid (fun W => get_any p W (by omega))
  have HM := Lib.hid (fun n W => modeOf14_any n W)
  unfold GetEnd at HG
  unfold Tells
  have HERR := Lib.hid (fun h => unw14_err (p := p) h)
  have HOK := Lib.hid (fun h => unw14_ok (p := p) h)
  have HE : Hid (unw14E p = if getE p ≠ 0 then ((getE p : Nat) : Int) else in14E (getH p) (getS p)) := rfl
  have HGM := Lib.hid (fun m hm W hv hp => getM14_any m hm (getH p) (getS p) W hv hp (by
    unfold getH; split
    · show (ByteArray.extract _ _ _).size ≤ _; rw [ByteArray.size_extract]; omega
    · exact Nat.zero_le _) (by
    unfold getH; split
    · show (ByteArray.extract _ _ _).size ≤ _; rw [ByteArray.size_extract]; omega
    · exact Nat.zero_le _) (by
    unfold getS; split
    · rw [ByteArray.size_extract]; omega
    · exact Nat.zero_le _))
  clear hv hp hz
  generalize unw14E p = RE at *
  generalize unw14T p = RT at *
  generalize unw14W p = RW at *
  generalize unw14S p = RS at *
  generalize getE p = E0 at *
  generalize getS p = s at *
  generalize getH p = h at *
  by_cases h0 : E0 = 0
  case neg =>
    have t0 : ((E0 : Int) != 0) = true := by simp; omega
    have e4 := Lib.hid (HE.out.trans (if_pos h0))
    have ⟨e1', e2', e3'⟩ := HERR.out (by rw [e4.out]; omega)
    have e1 := Lib.hid e1'
    have e2 := Lib.hid e2'
    have e3 := Lib.hid e3'
    clear HE HERR HOK HM HGM h0 e1' e2' e3'
    unfold H4.cells at HG
    go_enter Tryd.func9, Tryd.ntmps9
    go_wp2_with fail
    refine (HG.out _).mono ?_
    rintro e w1 ⟨rfl, hb⟩
    have S1 := Lib.hid ((S0.out.below hb).alloc (.cells #[.int .i64 h.tos, .int .i64 h.id, .int .i64 h.off, .int .i64 h.ttl, .int .i64 h.proto, .bool h.df, .bool h.mf, .string h.src, .string h.dst, .string h.opt] 52))
    clear hb S0 HG
    have Q1 : Hid (Un14 w ((w1.alloc (.cells #[.int .i64 h.tos, .int .i64 h.id, .int .i64 h.off, .int .i64 h.ttl, .int .i64 h.proto, .bool h.df, .bool h.mf, .string h.src, .string h.dst, .string h.opt] 52)).setRow w.heap.size #[.int .i64 0, .bool false, .bool false, .int .u32 0, .bool false, .int .i64 0, .int .i64 0]) T14.zero W14.zero) := Lib.hid (S1.out.rowT T14.zero)
    have Q2 : Hid (Un14 w (((w1.alloc (.cells #[.int .i64 h.tos, .int .i64 h.id, .int .i64 h.off, .int .i64 h.ttl, .int .i64 h.proto, .bool h.df, .bool h.mf, .string h.src, .string h.dst, .string h.opt] 52)).setRow w.heap.size #[.int .i64 0, .bool false, .bool false, .int .u32 0, .bool false, .int .i64 0, .int .i64 0]).setRow (w.heap.size + 1) #[.string ⟨#[]⟩, .string ⟨#[]⟩, .int .i64 0, .int .i64 0]) T14.zero W14.zero) := Lib.hid (Q1.out.rowY W14.zero)
    go_wp2_with (first
      | (refine wpList_store_row rfl 24 (.tmp 2) (.tmp 22) rfl w.heap.size #[.int .i64 0, .bool false, .bool false, .int .u32 0, .bool false, .int .i64 0, .int .i64 0] rfl rfl 24 #[.int .i64 0, .bool false, .bool false, .int .u32 0, .bool false, .int .i64 0, .int .i64 0] S1.out.tb (by kernel_rfl) rfl (by simp; (repeat' apply And.intro); all_goals rfl) ?_)
      | (refine wpList_store_row rfl 32 (.tmp 3) (.tmp 23) rfl (w.heap.size + 1) #[.string ⟨#[]⟩, .string ⟨#[]⟩, .int .i64 0, .int .i64 0] rfl rfl 32 #[.string ⟨#[]⟩, .string ⟨#[]⟩, .int .i64 0, .int .i64 0] Q1.out.yb (by kernel_rfl) rfl (by simp; (repeat' apply And.intro); all_goals rfl) ?_))
    rw [e1.out, e2.out, e3.out, e4.out]
    have ⟨k0, k1, k2, k3, k4, k5, k6⟩ := Tc.of Q2.out.tb
    have ⟨y0, y1, y2, y3⟩ := Wc.of Q2.out.yb
    generalize ((w1.alloc (.cells #[.int .i64 h.tos, .int .i64 h.id, .int .i64 h.off, .int .i64 h.ttl, .int .i64 h.proto, .bool h.df, .bool h.mf, .string h.src, .string h.dst, .string h.opt] 52)).setRow w.heap.size #[.int .i64 0, .bool false, .bool false, .int .u32 0, .bool false, .int .i64 0, .int .i64 0]).setRow (w.heap.size + 1) #[.string ⟨#[]⟩, .string ⟨#[]⟩, .int .i64 0, .int .i64 0] = W9 at *
    refine ⟨rfl, _, ?_, rfl, Q2.out.gl.bel⟩
    simp [results, Tryd.results9, go_sem, k0, k1, k2, k3, k4, k5, k6, y0, y1, y2, y3]
    simp [T14.cells, W14.cells, T14.zero, W14.zero]
  have HE1 : Hid (RE = if h.mf = true ∨ h.off ≠ 0 then 14 else (of14 h.proto).getE h s) := Lib.hid (HE.out.trans (if_neg (fun k => k h0)))
  subst h0
  simp only [show ((0 : Nat) : Int) = 0 from rfl] at HG
  clear HE
  obtain ⟨h', hh'⟩ : ∃ h', h' = h := ⟨_, rfl⟩
  obtain ⟨tos, id, off, ttl, proto, df, mf, src, dst, opt⟩ := h
  have HH := Lib.hid hh'
  unfold H4.cells at HG
  simp only at HG HE1
  rw [← hh'] at HGM HOK HE1
  clear hh'
  by_cases hf : mf = true ∨ off ≠ 0
  case pos =>
    have e4 := Lib.hid (HE1.out.trans (if_pos hf))
    have ⟨e1', e2', e3'⟩ := HERR.out (by rw [e4.out]; decide)
    have e1 := Lib.hid e1'
    have e2 := Lib.hid e2'
    have e3 := Lib.hid e3'
    clear HE1 HERR HOK HM HGM e1' e2' e3'
    have hf2 : mf = true ∨ mf = false ∧ (off != 0) = true := by
      cases mf with
      | true => exact Or.inl rfl
      | false => exact Or.inr ⟨rfl, by simpa using hf⟩
    clear hf
    rcases hf2 with rfl | ⟨rfl, tf⟩
    · go_enter Tryd.func9, Tryd.ntmps9
      go_wp2_with fail
      refine (HG.out _).mono ?_
      rintro e w1 ⟨rfl, hb⟩
      have S1 := Lib.hid ((S0.out.below hb).alloc (.cells #[.int .i64 tos, .int .i64 id, .int .i64 off, .int .i64 ttl, .int .i64 proto, .bool df, .bool true, .string src, .string dst, .string opt] 52))
      clear hb S0 HG
      have Q1 : Hid (Un14 w ((w1.alloc (.cells #[.int .i64 tos, .int .i64 id, .int .i64 off, .int .i64 ttl, .int .i64 proto, .bool df, .bool true, .string src, .string dst, .string opt] 52)).setRow w.heap.size #[.int .i64 0, .bool false, .bool false, .int .u32 0, .bool false, .int .i64 0, .int .i64 0]) T14.zero W14.zero) := Lib.hid (S1.out.rowT T14.zero)
      have Q2 : Hid (Un14 w (((w1.alloc (.cells #[.int .i64 tos, .int .i64 id, .int .i64 off, .int .i64 ttl, .int .i64 proto, .bool df, .bool true, .string src, .string dst, .string opt] 52)).setRow w.heap.size #[.int .i64 0, .bool false, .bool false, .int .u32 0, .bool false, .int .i64 0, .int .i64 0]).setRow (w.heap.size + 1) #[.string ⟨#[]⟩, .string ⟨#[]⟩, .int .i64 0, .int .i64 0]) T14.zero W14.zero) := Lib.hid (Q1.out.rowY W14.zero)
      go_wp2_with (first
        | (refine wpList_store_row rfl 24 (.tmp 2) (.tmp 32) rfl w.heap.size #[.int .i64 0, .bool false, .bool false, .int .u32 0, .bool false, .int .i64 0, .int .i64 0] rfl rfl 24 #[.int .i64 0, .bool false, .bool false, .int .u32 0, .bool false, .int .i64 0, .int .i64 0] S1.out.tb (by kernel_rfl) rfl (by simp; (repeat' apply And.intro); all_goals rfl) ?_)
        | (refine wpList_store_row rfl 32 (.tmp 3) (.tmp 33) rfl (w.heap.size + 1) #[.string ⟨#[]⟩, .string ⟨#[]⟩, .int .i64 0, .int .i64 0] rfl rfl 32 #[.string ⟨#[]⟩, .string ⟨#[]⟩, .int .i64 0, .int .i64 0] Q1.out.yb (by kernel_rfl) rfl (by simp; (repeat' apply And.intro); all_goals rfl) ?_))
      rw [e1.out, e2.out, e3.out, e4.out]
      have ⟨k0, k1, k2, k3, k4, k5, k6⟩ := Tc.of Q2.out.tb
      have ⟨y0, y1, y2, y3⟩ := Wc.of Q2.out.yb
      generalize ((w1.alloc (.cells #[.int .i64 tos, .int .i64 id, .int .i64 off, .int .i64 ttl, .int .i64 proto, .bool df, .bool true, .string src, .string dst, .string opt] 52)).setRow w.heap.size #[.int .i64 0, .bool false, .bool false, .int .u32 0, .bool false, .int .i64 0, .int .i64 0]).setRow (w.heap.size + 1) #[.string ⟨#[]⟩, .string ⟨#[]⟩, .int .i64 0, .int .i64 0] = W9 at *
      refine ⟨rfl, _, ?_, rfl, Q2.out.gl.bel⟩
      simp [results, Tryd.results9, go_sem, k0, k1, k2, k3, k4, k5, k6, y0, y1, y2, y3]
      simp [T14.cells, W14.cells, T14.zero, W14.zero]
    · go_enter Tryd.func9, Tryd.ntmps9
      go_wp2_with fail
      refine (HG.out _).mono ?_
      rintro e w1 ⟨rfl, hb⟩
      have S1 := Lib.hid ((S0.out.below hb).alloc (.cells #[.int .i64 tos, .int .i64 id, .int .i64 off, .int .i64 ttl, .int .i64 proto, .bool df, .bool false, .string src, .string dst, .string opt] 52))
      clear hb S0 HG
      have Q1 : Hid (Un14 w ((w1.alloc (.cells #[.int .i64 tos, .int .i64 id, .int .i64 off, .int .i64 ttl, .int .i64 proto, .bool df, .bool false, .string src, .string dst, .string opt] 52)).setRow w.heap.size #[.int .i64 0, .bool false, .bool false, .int .u32 0, .bool false, .int .i64 0, .int .i64 0]) T14.zero W14.zero) := Lib.hid (S1.out.rowT T14.zero)
      have Q2 : Hid (Un14 w (((w1.alloc (.cells #[.int .i64 tos, .int .i64 id, .int .i64 off, .int .i64 ttl, .int .i64 proto, .bool df, .bool false, .string src, .string dst, .string opt] 52)).setRow w.heap.size #[.int .i64 0, .bool false, .bool false, .int .u32 0, .bool false, .int .i64 0, .int .i64 0]).setRow (w.heap.size + 1) #[.string ⟨#[]⟩, .string ⟨#[]⟩, .int .i64 0, .int .i64 0]) T14.zero W14.zero) := Lib.hid (Q1.out.rowY W14.zero)
      go_wp2_with (first
        | (refine wpList_store_row rfl 24 (.tmp 2) (.tmp 32) rfl w.heap.size #[.int .i64 0, .bool false, .bool false, .int .u32 0, .bool false, .int .i64 0, .int .i64 0] rfl rfl 24 #[.int .i64 0, .bool false, .bool false, .int .u32 0, .bool false, .int .i64 0, .int .i64 0] S1.out.tb (by kernel_rfl) rfl (by simp; (repeat' apply And.intro); all_goals rfl) ?_)
        | (refine wpList_store_row rfl 32 (.tmp 3) (.tmp 33) rfl (w.heap.size + 1) #[.string ⟨#[]⟩, .string ⟨#[]⟩, .int .i64 0, .int .i64 0] rfl rfl 32 #[.string ⟨#[]⟩, .string ⟨#[]⟩, .int .i64 0, .int .i64 0] Q1.out.yb (by kernel_rfl) rfl (by simp; (repeat' apply And.intro); all_goals rfl) ?_))
      rw [e1.out, e2.out, e3.out, e4.out]
      have ⟨k0, k1, k2, k3, k4, k5, k6⟩ := Tc.of Q2.out.tb
      have ⟨y0, y1, y2, y3⟩ := Wc.of Q2.out.yb
      generalize ((w1.alloc (.cells #[.int .i64 tos, .int .i64 id, .int .i64 off, .int .i64 ttl, .int .i64 proto, .bool df, .bool false, .string src, .string dst, .string opt] 52)).setRow w.heap.size #[.int .i64 0, .bool false, .bool false, .int .u32 0, .bool false, .int .i64 0, .int .i64 0]).setRow (w.heap.size + 1) #[.string ⟨#[]⟩, .string ⟨#[]⟩, .int .i64 0, .int .i64 0] = W9 at *
      refine ⟨rfl, _, ?_, rfl, Q2.out.gl.bel⟩
      simp [results, Tryd.results9, go_sem, k0, k1, k2, k3, k4, k5, k6, y0, y1, y2, y3]
      simp [T14.cells, W14.cells, T14.zero, W14.zero]
  have HE2 : Hid (RE = (of14 proto).getE h' s) := Lib.hid (HE1.out.trans (if_neg hf))
  have hmf : mf = false := by cases mf with | false => rfl | true => exact absurd (Or.inl rfl) hf
  have tf : (off != 0) = false := by
    have : off = 0 := Classical.byContradiction (fun k => hf (Or.inr k))
    simp [this]
  subst hmf
  clear HE1 hf
  have HPR := Lib.hid (show h'.proto = proto by rw [HH.out])
  have HM1 := Lib.hid (HM.out proto)
  clear HM
  generalize hm' : of14 proto = m at *
  have HMM := Lib.hid hm'
  clear hm'
  cases his : m.is with
  | false =>
    have hn : m = .none := by cases m <;> first | rfl | exact absurd his (by decide)
    subst hn
    have hval : M14.none.val = .agg #[.bool false, .bool false, .nilFunc, .nilFunc, .nilFunc] := rfl
    have e4 : Hid (RE = 6) := HE2
    have HLK := Lib.hid (fun w b (h : Modes14 w b) => look14 M14.none.num true h)
    rw [m14_num, hval, show M14.none.is = false from rfl] at HLK
    simp only [if_true] at HLK
    generalize M14.none.num = num at *
    have ⟨e1', e2', e3'⟩ := HERR.out (by rw [e4.out]; decide)
    have e1 := Lib.hid e1'
    have e2 := Lib.hid e2'
    have e3 := Lib.hid e3'
    clear HE2 HERR HOK HGM e1' e2' e3' his
    go_enter Tryd.func9, Tryd.ntmps9
    go_wp2_with fail
    refine (HG.out _).mono ?_
    rintro e w1 ⟨rfl, hb⟩
    have S1 := Lib.hid ((S0.out.below hb).alloc (.cells #[.int .i64 tos, .int .i64 id, .int .i64 off, .int .i64 ttl, .int .i64 proto, .bool df, .bool false, .string src, .string dst, .string opt] 52))
    clear hb S0 HG
    go_wp2_with fail
    refine (HM1.out _).mono ?_
    rintro e w2 ⟨rfl, rfl⟩
    clear HM1
    go_wp2_with fail
    refine (modes14_any _).mono ?_
    rintro e w3 ⟨rfl, hb, hm3⟩
    have S3 := Lib.hid (S1.out.below hb)
    have hk := HLK.out _ _ hm3
    rw [show (w1.alloc (.cells #[.int .i64 tos, .int .i64 id, .int .i64 off, .int .i64 ttl, .int .i64 proto, .bool df, .bool false, .string src, .string dst, .string opt] 52)).heap.size = w1.heap.size + 1 from by simp] at hk
    clear hb hm3 S1 HLK
    have S4 := Lib.hid (S3.out.alloc (.cells #[.bool false, .bool false, .nilFunc, .nilFunc, .nilFunc] 48))
    have B4 := Lib.hid (Blk.new w3 #[.bool false, .bool false, .nilFunc, .nilFunc, .nilFunc] 48)
    have S5 := Lib.hid (S4.out.row5 S3.out.yb.lt #[.bool false, .bool false, .nilFunc, .nilFunc, .nilFunc])
    have Q1 : Hid (Un14 w (((w3.alloc (.cells #[.bool false, .bool false, .nilFunc, .nilFunc, .nilFunc] 48)).setRow w3.heap.size #[.bool false, .bool false, .nilFunc, .nilFunc, .nilFunc]).setRow w.heap.size #[.int .i64 0, .bool false, .bool false, .int .u32 0, .bool false, .int .i64 0, .int .i64 0]) T14.zero W14.zero) := Lib.hid (S5.out.rowT T14.zero)
    have Q2 : Hid (Un14 w ((((w3.alloc (.cells #[.bool false, .bool false, .nilFunc, .nilFunc, .nilFunc] 48)).setRow w3.heap.size #[.bool false, .bool false, .nilFunc, .nilFunc, .nilFunc]).setRow w.heap.size #[.int .i64 0, .bool false, .bool false, .int .u32 0, .bool false, .int .i64 0, .int .i64 0]).setRow (w.heap.size + 1) #[.string ⟨#[]⟩, .string ⟨#[]⟩, .int .i64 0, .int .i64 0]) T14.zero W14.zero) := Lib.hid (Q1.out.rowY W14.zero)
    go_wp2_with (first
      | (refine wpList_store_row rfl 48 (.tmp 10) (.tmp 41) rfl w3.heap.size #[.bool false, .bool false, .nilFunc, .nilFunc, .nilFunc] rfl rfl 48 #[.bool false, .bool false, .nilFunc, .nilFunc, .nilFunc] B4.out (by kernel_rfl) rfl (by simp; (repeat' apply And.intro); all_goals rfl) ?_; generalize (w3.alloc (.cells #[.bool false, .bool false, .nilFunc, .nilFunc, .nilFunc] 48)).setRow w3.heap.size #[.bool false, .bool false, .nilFunc, .nilFunc, .nilFunc] = w4 at *)
      | (refine wpList_store_row rfl 24 (.tmp 2) (.tmp 45) rfl w.heap.size #[.int .i64 0, .bool false, .bool false, .int .u32 0, .bool false, .int .i64 0, .int .i64 0] rfl rfl 24 #[.int .i64 0, .bool false, .bool false, .int .u32 0, .bool false, .int .i64 0, .int .i64 0] S5.out.tb (by kernel_rfl) rfl (by simp; (repeat' apply And.intro); all_goals rfl) ?_)
      | (refine wpList_store_row rfl 32 (.tmp 3) (.tmp 46) rfl (w.heap.size + 1) #[.string ⟨#[]⟩, .string ⟨#[]⟩, .int .i64 0, .int .i64 0] rfl rfl 32 #[.string ⟨#[]⟩, .string ⟨#[]⟩, .int .i64 0, .int .i64 0] Q1.out.yb (by kernel_rfl) rfl (by simp; (repeat' apply And.intro); all_goals rfl) ?_))
    rw [e1.out, e2.out, e3.out, e4.out]
    have ⟨k0, k1, k2, k3, k4, k5, k6⟩ := Tc.of Q2.out.tb
    have ⟨y0, y1, y2, y3⟩ := Wc.of Q2.out.yb
    generalize (w4.setRow w.heap.size #[.int .i64 0, .bool false, .bool false, .int .u32 0, .bool false, .int .i64 0, .int .i64 0]).setRow (w.heap.size + 1) #[.string ⟨#[]⟩, .string ⟨#[]⟩, .int .i64 0, .int .i64 0] = W9 at *
    refine ⟨rfl, _, ?_, rfl, Q2.out.gl.bel⟩
    simp [results, Tryd.results9, go_sem, k0, k1, k2, k3, k4, k5, k6, y0, y1, y2, y3]
    simp [T14.cells, W14.cells, T14.zero, W14.zero]
  | true =>
    have hval : m.val = .agg #[.bool m.s, .bool m.k, .func (.func m.nS) #[] #[], .func (.func m.nP) #[] #[], .func (.func m.nG) #[] #[]] := by unfold M14.val; rw [his]; rfl
    have HGM1 := Lib.hid (HGM.out m his)
    have HEN := enterG m
    have HLK := Lib.hid (fun w b (h : Modes14 w b) => look14 m.num true h)
    rw [m14_num, hval, his] at HLK
    simp only [if_true] at HLK
    clear HGM hval
    have HX : Hid (in14T h' s = ⟨m.num, (m.get h' s).sum, (m.get h' s).key, (m.get h' s).v, df, ttl, tos⟩ ∧ in14W h' s = ⟨src, dst, id, (m.get h' s).port⟩) := by
      unfold in14T in14W
      rw [HPR.out, HMM.out, HH.out]
      exact Lib.hid ⟨rfl, rfl⟩
    unfold Tells at HGM1
    rw [HPR.out, HMM.out] at HOK
    rw [HH.out] at HGM1 HOK HE2 HX
    unfold H4.cells at HGM1
    simp only at HGM1
    generalize m.getE ⟨tos, id, off, ttl, proto, df, false, src, dst, opt⟩ s = er at *
    generalize m.get ⟨tos, id, off, ttl, proto, df, false, src, dst, opt⟩ s = x at *
    obtain ⟨xs, xk, xv, xp, xi⟩ := x
    unfold P14.cells at HGM1
    simp only at HGM1 HX HOK
    clear HMM HPR HH his
    generalize m.num = num at *
    generalize m.s = ms at *
    generalize m.k = mk at *
    generalize m.nS = nS at *
    generalize m.nP = nP at *
    generalize m.nG = nG at *
    go_enter Tryd.func9, Tryd.ntmps9
    go_wp2_with fail
    refine (HG.out _).mono ?_
    rintro e w1 ⟨rfl, hb⟩
    have U1 : Hid (Uh14 w (w1.alloc (.cells #[.int .i64 tos, .int .i64 id, .int .i64 off, .int .i64 ttl, .int .i64 proto, .bool df, .bool false, .string src, .string dst, .string opt] 52)) T14.zero W14.zero w1.heap.size ⟨tos, id, off, ttl, proto, df, false, src, dst, opt⟩) := Lib.hid (Uh14.new (S0.out.below hb) ⟨tos, id, off, ttl, proto, df, false, src, dst, opt⟩)
    clear hb S0 HG
    go_wp2_with fail
    refine (HM1.out _).mono ?_
    rintro e w2 ⟨rfl, rfl⟩
    clear HM1
    go_wp2_with fail
    refine (modes14_any _).mono ?_
    rintro e w3 ⟨rfl, hb, hm3⟩
    have U3 := Lib.hid (U1.out.below hb)
    have hk := HLK.out _ _ hm3
    rw [show (w1.alloc (.cells #[.int .i64 tos, .int .i64 id, .int .i64 off, .int .i64 ttl, .int .i64 proto, .bool df, .bool false, .string src, .string dst, .string opt] 52)).heap.size = w1.heap.size + 1 from by simp] at hk
    clear hb hm3 U1 HLK
    have U4 := Lib.hid (U3.out.alloc (.cells #[.bool false, .bool false, .nilFunc, .nilFunc, .nilFunc] 48))
    have B4 := Lib.hid (Blk.new w3 #[.bool false, .bool false, .nilFunc, .nilFunc, .nilFunc] 48)
    have U5 := Lib.hid (U4.out.row U3.out.un.yb.lt (Nat.ne_of_lt U3.out.hb.lt) #[.bool ms, .bool mk, .func (.func nS) #[] #[], .func (.func nP) #[] #[], .func (.func nG) #[] #[]])
    have B5 := Lib.hid (B4.out.row #[.bool ms, .bool mk, .func (.func nS) #[] #[], .func (.func nP) #[] #[], .func (.func nG) #[] #[]])
    clear U4
    have cG := B5.out.cell 4
    simp only [List.getElem?_toArray, List.getElem?_cons_zero, List.getElem?_cons_succ] at cG
    have ⟨h0, h1, h2, h3, h4, h5, h6, h7, h8, h9⟩ := Hc.of U5.out.hb
    simp only at h0 h1 h2 h3 h4 h5 h6 h7 h8 h9
    go_wp2_with (first
      | (refine wpList_store_row rfl 48 (.tmp 10) (.tmp 41) rfl w3.heap.size #[.bool ms, .bool mk, .func (.func nS) #[] #[], .func (.func nP) #[] #[], .func (.func nG) #[] #[]] rfl rfl 48 #[.bool false, .bool false, .nilFunc, .nilFunc, .nilFunc] B4.out (by kernel_rfl) rfl (by simp; (repeat' apply And.intro); all_goals rfl) ?_; generalize (w3.alloc (.cells #[.bool false, .bool false, .nilFunc, .nilFunc, .nilFunc] 48)).setRow w3.heap.size #[.bool ms, .bool mk, .func (.func nS) #[] #[], .func (.func nP) #[] #[], .func (.func nG) #[] #[]] = w4 at *))
    refine (HGM1.out _ U5.out.un.gl.vs U5.out.un.gl.ps).mono ?_
    rintro e w7 ⟨rfl, hb⟩
    have U7 := Lib.hid (U5.out.below hb)
    clear hb U3 U5 B4 B5 cG hk HGM1 HEN h0 h1 h2 h3 h4 h5 h6 h7 h8 h9
    by_cases he : er = 0
    case neg =>
      have te : (er != 0) = true := by simpa using he
      have e4 := Lib.hid HE2.out
      have ⟨e1', e2', e3'⟩ := HERR.out (by rw [e4.out]; exact he)
      have e1 := Lib.hid e1'
      have e2 := Lib.hid e2'
      have e3 := Lib.hid e3'
      clear HE2 HERR HOK HX e1' e2' e3' he
      have S7 := Lib.hid (U7.out.un.alloc (.cells #[.int .i64 0, .bool xs, .bool xk, .int .u32 (xv : Nat), .bool false, .int .i64 0, .int .i64 0, .int .i64 xp, .string xi] 59))
      have Q1 : Hid (Un14 w ((w7.alloc (.cells #[.int .i64 0, .bool xs, .bool xk, .int .u32 (xv : Nat), .bool false, .int .i64 0, .int .i64 0, .int .i64 xp, .string xi] 59)).setRow w.heap.size #[.int .i64 0, .bool false, .bool false, .int .u32 0, .bool false, .int .i64 0, .int .i64 0]) T14.zero W14.zero) := Lib.hid (S7.out.rowT T14.zero)
      have Q2 : Hid (Un14 w (((w7.alloc (.cells #[.int .i64 0, .bool xs, .bool xk, .int .u32 (xv : Nat), .bool false, .int .i64 0, .int .i64 0, .int .i64 xp, .string xi] 59)).setRow w.heap.size #[.int .i64 0, .bool false, .bool false, .int .u32 0, .bool false, .int .i64 0, .int .i64 0]).setRow (w.heap.size + 1) #[.string ⟨#[]⟩, .string ⟨#[]⟩, .int .i64 0, .int .i64 0]) T14.zero W14.zero) := Lib.hid (Q1.out.rowY W14.zero)
      go_wp2_with (first
        | (refine wpList_store_row rfl 24 (.tmp 2) (.tmp 57) rfl w.heap.size #[.int .i64 0, .bool false, .bool false, .int .u32 0, .bool false, .int .i64 0, .int .i64 0] rfl rfl 24 #[.int .i64 0, .bool false, .bool false, .int .u32 0, .bool false, .int .i64 0, .int .i64 0] S7.out.tb (by kernel_rfl) rfl (by simp; (repeat' apply And.intro); all_goals rfl) ?_)
        | (refine wpList_store_row rfl 32 (.tmp 3) (.tmp 58) rfl (w.heap.size + 1) #[.string ⟨#[]⟩, .string ⟨#[]⟩, .int .i64 0, .int .i64 0] rfl rfl 32 #[.string ⟨#[]⟩, .string ⟨#[]⟩, .int .i64 0, .int .i64 0] Q1.out.yb (by kernel_rfl) rfl (by simp; (repeat' apply And.intro); all_goals rfl) ?_))
      rw [e1.out, e2.out, e3.out, e4.out]
      have ⟨k0, k1, k2, k3, k4, k5, k6⟩ := Tc.of Q2.out.tb
      have ⟨y0, y1, y2, y3⟩ := Wc.of Q2.out.yb
      generalize ((w7.alloc (.cells #[.int .i64 0, .bool xs, .bool xk, .int .u32 (xv : Nat), .bool false, .int .i64 0, .int .i64 0, .int .i64 xp, .string xi] 59)).setRow w.heap.size #[.int .i64 0, .bool false, .bool false, .int .u32 0, .bool false, .int .i64 0, .int .i64 0]).setRow (w.heap.size + 1) #[.string ⟨#[]⟩, .string ⟨#[]⟩, .int .i64 0, .int .i64 0] = W9 at *
      refine ⟨rfl, _, ?_, rfl, Q2.out.gl.bel⟩
      simp [results, Tryd.results9, go_sem, k0, k1, k2, k3, k4, k5, k6, y0, y1, y2, y3]
      simp [T14.cells, W14.cells, T14.zero, W14.zero]
    subst he
    have e4 := Lib.hid HE2.out
    have ⟨e1', e2', e3'⟩ := HOK.out e4.out
    have e1 := Lib.hid (e1'.trans HX.out.1)
    have e2 := Lib.hid (e2'.trans HX.out.2)
    have e3 := Lib.hid e3'
    clear HE2 HERR HOK HX e1' e2' e3'
    have Z0 := Lib.hid (Uz14.new U7.out ⟨xs, xk, xv, xp, xi⟩ #[.int .i64 0, .bool xs, .bool xk, .int .u32 (xv : Nat), .bool false, .int .i64 0, .int .i64 0])
    unfold P14.cells at Z0
    simp only at Z0
    go_wp2_with fail
    have Z1 := Lib.hid Z0.out.drew
    clear U7 Z0
    have NE := w7.heap.size
    refine wp_region_held_drew (S := (fun W => W.cell? ⟨w1.heap.size, 5, none⟩ = some (.bool df) ∧ W.cell? ⟨w1.heap.size, 3, none⟩ = some (.int .i64 ttl) ∧ W.cell? ⟨w1.heap.size, 0, none⟩ = some (.int .i64 tos))) (by kernel_rfl) ?_ (fun hHeld => ?_)
    · exact Z1.out.keep5
    generalize ((w7.alloc (.cells #[.int .i64 0, .bool xs, .bool xk, .int .u32 (xv : Nat), .bool false, .int .i64 0, .int .i64 0, .int .i64 xp, .string xi] 59)).alloc (.cells #[.int .i64 0, .bool xs, .bool xk, .int .u32 (xv : Nat), .bool false, .int .i64 0, .int .i64 0] 24)).drew = v1 at *
    generalize w7.heap.size + 1 = N at *
    generalize w7.heap.size = P at *
    generalize w1.heap.size = H at *
    refine takeH_yes (i := 0) (d := some 62) (v := ?v1) rfl rfl (by kernel_rfl) (by kernel_rfl) (by kernel_rfl) (fun _ _ _ h => h) (by rfl) ?y1 (by assumption) ?_
    case y1 => (intro w hSw; (try dsimp only at hSw); go_simp <;> with_reducible rfl)
    simp only [Act.put, List.setIfInBounds_toArray, List.set_cons_zero, List.set_cons_succ]
    refine takeH_yes (i := 1) (d := some 63) (v := ?v2) rfl rfl (by kernel_rfl) (by kernel_rfl) (by kernel_rfl) (fun _ _ _ h => h) (by rfl) ?y2 (by assumption) ?_
    case y2 => (intro w hSw; (try dsimp only at hSw); go_simp <;> with_reducible rfl)
    simp only [Act.put, List.setIfInBounds_toArray, List.set_cons_zero, List.set_cons_succ]
    refine takeH_yes (i := 2) (d := some 64) (v := ?v3) rfl rfl (by kernel_rfl) (by kernel_rfl) (by kernel_rfl) (fun _ _ _ h => h) (by rfl) ?y3 (by assumption) ?_
    case y3 => (intro w hSw; (try dsimp only at hSw); go_simp <;> with_reducible rfl)
    simp only [Act.put, List.setIfInBounds_toArray, List.set_cons_zero, List.set_cons_succ]
    refine takeH_yes (i := 3) (d := some 65) (v := ?v4) rfl rfl (by kernel_rfl) (by kernel_rfl) (by kernel_rfl) (fun _ _ _ h => h) (by rfl) ?y4 (by assumption) ?_
    case y4 => (intro w hSw; (try dsimp only at hSw); go_simp <;> with_reducible rfl)
    simp only [Act.put, List.setIfInBounds_toArray, List.set_cons_zero, List.set_cons_succ]
    refine takeH_yes (i := 4) (d := some 66) (v := ?v5) rfl rfl (by kernel_rfl) (by kernel_rfl) (by kernel_rfl) (fun _ _ _ h => h) (by rfl) ?y5 (by assumption) ?_
    case y5 => (intro w hSw; (try dsimp only at hSw); go_simp <;> with_reducible rfl)
    simp only [Act.put, List.setIfInBounds_toArray, List.set_cons_zero, List.set_cons_succ]
    refine takeH_yes (i := 5) (d := some 67) (v := ?v6) rfl rfl (by kernel_rfl) (by kernel_rfl) (by kernel_rfl) (fun _ _ _ h => h) (by rfl) ?y6 (by assumption) ?_
    case y6 => (intro w hSw; (try dsimp only at hSw); go_simp <;> with_reducible rfl)
    simp only [Act.put, List.setIfInBounds_toArray, List.set_cons_zero, List.set_cons_succ]
    refine takeH_yes (i := 6) (d := some 68) (v := ?v7) rfl rfl (by kernel_rfl) (by kernel_rfl) (by kernel_rfl) (fun _ _ _ h => h) (by rfl) ?y7 (by assumption) ?_
    case y7 => (intro w hSw; (try dsimp only at hSw); go_simp <;> with_reducible rfl)
    simp only [Act.put, List.setIfInBounds_toArray, List.set_cons_zero, List.set_cons_succ]
    refine takeH_yes (i := 7) (d := some 69) (v := ?v8) rfl rfl (by kernel_rfl) (by kernel_rfl) (by kernel_rfl) (fun _ _ _ h => h) (by rfl) ?y8 (by assumption) ?_
    case y8 => (intro w hSw; (try dsimp only at hSw); go_simp <;> with_reducible rfl)
    simp only [Act.put, List.setIfInBounds_toArray, List.set_cons_zero, List.set_cons_succ]
    have cN := Z1.out.nb.cell 0
    simp only [List.getElem?_toArray, List.getElem?_cons_zero, List.getElem?_cons_succ] at cN
    have fN := Z1.out.nb.frozen 0
    have Z2 : Hid (Uz14 w (v1.setCell ⟨N, 0, none⟩ (.int .i64 num)) H ⟨tos, id, off, ttl, proto, df, false, src, dst, opt⟩ P #[.int .i64 0, .bool xs, .bool xk, .int .u32 (xv : Nat), .bool false, .int .i64 0, .int .i64 0, .int .i64 xp, .string xi] N #[.int .i64 num, .bool xs, .bool xk, .int .u32 (xv : Nat), .bool false, .int .i64 0, .int .i64 0] T14.zero W14.zero) := Lib.hid (Z1.out.set 0 (.int .i64 num))
    clear Z1
    refine wpAnyH_ready (rs := [8]) (by kernel_rfl) (by simp) ?_
    refine AllReadyH.cons rfl (fun K hK => ?_) AllReadyH.nil
    go_simp
    generalize v1.setCell ⟨N, 0, none⟩ (.int .i64 num) = v2 at *
    clear cN fN
    refine hK.out _ _ ?_ (fun held8 => ?_)
    · exact Z2.out.keep5
    clear hK K
    try simp only [Act.put, List.setIfInBounds_toArray, List.set_cons_zero, List.set_cons_succ]
    refine takeH_yes (i := 9) (d := some 70) (v := ?v9) rfl rfl (by kernel_rfl) (by kernel_rfl) (by kernel_rfl) (fun _ _ _ h => h) (by rfl) ?y9 (by assumption) ?_
    case y9 => (intro w hSw; (try dsimp only at hSw); go_simp <;> with_reducible rfl)
    simp only [Act.put, List.setIfInBounds_toArray, List.set_cons_zero, List.set_cons_succ]
    have cN := Z2.out.nb.cell 4
    simp only [List.getElem?_toArray, List.getElem?_cons_zero, List.getElem?_cons_succ] at cN
    have fN := Z2.out.nb.frozen 4
    have Z3 : Hid (Uz14 w (v2.setCell ⟨N, 4, none⟩ (.bool df)) H ⟨tos, id, off, ttl, proto, df, false, src, dst, opt⟩ P #[.int .i64 0, .bool xs, .bool xk, .int .u32 (xv : Nat), .bool false, .int .i64 0, .int .i64 0, .int .i64 xp, .string xi] N #[.int .i64 num, .bool xs, .bool xk, .int .u32 (xv : Nat), .bool df, .int .i64 0, .int .i64 0] T14.zero W14.zero) := Lib.hid (Z2.out.set 4 (.bool df))
    clear Z2
    refine wpAnyH_ready (rs := [10]) (by kernel_rfl) (by simp) ?_
    refine AllReadyH.cons rfl (fun K hK => ?_) AllReadyH.nil
    go_simp
    generalize v2.setCell ⟨N, 4, none⟩ (.bool df) = v3 at *
    clear cN fN
    refine hK.out _ _ ?_ (fun held10 => ?_)
    · exact Z3.out.keep5
    clear hK K
    try simp only [Act.put, List.setIfInBounds_toArray, List.set_cons_zero, List.set_cons_succ]
    refine takeH_yes (i := 11) (d := some 71) (v := ?v10) rfl rfl (by kernel_rfl) (by kernel_rfl) (by kernel_rfl) (fun _ _ _ h => h) (by rfl) ?y10 (by assumption) ?_
    case y10 => (intro w hSw; (try dsimp only at hSw); go_simp <;> with_reducible rfl)
    simp only [Act.put, List.setIfInBounds_toArray, List.set_cons_zero, List.set_cons_succ]
    have cN := Z3.out.nb.cell 5
    simp only [List.getElem?_toArray, List.getElem?_cons_zero, List.getElem?_cons_succ] at cN
    have fN := Z3.out.nb.frozen 5
    have Z4 : Hid (Uz14 w (v3.setCell ⟨N, 5, none⟩ (.int .i64 ttl)) H ⟨tos, id, off, ttl, proto, df, false, src, dst, opt⟩ P #[.int .i64 0, .bool xs, .bool xk, .int .u32 (xv : Nat), .bool false, .int .i64 0, .int .i64 0, .int .i64 xp, .string xi] N #[.int .i64 num, .bool xs, .bool xk, .int .u32 (xv : Nat), .bool df, .int .i64 ttl, .int .i64 0] T14.zero W14.zero) := Lib.hid (Z3.out.set 5 (.int .i64 ttl))
    clear Z3
    refine wpAnyH_ready (rs := [12]) (by kernel_rfl) (by simp) ?_
    refine AllReadyH.cons rfl (fun K hK => ?_) AllReadyH.nil
    go_simp
    generalize v3.setCell ⟨N, 5, none⟩ (.int .i64 ttl) = v4 at *
    clear cN fN
    refine hK.out _ _ ?_ (fun held12 => ?_)
    · exact Z4.out.keep5
    clear hK K
    try simp only [Act.put, List.setIfInBounds_toArray, List.set_cons_zero, List.set_cons_succ]
    refine takeH_yes (i := 13) (d := some 72) (v := ?v11) rfl rfl (by kernel_rfl) (by kernel_rfl) (by kernel_rfl) (fun _ _ _ h => h) (by rfl) ?y11 (by assumption) ?_
    case y11 => (intro w hSw; (try dsimp only at hSw); go_simp <;> with_reducible rfl)
    simp only [Act.put, List.setIfInBounds_toArray, List.set_cons_zero, List.set_cons_succ]
    have cN := Z4.out.nb.cell 6
    simp only [List.getElem?_toArray, List.getElem?_cons_zero, List.getElem?_cons_succ] at cN
    have fN := Z4.out.nb.frozen 6
    have Z5 : Hid (Uz14 w (v4.setCell ⟨N, 6, none⟩ (.int .i64 tos)) H ⟨tos, id, off, ttl, proto, df, false, src, dst, opt⟩ P #[.int .i64 0, .bool xs, .bool xk, .int .u32 (xv : Nat), .bool false, .int .i64 0, .int .i64 0, .int .i64 xp, .string xi] N #[.int .i64 num, .bool xs, .bool xk, .int .u32 (xv : Nat), .bool df, .int .i64 ttl, .int .i64 tos] T14.zero W14.zero) := Lib.hid (Z4.out.set 6 (.int .i64 tos))
    clear Z4
    refine wpAnyH_ready (rs := [14]) (by kernel_rfl) (by simp) ?_
    refine AllReadyH.cons rfl (fun K hK => ?_) AllReadyH.nil
    go_simp
    generalize v4.setCell ⟨N, 6, none⟩ (.int .i64 tos) = v5 at *
    clear cN fN
    refine hK.out _ _ ?_ (fun held14 => ?_)
    · exact Z5.out.keep5
    clear hK K
    try simp only [Act.put, List.setIfInBounds_toArray, List.set_cons_zero, List.set_cons_succ]
    refine wpAnyH_done (by kernel_rfl) ?_ _
    go_wp2_with fail
    have Z6 := Lib.hid Z5.out.drew
    clear Z5
    refine wp_region_held_drew (S := (fun W => W.cell? ⟨N, 0, none⟩ = some (.int .i64 num) ∧ W.cell? ⟨N, 1, none⟩ = some (.bool xs) ∧ W.cell? ⟨N, 2, none⟩ = some (.bool xk) ∧ W.cell? ⟨N, 3, none⟩ = some (.int .u32 (xv : Nat)) ∧ W.cell? ⟨N, 4, none⟩ = some (.bool df) ∧ W.cell? ⟨N, 5, none⟩ = some (.int .i64 ttl) ∧ W.cell? ⟨N, 6, none⟩ = some (.int .i64 tos) ∧ W.cell? ⟨H, 7, none⟩ = some (.string src) ∧ W.cell? ⟨H, 8, none⟩ = some (.string dst) ∧ W.cell? ⟨H, 1, none⟩ = some (.int .i64 id) ∧ W.cell? ⟨P, 7, none⟩ = some (.int .i64 xp) ∧ W.cell? ⟨P, 8, none⟩ = some (.string xi))) (by kernel_rfl) ?_ (fun hHeld => ?_)
    · exact Uz14.keep15 (x := ⟨xs, xk, xv, xp, xi⟩) (k := ⟨num, xs, xk, xv, df, ttl, tos⟩) Z6.out
    generalize v5.drew = v6 at *
    refine takeH_yes (i := 0) (d := some 73) (v := ?v12) rfl rfl (by kernel_rfl) (by kernel_rfl) (by kernel_rfl) (fun _ _ _ h => h) (by rfl) ?y12 (by assumption) ?_
    case y12 => (intro w hSw; (try dsimp only at hSw); go_simp <;> with_reducible rfl)
    simp only [Act.put, List.setIfInBounds_toArray, List.set_cons_zero, List.set_cons_succ]
    refine takeH_yes (i := 1) (d := some 74) (v := ?v13) rfl rfl (by kernel_rfl) (by kernel_rfl) (by kernel_rfl) (fun _ _ _ h => h) (by rfl) ?y13 (by assumption) ?_
    case y13 => (intro w hSw; (try dsimp only at hSw); go_simp <;> with_reducible rfl)
    simp only [Act.put, List.setIfInBounds_toArray, List.set_cons_zero, List.set_cons_succ]
    refine takeH_yes (i := 2) (d := some 75) (v := ?v14) rfl rfl (by kernel_rfl) (by kernel_rfl) (by kernel_rfl) (fun _ _ _ h => h) (by rfl) ?y14 (by assumption) ?_
    case y14 => (intro w hSw; (try dsimp only at hSw); go_simp <;> with_reducible rfl)
    simp only [Act.put, List.setIfInBounds_toArray, List.set_cons_zero, List.set_cons_succ]
    refine takeH_yes (i := 3) (d := some 76) (v := ?v15) rfl rfl (by kernel_rfl) (by kernel_rfl) (by kernel_rfl) (fun _ _ _ h => h) (by rfl) ?y15 (by assumption) ?_
    case y15 => (intro w hSw; (try dsimp only at hSw); go_simp <;> with_reducible rfl)
    simp only [Act.put, List.setIfInBounds_toArray, List.set_cons_zero, List.set_cons_succ]
    refine takeH_yes (i := 4) (d := some 77) (v := ?v16) rfl rfl (by kernel_rfl) (by kernel_rfl) (by kernel_rfl) (fun _ _ _ h => h) (by rfl) ?y16 (by assumption) ?_
    case y16 => (intro w hSw; (try dsimp only at hSw); go_simp <;> with_reducible rfl)
    simp only [Act.put, List.setIfInBounds_toArray, List.set_cons_zero, List.set_cons_succ]
    refine takeH_yes (i := 5) (d := some 78) (v := ?v17) rfl rfl (by kernel_rfl) (by kernel_rfl) (by kernel_rfl) (fun _ _ _ h => h) (by rfl) ?y17 (by assumption) ?_
    case y17 => (intro w hSw; (try dsimp only at hSw); go_simp <;> with_reducible rfl)
    simp only [Act.put, List.setIfInBounds_toArray, List.set_cons_zero, List.set_cons_succ]
    refine takeH_yes (i := 6) (d := some 79) (v := ?v18) rfl rfl (by kernel_rfl) (by kernel_rfl) (by kernel_rfl) (fun _ _ _ h => h) (by rfl) ?y18 (by assumption) ?_
    case y18 => (intro w hSw; (try dsimp only at hSw); go_simp <;> with_reducible rfl)
    simp only [Act.put, List.setIfInBounds_toArray, List.set_cons_zero, List.set_cons_succ]
    refine takeH_yes (i := 7) (d := some 80) (v := ?v19) rfl rfl (by kernel_rfl) (by kernel_rfl) (by kernel_rfl) (fun _ _ _ h => h) (by rfl) ?y19 (by assumption) ?_
    case y19 => (intro w hSw; (try dsimp only at hSw); go_simp <;> with_reducible rfl)
    simp only [Act.put, List.setIfInBounds_toArray, List.set_cons_zero, List.set_cons_succ]
    refine takeH_yes (i := 8) (d := some 81) (v := ?v20) rfl rfl (by kernel_rfl) (by kernel_rfl) (by kernel_rfl) (fun _ _ _ h => h) (by rfl) ?y20 (by assumption) ?_
    case y20 => (intro w hSw; (try dsimp only at hSw); go_simp <;> with_reducible rfl)
    simp only [Act.put, List.setIfInBounds_toArray, List.set_cons_zero, List.set_cons_succ]
    refine takeH_yes (i := 9) (d := some 82) (v := ?v21) rfl rfl (by kernel_rfl) (by kernel_rfl) (by kernel_rfl) (fun _ _ _ h => h) (by rfl) ?y21 (by assumption) ?_
    case y21 => (intro w hSw; (try dsimp only at hSw); go_simp <;> with_reducible rfl)
    simp only [Act.put, List.setIfInBounds_toArray, List.set_cons_zero, List.set_cons_succ]
    refine takeH_yes (i := 10) (d := some 83) (v := ?v22) rfl rfl (by kernel_rfl) (by kernel_rfl) (by kernel_rfl) (fun _ _ _ h => h) (by rfl) ?y22 (by assumption) ?_
    case y22 => (intro w hSw; (try dsimp only at hSw); go_simp <;> with_reducible rfl)
    simp only [Act.put, List.setIfInBounds_toArray, List.set_cons_zero, List.set_cons_succ]
    refine takeH_yes (i := 11) (d := some 84) (v := ?v23) rfl rfl (by kernel_rfl) (by kernel_rfl) (by kernel_rfl) (fun _ _ _ h => h) (by rfl) ?y23 (by assumption) ?_
    case y23 => (intro w hSw; (try dsimp only at hSw); go_simp <;> with_reducible rfl)
    simp only [Act.put, List.setIfInBounds_toArray, List.set_cons_zero, List.set_cons_succ]
    have Z7 : Hid (Uz14 w (v6.setRow w.heap.size #[.int .i64 num, .bool xs, .bool xk, .int .u32 (xv : Nat), .bool df, .int .i64 ttl, .int .i64 tos]) H ⟨tos, id, off, ttl, proto, df, false, src, dst, opt⟩ P #[.int .i64 0, .bool xs, .bool xk, .int .u32 (xv : Nat), .bool false, .int .i64 0, .int .i64 0, .int .i64 xp, .string xi] N #[.int .i64 num, .bool xs, .bool xk, .int .u32 (xv : Nat), .bool df, .int .i64 ttl, .int .i64 tos] ⟨num, xs, xk, xv, df, ttl, tos⟩ W14.zero) := Lib.hid (Z6.out.rowT ⟨num, xs, xk, xv, df, ttl, tos⟩)
    refine wpAnyH_ready (rs := [12]) (by kernel_rfl) (by simp) ?_
    refine AllReadyH.cons rfl (fun K hK => ?_) AllReadyH.nil
    rw [if_pos (by rfl)]
    refine wp_store_row 24 (.tmp 2) (.tmp 73) rfl w.heap.size #[.int .i64 num, .bool xs, .bool xk, .int .u32 (xv : Nat), .bool df, .int .i64 ttl, .int .i64 tos] rfl rfl 24 #[.int .i64 0, .bool false, .bool false, .int .u32 0, .bool false, .int .i64 0, .int .i64 0] Z6.out.uh.un.tb (by kernel_rfl) rfl (by simp; (repeat' apply And.intro); all_goals rfl) ?_
    clear Z6
    generalize v6.setRow w.heap.size #[.int .i64 num, .bool xs, .bool xk, .int .u32 (xv : Nat), .bool df, .int .i64 ttl, .int .i64 tos] = v7 at *
    refine hK.out _ _ ?_ (fun held12 => ?_)
    · exact Uz14.keep15 (x := ⟨xs, xk, xv, xp, xi⟩) (k := ⟨num, xs, xk, xv, df, ttl, tos⟩) Z7.out
    clear hK K
    try simp only [Act.put, List.setIfInBounds_toArray, List.set_cons_zero, List.set_cons_succ]
    have Z8 : Hid (Uz14 w (v7.setRow (w.heap.size + 1) #[.string src, .string dst, .int .i64 id, .int .i64 xp]) H ⟨tos, id, off, ttl, proto, df, false, src, dst, opt⟩ P #[.int .i64 0, .bool xs, .bool xk, .int .u32 (xv : Nat), .bool false, .int .i64 0, .int .i64 0, .int .i64 xp, .string xi] N #[.int .i64 num, .bool xs, .bool xk, .int .u32 (xv : Nat), .bool df, .int .i64 ttl, .int .i64 tos] ⟨num, xs, xk, xv, df, ttl, tos⟩ ⟨src, dst, id, xp⟩) := Lib.hid (Z7.out.rowY ⟨src, dst, id, xp⟩)
    refine wpAnyH_ready (rs := [13]) (by kernel_rfl) (by simp) ?_
    refine AllReadyH.cons rfl (fun K hK => ?_) AllReadyH.nil
    rw [if_pos (by rfl)]
    refine wp_store_row 32 (.tmp 3) (.tmp 82) rfl (w.heap.size + 1) #[.string src, .string dst, .int .i64 id, .int .i64 xp] rfl rfl 32 #[.string ⟨#[]⟩, .string ⟨#[]⟩, .int .i64 0, .int .i64 0] Z7.out.uh.un.yb (by kernel_rfl) rfl (by simp; (repeat' apply And.intro); all_goals rfl) ?_
    clear Z7
    generalize v7.setRow (w.heap.size + 1) #[.string src, .string dst, .int .i64 id, .int .i64 xp] = v8 at *
    refine hK.out _ _ ?_ (fun held13 => ?_)
    · exact Uz14.keep15 (x := ⟨xs, xk, xv, xp, xi⟩) (k := ⟨num, xs, xk, xv, df, ttl, tos⟩) Z8.out
    clear hK K
    try simp only [Act.put, List.setIfInBounds_toArray, List.set_cons_zero, List.set_cons_succ]
    refine takeH_yes (i := 14) (d := some 4) (v := ?v24) rfl rfl (by kernel_rfl) (by kernel_rfl) (by kernel_rfl) (fun _ _ _ h => h) (by rfl) ?y24 (by assumption) ?_
    case y24 => (intro w hSw; (try dsimp only at hSw); go_simp <;> with_reducible rfl)
    simp only [Act.put, List.setIfInBounds_toArray, List.set_cons_zero, List.set_cons_succ]
    refine takeH_yes (i := 15) (d := some 5) (v := ?v25) rfl rfl (by kernel_rfl) (by kernel_rfl) (by kernel_rfl) (fun _ _ _ h => h) (by rfl) ?y25 (by assumption) ?_
    case y25 => (intro w hSw; (try dsimp only at hSw); go_simp <;> with_reducible rfl)
    simp only [Act.put, List.setIfInBounds_toArray, List.set_cons_zero, List.set_cons_succ]
    refine wpAnyH_done (by kernel_rfl) ?_ _
    clear hHeld
    go_wp2_with fail
    rw [e1.out, e2.out, e3.out, e4.out]
    have ⟨k0, k1, k2, k3, k4, k5, k6⟩ := Tc.of (t := ⟨num, xs, xk, xv, df, ttl, tos⟩) Z8.out.uh.un.tb
    have ⟨y0, y1, y2, y3⟩ := Wc.of (y := ⟨src, dst, id, xp⟩) Z8.out.uh.un.yb
    simp only at k0 k1 k2 k3 k4 k5 k6 y0 y1 y2 y3
    refine ⟨rfl, .tuple #[.agg #[.int .i64 num, .bool xs, .bool xk, .int .u32 (xv : Nat), .bool df, .int .i64 ttl, .int .i64 tos], .agg #[.string src, .string dst, .int .i64 id, .int .i64 xp], .string xi, .int .i64 0], ?_, rfl, Z8.out.uh.un.gl.bel⟩
    simp [results, Tryd.results9, go_sem, k0, k1, k2, k3, k4, k5, k6, y0, y1, y2, y3]

end Go.Proofs.YtmghdgkdnacinaaDoor
