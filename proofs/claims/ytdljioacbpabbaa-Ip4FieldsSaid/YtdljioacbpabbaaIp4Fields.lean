/-
  Ip4Fields returns true at every input.
-/
import Derived.Test.YtdljioacbpabbaaIp4Held
import Derived.Deep.QuietTactic
import Derived.BigQuiet
import Derived.Deep.CutBlock
import Derived.Deep.DeepCutAuto
namespace Go.Proofs.Ytdljioacbpabbaa
open Go.RowKit
set_option linter.unusedVariables false

theorem Held.set {w W : World} {h h' : H4} (r : Held w W h) (k : Nat) (x : Value) (hx : h.cells.setIfInBounds k x = h'.cells) : Held w (W.setCell ⟨w.heap.size, k, none⟩ x) h' :=
  ⟨by rw [← hx]; exact r.b.set k x, r.bel.setCell (p := ⟨w.heap.size, k, none⟩) (Nat.le_refl _) x, by simpa [World.setCell] using r.lt⟩
theorem putE_same (h : H4) (a b : ByteArray) (e : a.size = b.size) : putE h a = putE h b := by unfold putE; rw [e]

/-- The header with other numbers. -/
def H4.with3 (h : H4) (ttl tos id : Int) : H4 := ⟨tos, id, h.off, ttl, h.proto, h.df, h.mf, h.src, h.dst, h.opt⟩
theorem H4.with3_ok {h : H4} (hok : h.Ok) {ttl tos id : Int} (h1 : 0 ≤ ttl ∧ ttl ≤ 255) (h2 : 0 ≤ tos ∧ tos ≤ 255) (h3 : 0 ≤ id ∧ id ≤ 65535) : (h.with3 ttl tos id).Ok :=
  ⟨h2, h1, hok.proto, h3, hok.off, hok.src, hok.dst, hok.opt, hok.opt4⟩

/-- What the three packets have in common. -/
structure Three (h : H4) (a b P Q X : ByteArray) : Prop where
  n : (P.size : Int) - a.size = (h.size : Nat)
  lp : h.size ≤ P.size
  lq : h.size ≤ Q.size
  l20 : 20 ≤ h.size ∧ h.size ≤ 60
  front : ∃ F, P.extract 0 h.size = F ∧ Q.extract 0 h.size = F
  pa : P.extract h.size P.size = a
  qb : Q.extract h.size Q.size = b
  sx : X.size = P.size
  sp : P.size ≤ 65535
  f1 : ∃ F, X.extract 0 1 = F ∧ P.extract 0 1 = F
  f2 : ∃ F, X.extract 2 4 = F ∧ P.extract 2 4 = F
  f9 : ∃ F, X.extract 9 10 = F ∧ P.extract 9 10 = F
  f12 : ∃ F, X.extract 12 X.size = F ∧ P.extract 12 P.size = F
theorem three_of {h : H4} {a b : ByteArray} {ttl tos id : Int} (e : a.size = b.size) (hok : h.Ok) (hn : h.size + a.size ≤ 65535) (h1 : 0 ≤ ttl ∧ ttl ≤ 255) (h2 : 0 ≤ tos ∧ tos ≤ 255) (h3 : 0 ≤ id ∧ id ≤ 65535) :
    Three h a b (putS h a) (putS h b) (putS (h.with3 ttl tos id) a) := by
  have ok' := H4.with3_ok hok h1 h2 h3
  have hs' : (h.with3 ttl tos id).size = h.size := rfl
  have sa := sent_of hok hn
  have sb := sent_of hok (show h.size + b.size ≤ 65535 by omega)
  have sx := sent_of ok' (show (h.with3 ttl tos id).size + a.size ≤ 65535 by rw [hs']; exact hn)
  have pa := pack_parts h a hok hn
  have pb := pack_parts h b hok (by omega)
  have px := pack_parts (h.with3 ttl tos id) a ok' (by rw [hs']; exact hn)
  rw [← sa.is] at pa
  rw [← sb.is] at pb
  rw [← sx.is] at px
  have za := sa.size
  have zb := sb.size
  have zx := sx.size
  have hos := hok.opt
  have hh : h.size = 20 + h.opt.size := rfl
  rw [hs'] at zx
  refine ⟨by omega, by omega, by omega, by omega, ⟨_, pa.front, ?_⟩, pa.rest, pb.rest, by omega, by omega, ⟨_, px.first, pa.first⟩, ⟨_, px.len, pa.len⟩, ⟨_, px.proto, pa.proto⟩, ⟨_, px.behind, pa.behind⟩⟩
  rw [pb.front, e]

set_option maxRecDepth 100000 in
set_option maxHeartbeats 2000000 in
theorem fields_any (h : H4) (a b : ByteArray) (ttl tos id : Int) (w : World) (ha : a.size ≤ 140737488355328) (hb : b.size ≤ 140737488355328) (h1 : 0 ≤ ttl ∧ ttl ≤ 255) (h2 : 0 ≤ tos ∧ tos ≤ 255) (h3 : 0 ≤ id ∧ id ≤ 65535) :
    Calls Try.prog 7 #[.agg h.cells, .string a, .string b, .int .u8 ttl, .int .u8 tos, .int .u16 id] w (AwakeEnd w) := by
  have HA := Lib.hid (awake_any (w.alloc (.cells h.cells 23)))
  have HF := Lib.hid (fun W => few_any h W)
  have H1 := Lib.hid (fun W => put_any h a W ha)
  have H2 := Lib.hid (fun W => put_any h b W hb)
  have S1 := Lib.hid (Held.new w h)
  have TH := Lib.hid (fun e hok hn => three_of (h := h) (a := a) (b := b) (ttl := ttl) (tos := tos) (id := id) e hok hn h1 h2 h3)
  have PE := Lib.hid (putE_same h a b)
  have PT := Lib.hid (put_cases h a)
  have PT2 := Lib.hid (put_cases h b)
  have X1 := Lib.hid (fun W => put_any (h.with3 ttl tos id) a W ha)
  have XS := Lib.hid (fun hok hn => sent_of (h := h.with3 ttl tos id) (pay := a) hok hn)
  have XE := Lib.hid (fun hok hn => put_ok (h := h.with3 ttl tos id) (pay := a) hok hn)
  have OK' := Lib.hid (fun hok : h.Ok => H4.with3_ok hok h1 h2 h3)
  generalize h.few = fw at *
  unfold PutEnd at H1 H2 X1
  generalize putS h a = P at *
  generalize putE h a = E at *
  generalize putS h b = Q at *
  generalize putE h b = F at *
  generalize putS (h.with3 ttl tos id) a = X at *
  generalize putE (h.with3 ttl tos id) a = G at *
  unfold H4.with3 at X1
  unfold H4.cells at HA HF H1 H2 X1 S1 ⊢
  simp only at X1
  obtain ⟨l1, l2⟩ := h1
  obtain ⟨l3, l4⟩ := h2
  obtain ⟨l5, l6⟩ := h3
  go_enter Try.func7, Try.ntmps7
  go_wp2_with fail
  refine HA.out.mono ?_
  rintro e w1 ⟨rfl, hb1⟩
  have S2 := Lib.hid (S1.out.below hb1)
  clear hb1 S1 HA
  have ⟨c0, c1, c2, c3, c4, c5, c6, c7, c8, c9⟩ := Hc.of S2.out.b
  go_wp2_with fail
  refine (HF.out _).mono ?_
  rintro e w2 ⟨rfl, hb2⟩
  have S3 := Lib.hid (S2.out.below hb2)
  clear hb2 S2 HF c0 c1 c2 c3 c4 c5 c6 c7 c8 c9
  cases fw
  · go_wp2_with fail
    go_ret
    exact ⟨rfl, S3.out.bel⟩
  by_cases hab : a.size = b.size
  case neg =>
    have t6 : ((a.size : Int) != (b.size : Int)) = true := by simp; omega
    go_wp2_with fail
    go_ret
    exact ⟨rfl, S3.out.bel⟩
  have t6 : ((a.size : Int) != (b.size : Int)) = false := by simp; omega
  by_cases h7 : a.size ≤ 2000
  case neg =>
    have t7 : decide ((2000 : Int) < (a.size : Int)) = true := by simp; omega
    have HAB := Lib.hid hab
    clear hab
    go_wp2_with fail
    go_ret
    exact ⟨rfl, S3.out.bel⟩
  have t7 : decide ((2000 : Int) < (a.size : Int)) = false := by simp; omega
  have HAB := Lib.hid hab
  clear hab
  obtain rfl : E = F := PE.out HAB.out
  have ⟨c0, c1, c2, c3, c4, c5, c6, c7, c8, c9⟩ := Hc.of S3.out.b
  go_wp2_with fail
  refine (H1.out _).mono ?_
  rintro e w3 ⟨rfl, hb3⟩
  have S4 := Lib.hid (S3.out.below hb3)
  clear hb3 S3 H1 c0 c1 c2 c3 c4 c5 c6 c7 c8 c9 t6 t7
  have ⟨c0, c1, c2, c3, c4, c5, c6, c7, c8, c9⟩ := Hc.of S4.out.b
  go_wp2_with fail
  refine (H2.out _).mono ?_
  rintro e w4 ⟨rfl, hb4⟩
  have S5 := Lib.hid (S4.out.below hb4)
  clear hb4 S4 H2 c0 c1 c2 c3 c4 c5 c6 c7 c8 c9
  have tEE : ((E : Int) != (E : Int)) = false := by simp
  rcases PT.out with ⟨rfl, hsent⟩ | ⟨hE, rfl⟩
  case inr =>
    have tE : ((E : Int) != 0) = true := by simp; omega
    obtain ⟨hE2, _⟩ | ⟨_, rfl⟩ := PT2.out
    · exact absurd hE2 hE
    clear PT PT2 PE hE
    go_wp2_with fail
    go_ret
    exact ⟨rfl, S5.out.bel⟩
  have T3 := Lib.hid (TH.out HAB.out hsent.ok hsent.fit)
  have SX := Lib.hid (XS.out (OK'.out hsent.ok) hsent.fit)
  have EX := (XE.out (OK'.out hsent.ok) hsent.fit).1
  subst EX
  clear PT PT2 PE TH XS XE OK' hsent tEE
  have hn := T3.out.n
  have lp := T3.out.lp
  have lq := T3.out.lq
  have l20 := T3.out.l20
  obtain ⟨FR, fr1, fr2⟩ := T3.out.front
  have pa := T3.out.pa
  have qb := T3.out.qb
  generalize h.size = n at *
  have b0 : (0 : Int) ≤ (n : Int) := by omega
  have b1 : (n : Int) ≤ (P.size : Int) := by omega
  have b2 : (n : Int) ≤ (Q.size : Int) := by omega
  have sp := T3.out.sp
  go_wp2_with fail
  have u1 := str_ne FR
  have u2 := str_ne a
  have u3 := str_ne b
  go_quiet (fail)
  have S6 := Lib.hid (S5.out.drewN nq)
  clear S5 u1 u2 u3
  generalize w4.drewN nq = w5 at *
  have ⟨c0, c1, c2, c3, c4, c5, c6, c7, c8, c9⟩ := Hc.of S6.out.b
  have f0 := S6.out.b.frozen 0
  have f1 := S6.out.b.frozen 1
  have f3 := S6.out.b.frozen 3
  go_wp2_with fail
  have S7 : Hid (Held w (((w5.setCell ⟨w.heap.size, 3, none⟩ (.int .i64 ttl)).setCell ⟨w.heap.size, 0, none⟩ (.int .i64 tos)).setCell ⟨w.heap.size, 1, none⟩ (.int .i64 id)) (h.with3 ttl tos id)) :=
    ((S6.out.set (h' := ⟨h.tos, h.id, h.off, ttl, h.proto, h.df, h.mf, h.src, h.dst, h.opt⟩) 3 _ rfl).set (h' := ⟨tos, h.id, h.off, ttl, h.proto, h.df, h.mf, h.src, h.dst, h.opt⟩) 0 _ rfl).set 1 _ rfl
  clear S6 c0 c1 c2 c3 c4 c5 c6 c7 c8 c9 f0 f1 f3 hn fr1 fr2 pa qb b0 b1 b2 l20 lp lq
  generalize ((w5.setCell ⟨w.heap.size, 3, none⟩ (.int .i64 ttl)).setCell ⟨w.heap.size, 0, none⟩ (.int .i64 tos)).setCell ⟨w.heap.size, 1, none⟩ (.int .i64 id) = w6 at *
  refine (X1.out _).mono ?_
  rintro e w7 ⟨rfl, hb7⟩
  have S8 := Lib.hid (S7.out.below hb7)
  clear hb7 S7 X1
  have hXs : X.size ≤ 65535 := by have := T3.out.sx; omega
  have G1 := Lib.hid (fun W => get_any X W (by omega))
  unfold GetEnd at G1
  rw [SX.out.gh, SX.out.gs, SX.out.ge] at G1
  have hXl : 20 ≤ X.size := by have h1 := T3.out.sx; have h2 := T3.out.lp; have h3 := T3.out.l20; omega
  have hPl : 20 ≤ P.size := by have h2 := T3.out.lp; have h3 := T3.out.l20; omega
  obtain ⟨F1, x1, p1⟩ := T3.out.f1
  obtain ⟨F2, x2, p2⟩ := T3.out.f2
  obtain ⟨F9, x9, p9⟩ := T3.out.f9
  obtain ⟨F12, x12, p12⟩ := T3.out.f12
  clear SX T3
  unfold H4.with3 H4.cells at G1
  simp only at G1
  go_wp2_with fail
  refine (G1.out _).mono ?_
  rintro e w8 ⟨rfl, hb8⟩
  have S9 := Lib.hid (S8.out.below hb8)
  clear hb8 S8 G1
  have ⟨c0, c1, c2, c3, c4, c5, c6, c7, c8, c9⟩ := Hc.of S9.out.b
  simp only [H4.with3] at c0 c1 c2 c3 c4 c5 c6 c7 c8 c9
  have lN := S9.out.lt
  have i1 : (1 : Int) ≤ (X.size : Int) := by omega
  have i2 : (1 : Int) ≤ (P.size : Int) := by omega
  have i3 : (4 : Int) ≤ (X.size : Int) := by omega
  have i4 : (4 : Int) ≤ (P.size : Int) := by omega
  have i5 : (10 : Int) ≤ (X.size : Int) := by omega
  have i6 : (10 : Int) ≤ (P.size : Int) := by omega
  have i7 : (12 : Int) ≤ (X.size : Int) := by omega
  have i8 : (12 : Int) ≤ (P.size : Int) := by omega
  have v1 := str_eq a
  have v2 := str_eq F1
  have v3 := str_eq F2
  have v4 := str_eq F9
  have v5 := str_eq F12
  go_upto_region 17 with (fail)
  have N9 := Lib.hid (Blk.new w8 (h.with3 ttl tos id).cells 23)
  have S10 := Lib.hid (S9.out.alloc (.cells (h.with3 ttl tos id).cells 23))
  unfold H4.with3 H4.cells at N9 S10
  simp only at N9 S10
  clear S9 c0 c1 c2 c3 c4 c5 c6 c7 c8 c9
  generalize w8.alloc (.cells #[.int .i64 tos, .int .i64 id, .int .i64 h.off, .int .i64 ttl, .int .i64 h.proto, .bool h.df, .bool h.mf, .string h.src, .string h.dst, .string h.opt] 23) = w9 at *
  generalize w8.heap.size = N at *
  have ⟨c0, c1, c2, c3, c4, c5, c6, c7, c8, c9⟩ := Hc.of S10.out.b
  have d0 := N9.out.cell 0
  have d1 := N9.out.cell 1
  have d2 := N9.out.cell 2
  have d3 := N9.out.cell 3
  have d4 := N9.out.cell 4
  have d5 := N9.out.cell 5
  have d6 := N9.out.cell 6
  have d7 := N9.out.cell 7
  have d8 := N9.out.cell 8
  have d9 := N9.out.cell 9
  simp only at c0 c1 c2 c3 c4 c5 c6 c7 c8 c9
  simp at d0 d1 d2 d3 d4 d5 d6 d7 d8 d9
  go_quiet (fail)
  have S11 := Lib.hid (S10.out.drewN nq)
  clear S10 N9 c0 c1 c2 c3 c4 c5 c6 c7 c8 c9 d0 d1 d2 d3 d4 d5 d6 d7 d8 d9
  go_wp2_with fail
  go_ret
  exact ⟨rfl, S11.out.bel⟩

end Go.Proofs.Ytdljioacbpabbaa
