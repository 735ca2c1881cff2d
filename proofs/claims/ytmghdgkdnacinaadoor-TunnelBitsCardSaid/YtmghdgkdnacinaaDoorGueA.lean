/-
  GUE's datagram, plainly: its bytes; what bytes say as one.
-/
import Derived.Test.YtmghdgkdnacinaaDoorUdpA
import Derived.Test.YtmghdgkdnacinaaDoorIpipA
import Derived.Test.YtmghdgkdnacinaaDoorFlowS
import Derived.Test.YtmghdgkdnacinaaDoorSumMid
import Derived.Test.YtmghdgkdnacinaaDoorUdpPut
import Derived.Deep.RegionHeld3
import Derived.Test.YtmghdgkdnacinaaDoorReading
import Derived.Test.YtmghdgkdnacinaaDoorSums
namespace Go.Proofs.YtmghdgkdnacinaaDoor
open Go.RowKit
set_option linter.unusedVariables false

/-- A head. -/
structure H13 where
  port : Int
  sum : Bool
def H13.cells (h : H13) : Array Value := #[.int .i64 h.port, .bool h.sum]
def H13.zero : H13 := ⟨0, false⟩

/-- A header's four bytes; a payload; a datagram. -/
def hd13 (n : Nat) : List UInt8 := be 0 1 ++ be n 1 ++ be 0 2
def pay13 (s : ByteArray) : ByteArray := (⟨(hd13 (v11 s).pn).toArray⟩ : ByteArray) ++ s
def dg13 (port : Int) (s : ByteArray) : D8 := ⟨port, 6080, pay13 s⟩
def bare13 (port : Int) (s : ByteArray) : ByteArray := ⟨((dg13 port s).pack 0).toArray⟩
/-- What Put answers. -/
def put13E (port : Int) (s : ByteArray) : Nat := if (v11 s).en ≠ 0 then (v11 s).en else (dg13 port s).err
def full13 (h : H13) (src dst s : ByteArray) : ByteArray := match h.sum with | true => seal9 17 src dst (bare13 h.port s) | false => bare13 h.port s
def put13S (h : H13) (src dst s : ByteArray) : ByteArray := if put13E h.port s = 0 then full13 h src dst s else ⟨#[]⟩

/-- The packet's fault, by what the header says that it is. -/
def pk13 (n : Nat) (v : V11) : Nat := if n ≠ 4 ∧ n ≠ 41 then 6 else if v.en ≠ 0 then v.en else if v.pn ≠ n then 3 else 0
theorem get11_pk (n : Nat) (s : ByteArray) : get11E (n : Int) s = (pk13 n (v11 s) : Nat) := by
  unfold get11E pk13
  rw [V11.err_en, V11.proto_pn]
  by_cases h1 : n ≠ 4 ∧ n ≠ 41
  · rw [if_pos h1, if_pos (by omega)]; rfl
  · rw [if_neg h1, if_neg (by omega)]
    by_cases h2 : (v11 s).en ≠ 0
    · rw [if_pos h2, if_pos (by omega)]
    · rw [if_neg h2, if_neg (by omega)]
      by_cases h3 : (v11 s).pn ≠ n
      · rw [if_pos h3, if_pos (by omega)]; rfl
      · rw [if_neg h3, if_neg (by omega)]; rfl
/-- The fault of a payload. -/
def in13E (p : ByteArray) : Nat :=
  if p.size < 4 then 2 else if 64 ≤ numOf p 0 1 then 3 else if numOf p 0 1 ≠ 0 ∨ numOf p 2 2 ≠ 0 then 9 else pk13 (numOf p 1 1) (v11 (p.extract 4 p.size))
def in13 (p : ByteArray) : ByteArray := p.extract 4 p.size
/-- Is its sum wrong? -/
def wrong13 (src dst b : ByteArray) : Bool := decide (numOf b 6 2 ≠ 0) && decide (sumD (ph9 17 src dst b) ≠ 0)
def get13E (src dst b : ByteArray) : Nat :=
  if get8E b ≠ 0 then get8E b else if numOf b 2 2 ≠ 6080 then 6 else if wrong13 src dst b = true then 5 else in13E (b.extract 8 b.size)
def say13 (b : ByteArray) : H13 := ⟨numOf b 0 2, decide (numOf b 6 2 ≠ 0)⟩
def get13H (src dst b : ByteArray) : H13 := if get13E src dst b = 0 then say13 b else .zero
def get13S (src dst b : ByteArray) : ByteArray := if get13E src dst b = 0 then in13 (b.extract 8 b.size) else ⟨#[]⟩

/-- Just when a payload has no fault. -/
structure In13 (p : ByteArray) : Prop where
  long : 4 ≤ p.size
  first : numOf p 0 1 = 0
  last : numOf p 2 2 = 0
  pk : pk13 (numOf p 1 1) (v11 (p.extract 4 p.size)) = 0
theorem in13E_zero {p : ByteArray} : in13E p = 0 ↔ In13 p := by
  constructor
  · intro e
    unfold in13E at e
    split at e
    · omega
    · split at e
      · omega
      · split at e
        · omega
        · exact ⟨by omega, by omega, by omega, e⟩
  · rintro ⟨h1, h2, h3, h4⟩
    unfold in13E
    rw [if_neg (by omega), if_neg (by omega), if_neg (by omega)]
    exact h4
/-- Just when bytes have no fault. -/
structure Good13 (src dst b : ByteArray) : Prop where
  dat : get8E b = 0
  port : numOf b 2 2 = 6080
  sum : wrong13 src dst b = false
  inn : In13 (b.extract 8 b.size)
theorem get13E_zero {src dst b : ByteArray} : get13E src dst b = 0 ↔ Good13 src dst b := by
  constructor
  · intro e
    unfold get13E at e
    split at e
    · omega
    · split at e
      · omega
      · split at e
        · omega
        · exact ⟨by omega, by omega, by rename_i h; simpa using h, in13E_zero.1 e⟩
  · rintro ⟨h1, h2, h3, h4⟩
    unfold get13E
    rw [if_neg (by omega), if_neg (by omega), if_neg (by rw [h3]; decide)]
    exact in13E_zero.2 h4
theorem get13_ok {src dst b : ByteArray} (h : get13E src dst b = 0) : get13H src dst b = say13 b ∧ get13S src dst b = in13 (b.extract 8 b.size) := by
  unfold get13H get13S
  rw [if_pos h, if_pos h]
  exact ⟨rfl, rfl⟩
theorem get13_err {src dst b : ByteArray} (h : get13E src dst b ≠ 0) : get13H src dst b = H13.zero ∧ get13S src dst b = ⟨#[]⟩ := by
  unfold get13H get13S
  rw [if_neg h, if_neg h]
  exact ⟨rfl, rfl⟩
theorem pk13_zero {n : Nat} {v : V11} : pk13 n v = 0 ↔ v.en = 0 ∧ v.pn = n := by
  unfold pk13
  constructor
  · intro e
    split at e
    · omega
    · split at e
      · omega
      · split at e
        · omega
        · omega
  · rintro ⟨h1, h2⟩
    have : v.pn = 4 ∨ v.pn = 41 := by cases v <;> simp [V11.en, V11.pn] at *
    rw [if_neg (by omega), if_neg (by omega), if_neg (by omega)]
theorem hd13_length (n : Nat) : (hd13 n).length = 4 := by unfold hd13; simp [be_length]
theorem pay13_list (s : ByteArray) : (pay13 s).data.toList = hd13 (v11 s).pn ++ s.data.toList := by unfold pay13; rw [cat_list]
theorem pay13_size (s : ByteArray) : (pay13 s).size = 4 + s.size := by unfold pay13; rw [cat_size, list_size, hd13_length]
theorem V11.pn_le (v : V11) : v.pn ≤ 41 := by cases v <;> decide
theorem pay13_in {s : ByteArray} (h : (v11 s).en = 0) : In13 (pay13 s) ∧ in13 (pay13 s) = s := by
  have hl := pay13_list s
  have hz := pay13_size s
  have hp := (v11 s).pn_le
  unfold hd13 at hl
  have n0 : numOf (pay13 s) 0 1 = 0 := num_seg (a := []) (b := be 0 1) (c := be (v11 s).pn 1 ++ be 0 2 ++ s.data.toList) (by rw [hl]; simp only [List.append_assoc, List.nil_append]) rfl rfl (by decide)
  have n1 : numOf (pay13 s) 1 1 = (v11 s).pn := num_seg (a := be 0 1) (b := be (v11 s).pn 1) (c := be 0 2 ++ s.data.toList) (by rw [hl]; simp only [List.append_assoc]) (by simp [be_length]) rfl (by show _ < 256; omega)
  have n2 : numOf (pay13 s) 2 2 = 0 := num_seg (a := be 0 1 ++ be (v11 s).pn 1) (b := be 0 2) (c := s.data.toList) (by rw [hl]; simp only [List.append_assoc]) (by simp [be_length]) rfl (by decide)
  have ts : (pay13 s).extract 4 (pay13 s).size = s := text_seg (a := be 0 1 ++ be (v11 s).pn 1 ++ be 0 2) (c := []) (by rw [hl]; simp only [List.append_assoc, List.append_nil]) (by simp [be_length]) (by omega)
  refine ⟨⟨by omega, n0, n2, ?_⟩, ts⟩
  rw [ts, n1]
  exact pk13_zero.2 ⟨h, rfl⟩

end Go.Proofs.YtmghdgkdnacinaaDoor

/-
  Put: a header, and a datagram.
-/
namespace Go.Proofs.YtmghdgkdnacinaaDoor
open Go.RowKit
set_option linter.unusedVariables false

/-- What was there, and both tables. -/
structure Gl13 (w W : World) : Prop where
  bel : Below w.heap.size w W
  vs : Vers W
  ps : Places W
theorem Places.on {w w' : World} (h : Places w) (hb : Below w.heap.size w w') : Places w' := h.below hb h.lt
theorem Places.kb {S : Nat → Prop} {w w' : World} (h : Places w) (k : Kb S w w') (hs : ¬ S 1) : Places w' := by
  have hlt := h.lt
  obtain ⟨T, fr, h0⟩ := h.at0
  exact ⟨T, fr, (k.block _ hlt hs).trans h0⟩
theorem Gl13.new {w : World} (hv : Vers w) (hp : Places w) : Gl13 w w := ⟨Below.refl _ _, hv, hp⟩
theorem Gl13.below {w W W' : World} (r : Gl13 w W) (hb : Below W.heap.size W W') : Gl13 w W' := ⟨r.bel.trans (hb.mono r.bel.size), r.vs.on hb, r.ps.on hb⟩
theorem Gl13.alloc {w W : World} (r : Gl13 w W) (o : Obj) : Gl13 w (W.alloc o) := r.below ((Below.refl _ _).alloc (Nat.le_refl _) o)
theorem Gl13.drew {w W : World} (r : Gl13 w W) : Gl13 w W.drew := r.below (below_drewN (Below.refl _ _) 1)

/-- A head's block besides. -/
structure Gm13 (w W : World) (N : Nat) (g : H13) : Prop where
  b : Blk W N g.cells 73
  gl : Gl13 w W
  le : w.heap.size ≤ N
theorem Gm13.below {w W W' : World} {N : Nat} {g : H13} (r : Gm13 w W N g) (hb : Below W.heap.size W W') : Gm13 w W' N g :=
  ⟨(hb.block _ r.b.lt).trans r.b, r.gl.below hb, r.le⟩
theorem Gm13.alloc {w W : World} {N : Nat} {g : H13} (r : Gm13 w W N g) (o : Obj) : Gm13 w (W.alloc o) N g := r.below ((Below.refl _ _).alloc (Nat.le_refl _) o)
theorem Gm13.drew {w W : World} {N : Nat} {g : H13} (r : Gm13 w W N g) : Gm13 w W.drew N g := r.below (below_drewN (Below.refl _ _) 1)
theorem Gm13.new {w W : World} (g : H13) (r : Gl13 w W) : Gm13 w (W.alloc (.cells g.cells 73)) W.heap.size g :=
  ⟨Blk.new _ _ _, r.alloc _, r.bel.size⟩
/-- Its cells. -/
structure Hc13 (u : World) (B : Nat) (h : H13) : Prop where
  c0 : u.cell? ⟨B, 0, none⟩ = some (.int .i64 h.port)
  c1 : u.cell? ⟨B, 1, none⟩ = some (.bool h.sum)
theorem Hc13.of {u : World} {B : Nat} {h : H13} {T : TypeId} (hb : Blk u B h.cells T) : Hc13 u B h := ⟨hb.cell 0, hb.cell 1⟩

set_option maxRecDepth 100000 in
set_option maxHeartbeats 1000000 in
theorem header13_any (n : Nat) (w : World) (hn : n ≤ 255) :
    Calls Tryd.prog 55 #[.int .i64 (n : Nat)] w fun e w' => e = .returned (.string ⟨(hd13 n).toArray⟩) ∧ Below w.heap.size w w' := by
  have P0 := Lib.hid (Pw9.new w)
  have HM : Hid (IntKind.u64.wrap (n : Int) = (n : Nat)) := by show IntKind.u64.wrap (n : Int) = (n : Nat); rw [wrap_u64_any]; omega
  have HN := Lib.hid hn
  clear hn
  go_enter Tryd.func55, Tryd.ntmps55
  go_wp2_with fail
  generalize w.alloc (.cells #[.slice none 0 0] 78) = u0 at *
  refine (wu8_any _ _ _ _ 0 u0 P0.out.wr (by decide) (by decide) (by simp)).mono ?_
  rintro e u1 ⟨rfl, h1, k1⟩
  have P1 := Lib.hid (P0.out.step h1 k1)
  clear h1 k1 P0
  go_wp2_with fail
  refine (wu8_any _ _ _ _ n u1 P1.out.wr HM.out (by have := HN.out; omega) (by simp [be_length])).mono ?_
  rintro e u2 ⟨rfl, h2, k2⟩
  have P2 := Lib.hid (P1.out.step h2 k2)
  clear h2 k2 P1
  go_wp2_with fail
  refine (wu16_any _ _ _ _ 0 u2 P2.out.wr (by decide) (by decide) (by simp [be_length])).mono ?_
  rintro e u3 ⟨rfl, h3, k3⟩
  have P3 := Lib.hid (P2.out.step h3 k3)
  clear h3 k3 P2
  go_wp2_with fail
  refine (wstring_any _ _ _ _ P3.out.wr).mono ?_
  rintro e w' ⟨rfl, rfl⟩
  go_wp2_with fail
  go_ret
  exact ⟨by simp [hd13], P3.out.bel⟩

theorem put8E_none (d : D8) : put8E d 0 = d.err := by
  unfold put8E
  split
  · rename_i h; rw [h]; rfl
  · rfl

theorem keep13 {w W W' : World} {N : Nat} {g : H13} (k : W.cell? ⟨N, 0, none⟩ = some (.int .i64 g.port) ∧ W.cell? ⟨N, 1, none⟩ = some (.bool g.sum) ∧ Hid (Gm13 w W N g)) (hb : Below W.heap.size W W') :
    W'.cell? ⟨N, 0, none⟩ = some (.int .i64 g.port) ∧ W'.cell? ⟨N, 1, none⟩ = some (.bool g.sum) ∧ Hid (Gm13 w W' N g) := by
  have s := k.2.2.out.below hb
  have ⟨c0, c1⟩ := Hc13.of s.b
  exact ⟨c0, c1, Lib.hid s⟩

set_option maxRecDepth 100000 in
set_option maxHeartbeats 2000000 in
theorem put13_any (h : H13) (src dst s : ByteArray) (w : World) (hv : Vers w) (hp : Places w) (hs : src.size ≤ 100000) (hd : dst.size ≤ 100000) (hz : s.size ≤ 1000000) :
    Calls Tryd.prog 33 #[.agg h.cells, .string src, .string dst, .string s] w (Tells (.tuple #[.string (put13S h src dst s), .int .i64 (put13E h.port s : Nat)]) w) := by
  have S0 := Lib.hid (Gm13.new h (Gl13.new hv hp))
  have HF := Lib.hid (fun W h => proto11_any s W h)
  have HE : Hid (put13E h.port s = if (v11 s).en ≠ 0 then (v11 s).en else (dg13 h.port s).err) := rfl
  have HX : Hid (put13S h src dst s = if put13E h.port s = 0 then full13 h src dst s else ⟨#[]⟩) := rfl
  obtain ⟨A, hA⟩ : ∃ A, A = (⟨(hd13 (v11 s).pn).toArray⟩ : ByteArray) := ⟨_, rfl⟩
  have HH := fun W => header13_any (v11 s).pn W (by have := (v11 s).pn_le; omega)
  rw [← hA] at HH
  have HD : Hid (A ++ s = pay13 s) := by show A ++ s = pay13 s; rw [hA]; rfl
  have zA : A.size = 4 := by rw [hA, list_size, hd13_length]
  have HP := Lib.hid (fun W => put8_any ⟨h.port, 6080, A ++ s⟩ 0 W)
  have a1 : ¬ (9223372036854775807 < A.size + s.size) := by omega
  have HZ := Lib.hid (show 8 + (A ++ s).size ≤ 800000 ∨ True from Or.inr trivial)
  have HQ : Hid (put8E ⟨h.port, 6080, A ++ s⟩ 0 = (dg13 h.port s).err) := by show put8E _ 0 = _; rw [put8E_none, HD.out]; rfl
  have HB : Hid ((dg13 h.port s).err = 0 → put8S ⟨h.port, 6080, A ++ s⟩ 0 = bare13 h.port s ∧ (bare13 h.port s).size ≤ 70000) := by
    show (dg13 h.port s).err = 0 → _
    intro h0
    have hok := (D8.err_zero _).1 h0
    rw [HD.out]
    refine ⟨(put8_ok hok (by decide)).2, ?_⟩
    have := (put8_get _ 0 hok (by decide)).size
    have hpl := hok.pay
    unfold bare13
    omega
  have HS := Lib.hid hs
  have HDs := Lib.hid hd
  have HFU : Hid (full13 h src dst s = match h.sum with | true => seal9 17 src dst (bare13 h.port s) | false => bare13 h.port s) := rfl
  unfold Tells at HF ⊢
  unfold Put8End at HP
  rw [V11.proto_pn, V11.err_en] at HF
  generalize put8E ⟨h.port, 6080, A ++ s⟩ 0 = F at *
  generalize put8S ⟨h.port, 6080, A ++ s⟩ 0 = X at *
  generalize full13 h src dst s = U at *
  generalize bare13 h.port s = B at *
  generalize (dg13 h.port s).err = D at *
  generalize put13S h src dst s = Y at *
  generalize put13E h.port s = E at *
  generalize (v11 s).pn = pn at *
  generalize (v11 s).en = en at *
  unfold D8.cells at HP
  simp only at HP
  have HHH := Lib.hid HH
  clear hv hp hs hd hz hA HH HZ HD zA
  unfold H13.cells at S0 ⊢
  go_enter Tryd.func33, Tryd.ntmps33
  go_wp2_with fail
  generalize w.alloc (.cells #[.int .i64 h.port, .bool h.sum] 73) = w0 at *
  refine (HF.out w0 S0.out.gl.vs).mono ?_
  rintro e w1 ⟨rfl, hb⟩
  have S1 := Lib.hid (S0.out.below hb)
  clear hb S0 HF
  by_cases h1 : en = 0
  case neg =>
    have he := HE.out
    rw [if_pos h1] at he
    have hy := HX.out
    rw [if_neg (by omega)] at hy
    have t1 : ((en : Int) != 0) = true := by simp; omega
    clear h1 HE HX
    subst he hy
    go_wp2_with fail
    exact ⟨rfl, _, results_tmp2 rfl _ _ _, rfl, S1.out.gl.bel⟩
  have he := HE.out
  rw [if_neg (by omega)] at he
  have t1 : ((en : Int) != 0) = false := by simp; omega
  clear h1 HE
  subst he
  have ⟨c0, c1⟩ := Hc13.of S1.out.b
  go_wp2_with fail
  go_region_held3 (fun W => W.cell? ⟨w.heap.size, 0, none⟩ = some (.int .i64 h.port) ∧ W.cell? ⟨w.heap.size, 1, none⟩ = some (.bool h.sum) ∧ Hid (Gm13 w W w.heap.size h))
    (first | exact ⟨c0, c1, Lib.hid S1.out.drew⟩ | exact keep13 (by assumption) (by assumption))
    (first
      | (go_at_call 55; ((with_reducible refine (HHH.out _).mono ?_); rintro e w' ⟨rfl, hb⟩))
      | (go_at_call 54; ((with_reducible refine (HP.out _).mono ?_); rintro e w' ⟨rfl, hb⟩)))
  rename_i held
  have S2 := held.2.2
  have d1 := held.2.1
  clear held c0 c1 HHH HP S1 a1
  have hq := HQ.out
  subst hq
  by_cases h2 : F = 0
  case neg =>
    have hy := HX.out
    rw [if_neg h2] at hy
    subst hy
    have t2 : ((F : Int) != 0) = true := by simp; omega
    clear h2
    go_wp2_with fail
    exact ⟨rfl, _, results_tmp2 rfl _ _ _, rfl, S2.out.gl.bel⟩
  have hy := HX.out
  rw [if_pos h2] at hy
  have ⟨hx, hl⟩ := HB.out h2
  subst hx hy h2
  have HFU' := HFU.out
  have HL := Lib.hid hl
  clear hl HX HB HFU HQ
  generalize hsm : h.sum = sm at *
  cases sm with
  | true =>
    have hu : Y = seal9 17 src dst X := HFU'
    have HU := Lib.hid hu
    clear hu HFU'
    go_wp2_with fail
    refine (seal_any 17 src dst X _ S2.out.gl.ps HS.out HDs.out (by have := HL.out; omega)).mono ?_
    rintro e w3 ⟨rfl, hb⟩
    have S3 := Lib.hid (S2.out.below hb)
    clear hb S2
    rw [← HU.out]
    go_wp2_with fail
    exact ⟨rfl, _, results_tmp2 rfl _ _ _, rfl, S3.out.gl.bel⟩
  | false =>
    have hu : Y = X := HFU'
    subst hu
    go_wp2_with fail
    exact ⟨rfl, _, results_tmp2 rfl _ _ _, rfl, S2.out.gl.bel⟩

end Go.Proofs.YtmghdgkdnacinaaDoor

/-
  Is a sum right; the packet of a payload, read.
-/
namespace Go.Proofs.YtmghdgkdnacinaaDoor
open Go.RowKit
set_option linter.unusedVariables false

set_option maxRecDepth 100000 in
set_option maxHeartbeats 1000000 in
theorem isRight13_any (src dst b : ByteArray) (w : World) (hs : src.size ≤ 400000) (hd : dst.size ≤ 400000) (hb : b.size ≤ 900000) :
    Calls Tryd.prog 60 #[.string src, .string dst, .string b] w (Tells (.bool (decide (sumD (ph9 17 src dst b) = 0))) w) := by
  have Q3 := Lib.hid (fun W => pseudo_any src dst 17 (b.size : Nat) W (by omega) (by omega))
  have HL : (pseudoD src.data.toList dst.data.toList 17 (b.size : Nat)).length ≤ 1000000 := by
    have := pseudo_len src dst 17 (b.size : Nat)
    omega
  have HP : Hid (ph9 17 src dst b = pseudoD src.data.toList dst.data.toList 17 (b.size : Nat) ++ b.data.toList) := rfl
  generalize pseudoD src.data.toList dst.data.toList 17 (b.size : Nat) = l at *
  generalize ph9 17 src dst b = ph at *
  unfold Tells
  clear hs hd
  have HR : Hid (decide (sumD ph = 0) = decide (sumD ph = 0)) := rfl
  go_enter Tryd.func60, Tryd.ntmps60
  go_wp2_with fail
  refine (Q3.out _).mono ?_
  rintro e w2 ⟨rfl, hb2⟩
  go_wp2_with fail
  refine (right_2n ⟨l.toArray⟩ b w2 _ rfl (decide (sumD ph = 0)) (by rw [list_size]; omega) (by omega) (by rw [HP.out])).mono ?_
  rintro e w3 ⟨rfl, hb3⟩
  have HB3 := Lib.hid (hb2.trans (hb3.mono hb2.size))
  clear hb3 hb2
  go_wp2_with fail
  go_ret
  exact ⟨rfl, HB3.out⟩

/-- How it ends. -/
def Packet13End (R : Nat) (k : Nat) (s : ByteArray) (u : World) (e : Ending) (u' : World) : Prop :=
  Kb (· = R) u u' ∧ ((k = 0 ∧ e = .returned (.string s)) ∨ (k ≠ 0 ∧ e = .panicked (stopped (k : Nat))))
theorem Packet13End.stop {R k n : Nat} {s : ByteArray} {u u' : World} (hk : Kb (· = R) u u') (h : k = n) (h0 : n ≠ 0) : Packet13End R k s u (.panicked (stopped (n : Nat))) u' := by
  subst h; exact ⟨hk, Or.inr ⟨h0, rfl⟩⟩

set_option maxRecDepth 100000 in
set_option maxHeartbeats 2000000 in
theorem readPacket13_any (R : Nat) (b : ByteArray) (u : World) (hr : Rd u R b 0) (hs : b.size ≤ 1000000) (hg : Vers u) (hR : 0 ≠ R) :
    Calls Tryd.prog 61 #[.pointer (some ⟨R, 0, none⟩)] u (Packet13End R (in13E b) (in13 b) u) := by
  have HS : Hid (b.size ≤ maxLen) := by show b.size ≤ maxLen; unfold maxLen; omega
  have F2 : Hid (b.size < 4 → in13E b = 2) := fun h => by unfold in13E; rw [if_pos h]
  have HV := Lib.hid (fun (v : World) (k : Kb (· = R) u v) => hg.kb k hR)
  go_enter Tryd.func61, Tryd.ntmps61
  go_wp2_with fail
  by_cases h0 : 0 + 1 ≤ b.size
  case neg =>
    refine (u8_no R b 0 u hr (by omega) (by omega) HS.out).mono ?_
    rintro e w' ⟨rfl, m, rfl⟩
    exact ⟨rfl, Packet13End.stop ((Kb.refl _ u).drewN m) (F2.out (by omega)) (by decide)⟩
  refine (u8_yes R b 0 u hr h0 HS.out).mono ?_
  rintro e v1 ⟨rfl, r1, k1⟩
  have R1 := Lib.hid r1
  have K1 := Lib.hid k1
  clear r1 k1 hr
  go_wp2_with fail
  by_cases h1 : 1 + 1 ≤ b.size
  case neg =>
    refine (u8_no R b 1 v1 R1.out (by omega) (by omega) HS.out).mono ?_
    rintro e w' ⟨rfl, m, rfl⟩
    exact ⟨rfl, Packet13End.stop (K1.out.drewN m) (F2.out (by omega)) (by decide)⟩
  refine (u8_yes R b 1 v1 R1.out h1 HS.out).mono ?_
  rintro e v2 ⟨rfl, r2, k2⟩
  have R2 := Lib.hid r2
  have K2 := Lib.hid (K1.out.trans k2)
  clear r2 k2 R1 K1
  go_wp2_with fail
  by_cases h2 : 2 + 2 ≤ b.size
  case neg =>
    refine (u16_no R b 2 v2 R2.out (by omega) (by omega) HS.out).mono ?_
    rintro e w' ⟨rfl, m, rfl⟩
    exact ⟨rfl, Packet13End.stop (K2.out.drewN m) (F2.out (by omega)) (by decide)⟩
  refine (u16_yes R b 2 v2 R2.out h2 HS.out).mono ?_
  rintro e v3 ⟨rfl, r3, k3⟩
  have R3 := Lib.hid r3
  have K3 := Lib.hid (K2.out.trans k3)
  clear r3 k3 R2 K2 F2 hs
  have HQ : Hid (in13E b = if 64 ≤ numOf b 0 1 then 3 else if numOf b 0 1 ≠ 0 ∨ numOf b 2 2 ≠ 0 then 9 else pk13 (numOf b 1 1) (v11 (in13 b))) := by
    show in13E b = _
    unfold in13E
    rw [if_neg (by omega)]
    rfl
  have HR := Lib.hid (rest_any R b 4 v3 R3.out (by omega) HS.out)
  have HW := Lib.hid (fun n => Kb.setCell (S := (· = R)) (K3.out.drewN n) (p := ⟨R, 1, none⟩) (fun _ => rfl) (.int .i64 (b.size : Int)))
  have HF := Lib.hid (fun W h => get11_any (numOf b 1 1 : Nat) (in13 b) W h)
  have HG : Hid (pk13 (numOf b 1 1) (v11 (in13 b)) = 0 → get11S (numOf b 1 1 : Nat) (in13 b) = in13 b) := by
    intro h
    unfold get11S
    rw [get11_pk, h]
    exact if_pos rfl
  have HI : Hid (b.extract 4 b.size = in13 b) := rfl
  have l0 := numOf_lt b 0 1 (by omega)
  unfold Tells at HF
  rw [get11_pk] at HF
  rw [HI.out] at HR
  generalize get11S (numOf b 1 1 : Nat) (in13 b) = G at *
  generalize pk13 (numOf b 1 1) (v11 (in13 b)) = Q at *
  generalize in13E b = E at *
  generalize in13 b = I at *
  generalize numOf b 0 1 = n0 at *
  generalize numOf b 1 1 = n1 at *
  generalize numOf b 2 2 = n2 at *
  clear HI h0 h1 h2
  by_cases h3 : 64 ≤ n0
  · have HQ3 := Lib.hid (HQ.out.trans (if_pos h3))
    go_wp2_with fail
    refine (need_no _ _ _ _ (by simp; omega)).mono ?_
    rintro e w' ⟨rfl, rfl⟩
    exact ⟨rfl, Packet13End.stop K3.out HQ3.out (by decide)⟩
  have hq := HQ.out
  rw [if_neg h3] at hq
  have HQ2 := Lib.hid hq
  have HM := Lib.hid h3
  clear HQ hq h3
  go_wp2_with fail
  refine (need_yes _ _ _ _ (by simp; have := HM.out; omega)).mono ?_
  rintro e w' ⟨rfl, rfl⟩
  by_cases h4 : n0 = 0
  case neg =>
    have HQ3 := Lib.hid (HQ2.out.trans (if_pos (Or.inl h4)))
    have t4 : ((n0 : Int) == 0) = false := by simp; omega
    go_wp2_with fail
    refine (need_no _ _ _ _ rfl).mono ?_
    rintro e w' ⟨rfl, rfl⟩
    exact ⟨rfl, Packet13End.stop K3.out HQ3.out (by decide)⟩
  have t4 : ((n0 : Int) == 0) = true := by simp; omega
  by_cases h5 : n2 = 0
  case neg =>
    have HQ3 := Lib.hid (HQ2.out.trans (if_pos (Or.inr h5)))
    have t5 : ((n2 : Int) == 0) = false := by simp; omega
    clear h4 h5
    go_wp2_with fail
    refine (need_no _ _ _ _ rfl).mono ?_
    rintro e w' ⟨rfl, rfl⟩
    exact ⟨rfl, Packet13End.stop K3.out HQ3.out (by decide)⟩
  have HQ4 := Lib.hid (HQ2.out.trans (if_neg (by omega)))
  have t5 : ((n2 : Int) == 0) = true := by simp; omega
  clear HQ2 h4 h5
  go_wp2_with fail
  refine (need_yes _ _ _ _ rfl).mono ?_
  rintro e w' ⟨rfl, rfl⟩
  clear t4 t5 l0
  go_wp2_with fail
  refine HR.out.mono ?_
  rintro e v4 ⟨rfl, n, rfl⟩
  have K4 := Lib.hid (HW.out n)
  generalize (v3.drewN n).setCell ⟨R, 1, none⟩ (.int .i64 (b.size : Int)) = v4 at *
  have G4 := Lib.hid (HV.out v4 K4.out)
  clear HR HW HV R3 K3
  go_wp2_with fail
  refine (HF.out v4 G4.out).mono ?_
  rintro e v5 ⟨rfl, hb⟩
  have K5 := Lib.hid (K4.out.trans (⟨hb.os, hb.tape, hb.output, hb.size, fun k hk _ => hb.block k hk⟩ : Kb (· = R) v4 v5))
  clear hb K4 G4 HF
  go_wp2_with fail
  by_cases h6 : Q = 0
  case neg =>
    refine (need_no _ _ _ _ (by simp; omega)).mono ?_
    rintro e w' ⟨rfl, rfl⟩
    exact ⟨rfl, Packet13End.stop K5.out HQ4.out h6⟩
  have hs := HG.out h6
  have HE := Lib.hid (HQ4.out.trans h6)
  clear HG HQ4
  refine (need_yes _ _ _ _ (by simp; omega)).mono ?_
  rintro e w' ⟨rfl, rfl⟩
  clear h6
  subst hs
  go_wp2_with fail
  go_ret
  exact ⟨K5.out, Or.inl ⟨HE.out, rfl⟩⟩

end Go.Proofs.YtmghdgkdnacinaaDoor
