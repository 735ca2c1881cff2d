/-
  MSS, Clamp and Limit.
-/
import Derived.Test.YtppobficnjpdiaaClampFind
import Derived.Test.YtppobficnjpdiaaClampShare
import Derived.Test.YtppobficnjpdiaaClampPut
namespace Go.Proofs.Ytppobficnjpdiaa
open Go.RowKit
set_option linter.unusedVariables false

/-- Two numbers' blocks, and a third one's. -/
structure Ck (w W : World) (N : Nat) (a b c : NK) : Prop where
  a : Blk W N a.cells 54
  b : Blk W (N + 1) b.cells 54
  c : Blk W (N + 1 + 1) c.cells 54
  bel : Below w.heap.size w W
theorem two_new (w u : World) (a b : NK) (hb : Below w.heap.size w u) :
    Blk ((u.alloc (.cells a.cells 54)).alloc (.cells b.cells 54)) u.heap.size a.cells 54 ∧
    Blk ((u.alloc (.cells a.cells 54)).alloc (.cells b.cells 54)) (u.heap.size + 1) b.cells 54 ∧
    Below w.heap.size w ((u.alloc (.cells a.cells 54)).alloc (.cells b.cells 54)) := by
  have e2 := Blk.new (u.alloc (.cells a.cells 54)) b.cells 54
  rw [show (u.alloc (.cells a.cells 54)).heap.size = u.heap.size + 1 from by simp] at e2
  exact ⟨(Blk.new u _ _).alloc _, e2, (hb.alloc hb.size _).alloc (by have := hb.size; simp; omega) _⟩
theorem Ck.new (w u : World) (a b c : NK) (hb : Below w.heap.size w u) : Ck w (((u.alloc (.cells a.cells 54)).alloc (.cells b.cells 54)).alloc (.cells c.cells 54)) u.heap.size a b c := by
  have ⟨h1, h2, h3⟩ := two_new w u a b hb
  have hz : ((u.alloc (.cells a.cells 54)).alloc (.cells b.cells 54)).heap.size = u.heap.size + 1 + 1 := by simp
  generalize (u.alloc (.cells a.cells 54)).alloc (.cells b.cells 54) = u2 at *
  have e3 := Blk.new u2 c.cells 54
  rw [hz] at e3
  exact ⟨h1.alloc _, h2.alloc _, e3, h3.alloc h3.size _⟩
theorem Ck.below {w W W' : World} {N : Nat} {a b c : NK} (h : Ck w W N a b c) (hb : Below W.heap.size W W') : Ck w W' N a b c :=
  ⟨(hb.block _ h.a.lt).trans h.a, (hb.block _ h.b.lt).trans h.b, (hb.block _ h.c.lt).trans h.c, h.bel.trans (hb.mono h.bel.size)⟩
theorem Ck.drew {w W : World} {N : Nat} {a b c : NK} (h : Ck w W N a b c) : Ck w W.drew N a b c := ⟨h.a.drew, h.b.drew, h.c.drew, below_drewN h.bel 1⟩

set_option maxRecDepth 100000 in
set_option maxHeartbeats 1000000 in
theorem mss_any' (p : ByteArray) (w : World) (hs : p.size ≤ 900000) :
    Calls Try.prog 9 #[.string p] w (Tells (.tuple #[.int .i64 ((mssK p).is_ : Nat), .bool (hasK p)]) w) := by
  have G := Lib.hid (fun W => find_any p W hs)
  unfold Tells at G ⊢
  unfold NK.cells at G
  generalize mssK p = a at *
  generalize ownK p = b at *
  generalize hasK p = h at *
  go_enter Try.func9, Try.ntmps9
  go_wp2_with fail
  refine (G.out _).mono ?_
  rintro e u ⟨rfl, hb⟩
  have N := Lib.hid (two_new w u a b hb)
  clear hb G
  have c1 := N.out.1.cell 1
  unfold NK.cells at N c1
  simp only [List.getElem?_toArray, List.getElem?_cons_zero, List.getElem?_cons_succ] at c1
  go_wp2_with fail
  go_ret2
  exact ⟨rfl, N.out.2.2⟩

set_option maxRecDepth 100000 in
set_option maxHeartbeats 1000000 in
theorem limit_any (mtu over : Int) (six : Bool) (w : World) (h1 : -1099511627776 ≤ mtu) (h2 : mtu ≤ 1099511627776) (h3 : -1099511627776 ≤ over) (h4 : over ≤ 1099511627776) :
    Calls Try.prog 13 #[.int .i64 mtu, .int .i64 over, .bool six] w fun e w' => e = .returned (.int .i64 (nearK (mtu - over - if six then 60 else 40) : Nat)) ∧ w = w' := by
  cases six with
  | true =>
    have H := Lib.hid (fun W => nearest_any (mtu - over - 60) W)
    simp only [if_true]
    go_enter Try.func13, Try.ntmps13
    go_wp2_with fail
    refine (H.out _).mono ?_
    rintro e w' ⟨rfl, rfl⟩
    go_wp2_with fail
    go_ret
    exact ⟨rfl, rfl⟩
  | false =>
    have H := Lib.hid (fun W => nearest_any (mtu - over - 40) W)
    simp only [Bool.false_eq_true, if_false]
    go_enter Try.func13, Try.ntmps13
    go_wp2_with fail
    refine (H.out _).mono ?_
    rintro e w' ⟨rfl, rfl⟩
    go_wp2_with fail
    go_ret
    exact ⟨rfl, rfl⟩

set_option maxRecDepth 100000 in
set_option maxHeartbeats 1000000 in
theorem clamp_stays (p : ByteArray) (lim : Int) (w : World) (hs : p.size ≤ 900000) (h : hasK p = false ∨ (hasK p = true ∧ (mssK p).is_ ≤ nearK lim)) :
    Calls Try.prog 11 #[.string p, .int .i64 lim] w (Tells (.string p) w) := by
  have G := Lib.hid (fun W => find_any p W hs)
  have HN := Lib.hid (fun W => nearest_any lim W)
  unfold Tells at G ⊢
  unfold NK.cells at G
  generalize mssK p = a at *
  generalize ownK p = b at *
  generalize nearK lim = l at *
  rcases h with hk | ⟨hk, hl⟩
  · rw [hk] at G
    clear hk
    go_enter Try.func11, Try.ntmps11
    go_wp2_with fail
    refine (HN.out _).mono ?_
    rintro e w' ⟨rfl, rfl⟩
    go_wp2_with fail
    refine (G.out _).mono ?_
    rintro e u ⟨rfl, hb⟩
    have N := Lib.hid (two_new w u a b hb)
    clear hb G
    unfold NK.cells at N
    go_wp2_with fail
    go_ret
    exact ⟨rfl, N.out.2.2⟩
  · rw [hk] at G
    clear hk
    have t1 : decide ((a.is_ : Int) ≤ (l : Int)) = true := by simp; omega
    go_enter Try.func11, Try.ntmps11
    go_wp2_with fail
    refine (HN.out _).mono ?_
    rintro e w' ⟨rfl, rfl⟩
    go_wp2_with fail
    refine (G.out _).mono ?_
    rintro e u ⟨rfl, hb⟩
    have N := Lib.hid (two_new w u a b hb)
    clear hb G
    have c1 := N.out.1.cell 1
    unfold NK.cells at N c1
    simp only [List.getElem?_toArray, List.getElem?_cons_zero, List.getElem?_cons_succ] at c1
    go_wp2_with fail
    go_ret
    exact ⟨rfl, N.out.2.2⟩

/-- What the region of three calls reads. -/
def keepCk (W : World) (N : Nat) (a b c : NK) (w : World) : Prop :=
  W.cell? ⟨N, 0, none⟩ = some (.int .i64 (a.at_ : Nat)) ∧ W.cell? ⟨N, 1, none⟩ = some (.int .i64 (a.is_ : Nat)) ∧ W.cell? ⟨N + 1, 0, none⟩ = some (.int .i64 (b.at_ : Nat)) ∧ W.cell? ⟨N + 1, 1, none⟩ = some (.int .i64 (b.is_ : Nat)) ∧ W.cell? ⟨N + 1 + 1, 0, none⟩ = some (.int .i64 (c.at_ : Nat)) ∧ W.cell? ⟨N + 1 + 1, 1, none⟩ = some (.int .i64 (c.is_ : Nat)) ∧ Hid (Ck w W N a b c)
theorem keepCk_of {w W : World} {N : Nat} {a b c : NK} (h : Ck w W N a b c) : keepCk W N a b c w :=
  ⟨h.a.cell 0, h.a.cell 1, h.b.cell 0, h.b.cell 1, h.c.cell 0, h.c.cell 1, h⟩
theorem keepCk_step {w W W' : World} {N : Nat} {a b c : NK} (hb : Below W.heap.size W W')
    (r : W.cell? ⟨N, 0, none⟩ = some (.int .i64 (a.at_ : Nat)) ∧ W.cell? ⟨N, 1, none⟩ = some (.int .i64 (a.is_ : Nat)) ∧ W.cell? ⟨N + 1, 0, none⟩ = some (.int .i64 (b.at_ : Nat)) ∧ W.cell? ⟨N + 1, 1, none⟩ = some (.int .i64 (b.is_ : Nat)) ∧ W.cell? ⟨N + 1 + 1, 0, none⟩ = some (.int .i64 (c.at_ : Nat)) ∧ W.cell? ⟨N + 1 + 1, 1, none⟩ = some (.int .i64 (c.is_ : Nat)) ∧ Hid (Ck w W N a b c)) :
    W'.cell? ⟨N, 0, none⟩ = some (.int .i64 (a.at_ : Nat)) ∧ W'.cell? ⟨N, 1, none⟩ = some (.int .i64 (a.is_ : Nat)) ∧ W'.cell? ⟨N + 1, 0, none⟩ = some (.int .i64 (b.at_ : Nat)) ∧ W'.cell? ⟨N + 1, 1, none⟩ = some (.int .i64 (b.is_ : Nat)) ∧ W'.cell? ⟨N + 1 + 1, 0, none⟩ = some (.int .i64 (c.at_ : Nat)) ∧ W'.cell? ⟨N + 1 + 1, 1, none⟩ = some (.int .i64 (c.is_ : Nat)) ∧ Hid (Ck w W' N a b c) :=
  keepCk_of (r.2.2.2.2.2.2.out.below hb)

set_option maxRecDepth 100000 in
set_option maxHeartbeats 2000000 in
theorem clamp_holds (p : ByteArray) (lim : Int) (w : World) (hs : p.size ≤ 900000) (n q : Nat) (h : HasK p n q) (hl : nearK lim < n) :
    Calls Try.prog 11 #[.string p, .int .i64 lim] w (Tells (.string (pktK p (fr9 p) q (nearK lim) (newK p (nearK lim)))) w) := by
  have L := h.lies
  have l65 : nearK lim ≤ 65535 := by unfold nearK; omega
  have G := Lib.hid (fun W => find_any p W hs)
  have HN := Lib.hid (fun W => nearest_any lim W)
  have hup := h.updated (nearK lim) l65
  have z1 := with9_size p (fr9 p + 20 + q) (nearK lim) (by have := L.fit; have := L.size; omega)
  have HU := Lib.hid (fun W => updated_any (ownK p) (mssK p) ⟨(mssK p).at_, nearK lim⟩ W (by rw [h.owns]; exact own_le h) (by rw [h.tells]; exact L.most) l65 (by rw [h.tells]; have := L.fit; have := L.size; show fr9 p + 20 + q ≤ _; omega) (by rw [h.tells]; have := L.fit; have := L.size; show fr9 p + 20 + q ≤ _; omega))
  have HP1 := Lib.hid (fun W => putInto_any ⟨(mssK p).at_, nearK lim⟩ p W l65 (by rw [h.tells]; have := L.fit; have := L.size; show fr9 p + 20 + q + 2 ≤ _; omega) (by omega))
  have HP2 := Lib.hid (fun W => putInto_any ⟨(ownK p).at_, newK p (nearK lim)⟩ (with9 p (fr9 p + 20 + q) (nearK lim)) W (newK_le _ _) (by rw [h.owns, z1]; have := L.fit; have := L.size; show fr9 p + 16 + 2 ≤ _; omega) (by rw [z1]; omega))
  rw [h.has] at G
  rw [hup] at HU
  simp only [h.tells, h.owns] at G HU HP1 HP2
  have HR : Hid (pktK p (fr9 p) q (nearK lim) (newK p (nearK lim)) = with9 (with9 p (fr9 p + 20 + q) (nearK lim)) (fr9 p + 16) (newK p (nearK lim))) := rfl
  unfold Tells at G HU HP1 HP2 ⊢
  rw [HR.out]
  clear HR hup z1 L h
  generalize with9 (with9 p (fr9 p + 20 + q) (nearK lim)) (fr9 p + 16) (newK p (nearK lim)) = R at *
  generalize with9 p (fr9 p + 20 + q) (nearK lim) = X at *
  generalize newK p (nearK lim) = nn at *
  generalize numOf (pay9 p) 16 2 = ow at *
  generalize nearK lim = l at *
  generalize fr9 p + 20 + q = A at *
  generalize fr9 p + 16 = B at *
  unfold NK.cells at G HU HP1 HP2
  simp only at G HU HP1 HP2
  have t1 : decide (n ≤ l) = false := by simp; omega
  clear hl
  go_enter Try.func11, Try.ntmps11
  go_wp2_with fail
  refine (HN.out _).mono ?_
  rintro e w' ⟨rfl, rfl⟩
  go_wp2_with fail
  refine (G.out _).mono ?_
  rintro e u ⟨rfl, hb⟩
  have N := Lib.hid (two_new w u ⟨A, n⟩ ⟨B, ow⟩ hb)
  have S0 := Lib.hid (Ck.new w u ⟨A, n⟩ ⟨B, ow⟩ ⟨A, l⟩ hb)
  clear hb G HN
  have c0 := N.out.1.cell 0
  have c1 := N.out.1.cell 1
  unfold NK.cells at N c0 c1 S0
  simp only [List.getElem?_toArray, List.getElem?_cons_zero, List.getElem?_cons_succ] at c0 c1
  go_upto_region 6 with (fail)
  clear c0 c1 N t1
  generalize ((u.alloc (.cells #[.int .i64 (A : Nat), .int .i64 (n : Nat)] 54)).alloc (.cells #[.int .i64 (B : Nat), .int .i64 (ow : Nat)] 54)).alloc (.cells #[.int .i64 (A : Nat), .int .i64 (l : Nat)] 54) = u1 at *
  have ⟨k0, k1, k2, k3, k4, k5, k6⟩ := keepCk_of S0.out.drew
  generalize u.heap.size = N at *
  go_region_held3 (fun W => W.cell? ⟨N, 0, none⟩ = some (.int .i64 (A : Nat)) ∧ W.cell? ⟨N, 1, none⟩ = some (.int .i64 (n : Nat)) ∧ W.cell? ⟨N + 1, 0, none⟩ = some (.int .i64 (B : Nat)) ∧ W.cell? ⟨N + 1, 1, none⟩ = some (.int .i64 (ow : Nat)) ∧ W.cell? ⟨N + 1 + 1, 0, none⟩ = some (.int .i64 (A : Nat)) ∧ W.cell? ⟨N + 1 + 1, 1, none⟩ = some (.int .i64 (l : Nat)) ∧ Hid (Ck w W N ⟨A, n⟩ ⟨B, ow⟩ ⟨A, l⟩))
    (first | exact ⟨k0, k1, k2, k3, k4, k5, k6⟩ | exact keepCk_step (w := w) (N := N) (a := ⟨A, n⟩) (b := ⟨B, ow⟩) (c := ⟨A, l⟩) (by assumption) (by assumption))
    (first
      | (go_at_call 24; ((with_reducible refine (HU.out _).mono ?_); rintro e w' ⟨rfl, hb⟩))
      | (go_at_call 25; first | ((with_reducible refine (HP1.out _).mono ?_); rintro e w' ⟨rfl, hb⟩) | ((with_reducible refine (HP2.out _).mono ?_); rintro e w' ⟨rfl, hb⟩)))
  rename_i held
  have S3 := held.2.2.2.2.2.2
  clear held
  go_wp2_with fail
  go_ret
  exact ⟨rfl, S3.out.bel⟩

theorem clamp_any (p : ByteArray) (lim : Int) (w : World) (hs : p.size ≤ 900000) :
    Calls Try.prog 11 #[.string p, .int .i64 lim] w (Tells (.string (clampK p (nearK lim))) w) := by
  cases hk : hasK p with
  | false => rw [clampK_none _ hk]; exact clamp_stays p lim w hs (Or.inl hk)
  | true =>
    obtain ⟨n, q, h⟩ := HasK.of hk
    rw [h.clamp]
    by_cases hl : nearK lim < n
    · rw [if_pos hl]; exact clamp_holds p lim w hs n q h hl
    · rw [if_neg hl]; exact clamp_stays p lim w hs (Or.inr ⟨hk, by rw [h.tells]; show n ≤ _; omega⟩)

end Go.Proofs.Ytppobficnjpdiaa
