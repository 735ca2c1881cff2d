/-
  GreParts returns true at every input.
-/
import Derived.Test.YtnlpbnipfglhhaaDoorGreAwake
import Derived.Test.YtnlpbnipfglhhaaDoorGround
import Derived.BigQuiet
import Derived.Deep.RegionHeld3
namespace Go.Proofs.YtnlpbnipfglhhaaDoor
open Go.RowKit
set_option linter.unusedVariables false

theorem keepL12 {w W W' : World} (hb : Below W.heap.size W W') (r : Hid (Gl12 w W)) : Hid (Gl12 w W') := Lib.hid (r.out.below hb)

set_option maxRecDepth 100000 in
set_option maxHeartbeats 4000000 in
theorem greParts_any (v : Nat) (a b : ByteArray) (w : World) (hg : Vers w) (hv : v < 4294967296) :
    Calls Tryd.prog 6 #[.int .u32 (v : Nat), .string a, .string b] w (AwakeEnd w) := by
  have HA := Lib.hid (awake12_any w hg)
  have S0 := Lib.hid (Gl12.new hg)
  have HV := Lib.hid hv
  clear hg hv
  have hempty : ∀ s : ByteArray, s.toList.isEmpty = false → ¬ s.size = 0 := by
    intro s h0 h
    have : s.data.toList.length = 0 := by simpa using h
    rw [ByteArray.toList_eq, List.length_eq_zero_iff.1 this] at h0
    exact absurd h0 (by decide)
  go_enter Tryd.func6, Tryd.ntmps6
  go_wp2_with fail
  refine HA.out.mono ?_
  rintro e w1 ⟨rfl, hb⟩
  have S1 := Lib.hid (S0.out.below hb)
  clear hb S0 HA
  go_upto_region 3 with (fail)
  by_cases h1 : a.size ≤ 3000
  case neg =>
    have t1 : decide ((3000 : Int) < (a.size : Int)) = true := by simp; omega
    clear h1
    go_quiet (fail)
    go_wp2_with fail
    go_ret
    exact ⟨rfl, below_drewN S1.out.bel _⟩
  have t1 : decide ((3000 : Int) < (a.size : Int)) = false := by simp; omega
  by_cases h2 : b.size ≤ 3000
  case neg =>
    have t2 : decide ((3000 : Int) < (b.size : Int)) = true := by simp; omega
    clear h1 h2
    go_quiet (fail)
    go_wp2_with fail
    go_ret
    exact ⟨rfl, below_drewN S1.out.bel _⟩
  have t2 : decide ((3000 : Int) < (b.size : Int)) = false := by simp; omega
  cases t3 : a.toList.isEmpty with
  | true =>
    clear h1 h2
    go_quiet (fail)
    go_wp2_with fail
    go_ret
    exact ⟨rfl, below_drewN S1.out.bel _⟩
  | false =>
  have ha0 := hempty a t3
  cases t4 : b.toList.isEmpty with
  | true =>
    clear h1 h2
    go_quiet (fail)
    go_wp2_with fail
    go_ret
    exact ⟨rfl, below_drewN S1.out.bel _⟩
  | false =>
  have hb0 := hempty b t4
  have za : 0 < a.size := by omega
  have zb : 0 < b.size := by omega
  have ba : (0 : Int) < (a.size : Int) := by omega
  have bb : (0 : Int) < (b.size : Int) := by omega
  have na := first11_at a za
  have nb := first11_at b zb
  have la := first11_lt a
  have lb := first11_lt b
  obtain ⟨x, hx⟩ : ∃ x, first11 a / 16 = x := ⟨_, rfl⟩
  obtain ⟨y, hy⟩ : ∃ y, first11 b / 16 = y := ⟨_, rfl⟩
  have ex : ((first11 a : Nat) : Int) / 16 = (x : Int) := by omega
  have ey : ((first11 b : Nat) : Int) / 16 = (y : Int) := by omega
  have wx : IntKind.u8.wrap (x : Int) = (x : Int) := by rw [IntKind.wrap_u8]; omega
  have wy : IntKind.u8.wrap (y : Int) = (y : Int) := by rw [IntKind.wrap_u8]; omega
  have hlike : x = y → v11 b = v11 a := fun h => v11_like hb0 ha0 (by omega)
  have HLK := Lib.hid hlike
  clear hlike hx hy la lb hempty
  generalize first11 a = n at *
  generalize first11 b = m at *
  by_cases hxy : x = y
  case neg =>
    have t5 : ((x : Int) != (y : Int)) = true := by simp; omega
    clear h1 h2 ha0 hb0 hxy
    go_quiet (fail)
    go_wp2_with fail
    go_ret
    exact ⟨rfl, below_drewN S1.out.bel _⟩
  subst hxy
  have HVV := Lib.hid (HLK.out rfl)
  have P0 := Lib.hid (fun W hW => put12_any ⟨false, false, 0⟩ a W hW (by decide) (by omega))
  have P1 := Lib.hid (fun W hW => put12_any ⟨false, true, v⟩ a W hW HV.out (by omega))
  have P2 := Lib.hid (fun W hW => put12_any ⟨true, false, 0⟩ a W hW (by decide) (by omega))
  have P3 := Lib.hid (fun W hW => put12_any ⟨true, true, v⟩ a W hW HV.out (by omega))
  have C0 := Lib.hid (put12_cases ⟨false, false, 0⟩ a (by decide))
  have C1 := Lib.hid (put12_cases ⟨false, true, v⟩ a HV.out)
  have C2 := Lib.hid (put12_cases ⟨true, false, 0⟩ a (by decide))
  have C3 := Lib.hid (put12_cases ⟨true, true, v⟩ a HV.out)
  have HA := Lib.hid h1
  have HB := Lib.hid h2
  unfold Tells at P0 P1 P2 P3
  generalize put12S ⟨false, false, 0⟩ a = X0 at *
  generalize put12S ⟨false, true, v⟩ a = X1 at *
  generalize put12S ⟨true, false, 0⟩ a = X2 at *
  generalize put12S ⟨true, true, v⟩ a = X3 at *
  generalize (v11 a).en = E at *
  unfold H12.cells at P0 P1 P2 P3
  simp only [show ((0 : Nat) : Int) = 0 from rfl] at P0 P1 P2 P3
  clear h1 h2 ha0 hb0 HLK
  go_quiet (fail)
  have S2 := Lib.hid (show Gl12 w (w1.drewN nq) from S1.out.below (below_drewN (Below.refl _ _) nq))
  clear S1 t1 t2 t3 t4 ba bb na nb ex ey wx wy
  generalize w1.drewN nq = w2 at *
  go_wp2_with fail
  refine (P0.out _ S2.out.vs).mono ?_
  rintro e w3 ⟨rfl, hb⟩
  have S3 := Lib.hid (S2.out.below hb)
  clear hb S2 P0
  go_wp2_with fail
  refine (P1.out _ S3.out.vs).mono ?_
  rintro e w4 ⟨rfl, hb⟩
  have S4 := Lib.hid (S3.out.below hb)
  clear hb S3 P1
  go_wp2_with fail
  refine (P2.out _ S4.out.vs).mono ?_
  rintro e w5 ⟨rfl, hb⟩
  have S5 := Lib.hid (S4.out.below hb)
  clear hb S4 P2
  go_wp2_with fail
  refine (P3.out _ S5.out.vs).mono ?_
  rintro e w6 ⟨rfl, hb⟩
  have S6 := Lib.hid (S5.out.below hb)
  clear hb S5 P3
  rcases C0.out with ⟨rfl, r0⟩ | ⟨hE, rfl⟩
  case inr =>
    have e1 : X1 = ⟨#[]⟩ := by rcases C1.out with ⟨h, -⟩ | ⟨-, h⟩; exact absurd h hE; exact h
    have e2 : X2 = ⟨#[]⟩ := by rcases C2.out with ⟨h, -⟩ | ⟨-, h⟩; exact absurd h hE; exact h
    have e3 : X3 = ⟨#[]⟩ := by rcases C3.out with ⟨h, -⟩ | ⟨-, h⟩; exact absurd h hE; exact h
    subst e1 e2 e3
    have tE : ((E : Int) != 0) = true := by simp; omega
    clear C0 C1 C2 C3 hE
    go_wp2_with fail
    go_ret
    exact ⟨rfl, S6.out.bel⟩
  have r1 : Put12 ⟨false, true, v⟩ a X1 := by rcases C1.out with ⟨-, h⟩ | ⟨h, -⟩; exact h; exact absurd rfl h
  have r2 : Put12 ⟨true, false, 0⟩ a X2 := by rcases C2.out with ⟨-, h⟩ | ⟨h, -⟩; exact h; exact absurd rfl h
  have r3 : Put12 ⟨true, true, v⟩ a X3 := by rcases C3.out with ⟨-, h⟩ | ⟨h, -⟩; exact h; exact absurd rfl h
  have z0 : X0.size = 4 + a.size := r0.size
  have z1 : X1.size = 8 + a.size := r1.size
  have z2 : X2.size = 8 + a.size := r2.size
  have z3 : X3.size = 12 + a.size := r3.size
  have q0 := r0.other rfl HVV.out
  have q1 := r1.other rfl HVV.out
  have v1 := r1.keySeg rfl 4 8 rfl rfl
  have v3 := r3.keySeg rfl 8 12 rfl rfl
  have G0 := Lib.hid (fun W hW => get12_any (X0.extract 0 4 ++ b) W hW (by rw [cat_size, ByteArray.size_extract]; have := HB.out; have := HA.out; omega))
  have G1 := Lib.hid (fun W hW => get12_any (X1.extract 0 8 ++ b) W hW (by rw [cat_size, ByteArray.size_extract]; have := HB.out; have := HA.out; omega))
  have g0 := q0.get
  have g1 := q1.get
  rw [show size12 false false = 4 from rfl] at g0
  rw [show size12 false true = 8 from rfl] at g1
  unfold Tells at G0 G1
  rw [g0.1, g0.2.1, g0.2.2] at G0
  rw [g1.1, g1.2.1, g1.2.2] at G1
  unfold H12.seen H12.cells at G0 G1
  simp only [show ((0 : Nat) : Int) = 0 from rfl] at G0 G1
  have hA := HA.out
  have hB := HB.out
  have y0 : (4 : Int) ≤ (X0.size : Int) := by omega
  have y1 : (8 : Int) ≤ (X1.size : Int) := by omega
  have y3 : (12 : Int) ≤ (X3.size : Int) := by omega
  have c0 : ¬ 9223372036854775807 < (X0.extract 0 4).size + b.size := by rw [ByteArray.size_extract]; omega
  have c1 : ¬ 9223372036854775807 < (X1.extract 0 8).size + b.size := by rw [ByteArray.size_extract]; omega
  have w4' : IntKind.i64.wrap ((X0.size : Int) + 4) = (X0.size : Int) + 4 := IntWalk.i64_in _ (by omega)
  have w8' : IntKind.i64.wrap ((X0.size : Int) + 8) = (X0.size : Int) + 8 := IntWalk.i64_in _ (by omega)
  have ws' : IntKind.i64.wrap ((X0.size : Int) - (a.size : Int)) = 4 := (IntWalk.i64_in _ (by omega)).trans (by omega)
  have k1 : ((X1.size : Int) != (X0.size : Int) + 4) = false := by simp; omega
  have k2 : ((X2.size : Int) != (X0.size : Int) + 4) = false := by simp; omega
  have k3 : ((X3.size : Int) != (X0.size : Int) + 8) = false := by simp; omega
  have Z := Lib.hid (fun W => gre_size_any ⟨false, false, 0⟩ W)
  unfold Tells H12.cells at Z
  simp only [show ((size12 false false : Nat) : Int) = 4 from rfl, show ((0 : Nat) : Int) = 0 from rfl] at Z
  obtain ⟨V, hV⟩ : ∃ V : ByteArray, V = ⟨(be v 4).toArray⟩ := ⟨_, rfl⟩
  simp only [← hV] at v1 v3
  have HV1 := Lib.hid v1
  have HV3 := Lib.hid v3
  clear C0 C1 C2 C3 r0 r1 r2 r3 z0 z1 z2 z3 q0 q1 g0 g1 hV v1 v3 hA hB
  go_upto_region 14 with (fail)
  have v1 := HV1.out
  have v3 := HV3.out
  clear HV1 HV3
  go_region_held3 (fun W => Hid (Gl12 w W))
    (first | exact Lib.hid S6.out.drew | exact keepL12 (by assumption) (by assumption))
    (first
      | (go_at_call 12; ((with_reducible refine (Z.out _).mono ?_); rintro e w' ⟨rfl, hb⟩)))
  rename_i held
  have S7 : Hid (Gl12 w _) := held
  clear held S6 hb
  clear v1 v3 k1 k2 k3 w4' w8' ws' y3 Z
  generalize w' = w7 at *
  go_wp2_with fail
  refine (G0.out _ S7.out.vs).mono ?_
  rintro e w8 ⟨rfl, hb⟩
  have S8 := Lib.hid (Gm12.new ⟨false, false, 0⟩ (S7.out.below hb))
  clear hb S7 G0
  unfold H12.cells at S8
  simp only [show ((0 : Nat) : Int) = 0 from rfl] at S8
  go_wp2_with fail
  generalize w8.alloc (.cells #[.bool false, .bool false, .int .u32 0] 28) = w9 at *
  generalize w8.heap.size = M at *
  refine (G1.out _ S8.out.gl.vs).mono ?_
  rintro e w10 ⟨rfl, hb⟩
  have S9 := Lib.hid ((S8.out.below hb).alloc (.cells #[.bool false, .bool true, .int .u32 (v : Nat)] 28))
  clear hb S8 G1 y0 y1 c0 c1
  have c0 := S9.out.b.cell 0
  have c1 := S9.out.b.cell 1
  have c2 := S9.out.b.cell 2
  unfold H12.cells at c0 c1 c2
  simp only [List.getElem?_toArray, List.getElem?_cons_zero, List.getElem?_cons_succ, show ((0 : Nat) : Int) = 0 from rfl] at c0 c1 c2
  go_wp2_with fail
  go_ret
  exact ⟨rfl, S9.out.gl.bel⟩

end Go.Proofs.YtnlpbnipfglhhaaDoor
