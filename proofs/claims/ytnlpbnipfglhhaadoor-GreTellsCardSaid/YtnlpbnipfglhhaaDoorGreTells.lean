/-
  GreTells returns true at every input.
-/
import Derived.Test.YtnlpbnipfglhhaaDoorGreAwake
namespace Go.Proofs.YtnlpbnipfglhhaaDoor
open Go.RowKit
set_option linter.unusedVariables false

set_option maxRecDepth 100000 in
set_option maxHeartbeats 2000000 in
theorem greTells_any (s k : Bool) (v : Nat) (inner b : ByteArray) (w : World) (hg : Vers w) (hv : v < 4294967296) :
    Calls Tryd.prog 3 #[.bool s, .bool k, .int .u32 (v : Nat), .string inner, .string b] w (AwakeEnd w) := by
  have HA := Lib.hid (awake12_any w hg)
  have S0 := Lib.hid (Gl12.new hg)
  have HV := Lib.hid hv
  clear hg hv
  go_enter Tryd.func3, Tryd.ntmps3
  go_wp2_with fail
  refine HA.out.mono ?_
  rintro e w1 ⟨rfl, hb⟩
  have S1 := Lib.hid (S0.out.below hb)
  clear hb S0 HA
  by_cases h1 : inner.size ≤ 5000
  case neg =>
    have t1 : decide ((5000 : Int) < (inner.size : Int)) = true := by simp; omega
    go_wp2_with fail
    go_ret
    exact ⟨rfl, S1.out.bel⟩
  have t1 : decide ((5000 : Int) < (inner.size : Int)) = false := by simp; omega
  by_cases h2 : b.size ≤ 5000
  case neg =>
    have t2 : decide ((5000 : Int) < (b.size : Int)) = true := by simp; omega
    go_wp2_with fail
    go_ret
    exact ⟨rfl, S1.out.bel⟩
  have t2 : decide ((5000 : Int) < (b.size : Int)) = false := by simp; omega
  have P1 := Lib.hid (fun W hW => put12_any ⟨s, k, v⟩ inner W hW HV.out (by omega))
  have P2 := Lib.hid (fun W => refput12_any ⟨s, k, v⟩ inner W HV.out (by omega))
  have G1 := Lib.hid (fun W hW => get12_any b W hW (by omega))
  have G2 := Lib.hid (fun W => refget12_any b W (by omega))
  unfold Tells at P1 P2 G1
  unfold Ref12End at G2
  clear h1 h2
  generalize put12S ⟨s, k, v⟩ inner = X at *
  generalize (v11 inner).en = E at *
  generalize get12H b = h at *
  generalize get12S b = t at *
  generalize get12E b = F at *
  unfold H12.cells at P1 P2 G1 G2
  simp only at P1 P2
  go_wp2_with fail
  refine (P1.out _ S1.out.vs).mono ?_
  rintro e w2 ⟨rfl, hb⟩
  have S2 := Lib.hid (S1.out.below hb)
  clear hb S1 P1
  go_wp2_with fail
  refine (P2.out _).mono ?_
  rintro e w3 ⟨rfl, hb⟩
  have S3 := Lib.hid (S2.out.below hb)
  clear hb S2 P2
  go_wp2_with fail
  refine (G1.out _ S3.out.vs).mono ?_
  rintro e w4 ⟨rfl, hb⟩
  have S4 := Lib.hid (S3.out.below hb)
  clear hb S3 G1
  have N4 := Blk.new w4 h.cells 28
  have S5 := Lib.hid (S4.out.alloc (.cells h.cells 28))
  unfold H12.cells at N4 S5
  have N5 := Lib.hid N4
  clear N4
  go_wp2_with fail
  generalize w4.alloc (.cells #[.bool h.sum, .bool h.key, .int .u32 (h.v : Nat)] 28) = w5 at *
  generalize w4.heap.size = M at *
  refine (G2.out _).mono ?_
  rintro e w6 ⟨rfl, hb⟩
  have S6 := Lib.hid (S5.out.below hb)
  have N6 := Lib.hid (show Blk w6 M _ _ from (hb.block _ N5.out.lt).trans N5.out)
  clear hb S5 G2 N5 S4
  have c0 := (N6.out.alloc (.cells h.cells 31)).cell 0
  have c1 := (N6.out.alloc (.cells h.cells 31)).cell 1
  have c2 := (N6.out.alloc (.cells h.cells 31)).cell 2
  have lM := N6.out.lt
  unfold H12.cells at c0 c1 c2
  simp only [List.getElem?_toArray, List.getElem?_cons_zero, List.getElem?_cons_succ] at c0 c1 c2
  go_wp2_with fail
  go_ret
  exact ⟨rfl, (S6.out.alloc _).bel⟩

end Go.Proofs.YtnlpbnipfglhhaaDoor
