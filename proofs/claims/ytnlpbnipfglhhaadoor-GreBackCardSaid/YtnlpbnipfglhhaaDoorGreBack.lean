/-
  GreBack returns true at every input.
-/
import Derived.Test.YtnlpbnipfglhhaaDoorGreAwake
import Derived.Test.YtnlpbnipfglhhaaDoorGrePlain
import Derived.Deep.CutBlock
import Derived.Deep.DeepCutAuto
namespace Go.Proofs.YtnlpbnipfglhhaaDoor
open Go.RowKit
set_option linter.unusedVariables false

set_option maxRecDepth 100000 in
set_option maxHeartbeats 4000000 in
theorem greBack_any (s k : Bool) (v : Nat) (inner b : ByteArray) (w : World) (hg : Vers w) (hv : v < 4294967296) :
    Calls Tryd.prog 4 #[.bool s, .bool k, .int .u32 (v : Nat), .string inner, .string b] w (AwakeEnd w) := by
  have HA := Lib.hid (awake12_any w hg)
  have S0 := Lib.hid (Gl12.new hg)
  have HV := Lib.hid hv
  have PT := Lib.hid (put12_cases ⟨s, k, v⟩ inner hv)
  clear hg hv
  go_enter Tryd.func4, Tryd.ntmps4
  go_wp2_with fail
  refine HA.out.mono ?_
  rintro e w1 ⟨rfl, hb⟩
  have S1 := Lib.hid (S0.out.below hb)
  clear hb S0 HA
  by_cases h1 : inner.size ≤ 5000
  case neg =>
    have t1 : decide ((5000 : Int) < (inner.size : Int)) = true := by simp; omega
    go_wp2_with fail
    go_ret
    exact ⟨rfl, S1.out.bel⟩
  have t1 : decide ((5000 : Int) < (inner.size : Int)) = false := by simp; omega
  by_cases h2 : b.size ≤ 5000
  case neg =>
    have t2 : decide ((5000 : Int) < (b.size : Int)) = true := by simp; omega
    go_wp2_with fail
    go_ret
    exact ⟨rfl, S1.out.bel⟩
  have t2 : decide ((5000 : Int) < (b.size : Int)) = false := by simp; omega
  have P1 := Lib.hid (fun W hW => put12_any ⟨s, k, v⟩ inner W hW HV.out (by omega))
  unfold Tells at P1
  have HIZ := Lib.hid h1
  have HBZ := Lib.hid h2
  clear h1 h2
  generalize put12S ⟨s, k, v⟩ inner = X at *
  generalize (v11 inner).en = E at *
  have M2 := Lib.hid (Gm12.new ⟨s, k, v⟩ S1.out)
  unfold H12.cells at P1 M2
  simp only at P1 M2
  go_wp2_with fail
  generalize w1.alloc (.cells #[.bool s, .bool k, .int .u32 (v : Nat)] 28) = w2 at *
  generalize w1.heap.size = N at *
  refine (P1.out _ M2.out.gl.vs).mono ?_
  rintro e w3 ⟨rfl, hb⟩
  have M3 := Lib.hid (M2.out.below hb)
  clear hb S1 P1 M2 t1 t2
  go_upto_if 43 with (fail)
  go_cut [10] (fun v10 wx => v10 = .bool false ∧ Hid (Gm12 w wx N (H12.seen ⟨s, k, v⟩)))
  case first =>
    have c2 := M3.out.b.cell 2
    have f2 := M3.out.b.frozen 2
    unfold H12.cells at c2
    simp only [List.getElem?_toArray, List.getElem?_cons_zero, List.getElem?_cons_succ] at c2
    cases k with
    | true =>
      go_wp2_with fail
      go_meet
      exact ⟨rfl, M3⟩
    | false =>
      go_wp2_with fail
      go_meet
      exact ⟨rfl, Lib.hid (M3.out.key 0)⟩
  case rest =>
  obtain ⟨rfl, M4⟩ := hcut
  have PQ : Hid ((E = 0 ∧ X.size = size12 (H12.seen ⟨s, k, v⟩).sum (H12.seen ⟨s, k, v⟩).key + inner.size ∧ get12E X = 0 ∧ get12H X = H12.seen ⟨s, k, v⟩ ∧ get12S X = inner) ∨ (E ≠ 0 ∧ X = ⟨#[]⟩)) := by
    rcases PT.out with ⟨h0, hp⟩ | h
    · exact Or.inl ⟨h0, hp.size, hp.get⟩
    · exact Or.inr h
  clear PT M3
  generalize H12.seen ⟨s, k, v⟩ = g at *
  go_upto_if 46 with (fail)
  go_cut [10] (fun v10 wx => v10 = .bool false ∧ Hid (Gl12 w wx))
  case first =>
    rcases PQ.out with ⟨rfl, hxs, hE, hH, hS⟩ | ⟨hE, rfl⟩
    case inr =>
      have tE : ((E : Int) == 0) = false := by simp; omega
      clear PQ hE
      go_wp2_with fail
      go_meet
      exact ⟨rfl, Lib.hid M4.out.gl⟩
    have hz := size12_le g.sum g.key
    have hin := HIZ.out
    have G1 := Lib.hid (fun W hW => get12_any X W hW (by omega))
    unfold Tells at G1
    rw [hE, hH, hS] at G1
    have Z1 := Lib.hid (fun W => gre_size_any g W)
    unfold Tells at Z1
    generalize size12 g.sum g.key = z at *
    have tn : ((X.size : Int) != (z : Int) + (inner.size : Int)) = false := by simp; omega
    have wn : IntKind.i64.wrap ((z : Int) + (inner.size : Int)) = (z : Int) + (inner.size : Int) := IntWalk.i64_in _ (by omega)
    clear PQ hxs hE hH hS hz
    unfold H12.cells at G1 Z1
    go_wp2_with fail
    refine (G1.out _ M4.out.gl.vs).mono ?_
    rintro e w4 ⟨rfl, hb⟩
    have M5 := Lib.hid ((M4.out.below hb).alloc (.cells g.cells 28))
    clear hb M4 G1
    have c0 := M5.out.b.cell 0
    have c1 := M5.out.b.cell 1
    have c2 := M5.out.b.cell 2
    have lN := M5.out.b.lt
    unfold H12.cells at c0 c1 c2 M5
    simp only [List.getElem?_toArray, List.getElem?_cons_zero, List.getElem?_cons_succ] at c0 c1 c2
    go_wp2_with fail
    refine (Z1.out _).mono ?_
    rintro e w5 ⟨rfl, hb⟩
    have L5 := Lib.hid (M5.out.gl.below hb)
    clear hb M5 Z1 c0 c1 c2
    go_wp2_with fail
    go_meet
    exact ⟨rfl, L5⟩
  case rest =>
  obtain ⟨rfl, L5⟩ := hcut
  clear PQ M4
  have G1 := Lib.hid (fun W hW => get12_any b W hW (by have := HBZ.out; omega))
  unfold Tells at G1
  by_cases hgz : get12E b = 0
  case neg =>
    have he := get12_err hgz
    rw [he.1, he.2] at G1
    have tg : ((get12E b : Int) != 0) = true := by simp; omega
    generalize get12E b = F at *
    clear hgz he
    unfold H12.zero H12.cells at G1
    simp only [show ((0 : Nat) : Int) = 0 from rfl] at G1
    go_wp2_with fail
    refine (G1.out _ L5.out.vs).mono ?_
    rintro e w6 ⟨rfl, hb⟩
    have L6 := Lib.hid ((L5.out.below hb).alloc (.cells #[.bool false, .bool false, .int .u32 0] 28))
    clear hb L5 G1
    go_wp2_with fail
    go_ret
    exact ⟨rfl, L6.out.bel⟩
  obtain ⟨s', k', gt⟩ := got12 hgz
  have he := get12_ok hgz
  have hi := gt.is
  have hvv := gt.v
  have hpf := gt.put
  have hen := gt.err
  have hlong := gt.long
  rw [he.1, he.2, hi.1, hgz] at G1
  rw [hi.1] at hpf
  have hin : (in12 b).size ≤ 1000000 := by rw [hi.2, ByteArray.size_extract]; have := HBZ.out; omega
  rw [← hi.2] at hen
  have P1 := Lib.hid (fun W hW => put12_any ⟨s', k', key12 s' k' b⟩ (in12 b) W hW hvv hin)
  unfold Tells at P1
  rw [hen] at P1
  have HPF := Lib.hid hpf
  clear hgz he hi hvv hpf hen hin gt
  generalize key12 s' k' b = v' at *
  generalize in12 b = t at *
  unfold H12.cells at G1 P1
  simp only [show ((0 : Nat) : Int) = 0 from rfl] at G1 P1
  go_wp2_with fail
  refine (G1.out _ L5.out.vs).mono ?_
  rintro e w6 ⟨rfl, hb⟩
  have L6 := Lib.hid ((L5.out.below hb).alloc (.cells #[.bool s', .bool k', .int .u32 (v' : Nat)] 28))
  clear hb L5 G1
  cases s' with
  | true =>
    have h8 : 8 ≤ b.size := by have : 8 ≤ size12 true k' := by cases k' <;> decide
                               omega
    have b4 : (4 : Int) < (b.size : Int) := by omega
    have b5 : (5 : Int) < (b.size : Int) := by omega
    have hn := num_2 b 4 (by omega)
    have hl4 : 4 < b.size := by omega
    have hl5 : 4 + 1 < b.size := by omega
    have q4 := (b[4]'hl4).toNat_lt
    have q5 := (b[4 + 1]'hl5).toNat_lt
    obtain ⟨p4, e4⟩ : ∃ n, (b[4]'hl4).toNat = n := ⟨_, rfl⟩
    obtain ⟨p5, e5⟩ : ∃ n, (b[4 + 1]'hl5).toNat = n := ⟨_, rfl⟩
    rw [e4, e5] at hn
    rw [e4] at q4
    rw [e5] at q5
    simp only [Nat.reduceAdd] at e5
    by_cases hff : p4 = 255 ∧ p5 = 255
    · have t4 : ((p4 : Int) == 255) = true := by simp; omega
      have t5 : ((p5 : Int) == 255) = true := by simp; omega
      clear hlong hn q4 q5 hff
      go_wp2_with fail
      go_ret
      exact ⟨rfl, L6.out.bel⟩
    have hq := HPF.out (fun _ => by omega)
    rw [hq] at P1
    clear hq HPF hlong hn
    by_cases h4 : p4 = 255
    · have t4 : ((p4 : Int) == 255) = true := by simp; omega
      have t5 : ((p5 : Int) == 255) = false := by simp; omega
      clear hff h4 q4 q5
      go_wp2_with fail
      refine (P1.out _ L6.out.vs).mono ?_
      rintro e w7 ⟨rfl, hb⟩
      have L7 := Lib.hid (L6.out.below hb)
      clear hb L6 P1
      go_wp2_with fail
      go_ret
      exact ⟨rfl, L7.out.bel⟩
    · have t4 : ((p4 : Int) == 255) = false := by simp; omega
      clear hff h4 q4 q5
      go_wp2_with fail
      refine (P1.out _ L6.out.vs).mono ?_
      rintro e w7 ⟨rfl, hb⟩
      have L7 := Lib.hid (L6.out.below hb)
      clear hb L6 P1
      go_wp2_with fail
      go_ret
      exact ⟨rfl, L7.out.bel⟩
  | false =>
    have hq := HPF.out (fun h => by cases h)
    rw [hq] at P1
    clear hq HPF hlong
    go_wp2_with fail
    refine (P1.out _ L6.out.vs).mono ?_
    rintro e w7 ⟨rfl, hb⟩
    have L7 := Lib.hid (L6.out.below hb)
    clear hb L6 P1
    go_wp2_with fail
    go_ret
    exact ⟨rfl, L7.out.bel⟩

end Go.Proofs.YtnlpbnipfglhhaaDoor
