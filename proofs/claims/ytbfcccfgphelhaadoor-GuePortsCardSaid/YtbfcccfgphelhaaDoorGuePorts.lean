/-
  GuePorts returns true at every input.
-/
import Derived.Test.YtbfcccfgphelhaaDoorGueAwake
import Derived.Test.YtbfcccfgphelhaaDoorGuePlain
import Derived.Deep.QuietTactic
import Derived.BigQuiet
import Derived.IntWalk
namespace Go.Proofs.YtbfcccfgphelhaaDoor
open Go.RowKit
set_option linter.unusedVariables false

theorem put13E_port (a b : Nat) (s : ByteArray) (ha : a ≤ 65535) (hb : b ≤ 65535) : put13E (b : Int) s = put13E (a : Int) s := by
  have h : ∀ n : Nat, n ≤ 65535 → (dg13 (n : Int) s).err = if (pay13 s).size ≤ 65527 then 0 else 4 := by
    intro n hn
    unfold D8.err
    rw [if_pos]
    · rfl
    · show (in8 (n : Int) && in8 6080) = true
      rw [(in8_iff _).2 (by omega)]
      decide
  unfold put13E
  rw [h a ha, h b hb]
/-- What stands behind the port. -/
theorem bare13_tail (a b : Int) (s : ByteArray) : (bare13 b s).data.toList.drop 2 = (bare13 a s).data.toList.drop 2 := by
  have h : ∀ n : Int, (bare13 n s).data.toList.drop 2 = be 6080 2 ++ be (8 + (pay13 s).size) 2 ++ be 0 2 ++ (pay13 s).data.toList := by
    intro n
    show ((dg13 n s).pack 0).drop 2 = _
    unfold D8.pack dg13
    simp only [List.append_assoc]
    exact List.drop_left' (by simp [be_length])
  rw [h, h]
theorem seg26 (l : List UInt8) : (l.take 6).drop 2 = (l.drop 2).take 4 := by
  rw [List.drop_take]

set_option maxRecDepth 100000 in
set_option maxHeartbeats 4000000 in
theorem guePorts_any (a b : Nat) (sum : Bool) (src dst inner : ByteArray) (w : World) (hg : Vers w ∧ Places w) (ha : a ≤ 65535) (hb : b ≤ 65535) :
    Calls Tryd.prog 6 #[.int .u16 (a : Nat), .int .u16 (b : Nat), .bool sum, .string src, .string dst, .string inner] w (AwakeEnd w) := by
  have HA := Lib.hid (awake13_any w hg.1 hg.2)
  have S0 := Lib.hid (Gl13.new hg.1 hg.2)
  have HPE := Lib.hid (put13E_port a b inner ha hb)
  have xa : IntKind.i64.wrap (a : Int) = (a : Nat) := IntWalk.i64_in _ (by omega)
  have xb : IntKind.i64.wrap (b : Int) = (b : Nat) := IntWalk.i64_in _ (by omega)
  clear hg ha hb
  go_enter Tryd.func6, Tryd.ntmps6
  go_wp2_with fail
  refine HA.out.mono ?_
  rintro e w1 ⟨rfl, hb⟩
  have S1 := Lib.hid (S0.out.below hb)
  clear hb S0 HA
  go_wp2_with fail
  refine (few13_any src dst inner ⟨#[]⟩ w1).mono ?_
  rintro e w1' ⟨rfl, rfl⟩
  cases hf : few13 src dst inner ⟨#[]⟩ with
  | false =>
    go_wp2_with fail
    go_ret
    exact ⟨rfl, S1.out.bel⟩
  | true =>
  obtain ⟨f1, f2, f3, _⟩ := (few13_iff _ _ _ _).1 hf
  by_cases hs4 : src.size = 4
  case neg =>
    have ts : ((src.size : Int) != 4) = true := by simp; omega
    clear f1 f2 f3 hs4
    go_wp2_with fail
    go_ret
    exact ⟨rfl, S1.out.bel⟩
  have ts : ((src.size : Int) != 4) = false := by simp; omega
  by_cases hd4 : dst.size = 4
  case neg =>
    have td : ((dst.size : Int) != 4) = true := by simp; omega
    clear f1 f2 f3 hs4 hd4
    go_wp2_with fail
    go_ret
    exact ⟨rfl, S1.out.bel⟩
  have td : ((dst.size : Int) != 4) = false := by simp; omega
  have P1 := Lib.hid (fun W hv hp => put13_any ⟨(a : Nat), sum⟩ src dst inner W hv hp (by omega) (by omega) (by omega))
  have P2 := Lib.hid (fun W hv hp => put13_any ⟨(b : Nat), sum⟩ src dst inner W hv hp (by omega) (by omega) (by omega))
  have P3 := Lib.hid (fun W hv hp => put13_any ⟨(a : Nat), sum⟩ dst src inner W hv hp (by omega) (by omega) (by omega))
  have C1 := put13_cases ⟨(a : Nat), sum⟩ src dst inner (by omega) (by omega)
  have C2 := put13_cases ⟨(b : Nat), sum⟩ src dst inner (by omega) (by omega)
  have hz : put13S ⟨(a : Nat), sum⟩ dst src inner = put13S ⟨(a : Nat), sum⟩ src dst inner := by
    rcases C1 with ⟨h, m⟩ | ⟨h, m⟩
    · rw [← m.turned]
      unfold put13S
      rw [if_pos h]
    · rw [m]
      unfold put13S
      rw [if_neg h]
  rw [hz] at P3
  simp only [HPE.out] at P2 C2
  unfold Tells at P1 P2 P3
  have HS4 := Lib.hid hs4
  have HD4 := Lib.hid hd4
  have HI := Lib.hid f3
  have HC1 := Lib.hid C1
  have HC2 := Lib.hid C2
  clear f1 f2 f3 hf hs4 hd4 hz C1 C2 HPE
  generalize put13S ⟨(a : Nat), sum⟩ src dst inner = X at *
  generalize put13S ⟨(b : Nat), sum⟩ src dst inner = Y at *
  simp only at P1 P2 P3 HC1 HC2
  generalize put13E (a : Nat) inner = E at *
  unfold H13.cells at P1 P2 P3
  simp only at P1 P2 P3
  go_wp2_with fail
  refine (P1.out _ S1.out.vs S1.out.ps).mono ?_
  rintro e w2 ⟨rfl, hb⟩
  have S2 := Lib.hid (S1.out.below hb)
  clear hb S1 P1 ts td
  go_wp2_with fail
  refine (P2.out _ S2.out.vs S2.out.ps).mono ?_
  rintro e w3 ⟨rfl, hb⟩
  have S3 := Lib.hid (S2.out.below hb)
  clear hb S2 P2
  go_wp2_with fail
  refine (P3.out _ S3.out.vs S3.out.ps).mono ?_
  rintro e w4 ⟨rfl, hb⟩
  have S4 := Lib.hid (S3.out.below hb)
  clear hb S3 P3
  rcases HC1.out with ⟨rfl, m1⟩ | ⟨hE, rfl⟩
  case inr =>
    have e2 : Y = ⟨#[]⟩ := by rcases HC2.out with ⟨h, _⟩ | ⟨_, h⟩; exact absurd h hE; exact h
    subst e2
    have tE : ((E : Int) != 0) = true := by simp; omega
    clear HC1 HC2 hE
    go_wp2_with fail
    go_ret
    exact ⟨rfl, S4.out.bel⟩
  have m2 : Made13 ⟨(b : Nat), sum⟩ src dst inner Y := by rcases HC2.out with ⟨_, h⟩ | ⟨h, _⟩; exact h; exact absurd rfl h
  have z1 := m1.sent.size
  have z2 := m2.sent.size
  have bt := bare13_tail (a : Int) (b : Int) inner
  have q1 : Y.extract 2 6 = X.extract 2 6 := by
    apply text_ext
    rw [sl_ext, sl_ext]
    unfold sl
    rw [m1.front, m2.front, seg26, seg26]
    rw [bt]
  have q2 : Y.extract 8 Y.size = X.extract 8 X.size := by
    apply text_ext
    rw [sl_ext, sl_ext, sl_all, sl_all, m1.drop, m2.drop]
    have := congrArg (List.drop 6) bt
    rw [List.drop_drop, List.drop_drop] at this
    exact this
  have q3 : sum = false → Y.extract 2 Y.size = X.extract 2 X.size := by
    intro h
    apply text_ext
    rw [sl_ext, sl_ext, sl_all, sl_all, m1.plain h, m2.plain h]
    exact bt
  have ⟨g1, g2, g3⟩ := m2.got
  have G1 := Lib.hid (fun W hW => get13_any src dst Y W hW (by have := HS4.out; omega) (by have := HD4.out; omega) (by have := HI.out; omega))
  rw [g1, g2, g3] at G1
  unfold Tells at G1
  unfold H13.cells at G1
  simp only at G1
  have HQ3 := Lib.hid q3
  clear HC1 HC2 m1 m2 g1 g2 g3 bt q3
  have HQ1 := Lib.hid q1
  have HQ2 := Lib.hid q2
  have Z1 := Lib.hid z1
  have Z2 := Lib.hid z2
  clear q1 q2 z1 z2
  go_wp2_with fail
  refine (G1.out _ S4.out.vs).mono ?_
  rintro e w5 ⟨rfl, hb⟩
  have S5 := Lib.hid ((S4.out.below hb).alloc (.cells #[.int .i64 (b : Nat), .bool sum] 28))
  have N5 := Lib.hid (Blk.new w5 #[.int .i64 (b : Nat), .bool sum] 28)
  clear hb S4 G1
  go_wp2_with fail
  have c0 := N5.out.cell 0
  simp only [List.getElem?_toArray, List.getElem?_cons_zero] at c0
  generalize w5.alloc (.cells #[.int .i64 (b : Nat), .bool sum] 28) = w6 at *
  generalize w5.heap.size = M at *
  clear N5
  have zx := Z1.out
  have zy := Z2.out
  have b1 : (6 : Int) ≤ (X.size : Int) := by omega
  have b2 : (6 : Int) ≤ (Y.size : Int) := by omega
  have b3 : (8 : Int) ≤ (X.size : Int) := by omega
  have b4 : (8 : Int) ≤ (Y.size : Int) := by omega
  have b5 : (2 : Int) ≤ (X.size : Int) := by omega
  have b6 : (2 : Int) ≤ (Y.size : Int) := by omega
  have n1 : 6 ≤ X.size := by omega
  have n2 : 6 ≤ Y.size := by omega
  have n3 : 8 ≤ X.size := by omega
  have n4 : 8 ≤ Y.size := by omega
  have n5 : 2 ≤ X.size := by omega
  have n6 : 2 ≤ Y.size := by omega
  obtain ⟨A, hA⟩ : ∃ A, X.extract 2 6 = A := ⟨_, rfl⟩
  obtain ⟨B, hB⟩ : ∃ B, X.extract 8 X.size = B := ⟨_, rfl⟩
  obtain ⟨C, hC⟩ : ∃ C, X.extract 2 X.size = C := ⟨_, rfl⟩
  have hA2 := HQ1.out.trans hA
  have hB2 := HQ2.out.trans hB
  clear zx zy
  cases sum with
  | true =>
    go_quiet (fail)
    go_wp2_with fail
    go_ret
    exact ⟨rfl, below_drewN S5.out.bel _⟩
  | false =>
    have hC2 := (HQ3.out rfl).trans hC
    go_quiet (fail)
    go_wp2_with fail
    go_ret
    exact ⟨rfl, below_drewN S5.out.bel _⟩

theorem guePorts_row (a b : Int) (sum : Bool) (src dst inner : ByteArray) (w : World) (hg : Vers w ∧ Places w) (ha : 0 ≤ a ∧ a ≤ 65535) (hb : 0 ≤ b ∧ b ≤ 65535) :
    Calls Tryd.prog 6 #[.int .u16 a, .int .u16 b, .bool sum, .string src, .string dst, .string inner] w (AwakeEnd w) := by
  obtain ⟨m, rfl⟩ := Int.eq_ofNat_of_zero_le ha.1
  obtain ⟨n, rfl⟩ := Int.eq_ofNat_of_zero_le hb.1
  exact guePorts_any m n sum src dst inner w hg (by omega) (by omega)

end Go.Proofs.YtbfcccfgphelhaaDoor
