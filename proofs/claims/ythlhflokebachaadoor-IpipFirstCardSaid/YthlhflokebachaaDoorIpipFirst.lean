/-
  IpipFirst returns true at every input.
-/
import Derived.Test.YthlhflokebachaaDoorIpipTells
import Derived.Test.YthlhflokebachaaDoorGround
namespace Go.Proofs.YthlhflokebachaaDoor
open Go.RowKit
set_option linter.unusedVariables false

theorem u8_and240' : ∀ x : Fin 256, bits .and .u8 ((x.val : Nat) : Int) 240 = ((x.val / 16 * 16 : Nat) : Int) := by decide +kernel
theorem u8_or16' : ∀ x m : Fin 16, bits .or .u8 ((x.val * 16 : Nat) : Int) ((m.val : Nat) : Int) = ((x.val * 16 + m.val : Nat) : Int) := by decide +kernel
theorem u8_and240 (n : Nat) (h : n < 256) : bits .and .u8 (n : Int) 240 = ((n / 16 * 16 : Nat) : Int) := u8_and240' ⟨n, h⟩
theorem u8_or16 (x m : Nat) (hx : x < 16) (hm : m < 16) : bits .or .u8 ((x * 16 : Nat) : Int) (m : Int) = ((x * 16 + m : Nat) : Int) := u8_or16' ⟨x, hx⟩ ⟨m, hm⟩

/-- What the table tells of a text of the like first four bits. -/
theorem get11_like {a c : ByteArray} (ha : ¬ a.size = 0) (hv : v11 c = v11 a) : ((v11 a).err = 0 ∧ get11E (v11 a).proto c = 0 ∧ get11S (v11 a).proto c = c) ∨ ((v11 a).err ≠ 0 ∧ get11E (v11 a).proto c ≠ 0 ∧ get11S (v11 a).proto c = ⟨#[]⟩) := by
  have h3 : get11S (v11 a).proto c = if get11E (v11 a).proto c = 0 then c else ⟨#[]⟩ := rfl
  rw [h3]
  unfold get11E
  rw [hv]
  cases v11 a <;> simp [V11.err, V11.proto]

set_option maxRecDepth 100000 in
set_option maxHeartbeats 2000000 in
theorem first11_law (a b : ByteArray) (w : World) (hg : Vers w) (hb1 : b.size ≤ 140737488355328) :
    Calls Tryd.prog 5 #[.string a, .string b] w (AwakeEnd w) := by
  have HA := Lib.hid (awake11_any w hg)
  have ways : (decide ((3000 : Int) < (a.size : Int)) = true) ∨ (decide ((3000 : Int) < (a.size : Int)) = false ∧ decide ((3000 : Int) < (b.size : Int)) = true) ∨ (decide ((3000 : Int) < (a.size : Int)) = false ∧ decide ((3000 : Int) < (b.size : Int)) = false ∧ a.toList.isEmpty = true) ∨ (decide ((3000 : Int) < (a.size : Int)) = false ∧ decide ((3000 : Int) < (b.size : Int)) = false ∧ a.toList.isEmpty = false ∧ ¬ a.size = 0 ∧ b.size ≤ 3000) := by
    have he : ¬ a.toList.isEmpty = true → ¬ a.size = 0 := by
      intro h0 h
      have : a.data.toList.length = 0 := by simpa using h
      rw [ByteArray.toList_eq, List.length_eq_zero_iff.1 this] at h0
      exact h0 rfl
    by_cases k1 : 3000 < a.size
    · exact Or.inl (by simp; omega)
    by_cases k2 : 3000 < b.size
    · exact Or.inr (Or.inl ⟨by simp; omega, by simp; omega⟩)
    by_cases k3 : a.toList.isEmpty = true
    · exact Or.inr (Or.inr (Or.inl ⟨by simp; omega, by simp; omega, k3⟩))
    · exact Or.inr (Or.inr (Or.inr ⟨by simp; omega, by simp; omega, by simpa using k3, he k3, by omega⟩))
  rcases ways with t1 | ⟨t1, t2⟩ | ⟨t1, t2, t3⟩ | ⟨t1, t2, t3, ha0, hb0⟩
  · clear hb1
    go_enter Tryd.func5, Tryd.ntmps5
    go_wp2_with fail
    refine HA.out.mono ?_
    rintro e w1 ⟨rfl, hb1⟩
    go_wp2_with fail
    go_ret
    exact ⟨rfl, hb1⟩
  · clear hb1
    go_enter Tryd.func5, Tryd.ntmps5
    go_wp2_with fail
    refine HA.out.mono ?_
    rintro e w1 ⟨rfl, hb1⟩
    go_wp2_with fail
    go_ret
    exact ⟨rfl, hb1⟩
  · clear hb1
    go_enter Tryd.func5, Tryd.ntmps5
    go_wp2_with fail
    refine HA.out.mono ?_
    rintro e w1 ⟨rfl, hb1⟩
    go_wp2_with fail
    go_ret
    exact ⟨rfl, hb1⟩
  have hz : 0 < a.size := by omega
  have b0 : (0 : Int) < (a.size : Int) := by omega
  have hn := first11_at a hz
  have hl := first11_lt a
  obtain ⟨c, hc⟩ : ∃ c : UInt8, c.toNat = first11 a / 16 * 16 + b.size % 16 := ⟨UInt8.ofNat (first11 a / 16 * 16 + b.size % 16), by rw [UInt8.toNat_ofNat']; omega⟩
  have e1 : bits .and .u8 ((first11 a : Nat) : Int) 240 = ((first11 a / 16 * 16 : Nat) : Int) := u8_and240 _ hl
  have e2 : bits .and .i64 ((b.size : Nat) : Int) 15 = ((b.size % 16 : Nat) : Int) := by
    have := i64_mask 4 (by decide) (b.size : Int)
    rw [show (((2 ^ 4 - 1 : Nat) : Int)) = 15 from rfl] at this
    rw [this]; omega
  have e3 : bits .or .u8 ((first11 a / 16 * 16 : Nat) : Int) ((b.size % 16 : Nat) : Int) = (c.toNat : Int) := by
    rw [u8_or16 _ _ (by omega) (by omega), hc]
  have e4 : IntKind.u8.wrap ((b.size % 16 : Nat) : Int) = ((b.size % 16 : Nat) : Int) := by rw [IntKind.wrap_u8]; omega
  have hvc : v11 ((⟨#[c]⟩ : ByteArray) ++ b) = v11 a := v11_like (by rw [cat_size]; show ¬ 1 + b.size = 0; omega) ha0 (by rw [first11_cat, hc]; omega)
  have hgl := get11_like ha0 hvc
  have hsz : ((⟨#[c]⟩ : ByteArray) ++ b).size = 1 + b.size := by rw [cat_size]; rfl
  have A1 := fun W h => proto11_any a W h
  have A2 := fun W h => proto11_any ((⟨#[c]⟩ : ByteArray) ++ b) W h
  have A3 := fun W h => kind11_any a W h
  have A4 := fun W h => kind11_any ((⟨#[c]⟩ : ByteArray) ++ b) W h
  have A5 := fun W h => get11_any (v11 a).proto ((⟨#[c]⟩ : ByteArray) ++ b) W h
  unfold Tells at A1 A2 A3 A4 A5
  rw [hvc] at A2 A4
  obtain ⟨C, hC⟩ : ∃ C : ByteArray, C = ⟨#[c]⟩ := ⟨_, rfl⟩
  have hCs : C.size = 1 := by rw [hC]; rfl
  have hcat : ¬ (9223372036854775807 < C.size + b.size) := by omega
  have hcv := fun W => conv_new W [c] #[.int .u8 (c.toNat : Int)] rfl 1 rfl
  rw [show (⟨[c].toArray⟩ : ByteArray) = C from hC.symm] at hcv
  rw [← hC] at A2 A4 A5 hgl
  clear hvc hc hsz hC hCs ha0 hl hb1
  generalize get11E (v11 a).proto (C ++ b) = I at *
  generalize get11S (v11 a).proto (C ++ b) = X at *
  generalize (v11 a).proto = N at *
  generalize (v11 a).kind = K0 at *
  generalize (v11 a).err = E at *
  generalize first11 a / 16 * 16 = q at *
  generalize first11 a = n at *
  obtain ⟨m, hm⟩ : ∃ m, b.size % 16 = m := ⟨_, rfl⟩
  rw [hm] at e2 e3 e4
  clear hm
  have H1 := Lib.hid A1
  have H2 := Lib.hid A2
  have H3 := Lib.hid A3
  have H4 := Lib.hid A4
  have H5 := Lib.hid A5
  have HG := Lib.hid hgl
  clear A1 A2 A3 A4 A5 hgl
  go_enter Tryd.func5, Tryd.ntmps5
  go_wp2_with fail
  refine HA.out.mono ?_
  rintro e w1 ⟨rfl, hb1⟩
  have L1 := Lib.hid hb1
  clear hb1 HA
  go_wp2_with fail
  have L2 := Lib.hid (L1.out.alloc L1.out.size (.cells #[.int .u8 (c.toNat : Int)] 5))
  clear hcv e1 e2 e3 e4 L1 hcat
  generalize w1.alloc (.cells #[.int .u8 (c.toNat : Int)] 5) = w2 at *
  refine (H1.out w2 (hg.on L2.out)).mono ?_
  rintro e w3 ⟨rfl, hb⟩
  have L3 := Lib.hid (L2.out.trans (hb.mono L2.out.size))
  clear hb L2 H1
  go_wp2_with fail
  refine (H2.out w3 (hg.on L3.out)).mono ?_
  rintro e w4 ⟨rfl, hb⟩
  have L4 := Lib.hid (L3.out.trans (hb.mono L3.out.size))
  clear hb L3 H2
  go_wp2_with fail
  refine (H3.out w4 (hg.on L4.out)).mono ?_
  rintro e w5 ⟨rfl, hb⟩
  have L5 := Lib.hid (L4.out.trans (hb.mono L4.out.size))
  clear hb L4 H3
  go_wp2_with fail
  refine (H4.out w5 (hg.on L5.out)).mono ?_
  rintro e w6 ⟨rfl, hb⟩
  have L6 := Lib.hid (L5.out.trans (hb.mono L5.out.size))
  clear hb L5 H4
  go_wp2_with fail
  refine (H5.out w6 (hg.on L6.out)).mono ?_
  rintro e w7 ⟨rfl, hb⟩
  have L7 := Lib.hid (L6.out.trans (hb.mono L6.out.size))
  clear hb L6 H5
  rcases HG.out with ⟨h1, rfl, rfl⟩ | ⟨h1, h2, rfl⟩
  · subst h1
    generalize C ++ b = Y at *
    have tss : (Y.toList == Y.toList) = true := by simp
    clear HG
    go_wp2_with fail
    go_ret
    exact ⟨rfl, L7.out⟩
  · have t5 : (E == 0) = false := by simpa using h1
    have t6 : (I == 0) = false := by simpa using h2
    have t7 : (E != 0) = true := by simpa using h1
    generalize C ++ b = Y at *
    clear HG h1 h2
    go_wp2_with fail
    all_goals
      go_ret
      exact ⟨rfl, L7.out⟩

end Go.Proofs.YthlhflokebachaaDoor
