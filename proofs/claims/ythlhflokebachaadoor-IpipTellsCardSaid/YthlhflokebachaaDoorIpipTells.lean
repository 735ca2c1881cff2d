/-
  IpipTells returns true at every input.
-/
import Derived.Test.YthlhflokebachaaDoorIpipRef
namespace Go.Proofs.YthlhflokebachaaDoor
open Go.RowKit
set_option linter.unusedVariables false

theorem put11_end (s : ByteArray) : (s.toList == s.toList) = true := by simp

set_option maxRecDepth 100000 in
set_option maxHeartbeats 1000000 in
theorem tells11_any (s : ByteArray) (proto : Int) (w : World) (hg : Vers w) :
    Calls Tryd.prog 3 #[.string s, .int .i64 proto] w (AwakeEnd w) := by
  have HA := Lib.hid (awake11_any w hg)
  have A1 := Lib.hid (fun W h => proto11_any s W h)
  have A2 := Lib.hid (fun W => refproto11_any s W)
  have A3 := Lib.hid (fun W h => kind11_any s W h)
  have A4 := Lib.hid (fun W => refkind11_any s W)
  have A5 := Lib.hid (fun W h => get11_any proto s W h)
  have A6 := Lib.hid (fun W => refget11_any proto s W)
  have A7 := Lib.hid (fun W h => put11_any s W h)
  have HP : Hid (put11S s = if (v11 s).err = 0 then s else ⟨#[]⟩) := rfl
  unfold Tells at A1 A2 A3 A4 A5 A6 A7
  generalize get11S proto s = S at *
  generalize get11E proto s = E at *
  by_cases hz : s.size ≤ 5000
  case neg =>
    have t0 : decide ((5000 : Int) < (s.size : Int)) = true := by simp; omega
    clear hz
    go_enter Tryd.func3, Tryd.ntmps3
    go_wp2_with fail
    refine HA.out.mono ?_
    rintro e w1 ⟨rfl, hb1⟩
    go_wp2_with fail
    go_ret
    exact ⟨rfl, hb1⟩
  have t0 : decide ((5000 : Int) < (s.size : Int)) = false := by simp; omega
  have key : ∀ (k p r : Int) (P : ByteArray), ((v11 s).kind = k ∧ (v11 s).proto = p ∧ (v11 s).err = r ∧ put11S s = P) → (r = 0 ∧ P = s ∨ r ≠ 0 ∧ P = ⟨#[]⟩) →
      Calls Tryd.prog 3 #[.string s, .int .i64 proto] w (AwakeEnd w) := by
    rintro k p r P ⟨rfl, rfl, rfl, rfl⟩ hw
    generalize (v11 s).kind = k at *
    generalize (v11 s).proto = p at *
    generalize (v11 s).err = r at *
    generalize put11S s = P at *
    clear HP hz
    have ways : ((P.toList == s.toList) = true) ∨ ((P.toList == s.toList) = false ∧ (r != 0) = true ∧ P.toList.isEmpty = true) := by
      by_cases h : (P.toList == s.toList) = true
      · exact Or.inl h
      · rcases hw with ⟨-, rfl⟩ | ⟨hr, rfl⟩
        · exact absurd (by simp) h
        · exact Or.inr ⟨by simpa using h, by simp [hr], by rw [ByteArray.toList_eq]; rfl⟩
    clear hw
    rcases ways with t1 | ⟨t1, t2, t3⟩
    all_goals
      go_enter Tryd.func3, Tryd.ntmps3
      go_wp2_with fail
      refine HA.out.mono ?_
      rintro e w1 ⟨rfl, hb1⟩
      go_wp2_with fail
      refine (A1.out w1 (hg.on hb1)).mono ?_
      rintro e w2 ⟨rfl, hb⟩
      have hb2 := hb1.trans (hb.mono hb1.size)
      clear hb1 hb A1 HA
      go_wp2_with fail
      refine (A2.out w2).mono ?_
      rintro e w3 ⟨rfl, hb⟩
      have hb3 := hb2.trans (hb.mono hb2.size)
      clear hb2 hb A2
      go_wp2_with fail
      refine (A3.out w3 (hg.on hb3)).mono ?_
      rintro e w4 ⟨rfl, hb⟩
      have hb4 := hb3.trans (hb.mono hb3.size)
      clear hb3 hb A3
      go_wp2_with fail
      refine (A4.out w4).mono ?_
      rintro e w5 ⟨rfl, hb⟩
      have hb5 := hb4.trans (hb.mono hb4.size)
      clear hb4 hb A4
      go_wp2_with fail
      refine (A5.out w5 (hg.on hb5)).mono ?_
      rintro e w6 ⟨rfl, hb⟩
      have hb6 := hb5.trans (hb.mono hb5.size)
      clear hb5 hb A5
      go_wp2_with fail
      refine (A6.out w6).mono ?_
      rintro e w7 ⟨rfl, hb⟩
      have hb7 := hb6.trans (hb.mono hb6.size)
      clear hb6 hb A6
      go_wp2_with fail
      refine (A7.out w7 (hg.on hb7)).mono ?_
      rintro e w8 ⟨rfl, hb⟩
      have hb8 := hb7.trans (hb.mono hb7.size)
      clear hb7 hb A7
      go_wp2_with fail
      go_ret
      exact ⟨rfl, hb8⟩
  refine key _ _ _ _ ⟨rfl, rfl, rfl, rfl⟩ ?_
  by_cases hr : (v11 s).err = 0
  · exact Or.inl ⟨hr, HP.out.trans (if_pos hr)⟩
  · exact Or.inr ⟨hr, HP.out.trans (if_neg hr)⟩

end Go.Proofs.YthlhflokebachaaDoor
