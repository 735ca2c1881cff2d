/-
  IpipBack returns true at every input.
-/
import Derived.Test.YthlhflokebachaaDoorIpipTells
namespace Go.Proofs.YthlhflokebachaaDoor
open Go.RowKit
set_option linter.unusedVariables false

theorem get11_own {s : ByteArray} (h : (v11 s).err = 0) : get11E (v11 s).proto s = 0 ∧ get11S (v11 s).proto s = s := by
  have h1 : get11E (v11 s).proto s = 0 := by
    unfold get11E
    revert h
    cases v11 s <;> simp [V11.err, V11.proto]
  exact ⟨h1, by unfold get11S; rw [if_pos h1]⟩
theorem get11_else {s : ByteArray} {proto : Int} (h : (v11 s).err = 0) (hp : proto ≠ (v11 s).proto) : get11E proto s ≠ 0 ∧ get11S proto s = ⟨#[]⟩ := by
  have h1 : get11E proto s ≠ 0 := by
    unfold get11E
    split
    · decide
    · rw [if_neg (by simpa using h), if_pos (fun e => hp e.symm)]
      decide
  exact ⟨h1, by unfold get11S; rw [if_neg h1]⟩

set_option maxRecDepth 100000 in
set_option maxHeartbeats 1000000 in
theorem back11_any (s : ByteArray) (proto : Int) (w : World) (hg : Vers w) :
    Calls Tryd.prog 4 #[.string s, .int .i64 proto] w (AwakeEnd w) := by
  have HA := Lib.hid (awake11_any w hg)
  have A1 := fun W h => put11_any s W h
  unfold Tells at A1
  by_cases hz : s.size ≤ 5000
  case neg =>
    have t0 : decide ((5000 : Int) < (s.size : Int)) = true := by simp; omega
    clear hz A1
    go_enter Tryd.func4, Tryd.ntmps4
    go_wp2_with fail
    refine HA.out.mono ?_
    rintro e w1 ⟨rfl, hb1⟩
    go_wp2_with fail
    go_ret
    exact ⟨rfl, hb1⟩
  have t0 : decide ((5000 : Int) < (s.size : Int)) = false := by simp; omega
  clear hz
  rcases (v11 s).ne with ⟨t1, e1, e2, -⟩ | ⟨t1, e1⟩
  · rw [e2, show put11S s = ⟨#[]⟩ from if_neg e1] at A1
    clear e1 e2
    generalize (v11 s).err = E at *
    have HA1 := Lib.hid A1
    clear A1
    go_enter Tryd.func4, Tryd.ntmps4
    go_wp2_with fail
    refine HA.out.mono ?_
    rintro e w1 ⟨rfl, hb1⟩
    go_wp2_with fail
    refine (HA1.out w1 (hg.on hb1)).mono ?_
    rintro e w2 ⟨rfl, hb⟩
    have hb2 := hb1.trans (hb.mono hb1.size)
    go_wp2_with fail
    go_ret
    exact ⟨rfl, hb2⟩
  have ho := get11_own e1
  have A2 := fun W h => get11_any (v11 s).proto s W h
  have A3 := Lib.hid (fun W h => get11_any proto s W h)
  unfold Tells at A2 A3
  rw [ho.1, ho.2] at A2
  have tss : (s.toList == s.toList) = true := by simp
  have ways : ((proto == (v11 s).proto) = true ∧ get11E proto s = 0 ∧ get11S proto s = s) ∨ ((proto == (v11 s).proto) = false ∧ get11E proto s ≠ 0 ∧ get11S proto s = ⟨#[]⟩) := by
    by_cases hp : proto = (v11 s).proto
    · left
      subst hp
      exact ⟨by simp, ho⟩
    · exact Or.inr ⟨by simpa using hp, get11_else e1 hp⟩
  rw [e1, show put11S s = s from if_pos e1] at A1
  clear ho e1 t1
  generalize (v11 s).proto = n at *
  have HA1 := Lib.hid A1
  have HA2 := Lib.hid A2
  clear A1 A2
  rcases ways with ⟨t1, h1, h2⟩ | ⟨t1, h1, h2⟩
  · rw [h1, h2] at A3
    clear h1 h2
    go_enter Tryd.func4, Tryd.ntmps4
    go_wp2_with fail
    refine HA.out.mono ?_
    rintro e w1 ⟨rfl, hb1⟩
    go_wp2_with fail
    refine (HA1.out w1 (hg.on hb1)).mono ?_
    rintro e w2 ⟨rfl, hb⟩
    have hb2 := hb1.trans (hb.mono hb1.size)
    go_wp2_with fail
    refine (HA2.out w2 (hg.on hb2)).mono ?_
    rintro e w3 ⟨rfl, hb⟩
    have hb3 := hb2.trans (hb.mono hb2.size)
    go_wp2_with fail
    refine (A3.out w3 (hg.on hb3)).mono ?_
    rintro e w4 ⟨rfl, hb⟩
    have hb4 := hb3.trans (hb.mono hb3.size)
    go_wp2_with fail
    go_ret
    exact ⟨rfl, hb4⟩
  · have t2 : (get11E proto s != 0) = true := by simpa using h1
    have t3 : (get11E proto s == 0) = false := by simpa using h1
    rw [h2] at A3
    clear h1 h2
    generalize get11E proto s = E at *
    go_enter Tryd.func4, Tryd.ntmps4
    go_wp2_with fail
    refine HA.out.mono ?_
    rintro e w1 ⟨rfl, hb1⟩
    go_wp2_with fail
    refine (HA1.out w1 (hg.on hb1)).mono ?_
    rintro e w2 ⟨rfl, hb⟩
    have hb2 := hb1.trans (hb.mono hb1.size)
    go_wp2_with fail
    refine (HA2.out w2 (hg.on hb2)).mono ?_
    rintro e w3 ⟨rfl, hb⟩
    have hb3 := hb2.trans (hb.mono hb2.size)
    go_wp2_with fail
    refine (A3.out w3 (hg.on hb3)).mono ?_
    rintro e w4 ⟨rfl, hb⟩
    have hb4 := hb3.trans (hb.mono hb3.size)
    go_wp2_with fail
    all_goals
      go_ret
      exact ⟨rfl, hb4⟩

end Go.Proofs.YthlhflokebachaaDoor
