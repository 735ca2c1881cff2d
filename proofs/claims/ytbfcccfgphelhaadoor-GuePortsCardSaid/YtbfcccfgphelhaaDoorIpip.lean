/-
  Proto, Kind, Put, Get; the document's; the laws' 'awake'.
-/
import Derived.Test.YtbfcccfgphelhaaDoorIpipFind
namespace Go.Proofs.YtbfcccfgphelhaaDoor
open Go.RowKit
set_option linter.unusedVariables false

/-- What Get answers. -/
def get11E (proto : Int) (s : ByteArray) : Int := if proto ≠ 4 ∧ proto ≠ 41 then 6 else if (v11 s).err ≠ 0 then (v11 s).err else if (v11 s).proto ≠ proto then 3 else 0
def get11S (proto : Int) (s : ByteArray) : ByteArray := if get11E proto s = 0 then s else ⟨#[]⟩
/-- What Put answers beside the protocol and the error. -/
def put11S (s : ByteArray) : ByteArray := if (v11 s).err = 0 then s else ⟨#[]⟩

theorem V11.ne (v : V11) : ((v.err : Int) != 0) = true ∧ v.err ≠ 0 ∧ v.proto = 0 ∧ v.kind = 0 ∨ ((v.err : Int) != 0) = false ∧ v.err = 0 := by
  cases v <;> simp [V11.err, V11.proto, V11.kind]

set_option maxRecDepth 100000 in
set_option maxHeartbeats 1000000 in
theorem proto11_any (s : ByteArray) (w : World) (hg : Vers w) :
    Calls Tryd.prog 13 #[.string s] w (Tells (.tuple #[.int .i64 (v11 s).proto, .int .i64 (v11 s).err]) w) := by
  have HF := Lib.hid (find11_any s w hg)
  unfold Tells at HF ⊢
  unfold V11.cells at HF
  generalize v11 s = v at *
  go_enter Tryd.func13, Tryd.ntmps13
  go_wp2_with fail
  refine HF.out.mono ?_
  rintro e w1 ⟨rfl, hb⟩
  go_wp2_with fail
  exact ⟨rfl, _, results_tmp2 rfl _ _ _, rfl, hb.alloc hb.size _⟩

set_option maxRecDepth 100000 in
set_option maxHeartbeats 1000000 in
theorem get11_any (proto : Int) (s : ByteArray) (w : World) (hg : Vers w) :
    Calls Tryd.prog 51 #[.int .i64 proto, .string s] w (Tells (.tuple #[.string (get11S proto s), .int .i64 (get11E proto s)]) w) := by
  have HK := Lib.hid (known11_any proto w hg)
  have HF := Lib.hid (fun W h => proto11_any s W h)
  have HS : Hid (get11S proto s = if get11E proto s = 0 then s else ⟨#[]⟩) := rfl
  have HE : Hid (get11E proto s = if proto ≠ 4 ∧ proto ≠ 41 then 6 else if (v11 s).err ≠ 0 then (v11 s).err else if (v11 s).proto ≠ proto then 3 else 0) := rfl
  unfold Tells at HK HF ⊢
  generalize v11 s = v at *
  generalize get11S proto s = S at *
  generalize get11E proto s = E at *
  by_cases h1 : proto ≠ 4 ∧ proto ≠ 41
  · have hb1 : (decide (proto = 4) || decide (proto = 41)) = false := by simp [h1]
    have he := HE.out
    rw [if_pos h1] at he
    subst he
    have hs := HS.out
    rw [if_neg (by decide)] at hs
    subst hs
    rw [hb1] at HK
    clear hb1 h1 HE HS HF
    go_enter Tryd.func51, Tryd.ntmps51
    go_wp2_with fail
    refine HK.out.mono ?_
    rintro e w1 ⟨rfl, hb⟩
    go_wp2_with fail
    exact ⟨rfl, _, results_tmp2 rfl _ _ _, rfl, hb⟩
  have hb1 : (decide (proto = 4) || decide (proto = 41)) = true := by
    simp only [Bool.or_eq_true, decide_eq_true_eq]
    omega
  have he := HE.out
  rw [if_neg h1] at he
  rw [hb1] at HK
  clear HE hb1 h1
  have hs := HS.out
  clear HS
  rcases v.ne with ⟨t1, e1, e2, -⟩ | ⟨t1, e1⟩
  · rw [if_pos e1] at he
    subst he
    rw [if_neg e1] at hs
    subst hs
    clear e1 e2
    generalize v.proto = p at *
    generalize v.err = E at *
    go_enter Tryd.func51, Tryd.ntmps51
    go_wp2_with fail
    refine HK.out.mono ?_
    rintro e w1 ⟨rfl, hb⟩
    go_wp2_with fail
    refine (HF.out w1 (hg.on hb)).mono ?_
    rintro e w2 ⟨rfl, hb2⟩
    have B2 := hb.trans (hb2.mono hb.size)
    go_wp2_with fail
    exact ⟨rfl, _, results_tmp2 rfl _ _ _, rfl, B2⟩
  rw [if_neg (by simpa using e1)] at he
  rw [e1] at HF
  clear t1 e1
  generalize v.proto = p at *
  by_cases h2 : p ≠ proto
  · rw [if_pos h2] at he
    subst he
    rw [if_neg (by decide)] at hs
    subst hs
    have t2 : (p != proto) = true := by simp [h2]
    clear h2
    go_enter Tryd.func51, Tryd.ntmps51
    go_wp2_with fail
    refine HK.out.mono ?_
    rintro e w1 ⟨rfl, hb⟩
    go_wp2_with fail
    refine (HF.out w1 (hg.on hb)).mono ?_
    rintro e w2 ⟨rfl, hb2⟩
    have B2 := hb.trans (hb2.mono hb.size)
    go_wp2_with fail
    exact ⟨rfl, _, results_tmp2 rfl _ _ _, rfl, B2⟩
  · rw [if_neg h2] at he
    subst he
    rw [if_pos rfl] at hs
    subst hs
    have t2 : (p != proto) = false := by simpa using h2
    clear h2
    go_enter Tryd.func51, Tryd.ntmps51
    go_wp2_with fail
    refine HK.out.mono ?_
    rintro e w1 ⟨rfl, hb⟩
    go_wp2_with fail
    refine (HF.out w1 (hg.on hb)).mono ?_
    rintro e w2 ⟨rfl, hb2⟩
    have B2 := hb.trans (hb2.mono hb.size)
    go_wp2_with fail
    exact ⟨rfl, _, results_tmp2 rfl _ _ _, rfl, B2⟩

theorem ex45 : v11 ⟨#[69]⟩ = .four := v11_four (by decide) (by decide +kernel)
theorem ex60 : v11 ⟨#[96]⟩ = .six := v11_six (by decide) (by decide +kernel)

end Go.Proofs.YtbfcccfgphelhaaDoor
