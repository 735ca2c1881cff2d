/-
  The document's Parse: every text.
-/
import Derived.Test.YtpappmbnblaccaaGreatDoorRef04Parse2
import Derived.Test.YtpappmbnblaccaaGreatDoorRef04Parse3
import Derived.OwnWalk
namespace Go.Proofs.YtpappmbnblaccaaGreatDoor
open Go.RowKit
set_option linter.unusedVariables false

theorem rparse_any (s : ByteArray) (hs : s.size ≤ 100000) (w : World) : Calls Tryz.prog 20 #[.string s] w (Tells (addrV (addrOf s.data.toList)) w) := by
  by_cases h50 : s.size ≤ 50
  · by_cases h4 : (sp 46 s.data.toList).length = 4
    · exact rparse4_any s h50 h4 w
    · have hne := List.length_pos_iff.2 (sp_ne 58 s.data.toList)
      by_cases h1 : (sp 58 s.data.toList).length = 1
      · exact rparse16_one s h50 h4 w h1
      · by_cases hA : (sp 58 s.data.toList)[0]? = some [] ∧ (sp 58 s.data.toList)[1]? = some []
        · exact rparse16_three s h50 h4 w (by omega) hA.1 hA.2
        · exact rparse16_two s h50 h4 w (by omega) hA
  · have HE : Hid (addrOf s.data.toList = none) := Lib.hid (addrOf_none fun a ha e => by
      have h1 := text_len ha
      rw [← e, Array.length_toList] at h1
      have e2 : s.data.size = s.size := rfl
      omega)
    have h50' : (50 : Int) < (s.size : Int) := by omega
    go_enter Tryz.func20, Tryz.ntmps20
    go_wp2_with fail
    go_ret2
    exact ⟨by rw [HE.out]; rfl, Below.refl _ _⟩

end Go.Proofs.YtpappmbnblaccaaGreatDoor
