/-
  CrcTells, walked.
-/
import Derived.Test.YtoeamalmijnfkaaCrcUse
import Derived.Test.YtoeamalmijnfkaaCrcRef
namespace Go.Proofs.Ytoeamalmijnfkaa
open Go.RowKit
set_option linter.unusedVariables false

set_option maxRecDepth 100000 in
set_option maxHeartbeats 1000000 in
theorem crcTells_any (a b : ByteArray) (x : BitVec 32) (w : World) (ha : a.size ≤ 140737488355328) (hb : b.size ≤ 140737488355328) :
    Calls Try.prog 3 #[.string a, .string b, .int .u32 (x.toNat : Int)] w (LawEnd w) := by
  go_enter Try.func3, Try.ntmps3
  go_wp2_with fail
  refine (crcAwake_any _).mono ?_
  rintro e w1 ⟨rfl, hb1⟩
  have HB1 := Lib.hid hb1
  clear hb1
  by_cases c1 : 2000 < a.size
  · go_wp2_with fail
    go_ret
    exact ⟨rfl, HB1.out⟩
  by_cases c2 : 2000 < b.size
  · go_wp2_with fail
    go_ret
    exact ⟨rfl, HB1.out⟩
  clear ha hb
  have HD := Lib.hid (cat_list a b)
  have hcs : (a ++ b).size ≤ 4000 := by rw [cat_size]; omega
  generalize hab : a ++ b = ab at *
  have HAB := Lib.hid hab
  go_wp2_with fail
  refine (crc_2 a b _ _ rfl (by omega) (by omega)).mono ?_
  rintro e w2 ⟨rfl, hb2⟩
  have HB2 := Lib.hid (HB1.out.trans (hb2.mono HB1.out.size))
  clear hb2
  rw [← HD.out]
  generalize hn : crcD ab.data.toList = n at *
  have HN := Lib.hid hn
  clear hn
  go_wp2_with fail
  clear hab
  refine (refSum_any ab _ (by omega)).mono ?_
  rintro e w' ⟨rfl, rfl⟩
  rw [HN.out]
  go_wp2_with fail
  refine (crc_nil _ _ _).mono ?_
  rintro e w3 ⟨rfl, hb3⟩
  have HB3 := Lib.hid (HB2.out.trans (hb3.mono HB2.out.size))
  clear hb3
  rw [show ((0#32).toNat : Int) = 0 from rfl]
  go_wp2_with fail
  refine (crcUpdate_any x b _ (by omega)).mono ?_
  rintro e w4 ⟨rfl, hb4⟩
  have HB4 := Lib.hid (HB3.out.trans (hb4.mono HB3.out.size))
  clear hb4
  generalize hm : updC x b.data.toList = m at *
  have HM := Lib.hid hm
  clear hm
  go_wp2_with fail
  refine (refUpdate_any x b _ (by omega)).mono ?_
  rintro e w' ⟨rfl, rfl⟩
  rw [HM.out]
  go_wp2_with fail
  refine (crc_1 a _ _ rfl (by omega)).mono ?_
  rintro e w5 ⟨rfl, hb5⟩
  have HB5 := Lib.hid (HB4.out.trans (hb5.mono HB4.out.size))
  clear hb5
  have HJ := Lib.hid (show updC (crcD a.data.toList) b.data.toList = n by rw [crcD_cat, ← HD.out, HN.out])
  generalize crcD a.data.toList = na at *
  go_wp2_with fail
  refine (crcUpdate_any na b _ (by omega)).mono ?_
  rintro e w6 ⟨rfl, hb6⟩
  have HB6 := Lib.hid (HB5.out.trans (hb6.mono HB5.out.size))
  clear hb6
  rw [HJ.out]
  have hab := HAB.out
  go_wp2_with fail
  clear hab
  refine (crc_1 ab _ _ rfl (by omega)).mono ?_
  rintro e w7 ⟨rfl, hb7⟩
  have HB7 := Lib.hid (HB6.out.trans (hb7.mono HB6.out.size))
  clear hb7
  rw [HN.out]
  go_wp2_with fail
  go_ret
  exact ⟨rfl, HB7.out⟩
end Go.Proofs.Ytoeamalmijnfkaa
