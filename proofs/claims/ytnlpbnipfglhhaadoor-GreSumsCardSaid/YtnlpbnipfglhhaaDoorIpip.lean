/-
  Proto, Kind, Put, Get; the document's; the laws' 'awake'.
-/
import Derived.Test.YtnlpbnipfglhhaaDoorIpipFind
namespace Go.Proofs.YtnlpbnipfglhhaaDoor
open Go.RowKit
set_option linter.unusedVariables false

/-- What Get answers. -/
def get11E (proto : Int) (s : ByteArray) : Int := if proto ≠ 4 ∧ proto ≠ 41 then 6 else if (v11 s).err ≠ 0 then (v11 s).err else if (v11 s).proto ≠ proto then 3 else 0
def get11S (proto : Int) (s : ByteArray) : ByteArray := if get11E proto s = 0 then s else ⟨#[]⟩
/-- What Put answers beside the protocol and the error. -/
def put11S (s : ByteArray) : ByteArray := if (v11 s).err = 0 then s else ⟨#[]⟩

theorem V11.ne (v : V11) : ((v.err : Int) != 0) = true ∧ v.err ≠ 0 ∧ v.proto = 0 ∧ v.kind = 0 ∨ ((v.err : Int) != 0) = false ∧ v.err = 0 := by
  cases v <;> simp [V11.err, V11.proto, V11.kind]

set_option maxRecDepth 100000 in
set_option maxHeartbeats 1000000 in
theorem kind11_any (s : ByteArray) (w : World) (hg : Vers w) :
    Calls Tryd.prog 13 #[.string s] w (Tells (.tuple #[.int .i64 (v11 s).kind, .int .i64 (v11 s).err]) w) := by
  have HF := Lib.hid (find11_any s w hg)
  unfold Tells at HF ⊢
  unfold V11.cells at HF
  generalize v11 s = v at *
  go_enter Tryd.func13, Tryd.ntmps13
  go_wp2_with fail
  refine HF.out.mono ?_
  rintro e w1 ⟨rfl, hb⟩
  go_wp2_with fail
  exact ⟨rfl, _, results_tmp2 rfl _ _ _, rfl, hb.alloc hb.size _⟩

theorem ex45 : v11 ⟨#[69]⟩ = .four := v11_four (by decide) (by decide +kernel)
theorem ex60 : v11 ⟨#[96]⟩ = .six := v11_six (by decide) (by decide +kernel)

end Go.Proofs.YtnlpbnipfglhhaaDoor
