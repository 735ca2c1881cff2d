/-
  What is got bears no fields; Same of headers that say the same.
-/
import Derived.Test.YtpappmbnblaccaaDoorVoneAwake
namespace Go.Proofs.YtpappmbnblaccaaDoor
open Go.RowKit
set_option linter.unusedVariables false

theorem words_bare {f : Int} {ws : List (List UInt8)} {H : S17} (h : wordsS f ws = some H) : H.bare = H := by
  unfold wordsS at h
  split at h
  · split at h
    · split at h
      · obtain rfl := Option.some.inj h; rfl
      · cases h
    · cases h
  · cases h
theorem line_bare {u : List UInt8} {H : S17} (h : lineS u = some H) : H.bare = H := by
  unfold lineS at h
  split at h
  · unfold saidS at h
    split at h
    · cases h
    · split at h
      · obtain rfl := Option.some.inj h; rfl
      · split at h
        · exact words_bare h
        · split at h
          · exact words_bare h
          · cases h
  · cases h
/-- What is got bears no fields. -/
theorem getH17_bare (b : List UInt8) : (getH17 b).bare = getH17 b := by
  unfold getH17
  split
  · cases h : lineS ((b.take ((nlAt b).toNat + 1)).drop 6) with
    | none => rfl
    | some H => exact line_bare h
  · rfl
/-- Same, of two headers that say the same. -/
theorem same_bare {g k : S17} (h : g.bare = k.bare) (hg : g.fn = 0) (hk : k.fn = 0) (w : World) : Calls Tryd.prog 10 #[.agg g.cells, .agg k.cells] w (Tells (.bool true) w) := by
  obtain ⟨loc, fam, src, dst, sp, dp, fa, fn, fc⟩ := g
  obtain ⟨loc', fam', src', dst', sp', dp', fa', fn', fc'⟩ := k
  obtain rfl : fn = 0 := hg
  obtain rfl : fn' = 0 := hk
  unfold S17.bare at h
  simp only [S17.mk.injEq, and_true] at h
  obtain ⟨rfl, rfl, rfl, rfl, rfl, rfl⟩ := h
  exact same17_any loc fam src dst sp dp fa fa' fc fc' w

end Go.Proofs.YtpappmbnblaccaaDoor
