/-
  Check, and the laws' 'few': a header's own numbers.
-/
import Derived.Test.YtdljioacbpabbaaIp4Spec
namespace Go.Proofs.Ytdljioacbpabbaa
open Go.RowKit
set_option linter.unusedVariables false

/-- Is a header not too long? -/
def H4.few (h : H4) : Bool := decide (h.src.size ≤ 300) && decide (h.dst.size ≤ 300) && decide (h.opt.size ≤ 300)

set_option maxHeartbeats 400000 in
theorem few_any (h : H4) (w : World) :
    Calls Try.prog 9 #[.agg h.cells] w fun e w' => e = .returned (.bool h.few) ∧ Below w.heap.size w w' := by
  have HF : Hid (h.few = (decide (h.src.size ≤ 300) && decide (h.dst.size ≤ 300) && decide (h.opt.size ≤ 300))) := rfl
  generalize h.few = fw at *
  unfold H4.cells
  go_enter Try.func9, Try.ntmps9
  go_wp2_with fail
  all_goals
    go_ret
    refine ⟨?_, (Below.refl _ _).alloc (Nat.le_refl _) _⟩
    have e1 : decide (h.src.size ≤ 300) = decide ((h.src.size : Int) ≤ 300) := decide_eq_decide.2 (by omega)
    have e2 : decide (h.dst.size ≤ 300) = decide ((h.dst.size : Int) ≤ 300) := decide_eq_decide.2 (by omega)
    have e3 : decide (h.opt.size ≤ 300) = decide ((h.opt.size : Int) ≤ 300) := decide_eq_decide.2 (by omega)
    rw [HF.out, e1, e2, e3]
    first
    | (simp only [decide_eq_true (show (h.src.size : Int) ≤ 300 by omega), decide_eq_true (show (h.dst.size : Int) ≤ 300 by omega)]; rfl)
    | (simp only [decide_eq_true (show (h.src.size : Int) ≤ 300 by omega), decide_eq_false (show ¬ (h.dst.size : Int) ≤ 300 by omega)]; rfl)
    | (simp only [decide_eq_false (show ¬ (h.src.size : Int) ≤ 300 by omega)]; rfl)

/-- The table's cells. -/
def H4.tab (h : H4) : Array Value := #[.int .i64 h.tos, .int .i64 0, .int .i64 255, .int .i64 h.ttl, .int .i64 0, .int .i64 255, .int .i64 h.proto, .int .i64 0, .int .i64 255, .int .i64 h.id, .int .i64 0, .int .i64 65535,
  .int .i64 h.off, .int .i64 0, .int .i64 8191, .int .i64 h.src.size, .int .i64 4, .int .i64 4, .int .i64 h.dst.size, .int .i64 4, .int .i64 4, .int .i64 h.opt.size, .int .i64 0, .int .i64 40, .int .i64 ((h.opt.size : Int) % 4), .int .i64 0, .int .i64 0]
theorem H4.tab_at (h : H4) (k : Nat) (hk : k < 9) : h.tab[k * 3]? = some (.int .i64 (h.row k).1) ∧ h.tab[k * 3 + 1]? = some (.int .i64 (h.row k).2.1) ∧ h.tab[k * 3 + 2]? = some (.int .i64 (h.row k).2.2) := by
  have : k = 0 ∨ k = 1 ∨ k = 2 ∨ k = 3 ∨ k = 4 ∨ k = 5 ∨ k = 6 ∨ k = 7 ∨ k = 8 := by omega
  rcases this with rfl | rfl | rfl | rfl | rfl | rfl | rfl | rfl | rfl <;> exact ⟨rfl, rfl, rfl⟩

/-- Check's error. -/
def H4.err (h : H4) : Nat := if h.ok then 0 else 1
theorem H4.err_ok {h : H4} (e : h.ok = true) : h.err = 0 := by simp [H4.err, e]
theorem H4.err_no {h : H4} (e : h.ok = false) : h.err = 1 := by simp [H4.err, e]

set_option maxHeartbeats 1000000 in
theorem check_any (h : H4) (w : World) :
    Calls Try.prog 12 #[.agg h.cells] w fun e w' => e = .returned (.int .i64 (h.err : Nat)) ∧ Below w.heap.size w w' := by
  unfold H4.cells
  go_enter Try.func12, Try.ntmps12
  go_wp2_with fail
  have HB0 : Hid (Blk ((w.alloc (.cells #[.int .i64 h.tos, .int .i64 h.id, .int .i64 h.off, .int .i64 h.ttl, .int .i64 h.proto, .bool h.df, .bool h.mf, .string h.src, .string h.dst, .string h.opt] 23)).alloc (.cells h.tab 53)) (w.heap.size + 1) h.tab 53) := by
    have := Blk.new (w.alloc (.cells #[.int .i64 h.tos, .int .i64 h.id, .int .i64 h.off, .int .i64 h.ttl, .int .i64 h.proto, .bool h.df, .bool h.mf, .string h.src, .string h.dst, .string h.opt] 23)) h.tab 53
    rw [show (w.alloc (.cells #[.int .i64 h.tos, .int .i64 h.id, .int .i64 h.off, .int .i64 h.ttl, .int .i64 h.proto, .bool h.df, .bool h.mf, .string h.src, .string h.dst, .string h.opt] 23)).heap.size = w.heap.size + 1 from by simp] at this
    exact this
  go_loopw [39] (fun i wr => ∃ k : Nat, k ≤ 9 ∧ i = .int .i64 k ∧ Hid (∀ j, j < k → h.fine j = true) ∧ Hid (Blk wr (w.heap.size + 1) h.tab 53) ∧ Hid (Below w.heap.size w wr)) (fun i _ => 9 - (intOf i).toNat)
  case atStart => exact ⟨0, Nat.zero_le _, rfl, Lib.hid (fun j hj => by omega), HB0, Lib.hid (((Below.refl _ _).alloc (Nat.le_refl _) _).alloc (by simp) _)⟩
  case round =>
    obtain ⟨k, hk, rfl, hf, hblk, hbel⟩ := hrel
    clear HB0
    by_cases hlt : k < 9
    · obtain ⟨t0, t1, t2⟩ := h.tab_at k hlt
      have c0 := (hblk.out.cell (k * 3)).trans t0
      have c1 := (hblk.out.cell (k * 3 + 1)).trans t1
      have c2 := (hblk.out.cell (k * 3 + 2)).trans t2
      clear t0 t1 t2
      have HFK : Hid (h.fine k = (decide ((h.row k).2.1 ≤ (h.row k).1) && decide ((h.row k).1 ≤ (h.row k).2.2))) := rfl
      generalize (h.row k).1 = n at *
      generalize (h.row k).2.1 = lo at *
      generalize (h.row k).2.2 = hi at *
      have HS := Lib.hid (h.ok_step k hlt)
      by_cases h1 : lo ≤ n
      · by_cases h2 : n ≤ hi
        · have HK : Hid (h.fine k = true) := HFK.out.trans (by simp [h1, h2])
          go_wp2_with fail
          go_roundw
          case rel =>
            refine ⟨k + 1, by omega, by go_num, Lib.hid (fun j hj => ?_), Lib.hid (hblk.out.alloc _), Lib.hid (hbel.out.alloc hbel.out.size _)⟩
            by_cases e : j = k
            · rw [e]; exact HK.out
            · exact hf.out j (by omega)
          case measure => simp [intOf]; omega
        · have HK : Hid (h.err = 1) := H4.err_no (HS.out (HFK.out.trans (by simp [h2])))
          go_wp2_with fail
          go_ret
          exact ⟨by rw [HK.out]; rfl, hbel.out.alloc hbel.out.size _⟩
      · have HK : Hid (h.err = 1) := H4.err_no (HS.out (HFK.out.trans (by simp [h1])))
        go_wp2_with fail
        go_ret
        exact ⟨by rw [HK.out]; rfl, hbel.out.alloc hbel.out.size _⟩
    · have hkl : k = 9 := by omega
      have HK : Hid (h.err = 0) := H4.err_ok (h.ok_all fun j hj => hf.out j (by omega))
      clear hkl
      go_wp2_with fail
      go_ret
      exact ⟨by rw [HK.out]; rfl, hbel.out⟩

end Go.Proofs.Ytdljioacbpabbaa
