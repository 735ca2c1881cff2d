/-
  Sum at literals of parts; the laws' 'awake'; the document's sum.
-/
import Derived.Test.YtoeamalmijnfkaaCrcSum
namespace Go.Proofs.Ytoeamalmijnfkaa
open Go.RowKit
set_option linter.unusedVariables false

theorem crc_nil (w : World) (N : Option Addr) (cap : Nat) : Calls Try.prog 8 #[.slice N 0 cap] w (FedEnd 0#32 w) := by
  have := crcSum_any N 0 cap (fun _ => ByteArray.empty) w (strs_nil _ _ _ _) (fun i h => absurd h (by omega)) (by omega)
  rwa [show crcD (catB (fun _ => ByteArray.empty) 0) = 0#32 from by decide] at this
theorem crc_lit (l : List ByteArray) (w : World) (N : Nat) (hN : N = w.heap.size) (n : Nat) (cs : Array Value) (hcs : cs = (l.map Value.string).toArray) (hn : n = l.length) (hl : ∀ s ∈ l, s.size ≤ 140737488355328) (hlen : n ≤ 140737488355328) :
    Calls Try.prog 8 #[.slice (some ⟨N, 0, none⟩) n n] (w.alloc (.cells cs 9)) (FedEnd (crcD (catB (strsOf l) n)) w) := by
  subst hcs hn hN
  refine (crcSum_any _ _ _ (strsOf l) _ ((strs_new w l 9).mono (by simp)) ?_ hlen).mono fun e w' h => ⟨h.1, ?_⟩
  · intro i hi
    refine hl _ ?_
    unfold strsOf
    rw [List.getD_eq_getElem?_getD, List.getElem?_eq_getElem hi]
    exact List.getElem_mem hi
  · exact ((Below.refl _ _).alloc (Nat.le_refl _) _).trans (h.2.mono (by simp))
theorem crc_1 (x : ByteArray) (w : World) (N : Nat) (hN : N = w.heap.size) (h : x.size ≤ 140737488355328) :
    Calls Try.prog 8 #[.slice (some ⟨N, 0, none⟩) 1 1] (w.alloc (.cells #[.string x] 9)) (FedEnd (crcD x.data.toList) w) := by
  have := crc_lit [x] w N hN 1 #[.string x] rfl rfl (by simpa using h) (by omega)
  rwa [show catB (strsOf [x]) 1 = x.data.toList by simp [catB, strsOf]] at this
theorem crc_2 (x y : ByteArray) (w : World) (N : Nat) (hN : N = w.heap.size) (hx : x.size ≤ 140737488355328) (hy : y.size ≤ 140737488355328) :
    Calls Try.prog 8 #[.slice (some ⟨N, 0, none⟩) 2 2] (w.alloc (.cells #[.string x, .string y] 9)) (FedEnd (crcD (x.data.toList ++ y.data.toList)) w) := by
  have := crc_lit [x, y] w N hN 2 #[.string x, .string y] rfl rfl (by simp [hx, hy]) (by omega)
  rwa [show catB (strsOf [x, y]) 2 = x.data.toList ++ y.data.toList by simp [catB, strsOf]] at this

/-- A law's end. -/
def LawEnd (w : World) (e : Ending) (w' : World) : Prop := e = .returned (.bool true) ∧ Below w.heap.size w w'
set_option maxHeartbeats 400000 in
theorem crcAwake_any (w : World) : Calls Try.prog 7 #[] w (LawEnd w) := by
  have h1 := crc_1 ⟨#[49, 50, 51, 52, 53, 54, 55, 56, 57]⟩ w _ rfl (by decide)
  rw [show crcD (⟨#[49, 50, 51, 52, 53, 54, 55, 56, 57]⟩ : ByteArray).data.toList = 3808858755#32 from crcD_nine] at h1
  have H1 := Lib.hid h1
  clear h1
  go_enter Try.func7, Try.ntmps7
  go_wp2_with fail
  refine H1.out.mono ?_
  rintro e w' ⟨rfl, hb⟩
  have HB := Lib.hid hb
  clear hb H1
  go_wp2_with fail
  go_ret
  exact ⟨rfl, HB.out⟩
end Go.Proofs.Ytoeamalmijnfkaa
