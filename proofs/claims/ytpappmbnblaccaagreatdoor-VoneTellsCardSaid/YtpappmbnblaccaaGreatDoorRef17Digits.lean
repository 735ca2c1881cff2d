/-
  The document's digits of a number, of layer 17.
-/
import Derived.Test.YtpappmbnblaccaaGreatDoorRef04Digits
namespace Go.Proofs.YtpappmbnblaccaaGreatDoor
open Go.RowKit
set_option linter.unusedVariables false

theorem sg_ten (d : Nat) (h : d < 10) : sg d = UInt8.ofNat (48 + d) := by
  match d, h with
  | 0, _ => decide
  | 1, _ => decide
  | 2, _ => decide
  | 3, _ => decide
  | 4, _ => decide
  | 5, _ => decide
  | 6, _ => decide
  | 7, _ => decide
  | 8, _ => decide
  | 9, _ => decide
/-- One digit, made of a slice of one byte. -/
theorem conv_digit (w : World) (m : Nat) (v : Int) (hv : v = 48 + (m : Int) % 10) : (convert 57 9 (.slice (some ⟨w.heap.size, 0, none⟩) 1 1)).run Tryz.prog (w.alloc (.cells #[.int .u8 v] 5)) = .ok (.string ⟨#[sg (m % 10)]⟩) (w.alloc (.cells #[.int .u8 v] 5)) := by
  refine conv_new w [sg (m % 10)] _ ?_ 1 rfl
  have h := sg_ten (m % 10) (Nat.mod_lt _ (by decide))
  rw [h, hv]
  simp only [List.map_cons, List.map_nil, UInt8.toNat_ofNat']
  have e : (48 + (m : Int) % 10) = (((48 + m % 10) % 2 ^ 8 : Nat) : Int) := by omega
  rw [e]

set_option maxRecDepth 100000 in
theorem rdigits17_any (N : Nat) (hN : N ≤ 65535) (w : World) : Calls Tryz.prog 16 #[.int .i64 (N : Int)] w (Tells (.string ⟨(digs 10 N).toArray⟩) w) := by
  go_enter Tryz.func16, Tryz.ntmps16
  go_wp2_with fail
  go_loopw [0, 3] (fun sn st wr => ∃ (m : Nat) (t : ByteArray), sn = .int .i64 (m : Int) ∧ st = .string t ∧ m ≤ 65535 ∧ Below w.heap.size w wr ∧ Hid (Dg 10 N m t.data.toList)) (fun sn st _ => dM sn st)
  case atStart => exact ⟨N, ⟨#[]⟩, rfl, rfl, hN, Below.refl _ _, Lib.hid (Or.inl ⟨rfl, rfl⟩)⟩
  case round =>
    obtain ⟨m, t, rfl, rfl, hm, hbel, HD⟩ := hrel
    have HB := Lib.hid hbel
    clear hbel
    have htl := HD.out.len (by decide) hN
    have hts : t.size ≤ 16 := by rw [Array.length_toList] at htl; exact htl
    by_cases hc : 1 ≤ m ∨ t.data.toList = []
    · have HN := Lib.hid (HD.out.next (by decide) hc)
      have ht : t.toList.isEmpty = decide (t.data.toList = []) := isEmpty_list t
      have hE : ∀ d, ((⟨#[sg d]⟩ : ByteArray) ++ t).data.toList = sg d :: t.data.toList := fun d => by
        rw [cat_list]
        rfl
      have HE := Lib.hid hE
      clear hE
      have hcv := fun W => conv_digit W m
      by_cases h1 : 1 ≤ m
      · clear hc ht
        go_wp2_with fail
        refine ⟨⟨m / 10, _, by congr 1, rfl, by omega, HB.out.alloc HB.out.size _, Lib.hid (by rw [HE.out]; exact HN.out)⟩, ?_⟩
        exact dM_lt (m' := m / 10) (by omega) (by rw [HE.out]; simp) (Or.inl (by omega))
      · obtain rfl : m = 0 := by omega
        have ht0 : t = ⟨#[]⟩ := text_ext (by rcases hc with h | h; omega; exact h)
        subst ht0
        clear hc ht
        go_wp2_with fail
        refine ⟨⟨0, _, rfl, rfl, by omega, HB.out.alloc HB.out.size _, Lib.hid (by rw [HE.out]; exact HN.out)⟩, ?_⟩
        exact dM_lt (m' := 0) rfl (by rw [HE.out]; simp) (Or.inr ⟨rfl, rfl⟩)
    · obtain rfl : m = 0 := by omega
      have hne : t.data.toList ≠ [] := fun e => hc (Or.inr e)
      have ht : t.toList.isEmpty = false := by rw [isEmpty_list]; simpa using hne
      have hfin := HD.out.done rfl hne
      have htt : t = ⟨(digs 10 N).toArray⟩ := text_ext hfin
      have HT := Lib.hid htt
      clear hc hne htt hfin
      go_wp2_with fail
      go_ret
      exact ⟨by rw [← HT.out]; rfl, HB.out⟩

end Go.Proofs.YtpappmbnblaccaaGreatDoor
