/-
  Sum and Right: the sum of all parts, one behind the other.
-/
import Derived.Test.YtdljioacbpabbaaSumFold
import Derived.Test.YtdljioacbpabbaaStrs
namespace Go.Proofs.Ytdljioacbpabbaa
open Go.RowKit
set_option linter.unusedVariables false

/-- All parts' bytes, one behind the other. -/
abbrev joinedB (P : Nat → ByteArray) (n : Nat) : List UInt8 := joined (fun i => (P i).data.toList) n

/-- The place of the next byte, as the code holds it. -/
def Sh (b : Bool) (v : Value) : Prop := (b = true ∧ v = .int .i64 8) ∨ (b = false ∧ v = .int .i64 0)

/-- Sum's end. -/
def SumEnd (n : Nat) (w : World) (e : Ending) (w' : World) : Prop := e = .returned (.int .i64 n) ∧ Below w.heap.size w w'

theorem take_snoc (s : ByteArray) (k : Nat) (h : k < s.size) : s.data.toList.take (k + 1) = s.data.toList.take k ++ [s[k]] := by
  rw [List.take_succ_eq_append_getElem (by simpa using h)]; rfl
theorem ws_take (hi : Bool) (s : ByteArray) (k : Nat) (h : k < s.size) : ws hi (s.data.toList.take (k + 1)) = ws hi (s.data.toList.take k) + (if side hi k then 256 else 1) * s[k].toNat := by
  have hl : (s.data.toList.take k).length = k := by
    rw [List.length_take]
    have : s.data.toList.length = s.size := by simp
    omega
  rw [take_snoc s k h, ws_snoc, hl]

theorem joinedB_mono (P : Nat → ByteArray) {m n : Nat} (h : m ≤ n) : (joinedB P m).length ≤ (joinedB P n).length := by
  induction n with
  | zero => have : m = 0 := by omega
            subst this; exact Nat.le_refl _
  | succ n ih =>
    by_cases e : m = n + 1
    · subst e; exact Nat.le_refl _
    · have := ih (by omega)
      simp only [joinedB, joined, List.length_append] at *
      omega
theorem joinedB_le (P : Nat → ByteArray) {k n : Nat} (h : k < n) : (P k).size ≤ (joinedB P n).length := by
  have := joinedB_mono P (show k + 1 ≤ n from h)
  simp only [joinedB, joined, List.length_append] at *
  simp at this
  omega

set_option maxRecDepth 100000 in
set_option maxHeartbeats 1000000 in
theorem sum_any (a : Option Addr) (len cap : Nat) (P : Nat → ByteArray) (w : World) (hC : StrsAt w w.heap.size a len P) (hl : (joinedB P len).length ≤ 1099511627776) (hlen : len ≤ 140737488355328) :
    Calls Try.prog 19 #[.slice a len cap] w (SumEnd (sumD (joinedB P len)) w) := by
  have HC := Lib.hid hC
  have HL := Lib.hid hl
  clear hC hl
  go_enter Try.func19, Try.ntmps19
  go_wp2_with fail
  refine (fresh_any _).mono ?_
  rintro e w' ⟨rfl, rfl⟩
  have HB0 := Lib.hid (Blk.new w #[.int .i64 ((0 : Nat) : Int)] 3)
  go_wp2_with fail
  go_loopw [4, 5, 13] (fun sh tt i wr => ∃ k : Nat, k ≤ len ∧ i = .int .i64 k ∧ Hid (Sh (side true (joinedB P k).length) sh) ∧ tt = .int .i64 (fold (ws true (joinedB P k)) : Nat) ∧ Hid (Blk wr w.heap.size #[.int .i64 (fold (ws true (joinedB P k)) : Nat)] 3) ∧ Hid (Below w.heap.size w wr)) (fun _ _ i _ => len - (intOf i).toNat)
  case atStart => exact ⟨0, Nat.zero_le _, rfl, Lib.hid (Or.inl ⟨rfl, rfl⟩), rfl, HB0, Lib.hid ((Below.refl _ _).alloc (Nat.le_refl _) _)⟩
  case round =>
    obtain ⟨k, hk, rfl, hsh, rfl, hblk, hbel⟩ := hrel
    by_cases hlt : k < len
    · obtain h0 | ⟨cb, off, rfl, hcb, hc⟩ := HC.out
      · omega
      have cP := (hbel.out.cell (p := ⟨cb, off + k, none⟩) hcb).trans (hc k hlt)
      clear hc
      have hps : (P k).size ≤ 1099511627776 := by
        have h1 := HL.out
        have h2 := joinedB_le P hlt
        omega
      have HJ := Lib.hid (joined_fold (fun i => (P i).data.toList) k)
      have HF := fold_le (ws true (joinedB P k))
      have HSD := Lib.hid (show side (side true (joinedB P k).length) (P k).size = side true (joinedB P (k + 1)).length by simp only [side_add, joinedB, joined, List.length_append]; simp)
      simp only [show (joined (fun i => (P i).data.toList) k) = joinedB P k from rfl] at HJ
      generalize fold (ws true (joinedB P k)) = f0 at *
      generalize side true (joinedB P k).length = s0 at *
      generalize hpk : P k = ps at *
      have HPK := Lib.hid hpk
      clear hpk
      go_wp2_with fail
      go_loop [4, 8, 19] (fun sh he i => ∃ j : Nat, j ≤ ps.size ∧ i = .int .i64 j ∧ he = .int .i64 (ws s0 (ps.data.toList.take j) : Nat) ∧ Hid (Sh (side s0 j) sh)) (fun _ _ i => ps.size - (intOf i).toNat)
      case atStart => exact ⟨0, Nat.zero_le _, rfl, by simp [ws_nil], hsh⟩
      case round =>
        obtain ⟨j, hj, rfl, rfl, hs⟩ := hrel
        have hwl : ws s0 (ps.data.toList.take j) ≤ 71777218556133120 := by
          have h1 := ws_le s0 (ps.data.toList.take j)
          have h2 : (ps.data.toList.take j).length ≤ j := List.length_take_le _ _
          omega
        by_cases hjl : j < ps.size
        · have HW := Lib.hid (ws_take s0 ps j hjl)
          have HS := Lib.hid (side_succ s0 j)
          have hcl := ps[j].toNat_lt
          generalize ws s0 (ps.data.toList.take j) = x at *
          rcases hs.out with ⟨hsd, rfl⟩ | ⟨hsd, rfl⟩
          · have HSD := Lib.hid hsd
            clear hsd hs
            go_wp2_with fail
            exact ⟨⟨j + 1, by omega, by go_num, by rw [HW.out, if_pos HSD.out, Nat.mul_comm]; go_num, Lib.hid (by rw [HS.out, HSD.out]; exact Or.inr ⟨rfl, rfl⟩)⟩, by simp [intOf]; omega⟩
          · have HSD := Lib.hid hsd
            clear hsd hs
            go_wp2_with fail
            exact ⟨⟨j + 1, by omega, by go_num, by rw [HW.out, if_neg (by rw [HSD.out]; simp), Nat.one_mul]; go_num, Lib.hid (by rw [HS.out, HSD.out]; exact Or.inl ⟨rfl, rfl⟩)⟩, by simp [intOf]; omega⟩
        · have hje := Lib.hid (show j = ps.size by omega)
          go_wp2_with fail
          refine (folding_any _ f0 _ wr hblk.out HF (by omega)).mono ?_
          rintro e w'' ⟨rfl, hb2, hk2⟩
          have HW : Hid (ws s0 (ps.data.toList.take j) = ws s0 ps.data.toList) := by
            show ws s0 (ps.data.toList.take j) = ws s0 ps.data.toList
            rw [List.take_of_length_le (by have := hje.out; simp; omega)]
          have HB2 := Lib.hid hb2
          have HK2 := Lib.hid (hbel.out.trans (hk2.below_new hbel.out.size))
          clear hb2 hk2
          have HS2 : Hid (Sh (side true (joinedB P (k + 1)).length) u4) := by
            show Sh (side true (joinedB P (k + 1)).length) u4
            rw [← HSD.out, ← hje.out]
            exact hs.out
          have HF2 : Hid (fold (f0 + ws s0 (ps.data.toList.take j)) = fold (ws true (joinedB P (k + 1)))) := by
            show fold (f0 + ws s0 (ps.data.toList.take j)) = fold (ws true (joinedB P (k + 1)))
            rw [HW.out]; exact HJ.out
          generalize fold (f0 + ws s0 (ps.data.toList.take j)) = f1 at *
          go_wp2_with fail
          go_roundw
          case rel => exact ⟨k + 1, by omega, by go_num, HS2, by rw [HF2.out], by rw [← HF2.out]; exact HB2, HK2⟩
          case measure => simp [intOf]; omega
    · have hkl := Lib.hid (show k = len by omega)
      have HF := fold_le (ws true (joinedB P k))
      have HD : Hid (65535 - ((fold (ws true (joinedB P k)) : Nat) : Int) % 65536 = ((sumD (joinedB P len) : Nat) : Int)) := by
        show 65535 - ((fold (ws true (joinedB P k)) : Nat) : Int) % 65536 = ((sumD (joinedB P len) : Nat) : Int)
        rw [hkl.out] at HF ⊢
        unfold sumD
        omega
      go_wp2_with fail
      refine (turned_any _ _).mono ?_
      rintro e w'' ⟨rfl, rfl⟩
      go_wp2_with fail
      go_ret
      exact ⟨by rw [HD.out]; rfl, hbel.out⟩

end Go.Proofs.Ytdljioacbpabbaa
