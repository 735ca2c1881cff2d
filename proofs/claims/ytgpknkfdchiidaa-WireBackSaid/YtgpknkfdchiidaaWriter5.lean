/-
  The document's own answer to what any calls write.
-/
import Derived.Test.YtgpknkfdchiidaaWriter4
import Derived.Deep.RegionWith
namespace Go.Proofs.Ytgpknkfdchiidaa
open Go.RowKit
set_option linter.unusedVariables false

theorem piece_num (c : CallD) (h0 : 0 ≤ c.kind) (h3 : c.kind ≤ 3) : piece c = be c.n (sizeOf' c.kind) := by
  unfold piece sizeOf'
  by_cases e0 : c.kind = 0
  · rw [if_pos e0, if_pos e0]
  by_cases e1 : c.kind = 1
  · rw [if_neg e0, if_neg e0, if_pos e1, if_pos e1]
  by_cases e2 : c.kind = 2
  · rw [if_neg e0, if_neg e0, if_neg e1, if_neg e1, if_pos e2, if_pos e2]
  · rw [if_neg e0, if_neg e0, if_neg e1, if_neg e1, if_neg e2, if_neg e2, if_pos (by omega)]
theorem piece_str (c : CallD) (h : c.kind < 0 ∨ 3 < c.kind) : piece c = c.s.data.toList := piece_4 c (by omega) (by omega) (by omega) (by omega)
theorem sizeOf_le (kd : Int) : sizeOf' kd ≤ 8 := by unfold sizeOf'; split; omega; split; omega; split; omega; omega

def RefWriteEnd (bs : List UInt8) (w : World) (e : Ending) (w' : World) : Prop := e = .returned (.string ⟨bs.toArray⟩) ∧ Below w.heap.size w w'

theorem list_size (l : List UInt8) : (⟨l.toArray⟩ : ByteArray).size = l.length := by simp [ByteArray.size]
theorem str_list (s : ByteArray) : (⟨s.data.toList.toArray⟩ : ByteArray) = s := by cases s; simp
theorem bytes_cat_s (l : List UInt8) (s : ByteArray) : (⟨l.toArray⟩ : ByteArray) ++ s = ⟨(l ++ s.data.toList).toArray⟩ := by
  conv => lhs; rw [← str_list s]
  exact bytes_cat l _

set_option maxHeartbeats 1000000 in
theorem refwrite_any (a : Option Addr) (len cap : Nat) (C : Nat → CallD) (w : World) (hC : CallsAt w w.heap.size a len C) (hl : 8 * len + tot C len ≤ 1000000) (hn : ∀ i, (C i).n < 18446744073709551616) :
    Calls Try.prog 15 #[.slice a len cap] w (RefWriteEnd (pieces C len) w) := by
  have HC := Lib.hid hC
  have HNN := Lib.hid hn
  have hll : len ≤ 1000000 := by omega
  have HL := Lib.hid hl
  clear hC hn hl
  go_enter Try.func15, Try.ntmps15
  go_wp2_with fail
  go_loopw [3, 4] (fun s i wr => ∃ k : Nat, k ≤ len ∧ i = .int .i64 k ∧ s = .string ⟨(pieces C k).toArray⟩ ∧ Hid (Below w.heap.size w wr)) (fun _ i _ => len - (intOf i).toNat)
  case atStart => exact ⟨0, Nat.zero_le _, rfl, rfl, Below.refl _ _⟩
  case round =>
    obtain ⟨k, hk, rfl, rfl, HB⟩ := hrel
    by_cases hlt : k < len
    · obtain h0 | ⟨cb, off, rfl, hcb, hc⟩ := HC.out
      · omega
      have hcw : CallAt wr cb (off + k * 4) (C k) := (hc k hlt).block (HB.out.block cb hcb)
      have hcl : Hid (pieces C (k + 1) = pieces C k ++ piece (C k)) := rfl
      have hsz := HB.out.size
      have hln : (pieces C k).length ≤ 1000000 := by
        have h1 := pieces_le C k
        have h2 := tot_mono C k len (by omega)
        have h4 := HL.out
        omega
      have hss : (C k).s.size ≤ 1000000 := by
        have h3 := tot_mono C (k + 1) len (by omega)
        have h4 := HL.out
        simp only [tot] at h3
        omega
      have hnn := HNN.out k
      have c0 := hcw.c0
      have c2 := hcw.c2
      have c3 := hcw.c3
      have p0 := Lib.hid (piece_num (C k))
      have p1 := Lib.hid (piece_str (C k))
      clear hc hcw
      generalize (C k).kind = kd at *
      generalize piece (C k) = pc at *
      generalize (C k).n = nn at *
      generalize (C k).s = ss at *
      have hcur : (⟨(pieces C k).toArray⟩ : ByteArray).size ≤ 1000000 := by rw [list_size]; exact hln
      by_cases k0 : kd < 0
      · have PC := Lib.hid (p1.out (Or.inl k0))
        go_wp2_with fail
        exact ⟨⟨k + 1, by omega, by go_num, by rw [hcl.out, PC.out]; exact congrArg Value.string (bytes_cat_s _ _), HB⟩, by simp [intOf]; omega⟩
      by_cases k3 : 3 < kd
      · have PC := Lib.hid (p1.out (Or.inr k3))
        go_wp2_with fail
        exact ⟨⟨k + 1, by omega, by go_num, by rw [hcl.out, PC.out]; exact congrArg Value.string (bytes_cat_s _ _), HB⟩, by simp [intOf]; omega⟩
      have PC := Lib.hid (p0.out (by omega) (by omega))
      have h8 := sizeOf_le kd
      obtain ⟨SB, hSB⟩ : ∃ SB : ByteArray, SB = ⟨(be nn (sizeOf' kd)).toArray⟩ := ⟨_, rfl⟩
      have hbz : SB.size ≤ 8 := by rw [hSB, list_size, be_length]; exact h8
      have hby := fun (W : World) => hSB ▸ bytes_any nn (sizeOf' kd) W hnn h8
      have HBY := Lib.hid hby
      have HSB := Lib.hid hSB
      clear hby hSB
      generalize hS1 : (⟨(pieces C k).toArray⟩ : ByteArray) = S1 at *
      have HS1 := Lib.hid hS1
      clear hS1 p0 p1
      have hadd : ¬ (9223372036854775807 < S1.size + SB.size) := by omega
      go_wp2_with fail
      go_region_with (first | (go_at_call 18; refine (size_any _ _).mono ?_; rintro e w' ⟨rfl, rfl⟩) | (go_at_call 41; refine (HBY.out _).mono ?_; rintro e w' ⟨rfl, hb'⟩))
      all_goals
        have HB2 := Lib.hid (HB.out.drew.trans (hb'.mono hsz))
        clear hb' c0 c2 c3 hadd
        go_wp2_with fail
        go_roundw
        case rel => exact ⟨k + 1, by omega, by go_num, by rw [hcl.out, PC.out, ← HS1.out, HSB.out]; exact congrArg Value.string (bytes_cat _ _), HB2.out⟩
        case measure => simp [intOf]; omega
    · have hkl := Lib.hid (show k = len by omega)
      go_wp2_with fail
      go_ret
      exact ⟨by have := hkl.out; subst this; rfl, HB.out⟩

end Go.Proofs.Ytgpknkfdchiidaa
