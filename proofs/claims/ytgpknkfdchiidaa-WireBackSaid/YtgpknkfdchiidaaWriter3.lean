/-
  What any calls write, walked; the writer's length and text.
-/
import Derived.Test.YtgpknkfdchiidaaWriter2
namespace Go.Proofs.Ytgpknkfdchiidaa
open Go.RowKit
set_option linter.unusedVariables false

theorem piece_0 (c : CallD) (h : c.kind = 0) : piece c = be c.n 1 := by unfold piece; rw [if_pos h]
theorem piece_1 (c : CallD) (h : c.kind = 1) : piece c = be c.n 2 := by unfold piece; rw [if_neg (by omega), if_pos h]
theorem piece_2 (c : CallD) (h : c.kind = 2) : piece c = be c.n 4 := by unfold piece; rw [if_neg (by omega), if_neg (by omega), if_pos h]
theorem piece_3 (c : CallD) (h : c.kind = 3) : piece c = be c.n 8 := by unfold piece; rw [if_neg (by omega), if_neg (by omega), if_neg (by omega), if_pos h]
theorem piece_4 (c : CallD) (h0 : c.kind ≠ 0) (h1 : c.kind ≠ 1) (h2 : c.kind ≠ 2) (h3 : c.kind ≠ 3) : piece c = c.s.data.toList := by
  unfold piece; rw [if_neg h0, if_neg h1, if_neg h2, if_neg h3]

theorem wrap_back64 (n : Nat) (h : n < 18446744073709551616) : IntKind.u64.wrap (wrap64 (n : Int)) = n := by
  rw [wrap_u64_any]
  unfold wrap64
  omega
theorem wrap_back32 (n : Nat) : IntKind.u64.wrap (IntKind.u32.wrap (n : Int)) = ((n % 4294967296 : Nat) : Int) := by
  rw [wrap_u64_any, wrap_u32]
  omega
theorem be_mod32 (n : Nat) : be (n % 4294967296) 4 = be n 4 := be_mod n 4

def WriteEnd (b base : Nat) (bs : List UInt8) (w : World) (e : Ending) (w' : World) : Prop :=
  e = .returned (.tuple #[]) ∧ Wr w' b base bs ∧ Kb (fun k => k = b ∨ base ≤ k) w w'

set_option maxHeartbeats 1000000 in
theorem write_any (b base : Nat) (bs : List UInt8) (a : Option Addr) (len cap : Nat) (C : Nat → CallD) (w : World) (hw : Wr w b base bs) (hC : CallsAt w b a len C)
    (hl : bs.length + (8 * len + tot C len) ≤ 1000000) (hn : ∀ i, (C i).n < 18446744073709551616) :
    Calls Try.prog 14 #[.pointer (some ⟨b, 0, none⟩), .slice a len cap] w (WriteEnd b base (bs ++ pieces C len) w) := by
  have hbl : b ≤ w.heap.size := Nat.le_of_lt (by obtain ⟨v, hv, _⟩ := hw.blk; exact hv.lt)
  have HC := Lib.hid hC
  have HNN := Lib.hid hn
  have hll : len ≤ 1000000 := by omega
  have hmono : ∀ j, j ≤ len → tot C j ≤ tot C len := fun j hj => tot_mono C j len hj
  have HM := Lib.hid hmono
  have HL := Lib.hid hl
  clear hC hn hmono hl
  go_enter Try.func14, Try.ntmps14
  go_wp2_with fail
  go_loopw [4] (fun i wr => ∃ k : Nat, k ≤ len ∧ i = .int .i64 k ∧ Hid (Wr wr b base (bs ++ pieces C k)) ∧ Hid (Kb (fun k => k = b ∨ base ≤ k) w wr)) (fun i _ => len - (intOf i).toNat)
  case atStart => exact ⟨0, Nat.zero_le _, rfl, by simpa [pieces, Hid] using hw, Kb.refl _ _⟩
  case round =>
    obtain ⟨k, hk, rfl, HW, HK⟩ := hrel
    by_cases hlt : k < len
    · obtain h0 | ⟨cb, off, rfl, hcb, hc⟩ := HC.out
      · omega
      have hcw : CallAt wr cb (off + k * 4) (C k) := (hc k hlt).block (HK.out.block cb (by omega) (by have := hw.lt; omega))
      have hcl : Hid (pieces C (k + 1) = pieces C k ++ piece (C k)) := rfl
      have hln : Hid ((bs ++ pieces C k).length + 8 + (C k).s.size ≤ 140737488355328) := by
        have h1 := pieces_le C k
        have h2 := HM.out k (by omega)
        have h3 := HM.out (k + 1) (by omega)
        have h4 := HL.out
        simp only [tot] at h3
        show _ ≤ _
        rw [List.length_append]; omega
      have hnn := HNN.out k
      have fin : Hid (∀ w', Wr w' b base (bs ++ pieces C k ++ piece (C k)) → Kb (fun k => k = b ∨ base ≤ k) wr w' → Hid (Wr w' b base (bs ++ pieces C (k + 1))) ∧ Hid (Kb (fun k => k = b ∨ base ≤ k) w w')) :=
        fun w' h1 h2 => ⟨by rw [hcl.out, ← List.append_assoc]; exact h1, HK.out.trans h2⟩
      have c0 := hcw.c0
      have c2 := hcw.c2
      have c3 := hcw.c3
      have p0 := Lib.hid (piece_0 (C k))
      have p1 := Lib.hid (piece_1 (C k))
      have p2 := Lib.hid (piece_2 (C k))
      have p3 := Lib.hid (piece_3 (C k))
      have p4 := Lib.hid (piece_4 (C k))
      clear hc hcw
      generalize (C k).kind = kd at *
      generalize piece (C k) = pc at *
      generalize (C k).n = nn at *
      generalize (C k).s = ss at *
      generalize bs ++ pieces C k = cur at *
      by_cases k0 : kd = 0
      · have t0 : (kd == 0) = true := by simp [k0]
        have PC := Lib.hid (p0.out k0)
        clear k0 p0 p1 p2 p3 p4
        go_wp2_with fail
        refine (wu8_any b base cur _ nn _ HW.out (wrap_back64 nn hnn) hnn (by have := hln.out; omega)).mono ?_
        rintro e w1 ⟨rfl, h1, h2⟩
        have HF := Lib.hid (fin.out w1 (by rw [PC.out]; exact h1) h2)
        clear h1 h2 c0 c2 c3
        go_wp2_with fail
        go_roundw
        case rel => exact ⟨k + 1, by omega, by go_num, HF.out.1, HF.out.2⟩
        case measure => simp [intOf]; omega
      have t0 : (kd == 0) = false := by simp [k0]
      by_cases k1 : kd = 1
      · have t1 : (kd == 1) = true := by simp [k1]
        have PC := Lib.hid (p1.out k1)
        clear k0 k1 p0 p1 p2 p3 p4
        go_wp2_with fail
        refine (wu16_any b base cur _ nn _ HW.out (wrap_back64 nn hnn) hnn (by have := hln.out; omega)).mono ?_
        rintro e w1 ⟨rfl, h1, h2⟩
        have HF := Lib.hid (fin.out w1 (by rw [PC.out]; exact h1) h2)
        clear h1 h2 c0 c2 c3
        go_wp2_with fail
        go_roundw
        case rel => exact ⟨k + 1, by omega, by go_num, HF.out.1, HF.out.2⟩
        case measure => simp [intOf]; omega
      have t1 : (kd == 1) = false := by simp [k1]
      by_cases k2 : kd = 2
      · have t2 : (kd == 2) = true := by simp [k2]
        have PC := Lib.hid (p2.out k2)
        clear k0 k1 k2 p0 p1 p2 p3 p4
        go_wp2_with fail
        refine (wu32_any b base cur _ (nn % 4294967296) _ HW.out (wrap_back32 nn) (by omega) (by have := hln.out; omega)).mono ?_
        rintro e w1 ⟨rfl, h1, h2⟩
        have HF := Lib.hid (fin.out w1 (by rw [PC.out, ← be_mod32]; exact h1) h2)
        clear h1 h2 c0 c2 c3
        go_wp2_with fail
        go_roundw
        case rel => exact ⟨k + 1, by omega, by go_num, HF.out.1, HF.out.2⟩
        case measure => simp [intOf]; omega
      have t2 : (kd == 2) = false := by simp [k2]
      by_cases k3 : kd = 3
      · have t3 : (kd == 3) = true := by simp [k3]
        have PC := Lib.hid (p3.out k3)
        clear k0 k1 k2 k3 p0 p1 p2 p3 p4
        go_wp2_with fail
        refine (wu64_any b base cur nn _ HW.out hnn (by have := hln.out; omega)).mono ?_
        rintro e w1 ⟨rfl, h1, h2⟩
        have HF := Lib.hid (fin.out w1 (by rw [PC.out]; exact h1) h2)
        clear h1 h2 c0 c2 c3
        go_wp2_with fail
        go_roundw
        case rel => exact ⟨k + 1, by omega, by go_num, HF.out.1, HF.out.2⟩
        case measure => simp [intOf]; omega
      have t3 : (kd == 3) = false := by simp [k3]
      have PC := Lib.hid (p4.out k0 k1 k2 k3)
      clear k0 k1 k2 k3 p0 p1 p2 p3 p4
      go_wp2_with fail
      refine (wtext_any b base cur ss _ HW.out (by have := hln.out; omega)).mono ?_
      rintro e w1 ⟨rfl, h1, h2⟩
      have HF := Lib.hid (fin.out w1 (by rw [PC.out]; exact h1) h2)
      clear h1 h2 c0 c2 c3
      go_wp2_with fail
      go_roundw
      case rel => exact ⟨k + 1, by omega, by go_num, HF.out.1, HF.out.2⟩
      case measure => simp [intOf]; omega
    · have hkl := Lib.hid (show k = len by omega)
      go_wp2_with fail
      go_end0
      exact ⟨rfl, by have := hkl.out; subst this; exact HW.out, HK.out⟩

end Go.Proofs.Ytgpknkfdchiidaa
