/-
  The writer's length and text; the document's bytes of a number.
-/
import Derived.Test.YtgpknkfdchiidaaWriter3
import Derived.Laws.IdiomStrings
import Derived.Laws.BytesArg
import Derived.Laws.Concat
namespace Go.Proofs.Ytgpknkfdchiidaa
open Go.RowKit
set_option linter.unusedVariables false

theorem own_len {w : World} {base : Nat} {e : TypeId} {size : Nat} {v : Value} {n : Nat} {xs : List Value} (h : w.ownsRow base e size v n xs) : ∃ a c, v = .slice a n c := by
  rcases h.2 with ⟨h1, h0⟩ | ⟨g, cap, cur, h1, _⟩
  · subst h0; exact ⟨_, _, h1⟩
  · exact ⟨_, _, h1⟩

theorem addr_add (g j : Nat) : (⟨g, 0, none⟩ : Addr).add j = ⟨g, j, none⟩ := by unfold Addr.add; split <;> simp_all

theorem own_conv {w : World} {base : Nat} {v : Value} {bs : List UInt8} (h : w.ownsRow base 5 1 v bs.length (cellsOf bs)) :
    (convert 33 9 v).run Try.prog w = .ok (.string ⟨bs.toArray⟩) w := by
  have hc := h.2
  rcases hc with ⟨rfl, h0⟩ | ⟨g, cap, cur, rfl, _⟩
  · rw [List.length_eq_zero_iff.1 h0]
    exact run_convert_bytes_nil w 33 5 Try.underlying33 Try.underlying5 0 0 9 Try.underlying9
  · refine run_convert_bytes_back w 33 9 5 ⟨g, 0, none⟩ cap bs Try.underlying33 Try.underlying5 Try.underlying9 fun j hj => ?_
    exact h.cells (g := g) rfl j _ (by simp [cellsOf, hj])

set_option maxHeartbeats 400000 in
theorem wlen_any (b base : Nat) (bs : List UInt8) (w : World) (hw : Wr w b base bs) :
    Calls Try.prog 17 #[.pointer (some ⟨b, 0, none⟩)] w fun e w' => e = .returned (.int .i64 bs.length) ∧ w = w' := by
  obtain ⟨v, hv, hown⟩ := hw.blk
  obtain ⟨va, vc, rfl⟩ := own_len hown
  have cV := hv.cell 0
  simp at cV
  clear hv hown hw
  go_enter Try.func17, Try.ntmps17
  go_wp2_with fail
  go_ret
  exact ⟨rfl, rfl⟩

set_option maxHeartbeats 400000 in
theorem wstring_any (b base : Nat) (bs : List UInt8) (w : World) (hw : Wr w b base bs) :
    Calls Try.prog 16 #[.pointer (some ⟨b, 0, none⟩)] w fun e w' => e = .returned (.string ⟨bs.toArray⟩) ∧ w = w' := by
  obtain ⟨v, hv, hown⟩ := hw.blk
  have hcv := own_conv hown
  obtain ⟨va, vc, rfl⟩ := own_len hown
  have cV := hv.cell 0
  simp at cV
  clear hv hown hw
  go_enter Try.func16, Try.ntmps16
  go_wp2_with fail
  go_ret
  exact ⟨rfl, rfl⟩

/-- How many bytes a kind's number has. -/
def sizeOf' (kd : Int) : Nat := if kd = 0 then 1 else if kd = 1 then 2 else if kd = 2 then 4 else 8
theorem size_any (kd : Int) (w : World) : Calls Try.prog 18 #[.int .i64 kd] w fun e w' => e = .returned (.int .i64 (sizeOf' kd)) ∧ w = w' := by
  by_cases h0 : kd = 0
  · have t0 : (kd == 0) = true := by simp [h0]
    have hs : Hid (sizeOf' kd = 1) := if_pos h0
    clear h0
    go_enter Try.func18, Try.ntmps18
    go_wp2_with fail
    go_ret
    exact ⟨by rw [hs.out]; rfl, rfl⟩
  have t0 : (kd == 0) = false := by simp [h0]
  by_cases h1 : kd = 1
  · have t1 : (kd == 1) = true := by simp [h1]
    have hs : Hid (sizeOf' kd = 2) := by
      show sizeOf' kd = 2
      unfold sizeOf'; rw [if_neg h0, if_pos h1]
    clear h0 h1
    go_enter Try.func18, Try.ntmps18
    go_wp2_with fail
    go_ret
    exact ⟨by rw [hs.out]; rfl, rfl⟩
  have t1 : (kd == 1) = false := by simp [h1]
  by_cases h2 : kd = 2
  · have t2 : (kd == 2) = true := by simp [h2]
    have hs : Hid (sizeOf' kd = 4) := by
      show sizeOf' kd = 4
      unfold sizeOf'; rw [if_neg h0, if_neg h1, if_pos h2]
    clear h0 h1 h2
    go_enter Try.func18, Try.ntmps18
    go_wp2_with fail
    go_ret
    exact ⟨by rw [hs.out]; rfl, rfl⟩
  have t2 : (kd == 2) = false := by simp [h2]
  have hs : Hid (sizeOf' kd = 8) := by
    show sizeOf' kd = 8
    unfold sizeOf'; rw [if_neg h0, if_neg h1, if_neg h2]
  clear h0 h1 h2
  go_enter Try.func18, Try.ntmps18
  go_wp2_with fail
  go_ret
  exact ⟨by rw [hs.out]; rfl, rfl⟩

theorem be_succ (n i : Nat) : be n (i + 1) = UInt8.ofNat (n / 256 ^ i % 256) :: be n i := by
  unfold be
  rw [List.range_succ_eq_map, List.map_cons, List.map_map]
  congr 1
  apply List.map_congr_left
  intro j hj
  simp only [Function.comp]
  congr 4
  omega

theorem bytes_cons (c : UInt8) (l : List UInt8) : (⟨#[c]⟩ : ByteArray) ++ ⟨l.toArray⟩ = ⟨(c :: l).toArray⟩ := by
  apply ByteArray.ext
  rw [ByteArray.data_append]
  simp
theorem bytes_cat (l m : List UInt8) : (⟨l.toArray⟩ : ByteArray) ++ ⟨m.toArray⟩ = ⟨(l ++ m).toArray⟩ := by
  apply ByteArray.ext
  rw [ByteArray.data_append]
  simp

theorem conv_one (w : World) (m : Nat) : (convert 33 9 (.slice (some ⟨w.heap.size, 0, none⟩) 1 1)).run Try.prog (w.alloc (.cells #[.int .u8 ((m : Int) % 256)] 5)) = .ok (.string ⟨#[UInt8.ofNat (m % 256)]⟩) (w.alloc (.cells #[.int .u8 ((m : Int) % 256)] 5)) := by
  have e : ((m : Int) % 256) = ((UInt8.ofNat (m % 256)).toNat : Int) := by rw [UInt8.toNat_ofNat']; omega
  rw [e]
  refine run_convert_bytes_back (P := Try.prog) _ 33 9 5 ⟨w.heap.size, 0, none⟩ 1 [UInt8.ofNat (m % 256)] Try.underlying33 Try.underlying5 Try.underlying9 fun q hq => ?_
  have : q = 0 := by simpa using hq
  subst this
  rw [addr_add]
  exact (Blk.new w _ _).cell 0

set_option maxHeartbeats 1000000 in
theorem bytes_any (n k : Nat) (w : World) (hn : n < 18446744073709551616) (hk : k ≤ 8) :
    Calls Try.prog 41 #[.int .u64 n, .int .i64 k] w fun e w' => e = .returned (.string ⟨(be n k).toArray⟩) ∧ Below w.heap.size w w' := by
  go_enter Try.func41, Try.ntmps41
  go_wp2_with fail
  go_loopw [0, 5, 6] (fun m s i wr => ∃ j : Nat, j ≤ k ∧ i = .int .i64 j ∧ m = .int .u64 ((n / 256 ^ j : Nat) : Int) ∧ s = .string ⟨(be n j).toArray⟩ ∧ Below w.heap.size w wr) (fun _ _ i _ => k - (intOf i).toNat)
  case atStart => exact ⟨0, Nat.zero_le _, rfl, by simp, rfl, Below.refl _ _⟩
  case round =>
    obtain ⟨j, hj, rfl, rfl, rfl, hb⟩ := hrel
    by_cases hlt : j < k
    · have hs := Lib.hid (be_succ n j)
      have hp := Lib.hid (show n / 256 ^ (j + 1) = n / 256 ^ j / 256 by rw [Nat.pow_succ, Nat.div_div_eq_div_mul])
      have hle : n / 256 ^ j < 18446744073709551616 := Nat.lt_of_le_of_lt (Nat.div_le_self _ _) hn
      have hbl : (be n j).length = j := be_length n j
      generalize n / 256 ^ j = m at *
      have hcv := conv_one wr m
      generalize hcc : UInt8.ofNat (m % 256) = c at *
      have HCC := Lib.hid hcc
      clear hcc
      have HB := Lib.hid hb
      clear hb
      go_wp2_with fail
      exact ⟨⟨j + 1, by omega, by go_num, by rw [hp.out]; go_num, by rw [hs.out]; exact congrArg Value.string (bytes_cons c (be n j)), HB.out.alloc HB.out.size _⟩, by simp [intOf]; omega⟩
    · have hkl := Lib.hid (show j = k by omega)
      have HB := Lib.hid hb
      clear hb
      go_wp2_with fail
      go_ret
      exact ⟨by have := hkl.out; subst this; rfl, HB.out⟩

end Go.Proofs.Ytgpknkfdchiidaa
