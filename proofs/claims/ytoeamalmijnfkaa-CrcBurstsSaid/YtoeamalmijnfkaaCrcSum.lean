/-
  Sum and Update.
-/
import Derived.Test.YtoeamalmijnfkaaCrcFed
namespace Go.Proofs.Ytoeamalmijnfkaa
open Go.RowKit
set_option linter.unusedVariables false

/-- All parts' bytes, one behind the other. -/
def catB (P : Nat → ByteArray) : Nat → List UInt8
  | 0 => []
  | n + 1 => catB P n ++ (P n).data.toList

theorem tab_size : tab.size = 16 := tabTo_size 16
theorem tab_info : (Try.prog.info? 33).map (·.size) = some tab.size := by rw [tab_size]; kernel_rfl
theorem tab_one : tab.all (·.oneCell') = true := by
  rw [Array.all_eq_true]; intro i hi; simp [tab, tabTo]; rfl
theorem u32_not (a : BitVec 32) : bits .xor .u32 IntKind.u32.max (a.toNat : Int) = ((~~~ a).toNat : Int) := by
  show IntKind.u32.wrap ((BitVec.ofInt 32 IntKind.u32.max ^^^ BitVec.ofInt 32 (a.toNat : Int)).toNat : Nat) = _
  rw [u32_of, show BitVec.ofInt 32 IntKind.u32.max = BitVec.allOnes 32 by decide, BitVec.allOnes_xor, u32_wrap]

set_option maxRecDepth 100000 in
set_option maxHeartbeats 1000000 in
theorem crcUpdate_any (x : BitVec 32) (s : ByteArray) (w : World) (hs : s.size ≤ 140737488355328) :
    Calls Try.prog 10 #[.int .u32 (x.toNat : Int), .string s] w (FedEnd (updC x s.data.toList) w) := by
  have HU := Lib.hid (show updC x s.data.toList = ~~~ feed (~~~ x) s.data.toList from rfl)
  have h1 := u32_not x
  generalize ~~~ x = nx at *
  go_enter Try.func10, Try.ntmps10
  go_wp2_with fail
  refine (table_any _).mono ?_
  rintro e w1 ⟨rfl, hb1⟩
  have HB1 := Lib.hid hb1
  clear hb1
  go_wp2_with fail
  clear h1
  refine (fed_any nx s _ hs).mono ?_
  rintro e w2 ⟨rfl, hb2⟩
  have HB2 := Lib.hid (HB1.out.trans (hb2.mono HB1.out.size))
  clear hb2
  have h2 := u32_not (feed nx s.data.toList)
  rw [← HU.out] at h2
  generalize feed nx s.data.toList = y at *
  go_wp2_with fail
  go_ret
  exact ⟨rfl, HB2.out⟩

theorem Blk.below {B : Nat} {w w' : World} {b : Nat} {xs : Array Value} {T : TypeId} (h : Blk w b xs T) (k : Below B w w') (hb : b < B) : Blk w' b xs T := (k.block b hb).trans h
theorem first_reg : (4294967295 : Int) = ((~~~ 0#32).toNat : Int) := by decide
set_option maxRecDepth 100000 in
set_option maxHeartbeats 1000000 in
theorem crcSum_any (a : Option Addr) (len cap : Nat) (P : Nat → ByteArray) (w : World) (hC : StrsAt w w.heap.size a len P) (hl : (∀ i, i < len → (P i).size ≤ 140737488355328)) (hlen : len ≤ 140737488355328) :
    Calls Try.prog 8 #[.slice a len cap] w (FedEnd (crcD (catB P len)) w) := by
  have HC := Lib.hid hC
  have HL := Lib.hid hl
  clear hC hl
  go_enter Try.func8, Try.ntmps8
  go_wp2_with fail
  refine (table_any _).mono ?_
  rintro e w1 ⟨rfl, hb1⟩
  have HB1 := Lib.hid hb1
  clear hb1
  have HN := Lib.hid (Blk.new w1 (tabTo 0) 33)
  rw [tabTo_zero] at HN
  go_wp2_with (refine wpList_store_row rfl 33 (.tmp 3) (.tmp 7) rfl w1.heap.size tab rfl rfl 33 _ HN.out tab_info (by rw [tab_size]; rfl) tab_one ?_)
  have HR := Lib.hid (HN.out.row tab)
  have HB2 := Lib.hid (below_row (HB1.out.alloc HB1.out.size (.cells #[.int .u32 0, .int .u32 0, .int .u32 0, .int .u32 0, .int .u32 0, .int .u32 0, .int .u32 0, .int .u32 0, .int .u32 0, .int .u32 0, .int .u32 0, .int .u32 0, .int .u32 0, .int .u32 0, .int .u32 0, .int .u32 0] 33)) HB1.out.size tab)
  generalize World.setRow _ _ _ = W2 at *
  clear HN
  go_loopw [4, 10] (fun r i wr => ∃ k : Nat, k ≤ len ∧ i = .int .i64 k ∧ r = .int .u32 ((feed (~~~ 0#32) (catB P k)).toNat : Int) ∧ Hid (Blk wr w1.heap.size tab 33) ∧ Hid (Below w.heap.size w wr)) (fun _ i _ => len - (intOf i).toNat)
  case atStart => exact ⟨0, Nat.zero_le _, rfl, congrArg (Value.int .u32) first_reg, HR, HB2⟩
  case round =>
    obtain ⟨k, hk, rfl, rfl, hblk, hbel⟩ := hrel
    by_cases hlt : k < len
    · obtain h0 | ⟨cb, off, rfl, hcb, hc⟩ := HC.out
      · omega
      have cP := (hbel.out.cell (p := ⟨cb, off + k, none⟩) hcb).trans (hc k hlt)
      clear hc
      have hps := HL.out k hlt
      have HS := Lib.hid (show feed (~~~ 0#32) (catB P (k + 1)) = feed (feed (~~~ 0#32) (catB P k)) (P k).data.toList from feed_cat _ _ _)
      generalize feed (~~~ 0#32) (catB P k) = y at *
      generalize P k = ps at *
      go_wp2_with (refine wpList_load_row rfl 33 (.tmp 3) rfl w1.heap.size rfl 33 tab (0, 0) _ hblk.out Try.underlying33 rfl tab_info ?_)
      refine (fed_any y ps _ hps).mono ?_
      rintro e w2 ⟨rfl, hb2⟩
      have HK := Lib.hid (hblk.out.below hb2 hblk.out.lt)
      have HB3 := Lib.hid (hbel.out.trans (hb2.mono hbel.out.size))
      clear hb2
      generalize feed y ps.data.toList = z at *
      go_wp2_with fail
      go_roundw
      case rel => exact ⟨k + 1, by omega, by go_num, by rw [HS.out], HK, HB3⟩
      case measure => simp [intOf]; omega
    · have hks := Lib.hid (show k = len by omega)
      have h1 := u32_not (feed (~~~ 0#32) (catB P k))
      have HE : Hid (~~~ feed (~~~ 0#32) (catB P k) = crcD (catB P len)) := by
        show ~~~ feed (~~~ 0#32) (catB P k) = crcD (catB P len)
        rw [hks.out]; rfl
      rw [HE.out] at h1
      generalize feed (~~~ 0#32) (catB P k) = y at *
      go_wp2_with fail
      go_ret
      exact ⟨rfl, hbel.out⟩
end Go.Proofs.Ytoeamalmijnfkaa
