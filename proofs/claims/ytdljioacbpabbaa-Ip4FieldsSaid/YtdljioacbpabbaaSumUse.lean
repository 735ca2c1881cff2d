/-
  Sum and Right at literals of parts; Update; the laws' 'awake'.
-/
import Derived.Test.YtdljioacbpabbaaSum
namespace Go.Proofs.Ytdljioacbpabbaa
open Go.RowKit
set_option linter.unusedVariables false

/-- Right's end. -/
def RightEnd (b : Bool) (w : World) (e : Ending) (w' : World) : Prop := e = .returned (.bool b) ∧ Below w.heap.size w w'

set_option maxHeartbeats 400000 in
theorem right_any (a : Option Addr) (len cap : Nat) (P : Nat → ByteArray) (w : World) (b : Bool) (hC : StrsAt w w.heap.size a len P) (hl : (joinedB P len).length ≤ 1099511627776) (hlen : len ≤ 140737488355328) (hb : decide (sumD (joinedB P len) = 0) = b) :
    Calls Try.prog 39 #[.slice a len cap] w (RightEnd b w) := by
  have HS := Lib.hid (sum_any a len cap P w hC hl hlen)
  have hb1 : (((sumD (joinedB P len) : Nat) : Int) == 0) = b := by
    rw [← hb]
    by_cases h : sumD (joinedB P len) = 0
    · simp [h]
    · simp [h]
  clear hC hl hlen hb
  generalize sumD (joinedB P len) = n at *
  have HB := Lib.hid hb1
  clear hb1
  go_enter Try.func39, Try.ntmps39
  go_wp2_with fail
  refine HS.out.mono ?_
  rintro e w' ⟨rfl, hb⟩
  have HBL := Lib.hid hb
  clear hb HS
  cases b
  · have h1 := HB.out
    go_wp2_with fail
    go_ret
    exact ⟨rfl, HBL.out⟩
  · have h1 := HB.out
    go_wp2_with fail
    go_ret
    exact ⟨rfl, HBL.out⟩

theorem joined_1 (x : ByteArray) : joinedB (strsOf [x]) 1 = x.data.toList := by simp [joinedB, joined, strsOf]
theorem joined_2 (x y : ByteArray) : joinedB (strsOf [x, y]) 2 = x.data.toList ++ y.data.toList := by simp [joinedB, joined, strsOf]
theorem joined_3 (x y z : ByteArray) : joinedB (strsOf [x, y, z]) 3 = x.data.toList ++ y.data.toList ++ z.data.toList := by simp [joinedB, joined, strsOf]

theorem lit_sum (l : List ByteArray) (w : World) (n : Nat) (cs : Array Value) (hcs : cs = (l.map Value.string).toArray) (hn : n = l.length) (hl : (joinedB (strsOf l) n).length ≤ 1099511627776) (hlen : n ≤ 140737488355328) :
    Calls Try.prog 19 #[.slice (some ⟨w.heap.size, 0, none⟩) n n] (w.alloc (.cells cs 9)) (SumEnd (sumD (joinedB (strsOf l) n)) w) := by
  subst hcs hn
  refine (sum_any _ _ _ (strsOf l) _ ((strs_new w l 9).mono (by simp)) hl hlen).mono fun e w' h => ⟨h.1, ?_⟩
  exact ((Below.refl _ _).alloc (Nat.le_refl _) _).trans (h.2.mono (by simp))
theorem lit_right (l : List ByteArray) (w : World) (n : Nat) (b : Bool) (cs : Array Value) (hcs : cs = (l.map Value.string).toArray) (hn : n = l.length) (hl : (joinedB (strsOf l) n).length ≤ 1099511627776) (hlen : n ≤ 140737488355328) (hb : decide (sumD (joinedB (strsOf l) n) = 0) = b) :
    Calls Try.prog 39 #[.slice (some ⟨w.heap.size, 0, none⟩) n n] (w.alloc (.cells cs 9)) (RightEnd b w) := by
  subst hcs hn
  refine (right_any _ _ _ (strsOf l) _ b ((strs_new w l 9).mono (by simp)) hl hlen hb).mono fun e w' h => ⟨h.1, ?_⟩
  exact ((Below.refl _ _).alloc (Nat.le_refl _) _).trans (h.2.mono (by simp))

theorem size_list (s : ByteArray) : s.data.toList.length = s.size := by simp

theorem sum_1 (x : ByteArray) (w : World) (h : x.size ≤ 1000000) :
    Calls Try.prog 19 #[.slice (some ⟨w.heap.size, 0, none⟩) 1 1] (w.alloc (.cells #[.string x] 9)) (SumEnd (sumD x.data.toList) w) := by
  have := lit_sum [x] w 1 #[.string x] rfl rfl (by rw [joined_1, size_list]; omega) (by omega)
  rwa [joined_1] at this
theorem sum_3 (x y z : ByteArray) (w : World) (hx : x.size ≤ 1000000) (hy : y.size ≤ 1000000) (hz : z.size ≤ 1000000) :
    Calls Try.prog 19 #[.slice (some ⟨w.heap.size, 0, none⟩) 3 3] (w.alloc (.cells #[.string x, .string y, .string z] 9)) (SumEnd (sumD (x.data.toList ++ y.data.toList ++ z.data.toList)) w) := by
  have := lit_sum [x, y, z] w 3 #[.string x, .string y, .string z] rfl rfl (by rw [joined_3]; simp only [List.length_append, size_list]; omega) (by omega)
  rwa [joined_3] at this
theorem right_1 (x : ByteArray) (w : World) (b : Bool) (h : x.size ≤ 1000000) (hb : decide (sumD x.data.toList = 0) = b) :
    Calls Try.prog 39 #[.slice (some ⟨w.heap.size, 0, none⟩) 1 1] (w.alloc (.cells #[.string x] 9)) (RightEnd b w) :=
  lit_right [x] w 1 b #[.string x] rfl rfl (by rw [joined_1, size_list]; omega) (by omega) (by rw [joined_1]; exact hb)
theorem right_2 (x y : ByteArray) (w : World) (b : Bool) (hx : x.size ≤ 1000000) (hy : y.size ≤ 1000000) (hb : decide (sumD (x.data.toList ++ y.data.toList) = 0) = b) :
    Calls Try.prog 39 #[.slice (some ⟨w.heap.size, 0, none⟩) 2 2] (w.alloc (.cells #[.string x, .string y] 9)) (RightEnd b w) :=
  lit_right [x, y] w 2 b #[.string x, .string y] rfl rfl (by rw [joined_2]; simp only [List.length_append, size_list]; omega) (by omega) (by rw [joined_2]; exact hb)

theorem sum_1n (x : ByteArray) (w : World) (N : Nat) (hN : N = w.heap.size) (h : x.size ≤ 1000000) :
    Calls Try.prog 19 #[.slice (some ⟨N, 0, none⟩) 1 1] (w.alloc (.cells #[.string x] 9)) (SumEnd (sumD x.data.toList) w) := by
  subst hN; exact sum_1 x w h
theorem right_1n (x : ByteArray) (w : World) (N : Nat) (hN : N = w.heap.size) (b : Bool) (h : x.size ≤ 1000000) (hb : decide (sumD x.data.toList = 0) = b) :
    Calls Try.prog 39 #[.slice (some ⟨N, 0, none⟩) 1 1] (w.alloc (.cells #[.string x] 9)) (RightEnd b w) := by
  subst hN; exact right_1 x w b h hb
theorem right_2n (x y : ByteArray) (w : World) (N : Nat) (hN : N = w.heap.size) (b : Bool) (hx : x.size ≤ 1000000) (hy : y.size ≤ 1000000) (hb : decide (sumD (x.data.toList ++ y.data.toList) = 0) = b) :
    Calls Try.prog 39 #[.slice (some ⟨N, 0, none⟩) 2 2] (w.alloc (.cells #[.string x, .string y] 9)) (RightEnd b w) := by
  subst hN; exact right_2 x y w b hx hy hb

theorem awake_sum : sumD (⟨#[69, 0]⟩ : ByteArray).data.toList = 47871 := by decide +kernel
/-- The examples hold. -/
def AwakeEnd (w : World) (e : Ending) (w' : World) : Prop := e = .returned (.bool true) ∧ Below w.heap.size w w'
/-- The update of any numbers. -/
def updI (a b c : Int) : Nat := 65535 - fold ((65535 - a % 65536).toNat + (65535 - b % 65536).toNat + (c % 65536).toNat)

theorem updI_nat (a b c : Nat) (ha : a ≤ 65535) (hb : b ≤ 65535) (hc : c ≤ 65535) : updI a b c = updD a b c := by
  have e1 : ((65535 : Int) - (a : Int) % 65536).toNat = 65535 - a := by omega
  have e2 : ((65535 : Int) - (b : Int) % 65536).toNat = 65535 - b := by omega
  have e3 : ((c : Int) % 65536).toNat = c := by omega
  unfold updI updD
  rw [e1, e2, e3]

end Go.Proofs.Ytdljioacbpabbaa
