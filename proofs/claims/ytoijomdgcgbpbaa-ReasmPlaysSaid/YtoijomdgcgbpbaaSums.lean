/-
  The Internet's checksum, plain: folding, the weighted sum of bytes, the sum of a text; no Go function is walked here.
-/
import Derived.Test.YtoijomdgcgbpbaaGround
import Derived.Deep.LoopGhost
import Derived.Deep.CutBlock
import Derived.Deep.DeepCutAuto
namespace Go.Proofs.Ytoijomdgcgbpbaa
set_option linter.unusedVariables false

/-- A number brought down to 16 bits by adding what is above them. -/
def fold (n : Nat) : Nat := if n = 0 then 0 else (n - 1) % 65535 + 1
/-- Bytes added, each in its place: the first one is a higher one, or a lower one. -/
def ws : Bool → List UInt8 → Nat
  | _, [] => 0
  | true, c :: r => 256 * c.toNat + ws false r
  | false, c :: r => c.toNat + ws true r
/-- Which place comes behind so many bytes. -/
def side (hi : Bool) (n : Nat) : Bool := if n % 2 = 0 then hi else !hi
/-- The sum of a text. -/
def sumD (l : List UInt8) : Nat := 65535 - fold (ws true l)

theorem fold_le (n : Nat) : fold n ≤ 65535 := by unfold fold; split <;> omega
theorem fold_small (n : Nat) (h : n ≤ 65535) : fold n = n := by unfold fold; split <;> omega
theorem fold_step (n : Nat) (h : 65535 < n) : fold (n % 65536 + n / 65536) = fold n := by
  unfold fold; rw [if_neg (by omega), if_neg (by omega)]; omega
theorem fold_lt (n : Nat) (h : 65535 < n) : n % 65536 + n / 65536 < n := by omega
theorem fold_add (a b : Nat) : fold (fold a + b) = fold (a + b) := by
  unfold fold
  split
  · subst_vars; simp
  · rw [if_neg (by omega), if_neg (by omega)]; omega
theorem fold_zero (n : Nat) : fold n = 0 ↔ n = 0 := by unfold fold; split <;> omega
theorem fold_full (n : Nat) : fold n = 65535 ↔ 0 < n ∧ n % 65535 = 0 := by unfold fold; split <;> omega

theorem side_zero (hi : Bool) : side hi 0 = hi := rfl
theorem side_succ (hi : Bool) (n : Nat) : side hi (n + 1) = !(side hi n) := by
  unfold side
  by_cases h : n % 2 = 0
  · rw [if_pos h, if_neg (by omega)]
  · rw [if_neg h, if_pos (by omega)]; cases hi <;> rfl
theorem side_not (hi : Bool) (n : Nat) : side (!hi) n = !(side hi n) := by unfold side; split <;> rfl
theorem side_add (hi : Bool) (m n : Nat) : side (side hi m) n = side hi (m + n) := by
  induction n with
  | zero => rfl
  | succ n ih => rw [side_succ, ih, ← Nat.add_assoc, side_succ]
theorem side_even (hi : Bool) (n : Nat) (h : n % 2 = 0) : side hi n = hi := if_pos h

theorem ws_nil (hi : Bool) : ws hi [] = 0 := by cases hi <;> rfl
theorem ws_cons (hi : Bool) (c : UInt8) (r : List UInt8) : ws hi (c :: r) = (if hi then 256 else 1) * c.toNat + ws (!hi) r := by
  cases hi <;> simp [ws]
theorem ws_append (hi : Bool) (l m : List UInt8) : ws hi (l ++ m) = ws hi l + ws (side hi l.length) m := by
  induction l generalizing hi with
  | nil => simp [ws_nil, side]
  | cons c r ih =>
    rw [List.cons_append, ws_cons, ws_cons, ih, List.length_cons, side_succ, side_not]
    omega
theorem ws_snoc (hi : Bool) (l : List UInt8) (c : UInt8) : ws hi (l ++ [c]) = ws hi l + (if side hi l.length then 256 else 1) * c.toNat := by
  rw [ws_append, ws_cons, ws_nil]; rfl
theorem ws_le (hi : Bool) (l : List UInt8) : ws hi l ≤ 65280 * l.length := by
  induction l generalizing hi with
  | nil => simp [ws_nil]
  | cons c r ih =>
    have h1 := ih (!hi)
    have h2 := c.toNat_lt
    rw [ws_cons, List.length_cons]
    split <;> omega
theorem sumD_le (l : List UInt8) : sumD l ≤ 65535 := by unfold sumD; omega

/-- A number's two bytes, the higher one first. -/
def two (n : Nat) : List UInt8 := [UInt8.ofNat (n / 256 % 256), UInt8.ofNat (n % 256)]
theorem two_length (n : Nat) : (two n).length = 2 := rfl
theorem ws_two (n : Nat) (h : n ≤ 65535) : ws true (two n) = n := by
  simp [two, ws, UInt8.toNat_ofNat']
  omega

/-- Parts, one behind the other. -/
def joined (P : Nat → List UInt8) : Nat → List UInt8
  | 0 => []
  | n + 1 => joined P n ++ P n
theorem joined_fold (P : Nat → List UInt8) (n : Nat) :
    fold (fold (ws true (joined P n)) + ws (side true (joined P n).length) (P n)) = fold (ws true (joined P (n + 1))) := by
  rw [fold_add, joined, ws_append]

/-- A text with its sum behind it. -/
theorem sealed_right (l : List UInt8) (h : l.length % 2 = 0) : fold (ws true (l ++ two (sumD l))) = 65535 := by
  rw [ws_append, side_even _ _ h, ws_two _ (sumD_le l)]
  unfold sumD fold
  split <;> split <;> omega
theorem sealed_turned (l : List UInt8) (h : l.length % 2 = 0) : fold (ws true (two (sumD l) ++ l)) = 65535 := by
  rw [ws_append, two_length, side_even _ _ rfl, ws_two _ (sumD_le l)]
  unfold sumD fold
  split <;> split <;> omega

/-- One bit changed. -/
theorem ws_set (hi : Bool) (l : List UInt8) (i : Nat) (c : UInt8) (h : i < l.length) :
    ws hi (l.set i c) + (if side hi i then 256 else 1) * l[i].toNat = ws hi l + (if side hi i then 256 else 1) * c.toNat := by
  induction l generalizing hi i with
  | nil => simp at h
  | cons d r ih =>
    cases i with
    | zero =>
      simp only [List.set_cons_zero, List.getElem_cons_zero, ws_cons, side_zero]
      cases hi <;> simp <;> omega
    | succ i =>
      have := ih (!hi) i (by simpa using h)
      simp only [List.set_cons_succ, List.getElem_cons_succ, ws_cons, side_succ, side_not] at *
      omega
theorem xor_bit (c : UInt8) (j : Nat) (h : j < 8) : ∃ p : Nat, p = 2 ^ j ∧ ((c ^^^ UInt8.ofNat (2 ^ j)).toNat = c.toNat + p ∨ (c ^^^ UInt8.ofNat (2 ^ j)).toNat + p = c.toNat) := by
  refine ⟨_, rfl, ?_⟩
  have key : ∀ j : Fin 8, ∀ c : Fin 256, ((UInt8.ofNat c.val ^^^ UInt8.ofNat (2 ^ j.val)).toNat = c.val + 2 ^ j.val ∨ (UInt8.ofNat c.val ^^^ UInt8.ofNat (2 ^ j.val)).toNat + 2 ^ j.val = c.val) := by decide +kernel
  have := key ⟨j, h⟩ ⟨c.toNat, c.toNat_lt⟩
  simpa using this
theorem changed_wrong (l : List UInt8) (i j : Nat) (hi : i < l.length) (hj : j < 8) (h : fold (ws true l) = 65535) : fold (ws true (l.set i (l[i] ^^^ UInt8.ofNat (2 ^ j)))) ≠ 65535 := by
  obtain ⟨p, hp, hx⟩ := xor_bit l[i] j hj
  have hs := ws_set true l i (l[i] ^^^ UInt8.ofNat (2 ^ j)) hi
  have hp8 : p = 1 ∨ p = 2 ∨ p = 4 ∨ p = 8 ∨ p = 16 ∨ p = 32 ∨ p = 64 ∨ p = 128 := by
    subst hp
    have : j = 0 ∨ j = 1 ∨ j = 2 ∨ j = 3 ∨ j = 4 ∨ j = 5 ∨ j = 6 ∨ j = 7 := by omega
    rcases this with rfl | rfl | rfl | rfl | rfl | rfl | rfl | rfl <;> decide
  intro e
  rw [fold_full] at h e
  generalize (l[i] ^^^ UInt8.ofNat (2 ^ j)).toNat = x at *
  generalize l[i].toNat = y at *
  generalize ws true (l.set i (l[i] ^^^ UInt8.ofNat (2 ^ j))) = a at *
  generalize ws true l = b at *
  clear hp
  split at hs
  · rcases hp8 with rfl | rfl | rfl | rfl | rfl | rfl | rfl | rfl <;> rcases hx with hx | hx <;> omega
  · rcases hp8 with rfl | rfl | rfl | rfl | rfl | rfl | rfl | rfl <;> rcases hx with hx | hx <;> omega

/-- Any order of parts of even lengths. -/
theorem order_sum (a b c : List UInt8) (ha : a.length % 2 = 0) (hb : b.length % 2 = 0) : sumD (a ++ b ++ c) = sumD (b ++ a ++ c) := by
  unfold sumD
  simp only [ws_append, List.length_append]
  rw [side_even _ _ ha, side_even _ _ hb, side_even _ (a.length + b.length) (by omega), side_even _ (b.length + a.length) (by omega), Nat.add_comm (ws true a)]
theorem sealed_twice (l : List UInt8) (h : l.length % 2 = 0) : sumD ((l ++ two (sumD l)) ++ (l ++ two (sumD l))) = 0 := by
  have h1 := sealed_right l h
  generalize hs : l ++ two (sumD l) = s at *
  have hl : s.length % 2 = 0 := by rw [← hs, List.length_append, two_length]; omega
  unfold sumD
  rw [ws_append, side_even _ _ hl]
  rw [fold_full] at h1
  have : fold (ws true s + ws true s) = 65535 := by rw [fold_full]; omega
  omega
theorem sealed_more (l c : List UInt8) (h : l.length % 2 = 0) : sumD ((l ++ two (sumD l)) ++ c) = 0 ↔ (sumD c = 0 ∨ sumD c = 65535) := by
  have h1 := sealed_right l h
  generalize hs : l ++ two (sumD l) = s at *
  have hl : s.length % 2 = 0 := by rw [← hs, List.length_append, two_length]; omega
  unfold sumD
  rw [ws_append, side_even _ _ hl]
  rw [fold_full] at h1
  have l1 := fold_le (ws true s + ws true c)
  have l2 := fold_le (ws true c)
  have f1 := fold_full (ws true s + ws true c)
  have f2 := fold_full (ws true c)
  have f3 := fold_zero (ws true c)
  omega

/-- The update of a sum. -/
def updD (s old fresh : Nat) : Nat := 65535 - fold (65535 - s + (65535 - old) + fresh)
theorem ws_mid (a b c : List UInt8) (ha : a.length % 2 = 0) (hb : b.length = 2) : ws true (a ++ b ++ c) = ws true a + ws true b + ws true c := by
  rw [ws_append, ws_append, List.length_append, hb, side_even _ _ ha, side_even _ _ (by omega)]
theorem upd_sum (a b c : List UInt8) (fresh : Nat) (ha : a.length % 2 = 0) (hb : b.length = 2) (hf : fresh ≤ 65535) (h1 : ws true (a ++ b ++ c) ≠ 0) (h2 : ws true (a ++ two fresh ++ c) ≠ 0) :
    updD (sumD (a ++ b ++ c)) (ws true b) fresh = sumD (a ++ two fresh ++ c) := by
  have hb2 : ws true b ≤ 65535 := by
    match b, hb with
    | [x, y], _ =>
      have h1 := x.toNat_lt
      have h2 := y.toNat_lt
      simp only [ws]
      omega
  have e2 : ws true (two fresh) = fresh := ws_two fresh hf
  unfold updD sumD
  rw [ws_mid _ _ _ ha hb] at h1
  rw [ws_mid _ _ _ ha (two_length _), e2] at h2
  rw [ws_mid _ _ _ ha hb, ws_mid _ _ _ ha (two_length _), e2]
  clear e2
  generalize ws true a = x at *
  generalize ws true b = y at *
  generalize ws true c = z at *
  have e : fold (65535 - (65535 - fold (x + y + z)) + (65535 - y) + fresh) = fold (x + fresh + z) := by
    unfold fold
    rw [if_neg h1, if_neg h2, if_neg (by omega)]
    omega
  rw [e]

/-- Bytes that aren't all 00 have a sum that isn't FFFF. -/
theorem ws_zero (hi : Bool) (l : List UInt8) : ws hi l = 0 ↔ l = List.replicate l.length 0 := by
  induction l generalizing hi with
  | nil => simp [ws_nil]
  | cons c r ih =>
    rw [ws_cons, List.length_cons, List.replicate_succ, List.cons.injEq, ← ih (!hi)]
    have : c = 0 ↔ c.toNat = 0 := ⟨fun h => by subst h; rfl, fun h => UInt8.toNat_inj.1 (by simpa using h)⟩
    rw [this]
    split <;> omega

theorem two_bytes (x y : UInt8) : two (x.toNat * 256 + y.toNat) = [x, y] := by
  have h1 := x.toNat_lt
  have h2 := y.toNat_lt
  have e1 : UInt8.ofNat ((x.toNat * 256 + y.toNat) / 256 % 256) = x := UInt8.toNat_inj.1 (by rw [UInt8.toNat_ofNat']; omega)
  have e2 : UInt8.ofNat ((x.toNat * 256 + y.toNat) % 256) = y := UInt8.toNat_inj.1 (by rw [UInt8.toNat_ofNat']; omega)
  unfold two
  rw [e1, e2]
theorem cut_two (l : List UInt8) (p : Nat) (hp : p + 2 ≤ l.length) : l = l.take p ++ [l[p], l[p + 1]] ++ l.drop (p + 2) := by
  have h1 : l.drop p = l[p] :: l.drop (p + 1) := List.drop_eq_getElem_cons (by omega)
  have h2 : l.drop (p + 1) = l[p + 1] :: l.drop (p + 2) := List.drop_eq_getElem_cons (by omega)
  have h3 := List.take_append_drop p l
  rw [h1, h2] at h3
  rw [List.append_assoc]
  exact h3.symm
/-- An update, and back. -/
theorem both_ways (l y : List UInt8) (p fresh old : Nat) (hp : p + 2 ≤ l.length) (he : p % 2 = 0) (hf : fresh ≤ 65535) (hy : y = l.take p ++ two fresh ++ l.drop (p + 2))
    (h1 : l ≠ List.replicate l.length 0) (h2 : y ≠ List.replicate l.length 0) (ho : old = l[p].toNat * 256 + l[p + 1].toNat) :
    updD (sumD l) old fresh = sumD y ∧ updD (sumD y) fresh old = sumD l ∧ old ≤ 65535 := by
  have hl := cut_two l p hp
  have ht : (l.take p).length % 2 = 0 := by rw [List.length_take, Nat.min_eq_left (by omega)]; exact he
  have hyl : y.length = l.length := by
    rw [hy]
    simp only [List.length_append, List.length_take, List.length_drop, two_length]
    omega
  have n1 : ws true l ≠ 0 := fun h => h1 ((ws_zero true l).1 h)
  have n2 : ws true y ≠ 0 := fun h => h2 (by have := (ws_zero true y).1 h; rw [hyl] at this; exact this)
  have hx := l[p].toNat_lt
  have hz := l[p + 1].toNat_lt
  have h2b : two old = [l[p], l[p + 1]] := by rw [ho]; exact two_bytes _ _
  have hol : old ≤ 65535 := by omega
  have hwb : ws true [l[p], l[p + 1]] = old := by rw [← h2b]; exact ws_two old hol
  have hwf : ws true (two fresh) = fresh := ws_two fresh hf
  generalize l.take p = a at *
  generalize l.drop (p + 2) = c at *
  generalize [l[p], l[p + 1]] = b at *
  have hbl : b.length = 2 := by rw [← h2b]; rfl
  refine ⟨?_, ?_, hol⟩
  · have := upd_sum a b c fresh ht hbl hf (by rw [← hl]; exact n1) (by rw [← hy]; exact n2)
    rw [hwb, ← hl, ← hy] at this
    exact this
  · have := upd_sum a (two fresh) c old ht rfl hol (by rw [← hy]; exact n2) (by rw [h2b, ← hl]; exact n1)
    rw [hwf, h2b, ← hl, ← hy] at this
    exact this

end Go.Proofs.Ytoijomdgcgbpbaa

/-
  Carries, folded: the closure that keeps a total, and the turning over of 16 bits.
-/
namespace Go.Proofs.Ytoijomdgcgbpbaa
open Go.RowKit
set_option linter.unusedVariables false

set_option maxHeartbeats 400000 in
theorem turned_any (n : Int) (w : World) : Calls Try.prog 99 #[.int .i64 n] w fun e w' => e = .returned (.int .i64 (65535 - n % 65536)) ∧ w = w' := by
  have H := Lib.hid (i64_turn16 n)
  go_enter Try.func99, Try.ntmps99
  go_wp2_with fail
  go_ret
  exact ⟨by rw [H.out]; rfl, rfl⟩

/-- What the closure leaves. -/
def FoldEnd (b : Nat) (t : Nat) (w : World) (e : Ending) (w' : World) : Prop := e = .returned (.int .i64 t) ∧ Blk w' b #[.int .i64 t] 3 ∧ Kb (· = b) w w'

set_option maxHeartbeats 400000 in
theorem folding_any (b t n : Nat) (w : World) (hb : Blk w b #[.int .i64 t] 3) (ht : t ≤ 65535) (hn : n ≤ 4611686018427387904) :
    Calls Try.prog 101 #[.int .i64 n, .pointer (some ⟨b, 0, none⟩)] w (FoldEnd b (fold (t + n)) w) := by
  have c0 := hb.cell 0
  have f0 := hb.frozen 0
  simp at c0
  have hlt := hb.lt
  have HB := Lib.hid (hb.set 0 (.int .i64 ((t : Int) + n)))
  clear hb
  go_enter Try.func101, Try.ntmps101
  go_wp2_with fail
  clear c0 f0
  go_loopg [] (t + n) (fun g wr => ∃ x : Nat, x ≤ g ∧ x ≤ 4611686018427453439 ∧ Hid (fold x = fold (t + n)) ∧ Hid (Blk wr b #[.int .i64 x] 3) ∧ Hid (Kb (· = b) w wr))
  case atStart =>
    exact ⟨t + n, Nat.le_refl _, by omega, Lib.hid rfl, Lib.hid (by simpa using HB.out), Lib.hid (Kb.setCell (S := (· = b)) (Kb.refl _ _) (p := ⟨b, 0, none⟩) (fun _ => rfl) _)⟩
  case round =>
    obtain ⟨x, hx, hx2, hf, hbl, hkb⟩ := hrel
    have c0 := hbl.out.cell 0
    have f0 := hbl.out.frozen 0
    simp at c0
    by_cases hgt : 65535 < x
    · have h1 := Lib.hid (fold_step x hgt)
      have h2 := fold_lt x hgt
      have hm := i64_and65535 (x : Int)
      have HN := Lib.hid (hbl.out.set 0 (.int .i64 ((x : Int) % 65536 + (x : Int) / 65536)))
      go_wp2_with fail
      have he : ((x : Int) % 65536 + (x : Int) / 65536) = ((x % 65536 + x / 65536 : Nat) : Int) := by omega
      have HE := Lib.hid he
      clear he
      go_roundg (x % 65536 + x / 65536)
      case measure => omega
      case rel =>
        refine ⟨_, Nat.le_refl _, by omega, Lib.hid (h1.out.trans hf.out), Lib.hid ?_, Lib.hid ?_⟩
        · have := HN.out
          rw [HE.out] at this
          rw [HE.out]
          simpa using this
        · exact Kb.setCell (S := (· = b)) hkb.out (p := ⟨b, 0, none⟩) (fun _ => rfl) _
    · have h1 := Lib.hid (fold_small x (by omega))
      go_wp2_with fail
      go_ret
      have h3 : fold (t + n) = x := hf.out.symm.trans h1.out
      rw [h3]
      exact ⟨rfl, hbl.out, hkb.out⟩

/-- A fresh total. -/
def FreshEnd (w : World) (e : Ending) (w' : World) : Prop :=
  e = .returned (.func (Fn.func 101) #[] #[.pointer (some ⟨w.heap.size, 0, none⟩)]) ∧ w' = w.alloc (.cells #[.int .i64 0] 3)
set_option maxHeartbeats 400000 in
theorem fresh_any (w : World) : Calls Try.prog 98 #[] w (FreshEnd w) := by
  have hmf : ∀ (fn : Fn) (first cap : Array Value) (w : World), (Instr.makeFunc fn first cap).run Try.prog w = .ok (.func fn first cap) w := fun _ _ _ _ => rfl
  go_enter Try.func98, Try.ntmps98
  go_wp2_with fail
  go_ret
  exact ⟨rfl, rfl⟩

end Go.Proofs.Ytoijomdgcgbpbaa

/-
  Sum and Right: the sum of all parts, one behind the other.
-/
namespace Go.Proofs.Ytoijomdgcgbpbaa
open Go.RowKit
set_option linter.unusedVariables false

/-- All parts' bytes, one behind the other. -/
abbrev joinedB (P : Nat → ByteArray) (n : Nat) : List UInt8 := joined (fun i => (P i).data.toList) n

/-- The place of the next byte, as the code holds it. -/
def Sh (b : Bool) (v : Value) : Prop := (b = true ∧ v = .int .i64 8) ∨ (b = false ∧ v = .int .i64 0)

/-- Sum's end. -/
def SumEnd (n : Nat) (w : World) (e : Ending) (w' : World) : Prop := e = .returned (.int .i64 n) ∧ Below w.heap.size w w'

theorem take_snoc (s : ByteArray) (k : Nat) (h : k < s.size) : s.data.toList.take (k + 1) = s.data.toList.take k ++ [s[k]] := by
  rw [List.take_succ_eq_append_getElem (by simpa using h)]; rfl
theorem ws_take (hi : Bool) (s : ByteArray) (k : Nat) (h : k < s.size) : ws hi (s.data.toList.take (k + 1)) = ws hi (s.data.toList.take k) + (if side hi k then 256 else 1) * s[k].toNat := by
  have hl : (s.data.toList.take k).length = k := by
    rw [List.length_take]
    have : s.data.toList.length = s.size := by simp
    omega
  rw [take_snoc s k h, ws_snoc, hl]

theorem joinedB_mono (P : Nat → ByteArray) {m n : Nat} (h : m ≤ n) : (joinedB P m).length ≤ (joinedB P n).length := by
  induction n with
  | zero => have : m = 0 := by omega
            subst this; exact Nat.le_refl _
  | succ n ih =>
    by_cases e : m = n + 1
    · subst e; exact Nat.le_refl _
    · have := ih (by omega)
      simp only [joinedB, joined, List.length_append] at *
      omega
theorem joinedB_le (P : Nat → ByteArray) {k n : Nat} (h : k < n) : (P k).size ≤ (joinedB P n).length := by
  have := joinedB_mono P (show k + 1 ≤ n from h)
  simp only [joinedB, joined, List.length_append] at *
  simp at this
  omega

set_option maxRecDepth 100000 in
set_option maxHeartbeats 1000000 in
theorem sum_any (a : Option Addr) (len cap : Nat) (P : Nat → ByteArray) (w : World) (hC : StrsAt w w.heap.size a len P) (hl : (joinedB P len).length ≤ 1099511627776) (hlen : len ≤ 140737488355328) :
    Calls Try.prog 89 #[.slice a len cap] w (SumEnd (sumD (joinedB P len)) w) := by
  have HC := Lib.hid hC
  have HL := Lib.hid hl
  clear hC hl
  go_enter Try.func89, Try.ntmps89
  go_wp2_with fail
  refine (fresh_any _).mono ?_
  rintro e w' ⟨rfl, rfl⟩
  have HB0 := Lib.hid (Blk.new w #[.int .i64 ((0 : Nat) : Int)] 3)
  go_wp2_with fail
  go_loopw [4, 5, 13] (fun sh tt i wr => ∃ k : Nat, k ≤ len ∧ i = .int .i64 k ∧ Hid (Sh (side true (joinedB P k).length) sh) ∧ tt = .int .i64 (fold (ws true (joinedB P k)) : Nat) ∧ Hid (Blk wr w.heap.size #[.int .i64 (fold (ws true (joinedB P k)) : Nat)] 3) ∧ Hid (Below w.heap.size w wr)) (fun _ _ i _ => len - (intOf i).toNat)
  case atStart => exact ⟨0, Nat.zero_le _, rfl, Lib.hid (Or.inl ⟨rfl, rfl⟩), rfl, HB0, Lib.hid ((Below.refl _ _).alloc (Nat.le_refl _) _)⟩
  case round =>
    obtain ⟨k, hk, rfl, hsh, rfl, hblk, hbel⟩ := hrel
    by_cases hlt : k < len
    · obtain h0 | ⟨cb, off, rfl, hcb, hc⟩ := HC.out
      · omega
      have cP := (hbel.out.cell (p := ⟨cb, off + k, none⟩) hcb).trans (hc k hlt)
      clear hc
      have hps : (P k).size ≤ 1099511627776 := by
        have h1 := HL.out
        have h2 := joinedB_le P hlt
        omega
      have HJ := Lib.hid (joined_fold (fun i => (P i).data.toList) k)
      have HF := fold_le (ws true (joinedB P k))
      have HSD := Lib.hid (show side (side true (joinedB P k).length) (P k).size = side true (joinedB P (k + 1)).length by simp only [side_add, joinedB, joined, List.length_append]; simp)
      simp only [show (joined (fun i => (P i).data.toList) k) = joinedB P k from rfl] at HJ
      generalize fold (ws true (joinedB P k)) = f0 at *
      generalize side true (joinedB P k).length = s0 at *
      generalize hpk : P k = ps at *
      have HPK := Lib.hid hpk
      clear hpk
      go_wp2_with fail
      go_loop [4, 8, 19] (fun sh he i => ∃ j : Nat, j ≤ ps.size ∧ i = .int .i64 j ∧ he = .int .i64 (ws s0 (ps.data.toList.take j) : Nat) ∧ Hid (Sh (side s0 j) sh)) (fun _ _ i => ps.size - (intOf i).toNat)
      case atStart => exact ⟨0, Nat.zero_le _, rfl, by simp [ws_nil], hsh⟩
      case round =>
        obtain ⟨j, hj, rfl, rfl, hs⟩ := hrel
        have hwl : ws s0 (ps.data.toList.take j) ≤ 71777218556133120 := by
          have h1 := ws_le s0 (ps.data.toList.take j)
          have h2 : (ps.data.toList.take j).length ≤ j := List.length_take_le _ _
          omega
        by_cases hjl : j < ps.size
        · have HW := Lib.hid (ws_take s0 ps j hjl)
          have HS := Lib.hid (side_succ s0 j)
          have hcl := ps[j].toNat_lt
          generalize ws s0 (ps.data.toList.take j) = x at *
          rcases hs.out with ⟨hsd, rfl⟩ | ⟨hsd, rfl⟩
          · have HSD := Lib.hid hsd
            clear hsd hs
            go_wp2_with fail
            exact ⟨⟨j + 1, by omega, by go_num, by rw [HW.out, if_pos HSD.out, Nat.mul_comm]; go_num, Lib.hid (by rw [HS.out, HSD.out]; exact Or.inr ⟨rfl, rfl⟩)⟩, by simp [intOf]; omega⟩
          · have HSD := Lib.hid hsd
            clear hsd hs
            go_wp2_with fail
            exact ⟨⟨j + 1, by omega, by go_num, by rw [HW.out, if_neg (by rw [HSD.out]; simp), Nat.one_mul]; go_num, Lib.hid (by rw [HS.out, HSD.out]; exact Or.inl ⟨rfl, rfl⟩)⟩, by simp [intOf]; omega⟩
        · have hje := Lib.hid (show j = ps.size by omega)
          go_wp2_with fail
          refine (folding_any _ f0 _ wr hblk.out HF (by omega)).mono ?_
          rintro e w'' ⟨rfl, hb2, hk2⟩
          have HW : Hid (ws s0 (ps.data.toList.take j) = ws s0 ps.data.toList) := by
            show ws s0 (ps.data.toList.take j) = ws s0 ps.data.toList
            rw [List.take_of_length_le (by have := hje.out; simp; omega)]
          have HB2 := Lib.hid hb2
          have HK2 := Lib.hid (hbel.out.trans (hk2.below_new hbel.out.size))
          clear hb2 hk2
          have HS2 : Hid (Sh (side true (joinedB P (k + 1)).length) u4) := by
            show Sh (side true (joinedB P (k + 1)).length) u4
            rw [← HSD.out, ← hje.out]
            exact hs.out
          have HF2 : Hid (fold (f0 + ws s0 (ps.data.toList.take j)) = fold (ws true (joinedB P (k + 1)))) := by
            show fold (f0 + ws s0 (ps.data.toList.take j)) = fold (ws true (joinedB P (k + 1)))
            rw [HW.out]; exact HJ.out
          generalize fold (f0 + ws s0 (ps.data.toList.take j)) = f1 at *
          go_wp2_with fail
          go_roundw
          case rel => exact ⟨k + 1, by omega, by go_num, HS2, by rw [HF2.out], by rw [← HF2.out]; exact HB2, HK2⟩
          case measure => simp [intOf]; omega
    · have hkl := Lib.hid (show k = len by omega)
      have HF := fold_le (ws true (joinedB P k))
      have HD : Hid (65535 - ((fold (ws true (joinedB P k)) : Nat) : Int) % 65536 = ((sumD (joinedB P len) : Nat) : Int)) := by
        show 65535 - ((fold (ws true (joinedB P k)) : Nat) : Int) % 65536 = ((sumD (joinedB P len) : Nat) : Int)
        rw [hkl.out] at HF ⊢
        unfold sumD
        omega
      go_wp2_with fail
      refine (turned_any _ _).mono ?_
      rintro e w'' ⟨rfl, rfl⟩
      go_wp2_with fail
      go_ret
      exact ⟨by rw [HD.out]; rfl, hbel.out⟩

end Go.Proofs.Ytoijomdgcgbpbaa

/-
  Sum and Right at literals of parts; Update; the laws' 'awake'.
-/
namespace Go.Proofs.Ytoijomdgcgbpbaa
open Go.RowKit
set_option linter.unusedVariables false

/-- Right's end. -/
def RightEnd (b : Bool) (w : World) (e : Ending) (w' : World) : Prop := e = .returned (.bool b) ∧ Below w.heap.size w w'

set_option maxHeartbeats 400000 in
theorem right_any (a : Option Addr) (len cap : Nat) (P : Nat → ByteArray) (w : World) (b : Bool) (hC : StrsAt w w.heap.size a len P) (hl : (joinedB P len).length ≤ 1099511627776) (hlen : len ≤ 140737488355328) (hb : decide (sumD (joinedB P len) = 0) = b) :
    Calls Try.prog 72 #[.slice a len cap] w (RightEnd b w) := by
  have HS := Lib.hid (sum_any a len cap P w hC hl hlen)
  have hb1 : (((sumD (joinedB P len) : Nat) : Int) == 0) = b := by
    rw [← hb]
    by_cases h : sumD (joinedB P len) = 0
    · simp [h]
    · simp [h]
  clear hC hl hlen hb
  generalize sumD (joinedB P len) = n at *
  have HB := Lib.hid hb1
  clear hb1
  go_enter Try.func72, Try.ntmps72
  go_wp2_with fail
  refine HS.out.mono ?_
  rintro e w' ⟨rfl, hb⟩
  have HBL := Lib.hid hb
  clear hb HS
  cases b
  · have h1 := HB.out
    go_wp2_with fail
    go_ret
    exact ⟨rfl, HBL.out⟩
  · have h1 := HB.out
    go_wp2_with fail
    go_ret
    exact ⟨rfl, HBL.out⟩

theorem joined_1 (x : ByteArray) : joinedB (strsOf [x]) 1 = x.data.toList := by simp [joinedB, joined, strsOf]
theorem joined_2 (x y : ByteArray) : joinedB (strsOf [x, y]) 2 = x.data.toList ++ y.data.toList := by simp [joinedB, joined, strsOf]
theorem joined_3 (x y z : ByteArray) : joinedB (strsOf [x, y, z]) 3 = x.data.toList ++ y.data.toList ++ z.data.toList := by simp [joinedB, joined, strsOf]

theorem lit_sum (l : List ByteArray) (w : World) (n : Nat) (cs : Array Value) (hcs : cs = (l.map Value.string).toArray) (hn : n = l.length) (hl : (joinedB (strsOf l) n).length ≤ 1099511627776) (hlen : n ≤ 140737488355328) :
    Calls Try.prog 89 #[.slice (some ⟨w.heap.size, 0, none⟩) n n] (w.alloc (.cells cs 9)) (SumEnd (sumD (joinedB (strsOf l) n)) w) := by
  subst hcs hn
  refine (sum_any _ _ _ (strsOf l) _ ((strs_new w l 9).mono (by simp)) hl hlen).mono fun e w' h => ⟨h.1, ?_⟩
  exact ((Below.refl _ _).alloc (Nat.le_refl _) _).trans (h.2.mono (by simp))
theorem lit_right (l : List ByteArray) (w : World) (n : Nat) (b : Bool) (cs : Array Value) (hcs : cs = (l.map Value.string).toArray) (hn : n = l.length) (hl : (joinedB (strsOf l) n).length ≤ 1099511627776) (hlen : n ≤ 140737488355328) (hb : decide (sumD (joinedB (strsOf l) n) = 0) = b) :
    Calls Try.prog 72 #[.slice (some ⟨w.heap.size, 0, none⟩) n n] (w.alloc (.cells cs 9)) (RightEnd b w) := by
  subst hcs hn
  refine (right_any _ _ _ (strsOf l) _ b ((strs_new w l 9).mono (by simp)) hl hlen hb).mono fun e w' h => ⟨h.1, ?_⟩
  exact ((Below.refl _ _).alloc (Nat.le_refl _) _).trans (h.2.mono (by simp))

theorem size_list (s : ByteArray) : s.data.toList.length = s.size := by simp

theorem sum_1 (x : ByteArray) (w : World) (h : x.size ≤ 1000000) :
    Calls Try.prog 89 #[.slice (some ⟨w.heap.size, 0, none⟩) 1 1] (w.alloc (.cells #[.string x] 9)) (SumEnd (sumD x.data.toList) w) := by
  have := lit_sum [x] w 1 #[.string x] rfl rfl (by rw [joined_1, size_list]; omega) (by omega)
  rwa [joined_1] at this
theorem sum_3 (x y z : ByteArray) (w : World) (hx : x.size ≤ 1000000) (hy : y.size ≤ 1000000) (hz : z.size ≤ 1000000) :
    Calls Try.prog 89 #[.slice (some ⟨w.heap.size, 0, none⟩) 3 3] (w.alloc (.cells #[.string x, .string y, .string z] 9)) (SumEnd (sumD (x.data.toList ++ y.data.toList ++ z.data.toList)) w) := by
  have := lit_sum [x, y, z] w 3 #[.string x, .string y, .string z] rfl rfl (by rw [joined_3]; simp only [List.length_append, size_list]; omega) (by omega)
  rwa [joined_3] at this
theorem right_1 (x : ByteArray) (w : World) (b : Bool) (h : x.size ≤ 1000000) (hb : decide (sumD x.data.toList = 0) = b) :
    Calls Try.prog 72 #[.slice (some ⟨w.heap.size, 0, none⟩) 1 1] (w.alloc (.cells #[.string x] 9)) (RightEnd b w) :=
  lit_right [x] w 1 b #[.string x] rfl rfl (by rw [joined_1, size_list]; omega) (by omega) (by rw [joined_1]; exact hb)
theorem right_2 (x y : ByteArray) (w : World) (b : Bool) (hx : x.size ≤ 1000000) (hy : y.size ≤ 1000000) (hb : decide (sumD (x.data.toList ++ y.data.toList) = 0) = b) :
    Calls Try.prog 72 #[.slice (some ⟨w.heap.size, 0, none⟩) 2 2] (w.alloc (.cells #[.string x, .string y] 9)) (RightEnd b w) :=
  lit_right [x, y] w 2 b #[.string x, .string y] rfl rfl (by rw [joined_2]; simp only [List.length_append, size_list]; omega) (by omega) (by rw [joined_2]; exact hb)

theorem sum_1n (x : ByteArray) (w : World) (N : Nat) (hN : N = w.heap.size) (h : x.size ≤ 1000000) :
    Calls Try.prog 89 #[.slice (some ⟨N, 0, none⟩) 1 1] (w.alloc (.cells #[.string x] 9)) (SumEnd (sumD x.data.toList) w) := by
  subst hN; exact sum_1 x w h
theorem right_1n (x : ByteArray) (w : World) (N : Nat) (hN : N = w.heap.size) (b : Bool) (h : x.size ≤ 1000000) (hb : decide (sumD x.data.toList = 0) = b) :
    Calls Try.prog 72 #[.slice (some ⟨N, 0, none⟩) 1 1] (w.alloc (.cells #[.string x] 9)) (RightEnd b w) := by
  subst hN; exact right_1 x w b h hb
theorem right_2n (x y : ByteArray) (w : World) (N : Nat) (hN : N = w.heap.size) (b : Bool) (hx : x.size ≤ 1000000) (hy : y.size ≤ 1000000) (hb : decide (sumD (x.data.toList ++ y.data.toList) = 0) = b) :
    Calls Try.prog 72 #[.slice (some ⟨N, 0, none⟩) 2 2] (w.alloc (.cells #[.string x, .string y] 9)) (RightEnd b w) := by
  subst hN; exact right_2 x y w b hx hy hb

theorem awake_sum : sumD (⟨#[69, 0]⟩ : ByteArray).data.toList = 47871 := by decide +kernel
/-- The update of any numbers. -/
def updI (a b c : Int) : Nat := 65535 - fold ((65535 - a % 65536).toNat + (65535 - b % 65536).toNat + (c % 65536).toNat)

theorem updI_nat (a b c : Nat) (ha : a ≤ 65535) (hb : b ≤ 65535) (hc : c ≤ 65535) : updI a b c = updD a b c := by
  have e1 : ((65535 : Int) - (a : Int) % 65536).toNat = 65535 - a := by omega
  have e2 : ((65535 : Int) - (b : Int) % 65536).toNat = 65535 - b := by omega
  have e3 : ((c : Int) % 65536).toNat = c := by omega
  unfold updI updD
  rw [e1, e2, e3]

end Go.Proofs.Ytoijomdgcgbpbaa

/-
  Pseudo: what stands ahead of a segment, by the code and by the document.
-/
namespace Go.Proofs.Ytoijomdgcgbpbaa
open Go.RowKit
set_option linter.unusedVariables false

/-- A number's byte, the k-th from the lowest. -/
def byteAt (n : Int) (k : Nat) : UInt8 := UInt8.ofNat (n / 256 ^ k % 256).toNat
/-- What stands ahead. -/
def pseudoD (src dst : List UInt8) (proto n : Int) : List UInt8 :=
  if src.length = 16 then src ++ dst ++ [byteAt n 3, byteAt n 2, byteAt n 1, byteAt n 0, 0, 0, 0, byteAt proto 0] else src ++ dst ++ [0, byteAt proto 0, byteAt n 1, byteAt n 0]

theorem byteAt_nat (n : Int) (k : Nat) : ((byteAt n k).toNat : Int) = n / 256 ^ k % 256 := by
  unfold byteAt
  rw [UInt8.toNat_ofNat']
  omega

/-- A literal of bytes added. -/
theorem own_new (w : World) (base : Nat) (v : Value) (l m : List UInt8) (cs : Array Value) (ty : TypeId) (h : OwnB w base v l) (hb : base ≤ w.heap.size) (n : Nat) (hn : n = m.length) (hcs : cs = (m.map fun c => Value.int .u8 (c.toNat : Int)).toArray) (hs : l.length + m.length ≤ 140737488355328) :
    ∃ v' w', (Builtin.append_ #[57, 57] ty #[v, .slice (some ⟨w.heap.size, 0, none⟩) n n]).run Try.prog (w.alloc (.cells cs 5)) = .ok v' w' ∧ OwnB w' base v' (l ++ m) ∧ Kb (fun k => base ≤ k) w w' := by
  obtain ⟨g, c, rfl, hbg, hg⟩ := h.slice
  have h1 : OwnB (w.alloc (.cells cs 5)) base (.slice (some ⟨g, 0, none⟩) l.length c) l := h.kb (S := fun _ => False) ((Kb.refl _ _).alloc _) (by simp)
  obtain ⟨v', w', r1, r2, r3⟩ := own_adds (w.alloc (.cells cs 5)) base _ l m w.heap.size n n ty h1 (by simp; omega) hn (fun j hj => by
    rw [(Blk.new w cs 5).cell j, hcs]
    simp [hj]) hs
  exact ⟨v', w', r1, r2, ((Kb.refl (fun k => base ≤ k) w).alloc _).trans r3⟩

/-- What the sum is of. -/
def ph9 (proto : Int) (src dst b : ByteArray) : List UInt8 := pseudoD src.data.toList dst.data.toList proto (b.size : Nat) ++ b.data.toList
theorem pseudo_len (src dst : ByteArray) (proto n : Int) : (pseudoD src.data.toList dst.data.toList proto n).length ≤ src.size + dst.size + 8 := by
  unfold pseudoD
  split <;> simp only [List.length_append, size_list, List.length_cons, List.length_nil] <;> omega

end Go.Proofs.Ytoijomdgcgbpbaa

/-
  The document's own answers: Sum and Update, by definition.
-/
namespace Go.Proofs.Ytoijomdgcgbpbaa
open Go.RowKit
set_option linter.unusedVariables false

set_option maxRecDepth 100000 in
set_option maxHeartbeats 400000 in
theorem down_any (n : Nat) (w : World) (hn : n ≤ 4611686018427387904) : Calls Try.prog 64 #[.int .i64 n] w fun e w' => e = .returned (.int .i64 (fold n : Nat)) ∧ w = w' := by
  go_enter Try.func64, Try.ntmps64
  go_wp2_with fail
  go_loop [0] (fun v => ∃ x : Nat, x ≤ 4611686018427387904 ∧ v = .int .i64 x ∧ Hid (fold x = fold n)) (fun v => (intOf v).toNat)
  case atStart => exact ⟨n, hn, rfl, Lib.hid rfl⟩
  case round =>
    obtain ⟨x, hx, rfl, hf⟩ := hrel
    by_cases hgt : 65535 < x
    · have h1 := Lib.hid (fold_step x hgt)
      have h2 := Lib.hid (fold_lt x hgt)
      have hg := Lib.hid hgt
      have t1 : decide ((65536 : Int) ≤ (x : Int)) = true := by simp; omega
      have x0 : (0 : Int) ≤ x := by omega
      have x1 : (x : Int) ≤ 4611686018427387904 := by omega
      have HX := Lib.hid hx
      clear hgt hx hn
      go_wp2_with fail
      have k2 := h2.out
      have k3 := HX.out
      exact ⟨⟨x % 65536 + x / 65536, by omega, by go_num, Lib.hid (h1.out.trans hf.out)⟩, by simp [intOf]; omega⟩
    · have h1 := Lib.hid (fold_small x (by omega))
      have t1 : decide ((65536 : Int) ≤ (x : Int)) = false := by simp; omega
      clear hgt hx hn
      go_wp2_with fail
      go_ret
      have h3 : fold n = x := hf.out.symm.trans h1.out
      rw [h3]
      exact ⟨rfl, rfl⟩

/-- A text with a byte 00 behind it, if its length is odd. -/
theorem ws_pad (l : List UInt8) : ws true (l ++ [0]) = ws true l := by
  rw [ws_snoc]
  simp

theorem conv_zero (w : World) : (convert 57 9 (.slice (some ⟨w.heap.size, 0, none⟩) 1 1)).run Try.prog (w.alloc (.cells #[.int .u8 0] 5)) = .ok (.string ⟨#[0]⟩) (w.alloc (.cells #[.int .u8 0] 5)) :=
  conv_new w [0] _ rfl 1 rfl

theorem ws_pair (s : ByteArray) (j : Nat) (he : j % 2 = 0) (h : j + 1 < s.size) : ws true (s.data.toList.take (j + 2)) = ws true (s.data.toList.take j) + s[j].toNat * 256 + s[j + 1].toNat := by
  rw [show j + 2 = (j + 1) + 1 by omega, ws_take true s (j + 1) h, ws_take true s j (by omega), side_succ, side_even true j he]
  simp
  omega

set_option maxRecDepth 100000 in
set_option maxHeartbeats 1000000 in
theorem refsum_any (s : ByteArray) (w : World) (hs : s.size ≤ 1000000) :
    Calls Try.prog 42 #[.string s] w (SumEnd (sumD s.data.toList) w) := by
  obtain ⟨N, hN⟩ : ∃ N, sumD s.data.toList = N := ⟨_, rfl⟩
  rw [hN]
  have HN := Lib.hid hN
  clear hN
  go_enter Try.func42, Try.ntmps42
  go_upto_if 8 with (fail)
  go_cut [0] (fun v wx => ∃ S : ByteArray, v = .string S ∧ S.size ≤ 1000001 ∧ Hid (S.size % 2 = 0) ∧ Hid (sumD S.data.toList = N) ∧ Hid (Below w.heap.size w wx))
  case first =>
    by_cases odd : s.size % 2 = 1
    · have t1 : ((s.size : Int) % 2 == 1) = true := by simp; omega
      have hcv := conv_zero w
      obtain ⟨T, hT⟩ : ∃ T : ByteArray, (⟨#[0]⟩ : ByteArray) = T := ⟨_, rfl⟩
      rw [hT] at hcv
      have hTs : T.size ≤ 1 := by rw [← hT]; exact Nat.le_refl _
      have HT := Lib.hid hT
      clear hT
      have OD := Lib.hid odd
      clear odd
      go_wp2_with fail
      go_meet
      refine ⟨s ++ T, rfl, by rw [cat_size]; omega, Lib.hid ?_, Lib.hid ?_, Lib.hid ((Below.refl w.heap.size w).alloc (Nat.le_refl _) _)⟩
      · have h1 := OD.out
        rw [cat_size, ← HT.out]
        show (s.size + 1) % 2 = 0
        omega
      · rw [← HN.out, cat_list, ← HT.out]
        unfold sumD
        exact congrArg _ (congrArg _ (ws_pad _))
    · have t1 : ((s.size : Int) % 2 == 1) = false := by simp; omega
      have OD := Lib.hid (show s.size % 2 = 0 by omega)
      clear odd
      go_wp2_with fail
      go_meet
      exact ⟨s, rfl, by omega, OD, HN, Lib.hid (Below.refl _ _)⟩
  case rest =>
    obtain ⟨S, rfl, hSs, HSE, HS, HB1⟩ := hcut
    clear HN hs
    go_wp2_with fail
    go_loopw [3, 4] (fun n i wr => ∃ j : Nat, j ≤ S.size ∧ Hid (j % 2 = 0) ∧ i = .int .i64 j ∧ n = .int .i64 (ws true (S.data.toList.take j) : Nat) ∧ Hid (Below w.heap.size w wr)) (fun _ i _ => S.size - (intOf i).toNat)
    case atStart => exact ⟨0, Nat.zero_le _, Lib.hid rfl, rfl, rfl, HB1⟩
    case round =>
      obtain ⟨j, hj, hje, rfl, rfl, hbel⟩ := hrel
      have hwl : ws true (S.data.toList.take j) ≤ 65281000000 := by
        have h1 := ws_le true (S.data.toList.take j)
        have h2 : (S.data.toList.take j).length ≤ j := List.length_take_le _ _
        omega
      by_cases hlt : j < S.size
      · have hj1 : j + 1 < S.size := by have h1 := hje.out; have h2 := HSE.out; omega
        have HW := Lib.hid (ws_pair S j hje.out hj1)
        have HJ2 := Lib.hid (show (j + 2) % 2 = 0 by have := hje.out; omega)
        have c0 := S[j].toNat_lt
        have c1 := S[j + 1].toNat_lt
        generalize ws true (S.data.toList.take j) = x at *
        have e1 : IntKind.i64.wrap ((j : Int) + 1) = ((j + 1 : Nat) : Int) := (IntWalk.i64_in _ (by omega)).trans (by omega)
        have e2 : IntKind.i64.wrap ((S[j].toNat : Int)) = (S[j].toNat : Int) := IntWalk.i64_in _ (by omega)
        have e3 : IntKind.i64.wrap ((S[j].toNat : Int) * 256) = (S[j].toNat : Int) * 256 := IntWalk.i64_in _ (by omega)
        have e4 : IntKind.i64.wrap ((x : Int) + (S[j].toNat : Int) * 256) = (x : Int) + (S[j].toNat : Int) * 256 := IntWalk.i64_in _ (by omega)
        have e5 : IntKind.i64.wrap ((S[j + 1].toNat : Int)) = (S[j + 1].toNat : Int) := IntWalk.i64_in _ (by omega)
        have e6 : IntKind.i64.wrap ((x : Int) + (S[j].toNat : Int) * 256 + (S[j + 1].toNat : Int)) = (x : Int) + (S[j].toNat : Int) * 256 + (S[j + 1].toNat : Int) := IntWalk.i64_in _ (by omega)
        obtain ⟨j1, hj1e⟩ : ∃ j1, j + 1 = j1 := ⟨_, rfl⟩
        simp only [hj1e] at *
        have b0 : (0 : Int) ≤ j := by omega
        have b1 : (j : Int) < S.size := by omega
        have b2 : (0 : Int) ≤ j1 := by omega
        have b3 : (j1 : Int) < S.size := by omega
        have HJ1 := Lib.hid hj1e
        clear hj1e
        go_wp2_with fail
        go_quiet (fail)
        clear e1 e2 e3 e4 e5 e6
        go_wp2_with fail
        exact ⟨⟨j + 2, by omega, HJ2, by go_num, by rw [HW.out]; go_num, Lib.hid (below_drewN hbel.out nq)⟩, by simp [intOf]; omega⟩
      · have hkl := Lib.hid (show j = S.size by omega)
        have hfl := fold_le (ws true (S.data.toList.take j))
        have HE : Hid ((65535 : Int) - (fold (ws true (S.data.toList.take j)) : Nat) = (N : Int)) := by
          show (65535 : Int) - (fold (ws true (S.data.toList.take j)) : Nat) = (N : Int)
          have h1 := HS.out
          rw [List.take_of_length_le (by have := hkl.out; simp; omega)] at hfl ⊢
          unfold sumD at h1
          omega
        go_wp2_with fail
        refine (down_any _ _ (by omega)).mono ?_
        rintro e w' ⟨rfl, rfl⟩
        go_wp2_with fail
        go_ret
        exact ⟨by rw [HE.out]; rfl, hbel.out⟩


end Go.Proofs.Ytoijomdgcgbpbaa

/-
  SumTells, walked.
-/
namespace Go.Proofs.Ytoijomdgcgbpbaa
open Go.RowKit
set_option linter.unusedVariables false

theorem be_4 (n : Int) : be (n % 18446744073709551616).toNat 4 = [byteAt n 3, byteAt n 2, byteAt n 1, byteAt n 0] := by
  have e : ∀ k, k ≤ 3 → (n % 18446744073709551616).toNat / 256 ^ k % 256 = (n / 256 ^ k % 256).toNat := by
    intro k hk
    have : k = 0 ∨ k = 1 ∨ k = 2 ∨ k = 3 := by omega
    rcases this with rfl | rfl | rfl | rfl <;> simp <;> omega
  rw [be_succ, be_succ, be_succ, be_succ, e 3 (by omega), e 2 (by omega), e 1 (by omega), e 0 (by omega)]
  rfl
theorem be_2 (n : Int) : be (n % 18446744073709551616).toNat 2 = [byteAt n 1, byteAt n 0] := by
  have e : ∀ k, k ≤ 1 → (n % 18446744073709551616).toNat / 256 ^ k % 256 = (n / 256 ^ k % 256).toNat := by
    intro k hk
    have : k = 0 ∨ k = 1 := by omega
    rcases this with rfl | rfl <;> simp <;> omega
  rw [be_succ, be_succ, e 1 (by omega), e 0 (by omega)]
  rfl
theorem be_p4 (n : Int) : be (n % 256).toNat 4 = [0, 0, 0, byteAt n 0] := by
  have e : ∀ k, 1 ≤ k → k ≤ 3 → (n % 256).toNat / 256 ^ k % 256 = 0 := by
    intro k h1 hk
    have : k = 1 ∨ k = 2 ∨ k = 3 := by omega
    rcases this with rfl | rfl | rfl <;> simp <;> omega
  have e0 : (n % 256).toNat / 256 ^ 0 % 256 = (n / 256 ^ 0 % 256).toNat := by simp; omega
  rw [be_succ, be_succ, be_succ, be_succ, e 3 (by omega) (by omega), e 2 (by omega) (by omega), e 1 (by omega) (by omega), e0]
  rfl
theorem be_p2 (n : Int) : be (n % 256).toNat 2 = [0, byteAt n 0] := by
  have e : (n % 256).toNat / 256 ^ 1 % 256 = 0 := by simp; omega
  have e0 : (n % 256).toNat / 256 ^ 0 % 256 = (n / 256 ^ 0 % 256).toNat := by simp; omega
  rw [be_succ, be_succ, e, e0]
  rfl

/-- What Bytes answers, under a name. -/
def TextEnd (B : ByteArray) (w : World) (e : Ending) (w' : World) : Prop := e = .returned (.string B) ∧ Below w.heap.size w w'
theorem bytes_of_int (n : Int) (k : Nat) (hk : k ≤ 8) (l : List UInt8) (hl : be (n % 18446744073709551616).toNat k = l) :
    ∃ B : ByteArray, B.data.toList = l ∧ B.size = k ∧ ∀ w, Calls Try.prog 63 #[.int .u64 (IntKind.u64.wrap n), .int .i64 k] w (TextEnd B w) := by
  subst hl
  refine ⟨⟨(be (n % 18446744073709551616).toNat k).toArray⟩, rfl, by rw [list_size, be_length], fun w => ?_⟩
  have e : IntKind.u64.wrap n = ((n % 18446744073709551616).toNat : Int) := by
    simp [IntKind.wrap, IntKind.bits, IntKind.signed]
    omega
  rw [e]
  exact bytes_any _ k w (by omega) hk
theorem bytes_of_low (n : Int) (k : Nat) (hk : k ≤ 8) (l : List UInt8) (hl : be (n % 256).toNat k = l) :
    ∃ B : ByteArray, B.data.toList = l ∧ B.size = k ∧ ∀ w, Calls Try.prog 63 #[.int .u64 (n % 256), .int .i64 k] w (TextEnd B w) := by
  subst hl
  refine ⟨⟨(be (n % 256).toNat k).toArray⟩, rfl, by rw [list_size, be_length], fun w => ?_⟩
  have e : n % 256 = ((n % 256).toNat : Int) := by omega
  rw [e]
  have := bytes_any (n % 256).toNat k w (by omega) hk
  exact this

/-- join's end: all of them, or they are too long. -/
def JoinEnd (P : Nat → ByteArray) (len : Nat) (w : World) (e : Ending) (w' : World) : Prop :=
  w = w' ∧ ((∃ S : ByteArray, S.data.toList = joinedB P len ∧ S.size ≤ 5000 ∧ len ≤ 101 ∧ e = .returned (.tuple #[.string S, .bool true])) ∨ e = .returned (.tuple #[.string ByteArray.empty, .bool false]))

end Go.Proofs.Ytoijomdgcgbpbaa
