/-
  The Internet's checksum, plain: folding, the weighted sum of bytes, the sum of a text; no Go function is walked here.
-/
namespace Go.Proofs.Ytdljioacbpabbaa
set_option linter.unusedVariables false

/-- A number brought down to 16 bits by adding what is above them. -/
def fold (n : Nat) : Nat := if n = 0 then 0 else (n - 1) % 65535 + 1
/-- Bytes added, each in its place: the first one is a higher one, or a lower one. -/
def ws : Bool → List UInt8 → Nat
  | _, [] => 0
  | true, c :: r => 256 * c.toNat + ws false r
  | false, c :: r => c.toNat + ws true r
/-- Which place comes behind so many bytes. -/
def side (hi : Bool) (n : Nat) : Bool := if n % 2 = 0 then hi else !hi
/-- The sum of a text. -/
def sumD (l : List UInt8) : Nat := 65535 - fold (ws true l)

theorem fold_le (n : Nat) : fold n ≤ 65535 := by unfold fold; split <;> omega
theorem fold_small (n : Nat) (h : n ≤ 65535) : fold n = n := by unfold fold; split <;> omega
theorem fold_step (n : Nat) (h : 65535 < n) : fold (n % 65536 + n / 65536) = fold n := by
  unfold fold; rw [if_neg (by omega), if_neg (by omega)]; omega
theorem fold_lt (n : Nat) (h : 65535 < n) : n % 65536 + n / 65536 < n := by omega
theorem fold_add (a b : Nat) : fold (fold a + b) = fold (a + b) := by
  unfold fold
  split
  · subst_vars; simp
  · rw [if_neg (by omega), if_neg (by omega)]; omega
theorem fold_zero (n : Nat) : fold n = 0 ↔ n = 0 := by unfold fold; split <;> omega
theorem fold_full (n : Nat) : fold n = 65535 ↔ 0 < n ∧ n % 65535 = 0 := by unfold fold; split <;> omega

theorem side_zero (hi : Bool) : side hi 0 = hi := rfl
theorem side_succ (hi : Bool) (n : Nat) : side hi (n + 1) = !(side hi n) := by
  unfold side
  by_cases h : n % 2 = 0
  · rw [if_pos h, if_neg (by omega)]
  · rw [if_neg h, if_pos (by omega)]; cases hi <;> rfl
theorem side_not (hi : Bool) (n : Nat) : side (!hi) n = !(side hi n) := by unfold side; split <;> rfl
theorem side_add (hi : Bool) (m n : Nat) : side (side hi m) n = side hi (m + n) := by
  induction n with
  | zero => rfl
  | succ n ih => rw [side_succ, ih, ← Nat.add_assoc, side_succ]
theorem side_even (hi : Bool) (n : Nat) (h : n % 2 = 0) : side hi n = hi := if_pos h

theorem ws_nil (hi : Bool) : ws hi [] = 0 := by cases hi <;> rfl
theorem ws_cons (hi : Bool) (c : UInt8) (r : List UInt8) : ws hi (c :: r) = (if hi then 256 else 1) * c.toNat + ws (!hi) r := by
  cases hi <;> simp [ws]
theorem ws_append (hi : Bool) (l m : List UInt8) : ws hi (l ++ m) = ws hi l + ws (side hi l.length) m := by
  induction l generalizing hi with
  | nil => simp [ws_nil, side]
  | cons c r ih =>
    rw [List.cons_append, ws_cons, ws_cons, ih, List.length_cons, side_succ, side_not]
    omega
theorem ws_snoc (hi : Bool) (l : List UInt8) (c : UInt8) : ws hi (l ++ [c]) = ws hi l + (if side hi l.length then 256 else 1) * c.toNat := by
  rw [ws_append, ws_cons, ws_nil]; rfl
theorem ws_le (hi : Bool) (l : List UInt8) : ws hi l ≤ 65280 * l.length := by
  induction l generalizing hi with
  | nil => simp [ws_nil]
  | cons c r ih =>
    have h1 := ih (!hi)
    have h2 := c.toNat_lt
    rw [ws_cons, List.length_cons]
    split <;> omega
theorem sumD_le (l : List UInt8) : sumD l ≤ 65535 := by unfold sumD; omega

/-- A number's two bytes, the higher one first. -/
def two (n : Nat) : List UInt8 := [UInt8.ofNat (n / 256 % 256), UInt8.ofNat (n % 256)]
theorem two_length (n : Nat) : (two n).length = 2 := rfl
theorem ws_two (n : Nat) (h : n ≤ 65535) : ws true (two n) = n := by
  simp [two, ws, UInt8.toNat_ofNat']
  omega

/-- Parts, one behind the other. -/
def joined (P : Nat → List UInt8) : Nat → List UInt8
  | 0 => []
  | n + 1 => joined P n ++ P n
theorem joined_fold (P : Nat → List UInt8) (n : Nat) :
    fold (fold (ws true (joined P n)) + ws (side true (joined P n).length) (P n)) = fold (ws true (joined P (n + 1))) := by
  rw [fold_add, joined, ws_append]

/-- A text with its sum behind it. -/
theorem sealed_right (l : List UInt8) (h : l.length % 2 = 0) : fold (ws true (l ++ two (sumD l))) = 65535 := by
  rw [ws_append, side_even _ _ h, ws_two _ (sumD_le l)]
  unfold sumD fold
  split <;> split <;> omega
theorem sealed_turned (l : List UInt8) (h : l.length % 2 = 0) : fold (ws true (two (sumD l) ++ l)) = 65535 := by
  rw [ws_append, two_length, side_even _ _ rfl, ws_two _ (sumD_le l)]
  unfold sumD fold
  split <;> split <;> omega

/-- One bit changed. -/
theorem ws_set (hi : Bool) (l : List UInt8) (i : Nat) (c : UInt8) (h : i < l.length) :
    ws hi (l.set i c) + (if side hi i then 256 else 1) * l[i].toNat = ws hi l + (if side hi i then 256 else 1) * c.toNat := by
  induction l generalizing hi i with
  | nil => simp at h
  | cons d r ih =>
    cases i with
    | zero =>
      simp only [List.set_cons_zero, List.getElem_cons_zero, ws_cons, side_zero]
      cases hi <;> simp <;> omega
    | succ i =>
      have := ih (!hi) i (by simpa using h)
      simp only [List.set_cons_succ, List.getElem_cons_succ, ws_cons, side_succ, side_not] at *
      omega
theorem xor_bit (c : UInt8) (j : Nat) (h : j < 8) : ∃ p : Nat, p = 2 ^ j ∧ ((c ^^^ UInt8.ofNat (2 ^ j)).toNat = c.toNat + p ∨ (c ^^^ UInt8.ofNat (2 ^ j)).toNat + p = c.toNat) := by
  refine ⟨_, rfl, ?_⟩
  have key : ∀ j : Fin 8, ∀ c : Fin 256, ((UInt8.ofNat c.val ^^^ UInt8.ofNat (2 ^ j.val)).toNat = c.val + 2 ^ j.val ∨ (UInt8.ofNat c.val ^^^ UInt8.ofNat (2 ^ j.val)).toNat + 2 ^ j.val = c.val) := by decide +kernel
  have := key ⟨j, h⟩ ⟨c.toNat, c.toNat_lt⟩
  simpa using this
theorem changed_wrong (l : List UInt8) (i j : Nat) (hi : i < l.length) (hj : j < 8) (h : fold (ws true l) = 65535) : fold (ws true (l.set i (l[i] ^^^ UInt8.ofNat (2 ^ j)))) ≠ 65535 := by
  obtain ⟨p, hp, hx⟩ := xor_bit l[i] j hj
  have hs := ws_set true l i (l[i] ^^^ UInt8.ofNat (2 ^ j)) hi
  have hp8 : p = 1 ∨ p = 2 ∨ p = 4 ∨ p = 8 ∨ p = 16 ∨ p = 32 ∨ p = 64 ∨ p = 128 := by
    subst hp
    have : j = 0 ∨ j = 1 ∨ j = 2 ∨ j = 3 ∨ j = 4 ∨ j = 5 ∨ j = 6 ∨ j = 7 := by omega
    rcases this with rfl | rfl | rfl | rfl | rfl | rfl | rfl | rfl <;> decide
  intro e
  rw [fold_full] at h e
  generalize (l[i] ^^^ UInt8.ofNat (2 ^ j)).toNat = x at *
  generalize l[i].toNat = y at *
  generalize ws true (l.set i (l[i] ^^^ UInt8.ofNat (2 ^ j))) = a at *
  generalize ws true l = b at *
  clear hp
  split at hs
  · rcases hp8 with rfl | rfl | rfl | rfl | rfl | rfl | rfl | rfl <;> rcases hx with hx | hx <;> omega
  · rcases hp8 with rfl | rfl | rfl | rfl | rfl | rfl | rfl | rfl <;> rcases hx with hx | hx <;> omega

/-- Any order of parts of even lengths. -/
theorem order_sum (a b c : List UInt8) (ha : a.length % 2 = 0) (hb : b.length % 2 = 0) : sumD (a ++ b ++ c) = sumD (b ++ a ++ c) := by
  unfold sumD
  simp only [ws_append, List.length_append]
  rw [side_even _ _ ha, side_even _ _ hb, side_even _ (a.length + b.length) (by omega), side_even _ (b.length + a.length) (by omega), Nat.add_comm (ws true a)]
theorem sealed_twice (l : List UInt8) (h : l.length % 2 = 0) : sumD ((l ++ two (sumD l)) ++ (l ++ two (sumD l))) = 0 := by
  have h1 := sealed_right l h
  generalize hs : l ++ two (sumD l) = s at *
  have hl : s.length % 2 = 0 := by rw [← hs, List.length_append, two_length]; omega
  unfold sumD
  rw [ws_append, side_even _ _ hl]
  rw [fold_full] at h1
  have : fold (ws true s + ws true s) = 65535 := by rw [fold_full]; omega
  omega
theorem sealed_more (l c : List UInt8) (h : l.length % 2 = 0) : sumD ((l ++ two (sumD l)) ++ c) = 0 ↔ (sumD c = 0 ∨ sumD c = 65535) := by
  have h1 := sealed_right l h
  generalize hs : l ++ two (sumD l) = s at *
  have hl : s.length % 2 = 0 := by rw [← hs, List.length_append, two_length]; omega
  unfold sumD
  rw [ws_append, side_even _ _ hl]
  rw [fold_full] at h1
  have l1 := fold_le (ws true s + ws true c)
  have l2 := fold_le (ws true c)
  have f1 := fold_full (ws true s + ws true c)
  have f2 := fold_full (ws true c)
  have f3 := fold_zero (ws true c)
  omega

/-- The update of a sum. -/
def updD (s old fresh : Nat) : Nat := 65535 - fold (65535 - s + (65535 - old) + fresh)
theorem ws_mid (a b c : List UInt8) (ha : a.length % 2 = 0) (hb : b.length = 2) : ws true (a ++ b ++ c) = ws true a + ws true b + ws true c := by
  rw [ws_append, ws_append, List.length_append, hb, side_even _ _ ha, side_even _ _ (by omega)]
theorem upd_sum (a b c : List UInt8) (fresh : Nat) (ha : a.length % 2 = 0) (hb : b.length = 2) (hf : fresh ≤ 65535) (h1 : ws true (a ++ b ++ c) ≠ 0) (h2 : ws true (a ++ two fresh ++ c) ≠ 0) :
    updD (sumD (a ++ b ++ c)) (ws true b) fresh = sumD (a ++ two fresh ++ c) := by
  have hb2 : ws true b ≤ 65535 := by
    match b, hb with
    | [x, y], _ =>
      have h1 := x.toNat_lt
      have h2 := y.toNat_lt
      simp only [ws]
      omega
  have e2 : ws true (two fresh) = fresh := ws_two fresh hf
  unfold updD sumD
  rw [ws_mid _ _ _ ha hb] at h1
  rw [ws_mid _ _ _ ha (two_length _), e2] at h2
  rw [ws_mid _ _ _ ha hb, ws_mid _ _ _ ha (two_length _), e2]
  clear e2
  generalize ws true a = x at *
  generalize ws true b = y at *
  generalize ws true c = z at *
  have e : fold (65535 - (65535 - fold (x + y + z)) + (65535 - y) + fresh) = fold (x + fresh + z) := by
    unfold fold
    rw [if_neg h1, if_neg h2, if_neg (by omega)]
    omega
  rw [e]

/-- Bytes that aren't all 00 have a sum that isn't FFFF. -/
theorem ws_zero (hi : Bool) (l : List UInt8) : ws hi l = 0 ↔ l = List.replicate l.length 0 := by
  induction l generalizing hi with
  | nil => simp [ws_nil]
  | cons c r ih =>
    rw [ws_cons, List.length_cons, List.replicate_succ, List.cons.injEq, ← ih (!hi)]
    have : c = 0 ↔ c.toNat = 0 := ⟨fun h => by subst h; rfl, fun h => UInt8.toNat_inj.1 (by simpa using h)⟩
    rw [this]
    split <;> omega

theorem two_bytes (x y : UInt8) : two (x.toNat * 256 + y.toNat) = [x, y] := by
  have h1 := x.toNat_lt
  have h2 := y.toNat_lt
  have e1 : UInt8.ofNat ((x.toNat * 256 + y.toNat) / 256 % 256) = x := UInt8.toNat_inj.1 (by rw [UInt8.toNat_ofNat']; omega)
  have e2 : UInt8.ofNat ((x.toNat * 256 + y.toNat) % 256) = y := UInt8.toNat_inj.1 (by rw [UInt8.toNat_ofNat']; omega)
  unfold two
  rw [e1, e2]
theorem cut_two (l : List UInt8) (p : Nat) (hp : p + 2 ≤ l.length) : l = l.take p ++ [l[p], l[p + 1]] ++ l.drop (p + 2) := by
  have h1 : l.drop p = l[p] :: l.drop (p + 1) := List.drop_eq_getElem_cons (by omega)
  have h2 : l.drop (p + 1) = l[p + 1] :: l.drop (p + 2) := List.drop_eq_getElem_cons (by omega)
  have h3 := List.take_append_drop p l
  rw [h1, h2] at h3
  rw [List.append_assoc]
  exact h3.symm
/-- An update, and back. -/
theorem both_ways (l y : List UInt8) (p fresh old : Nat) (hp : p + 2 ≤ l.length) (he : p % 2 = 0) (hf : fresh ≤ 65535) (hy : y = l.take p ++ two fresh ++ l.drop (p + 2))
    (h1 : l ≠ List.replicate l.length 0) (h2 : y ≠ List.replicate l.length 0) (ho : old = l[p].toNat * 256 + l[p + 1].toNat) :
    updD (sumD l) old fresh = sumD y ∧ updD (sumD y) fresh old = sumD l ∧ old ≤ 65535 := by
  have hl := cut_two l p hp
  have ht : (l.take p).length % 2 = 0 := by rw [List.length_take, Nat.min_eq_left (by omega)]; exact he
  have hyl : y.length = l.length := by
    rw [hy]
    simp only [List.length_append, List.length_take, List.length_drop, two_length]
    omega
  have n1 : ws true l ≠ 0 := fun h => h1 ((ws_zero true l).1 h)
  have n2 : ws true y ≠ 0 := fun h => h2 (by have := (ws_zero true y).1 h; rw [hyl] at this; exact this)
  have hx := l[p].toNat_lt
  have hz := l[p + 1].toNat_lt
  have h2b : two old = [l[p], l[p + 1]] := by rw [ho]; exact two_bytes _ _
  have hol : old ≤ 65535 := by omega
  have hwb : ws true [l[p], l[p + 1]] = old := by rw [← h2b]; exact ws_two old hol
  have hwf : ws true (two fresh) = fresh := ws_two fresh hf
  generalize l.take p = a at *
  generalize l.drop (p + 2) = c at *
  generalize [l[p], l[p + 1]] = b at *
  have hbl : b.length = 2 := by rw [← h2b]; rfl
  refine ⟨?_, ?_, hol⟩
  · have := upd_sum a b c fresh ht hbl hf (by rw [← hl]; exact n1) (by rw [← hy]; exact n2)
    rw [hwb, ← hl, ← hy] at this
    exact this
  · have := upd_sum a (two fresh) c old ht rfl hol (by rw [← hy]; exact n2) (by rw [h2b, ← hl]; exact n1)
    rw [hwf, h2b, ← hl, ← hy] at this
    exact this

end Go.Proofs.Ytdljioacbpabbaa
