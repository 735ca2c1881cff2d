/-
  A clamped packet's sum, plain: the program's two steps, the document's way, and the bytes that differ.
-/
import Derived.Test.YtppobficnjpdiaaClampMade
namespace Go.Proofs.Ytppobficnjpdiaa
open Go.RowKit
set_option linter.unusedVariables false

/-- What one of a number's bytes adds to a sum. -/
def shareK (x : NK) (i : Nat) : Nat := if (x.at_ + i) % 2 = 0 then x.is_ / 256 ^ (1 - i) % 256 * 256 else x.is_ / 256 ^ (1 - i) % 256
def updK (own old fresh : NK) : NK := ⟨own.at_, updD (updD own.is_ (shareK old 0) (shareK fresh 0)) (shareK old 1) (shareK fresh 1)⟩
theorem shareK_le (x : NK) (i : Nat) : shareK x i ≤ 65280 := by unfold shareK; split <;> omega
theorem shareK_0 (x : NK) (h : x.is_ ≤ 65535) : shareK x 0 = (if x.at_ % 2 = 0 then 256 else 1) * (x.is_ / 256) := by
  unfold shareK
  simp only [Nat.add_zero, Nat.sub_zero, Nat.pow_one]
  split <;> omega
theorem shareK_1 (x : NK) : shareK x 1 = (if x.at_ % 2 = 0 then 1 else 256) * (x.is_ % 256) := by
  unfold shareK
  simp only [Nat.sub_self, Nat.pow_zero, Nat.div_one]
  split
  · rw [if_neg (by omega)]; omega
  · rw [if_pos (by omega)]; omega
theorem updD_le (a b c : Nat) : updD a b c ≤ 65535 := by unfold updD; omega

/-- All that goes into the sums. -/
structure SumsK (p : ByteArray) (n q m X G : Nat) : Prop where
  pos : 0 < X
  mod : X % 65535 = 0
  gap : 0 < G
  eq : G + numOf (pay9 p) 16 2 + (if q % 2 = 0 then 256 else 1) * (n / 256) + (if q % 2 = 0 then 1 else 256) * (n % 256) = X + (if q % 2 = 0 then 256 else 1) * (m / 256) + (if q % 2 = 0 then 1 else 256) * (m % 256)
  new : newK p m = 65535 - fold G
theorem ws_zeros (s : ByteArray) (h : 18 ≤ s.size) : ws true (s.data.toList.take 16 ++ [0, 0] ++ s.data.toList.drop 18) + numOf s 16 2 = ws true s.data.toList := by
  have e := ws_with s 16 0 (by omega) (by omega)
  have hd : (with9 s 16 0).data.toList = s.data.toList.take 16 ++ [0, 0] ++ s.data.toList.drop 18 := rfl
  rw [hd] at e
  have l := numOf_lt s 16 2 (by omega)
  simp only [show 16 % 2 = 0 from rfl, if_true, Nat.zero_div, Nat.mul_zero, Nat.one_mul, Nat.add_zero] at e
  omega
theorem HasK.sums {p : ByteArray} {n q : Nat} (h : HasK p n q) (m : Nat) (hm : m ≤ 65535) : ∃ X G, SumsK p n q m X G := by
  have L := h.lies
  have lt := L.fit
  have hv := sum_right h.good (fun x => by rw [h.tcp] at x; exact absurd x (by decide))
  rw [h.tcp] at hv
  have ⟨ev, ps⟩ := even_pseudo (any9 p) ((pay9 p).size : Nat) rfl h.good.pkt
  unfold ph9 at hv
  rw [sum_nought, ws_append, side_even _ _ ev, fold_full] at hv
  have hnew := h.fresh m
  have z1 := with9_size (pay9 p) (20 + q) m lt
  have e1 := ws_with (pay9 p) (20 + q) m lt hm
  rw [L.num] at e1
  have e2 := ws_zeros (with9 (pay9 p) (20 + q) m) (by omega)
  rw [num_with_other _ _ _ _ _ lt (by omega)] at e2
  have hpar : (20 + q) % 2 = q % 2 := by omega
  rw [hpar] at e1
  unfold num9 gap9 at hnew
  rw [z1, if_neg (fun x => absurd x.2 (by decide))] at hnew
  unfold sumD at hnew
  rw [List.append_assoc, List.append_assoc, ws_append, side_even _ _ ev, ← List.append_assoc] at hnew
  generalize ws true (pseudoD (any9 p).src.data.toList (any9 p).dst.data.toList 6 ((pay9 p).size : Nat)) = P at *
  refine ⟨P + ws true (pay9 p).data.toList, P + ws true ((with9 (pay9 p) (20 + q) m).data.toList.take 16 ++ [0, 0] ++ (with9 (pay9 p) (20 + q) m).data.toList.drop 18), hv.1, hv.2, by omega, ?_, hnew⟩
  omega
theorem own_le {p : ByteArray} {n q : Nat} (h : HasK p n q) : numOf (pay9 p) 16 2 ≤ 65535 := by
  have l := numOf_lt (pay9 p) 16 2 (by have := h.lies.fit; omega)
  have : (256 : Nat) ^ 2 = 65536 := rfl
  omega
/-- The program's two steps. -/
theorem HasK.updated {p : ByteArray} {n q : Nat} (h : HasK p n q) (m : Nat) (hm : m ≤ 65535) : updK (ownK p) (mssK p) ⟨(mssK p).at_, m⟩ = ⟨(ownK p).at_, newK p m⟩ := by
  obtain ⟨X, G, S⟩ := h.sums m hm
  have L := h.lies
  have lo := own_le h
  rw [h.tells, h.owns]
  unfold updK
  simp only
  have hpar : (fr9 p + 20 + q) % 2 = q % 2 := by have := L.even; omega
  have eq := S.eq
  have s0 := shareK_0 ⟨fr9 p + 20 + q, n⟩ L.most
  have s1 := shareK_1 ⟨fr9 p + 20 + q, n⟩
  have s2 := shareK_0 ⟨fr9 p + 20 + q, m⟩ hm
  have s3 := shareK_1 ⟨fr9 p + 20 + q, m⟩
  simp only [hpar] at s0 s1 s2 s3
  rw [S.new]
  congr 1
  exact steps_two X G _ _ _ _ _ S.pos S.mod lo (shareK_le _ _) (shareK_le _ _) S.gap (by rw [s0, s1, s2, s3]; exact eq)
/-- Layer 2's update, where the MSS stands at an even place. -/
theorem HasK.update_one {p : ByteArray} {n q : Nat} (h : HasK p n q) (m : Nat) (hm : m ≤ 65535) (hq : q % 2 = 0) (hs : seal9 6 (any9 p).src (any9 p).dst (pay9 p) = pay9 p) : updD (numOf (pay9 p) 16 2) n m = newK p m := by
  obtain ⟨X, G, S⟩ := h.sums m hm
  have L := h.lies
  have lt := L.fit
  have eq := S.eq
  rw [if_pos hq, if_pos hq] at eq
  have hpl : pl9 6 (pay9 p).size = 16 := by unfold pl9; rw [if_pos ⟨rfl, by omega⟩]
  have hw : with9 (pay9 p) 16 (num9 6 (any9 p).src (any9 p).dst (pay9 p) 16) = pay9 p := by
    unfold seal9 at hs
    rw [hpl, if_neg (by decide)] at hs
    exact hs
  have hn : numOf (pay9 p) 16 2 = num9 6 (any9 p).src (any9 p).dst (pay9 p) 16 := by
    conv => lhs; rw [← hw]
    exact num_with _ 16 _ (by omega) (num9_le _ _ _ _ _)
  have hl : numOf (pay9 p) 16 2 ≤ 65534 := by
    have ⟨ev, ps⟩ := even_pseudo (any9 p) ((pay9 p).size : Nat) rfl h.good.pkt
    rw [hn]
    unfold num9
    rw [if_neg (fun x => absurd x.2 (by decide))]
    unfold sumD gap9
    rw [List.append_assoc, List.append_assoc, ws_append, side_even _ _ ev]
    have f0 := fold_zero (ws true (pseudoD (any9 p).src.data.toList (any9 p).dst.data.toList 6 ((pay9 p).size : Nat)) + ws true ((pay9 p).data.toList.take 16 ++ ([0, 0] ++ (pay9 p).data.toList.drop (16 + 2))))
    omega
  rw [S.new]
  have hmo := L.most
  exact step_one X G _ _ _ S.pos S.mod hl hmo S.gap (by omega)

/-- The document's way. -/
theorem HasK.doc {p : ByteArray} {n q : Nat} (h : HasK p n q) (m : Nat) (hm : m ≤ 65535) : p.extract 0 (fr9 p) ++ seal9 6 (any9 p).src (any9 p).dst (with9 (pay9 p) (20 + q) m) = pktK p (fr9 p) q m (newK p m) := by
  have L := h.lies
  have lt := L.fit
  have lz := L.size
  have P := L.changed m (newK p m)
  have z1 := with9_size (pay9 p) (20 + q) m lt
  have hs : seal9 6 (any9 p).src (any9 p).dst (with9 (pay9 p) (20 + q) m) = segK (pay9 p) q m (newK p m) := by
    have hpl : pl9 6 (with9 (pay9 p) (20 + q) m).size = 16 := by unfold pl9; rw [if_pos ⟨rfl, by omega⟩]
    unfold seal9
    rw [hpl, if_neg (by decide), h.fresh m]
    rfl
  rw [hs]
  apply text_ext
  rw [cat_list, ← P.back, sl_ext]
  unfold sl
  rw [List.drop_zero, ← P.front, List.take_append_drop]

/-- How many bytes differ ahead of a place. -/
def dif (a b : List UInt8) : Nat → Nat
  | 0 => 0
  | k + 1 => dif a b k + if a[k]? = b[k]? then 0 else 1
theorem dif_le (a b : List UInt8) (x y : Nat) (h : ∀ i, i ≠ x → i ≠ x + 1 → i ≠ y → i ≠ y + 1 → a[i]? = b[i]?) : ∀ k, dif a b k ≤ 4 := by
  have key : ∀ k, dif a b k ≤ (if x < k then 1 else 0) + (if x + 1 < k then 1 else 0) + (if y < k then 1 else 0) + (if y + 1 < k then 1 else 0) := by
    intro k
    induction k with
    | zero => simp [dif]
    | succ k ih =>
      unfold dif
      by_cases e : a[k]? = b[k]?
      · rw [if_pos e]
        split at ih <;> split at ih <;> split at ih <;> split at ih <;> split <;> split <;> split <;> split <;> omega
      · rw [if_neg e]
        have hk : k = x ∨ k = x + 1 ∨ k = y ∨ k = y + 1 := by
          by_cases h1 : k = x
          · exact Or.inl h1
          by_cases h2 : k = x + 1
          · exact Or.inr (Or.inl h2)
          by_cases h3 : k = y
          · exact Or.inr (Or.inr (Or.inl h3))
          by_cases h4 : k = y + 1
          · exact Or.inr (Or.inr (Or.inr h4))
          exact absurd (h k h1 h2 h3 h4) e
        split at ih <;> split at ih <;> split at ih <;> split at ih <;> split <;> split <;> split <;> split <;> omega
  intro k
  have := key k
  split at this <;> split at this <;> split at this <;> split at this <;> omega
theorem dif_same (a : List UInt8) (k : Nat) : dif a a k = 0 := by
  induction k with
  | zero => rfl
  | succ k ih => unfold dif; rw [ih, if_pos rfl]
theorem clampK_dif (p : ByteArray) (m k : Nat) (hm : m ≤ 65535) : dif p.data.toList (clampK p m).data.toList k ≤ 4 := by
  cases hh : hasK p with
  | false => rw [clampK_none m hh, dif_same]; omega
  | true =>
    obtain ⟨n, q, h⟩ := HasK.of hh
    have L := h.lies
    have l1 := L.size
    have l2 := L.fit
    rw [h.clamp m]
    by_cases hl : m < n
    · rw [if_pos hl]
      refine dif_le _ _ (fr9 p + 20 + q) (fr9 p + 16) (fun i h1 h2 h3 h4 => ?_) k
      unfold pktK
      have z1 := with9_size p (fr9 p + 20 + q) m (by omega)
      rw [with9_set _ _ _ (by omega), with9_set p _ _ (by omega), List.getElem?_set_ne (by omega), List.getElem?_set_ne (by omega), List.getElem?_set_ne (by omega), List.getElem?_set_ne (by omega)]
    · rw [if_neg hl, dif_same]; omega
theorem clampK_size (p : ByteArray) (m : Nat) (hm : m ≤ 65535) : (clampK p m).size = p.size := by
  cases hh : hasK p with
  | false => rw [clampK_none m hh]
  | true =>
    obtain ⟨n, q, h⟩ := HasK.of hh
    rw [h.clamp m]
    split
    · exact (h.held m hm).size
    · rfl

/-- A clamped packet, all told. -/
structure KeptK (p Q : ByteArray) (m : Nat) : Prop where
  size : Q.size = p.size
  err : flowE Q = flowE p
  flow : flowH Q = flowH p
  has : hasK Q = hasK p
  same : hasK p = false → Q = p
  mss : hasK p = true → (mssK Q).is_ = min (mssK p).is_ m
  again : ∀ b, m ≤ b → b ≤ 65535 → clampK Q b = Q
  diff : ∀ k, dif p.data.toList Q.data.toList k ≤ 4
theorem kept (p : ByteArray) (m : Nat) (hm : m ≤ 65535) : KeptK p (clampK p m) m := by
  refine ⟨clampK_size p m hm, ?_, ?_, ?_, fun hh => clampK_none m hh, ?_, fun b h1 h2 => by rw [clampK_twice p m b hm h2, Nat.min_eq_left h1], fun k => clampK_dif p m k hm⟩
  · cases hh : hasK p with
    | false => rw [clampK_none m hh]
    | true =>
      obtain ⟨n, q, h⟩ := HasK.of hh
      rw [h.clamp m]
      split
      · rw [flowE_zero.2 (h.held m hm).has.good, flowE_zero.2 h.good]
      · rfl
  · cases hh : hasK p with
    | false => rw [clampK_none m hh]
    | true =>
      obtain ⟨n, q, h⟩ := HasK.of hh
      rw [h.clamp m]
      split
      · exact (h.held m hm).flow
      · rfl
  · cases hh : hasK p with
    | false => rw [clampK_none m hh, hh]
    | true =>
      obtain ⟨n, q, h⟩ := HasK.of hh
      rw [h.clamp m]
      split
      · exact (h.held m hm).has.has
      · exact hh
  · intro hh
    obtain ⟨n, q, h⟩ := HasK.of hh
    rw [h.clamp m, h.tells]
    split
    · rename_i hl
      rw [(h.held m hm).has.tells]
      show m = min n m
      omega
    · rename_i hl
      rw [h.tells]
      show n = min n m
      omega

end Go.Proofs.Ytppobficnjpdiaa
