/-
  Numbers and pieces of texts, there and back. Plain: no Go function is walked here.
-/
import Derived.Test.YtcalpkdgpiebmaaRdNum
import Derived.Test.YtcalpkdgpiebmaaBe
import Derived.Test.YtcalpkdgpiebmaaTexts
namespace Go.Proofs.Ytcalpkdgpiebmaa
open Go.RowKit
set_option linter.unusedVariables false

theorem be_snoc (n z : Nat) : be n (z + 1) = be (n / 256) z ++ [UInt8.ofNat (n % 256)] := by
  unfold be
  rw [List.range_succ, List.map_append]
  congr 1
  · apply List.map_congr_left
    intro i hi
    have hi' : i < z := List.mem_range.1 hi
    have : z + 1 - 1 - i = (z - 1 - i) + 1 := by omega
    rw [this, Nat.pow_succ, Nat.mul_comm, ← Nat.div_div_eq_div_mul]
  · simp
theorem val_be (n : Nat) : ∀ z, val (be n z) = n % 256 ^ z := by
  intro z
  induction z generalizing n with
  | zero => simp [be, val, Nat.mod_one]
  | succ z ih =>
    have h2 : n % 256 ^ (z + 1) = 256 * (n / 256 % 256 ^ z) + n % 256 := by
      rw [Nat.pow_succ, Nat.mul_comm (256 ^ z) 256, Nat.mod_mul]
      omega
    rw [be_snoc, val_snoc, ih, UInt8.toNat_ofNat', h2]
    omega
theorem be_val : ∀ (k : Nat) (l : List UInt8), l.length = k → be (val l) k = l := by
  intro k
  induction k with
  | zero => intro l h; rw [List.length_eq_zero_iff.1 h]; rfl
  | succ k ih =>
    intro l h
    have hne : l ≠ [] := by intro e; simp [e] at h
    have hl := List.dropLast_concat_getLast hne
    have hd : l.dropLast.length = k := by simp [h]
    have hlt := (l.getLast hne).toNat_lt
    have hv : val l = val l.dropLast * 256 + (l.getLast hne).toNat := by rw [← val_snoc, hl]
    rw [be_snoc, hv, show (val l.dropLast * 256 + (l.getLast hne).toNat) / 256 = val l.dropLast by omega, show (val l.dropLast * 256 + (l.getLast hne).toNat) % 256 = (l.getLast hne).toNat by omega, ih _ hd, UInt8.ofNat_toNat]
    exact hl
/-- A piece of a text. -/
theorem seg {L a b c : List UInt8} {i j : Nat} (h : L = a ++ (b ++ c)) (ha : a.length = i) (hb : i + b.length = j) : (L.take j).drop i = b := by
  subst h ha hb
  rw [← List.append_assoc, List.take_left' (by simp), List.drop_left' rfl]
theorem num_seg {p : ByteArray} {a b c : List UInt8} {i k n : Nat} (h : p.data.toList = a ++ (b ++ c)) (ha : a.length = i) (hb : b = be n k) (hn : n < 256 ^ k) : numOf p i k = n := by
  unfold numOf
  rw [extract_list, seg h ha (by rw [hb, be_length]), hb, val_be, Nat.mod_eq_of_lt hn]
theorem text_seg {p s : ByteArray} {a c : List UInt8} {i j : Nat} (h : p.data.toList = a ++ (s.data.toList ++ c)) (ha : a.length = i) (hb : i + s.size = j) : p.extract i j = s := by
  apply text_ext
  rw [extract_list]
  exact seg h ha (by simpa using hb)
theorem list_text (l : List UInt8) : (⟨l.toArray⟩ : ByteArray).data.toList = l := rfl
theorem be_size (n k : Nat) : (⟨(be n k).toArray⟩ : ByteArray).size = k := by rw [list_size, be_length]
theorem numOf_one (p : ByteArray) (i : Nat) (h : i < p.size) : numOf p i 1 = p[i].toNat := by
  unfold numOf
  have e : (p.extract i (i + 1)).data.toList = [p[i]] := by
    rw [extract_list, List.take_succ_eq_append_getElem (by simpa using h), List.drop_left' (by simp; omega)]
    rfl
  rw [e]
  simp [val]
/-- A text from one place to another one. -/
def sl (p : ByteArray) (i j : Nat) : List UInt8 := (p.data.toList.take j).drop i
theorem sl_ext (p : ByteArray) (i j : Nat) : (p.extract i j).data.toList = sl p i j := extract_list p i j
theorem sl_length (p : ByteArray) (i j : Nat) (h : i ≤ j) (hj : j ≤ p.size) : (sl p i j).length = j - i := by
  unfold sl
  simp only [List.length_drop, List.length_take, Array.length_toList, ByteArray.size_data]
  omega
theorem sl_join (p : ByteArray) (i j k : Nat) (h : i ≤ j) (hk : j ≤ k) : sl p i j ++ sl p j k = sl p i k := by
  unfold sl
  have e : (p.data.toList.take j) = (p.data.toList.take k).take j := by rw [List.take_take, Nat.min_eq_left hk]
  rw [e]
  generalize p.data.toList.take k = M
  have : M.drop i = (M.take j).drop i ++ M.drop j := by
    have h1 : M = M.take j ++ M.drop j := (List.take_append_drop j M).symm
    by_cases hl : j ≤ M.length
    · conv => lhs; rw [h1]
      rw [List.drop_append_of_le_length (by simp; omega)]
    · rw [List.take_of_length_le (by omega), List.drop_of_length_le (i := j) (by omega), List.append_nil]
  rw [this]
theorem sl_all (p : ByteArray) (i : Nat) : sl p i p.size = p.data.toList.drop i := by
  unfold sl; rw [List.take_of_length_le (by simp)]
theorem be_num (p : ByteArray) (i k : Nat) (h : i + k ≤ p.size) : be (numOf p i k) k = sl p i (i + k) := by
  unfold numOf
  rw [sl_ext]
  exact be_val k _ (by rw [sl_length p i (i + k) (by omega) h]; omega)
theorem one_sl (p : ByteArray) (i : Nat) (h : i < p.size) : sl p i (i + 1) = [p[i]] := by
  unfold sl
  rw [List.take_succ_eq_append_getElem (by simpa using h), List.drop_left' (by simp; omega)]
  rfl
theorem num_1 (p : ByteArray) (i : Nat) (h : i < p.size) : numOf p i 1 = p[i].toNat := by
  unfold numOf
  rw [sl_ext, one_sl p i h]
  simp [val]
theorem num_2 (p : ByteArray) (i : Nat) (h : i + 1 < p.size) : numOf p i 2 = p[i].toNat * 256 + p[i + 1].toNat := by
  unfold numOf
  rw [sl_ext, ← sl_join p i (i + 1) (i + 2) (by omega) (by omega), one_sl p i (by omega), one_sl p (i + 1) h]
  simp [val]
theorem val_append (a b : List UInt8) : val (a ++ b) = val a * 256 ^ b.length + val b := by
  have key : ∀ n (b : List UInt8), b.length = n → val (a ++ b) = val a * 256 ^ b.length + val b := by
    intro n
    induction n with
    | zero => intro b h; rw [List.length_eq_zero_iff.1 h]; simp [val_nil]
    | succ n ih =>
      intro b h
      have hne : b ≠ [] := by intro e; simp [e] at h
      have hd : b.dropLast.length = n := by simp [h]
      have hl := List.dropLast_concat_getLast hne
      have e := ih b.dropLast hd
      rw [← hl, ← List.append_assoc, val_snoc, val_snoc, e, List.length_append, List.length_singleton, Nat.pow_succ, Nat.add_mul, Nat.mul_assoc]
      omega
  exact key b.length b rfl
/-- Texts whose first bytes are the same. -/
theorem same_sl {p q : ByteArray} {n i j : Nat} (h : q.data.toList.take n = p.data.toList.take n) (hj : j ≤ n) : sl q i j = sl p i j := by
  unfold sl
  have e1 : q.data.toList.take j = (q.data.toList.take n).take j := by rw [List.take_take, Nat.min_eq_left hj]
  have e2 : p.data.toList.take j = (p.data.toList.take n).take j := by rw [List.take_take, Nat.min_eq_left hj]
  rw [e1, e2, h]
theorem same_num {p q : ByteArray} {n i k : Nat} (h : q.data.toList.take n = p.data.toList.take n) (hj : i + k ≤ n) : numOf q i k = numOf p i k := by
  unfold numOf
  rw [sl_ext, sl_ext, same_sl h hj]
theorem same_ext {p q : ByteArray} {n i j : Nat} (h : q.data.toList.take n = p.data.toList.take n) (hj : j ≤ n) : q.extract i j = p.extract i j := by
  apply text_ext
  rw [sl_ext, sl_ext, same_sl h hj]
/-- A number's first byte, and the others. -/
theorem num_first (p : ByteArray) (k : Nat) (h : k < p.size) : numOf p 0 (k + 1) = (p[0]'(by omega)).toNat * 256 ^ k + numOf p 1 k := by
  have e : numOf p 0 (k + 1) = val (sl p 0 (k + 1)) := by unfold numOf; rw [sl_ext, Nat.zero_add]
  have e1 : numOf p 1 k = val (sl p 1 (1 + k)) := by unfold numOf; rw [sl_ext]
  have hl := sl_length p 1 (1 + k) (by omega) (by omega)
  have ho := one_sl p 0 (by omega)
  rw [Nat.zero_add] at ho
  rw [e, e1, ← sl_join p 0 1 (k + 1) (by omega) (by omega), ho, Nat.add_comm k 1, val_append, hl]
  simp [val]

end Go.Proofs.Ytcalpkdgpiebmaa
