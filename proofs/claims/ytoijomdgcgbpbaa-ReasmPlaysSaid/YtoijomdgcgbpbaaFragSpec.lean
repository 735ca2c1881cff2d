/-
  Packets in pieces, plain: how much a piece has, which pieces there are, and what is said of a packet that is cut; no Go function is walked here.
-/
import Derived.Test.YtoijomdgcgbpbaaIp4Held
namespace Go.Proofs.Ytoijomdgcgbpbaa
open Go.RowKit
set_option linter.unusedVariables false

/-- How many bytes of payload a piece has. -/
def pn15 (a m : Nat) : Nat := (m - a) / 8 * 8
theorem pn15_mod (a m : Nat) : pn15 a m % 8 = 0 := Nat.mul_mod_left _ _
theorem pn15_le (a m : Nat) : pn15 a m ≤ m - a := Nat.div_mul_le_self _ _
theorem pn15_fits {a m : Nat} (h : pn15 a m ≠ 0) : a + pn15 a m ≤ m ∧ m < a + pn15 a m + 8 := by unfold pn15 at *; omega

/-- A piece's header. -/
def H4.at15 (h : H4) (k : Nat) (mf : Bool) : H4 := { h with off := h.off + (k : Int), mf := mf }
theorem H4.at15_size (h : H4) (k : Nat) (mf : Bool) : (h.at15 k mf).size = h.size := rfl
theorem H4.at15_ok {h : H4} (hok : h.Ok) {k : Nat} (hk : h.off + (k : Int) ≤ 8191) (mf : Bool) : (h.at15 k mf).Ok := by
  obtain ⟨a, b, c, d, e, f, g, i, j⟩ := hok
  exact ⟨a, b, c, d, ⟨by show 0 ≤ h.off + (k : Int); omega, hk⟩, f, g, i, j⟩
theorem H4.at15_bad {h : H4} {k : Nat} (hk : 8191 < h.off + (k : Int)) (mf : Bool) : ¬ (h.at15 k mf).Ok := fun e => by
  have := e.off.2
  have e2 : (h.at15 k mf).off = h.off + (k : Int) := rfl
  omega
/-- The header with the packet's own Offset and MF. -/
def H4.back15 (h g : H4) : H4 := { g with off := h.off, mf := h.mf }
theorem H4.at15_back (h : H4) (k : Nat) (mf : Bool) : h.back15 (h.at15 k mf) = h := rfl

/-- How many pieces are ahead of the last one. -/
def fore15 (pay : ByteArray) (n : Nat) : Nat := (pay.size - 1) / n
def item15 (h : H4) (pay : ByteArray) (n i : Nat) : H4 × ByteArray := (h.at15 (i * (n / 8)) true, pay.extract (i * n) (i * n + n))
def last15 (h : H4) (pay : ByteArray) (n : Nat) : H4 × ByteArray := (h.at15 (fore15 pay n * (n / 8)) h.mf, pay.extract (fore15 pay n * n) pay.size)
/-- The pieces' headers and payloads. -/
def upto15 (h : H4) (pay : ByteArray) (n k : Nat) : List (H4 × ByteArray) := (List.range k).map (item15 h pay n)
def items15 (h : H4) (pay : ByteArray) (n : Nat) : List (H4 × ByteArray) := upto15 h pay n (fore15 pay n) ++ [last15 h pay n]
theorem upto15_succ (h : H4) (pay : ByteArray) (n k : Nat) : upto15 h pay n (k + 1) = upto15 h pay n k ++ [item15 h pay n k] := by simp [upto15, List.range_succ]
theorem items15_length (h : H4) (pay : ByteArray) (n : Nat) : (items15 h pay n).length = fore15 pay n + 1 := by simp [items15, upto15]

/-- Where what is left has more than n bytes. -/
theorem fore15_lt {pay : ByteArray} {n i : Nat} (hn : 0 < n) : i < fore15 pay n ↔ n < pay.size - i * n := by
  unfold fore15
  rw [Nat.lt_iff_add_one_le, Nat.le_div_iff_mul_le hn, Nat.add_mul, Nat.one_mul]
  omega
theorem fore15_le {pay : ByteArray} {n i : Nat} (hn : 0 < n) (h : i ≤ fore15 pay n) : i * n ≤ pay.size := by
  unfold fore15 at h
  have := (Nat.le_div_iff_mul_le hn).1 h
  omega
theorem fore15_pos {pay : ByteArray} {n : Nat} (hn : 0 < n) (h : n < pay.size) : 0 < fore15 pay n := (fore15_lt hn).2 (by simpa using h)
/-- The last one has a byte at least, if there is any, and no more than n. -/
theorem fore15_last {pay : ByteArray} {n : Nat} (hn : 0 < n) : pay.size ≤ fore15 pay n * n + n := by
  have h : ¬ fore15 pay n < fore15 pay n := Nat.lt_irrefl _
  rw [fore15_lt hn] at h
  omega
theorem fore15_some {pay : ByteArray} {n : Nat} (hn : 0 < n) (h : 0 < pay.size) : fore15 pay n * n < pay.size := by
  have : fore15 pay n * n ≤ pay.size - 1 := Nat.div_mul_le_self _ _
  omega

/-- Can all be put? -/
def allput15 (l : List (H4 × ByteArray)) : Bool := l.all fun x => putE x.1 x.2 == 0
def texts15 (l : List (H4 × ByteArray)) : List ByteArray := l.map fun x => putS x.1 x.2
theorem allput15_snoc (l : List (H4 × ByteArray)) (x : H4 × ByteArray) : allput15 (l ++ [x]) = (allput15 l && (putE x.1 x.2 == 0)) := by simp [allput15]
theorem texts15_snoc (l : List (H4 × ByteArray)) (x : H4 × ByteArray) : texts15 (l ++ [x]) = texts15 l ++ [putS x.1 x.2] := by simp [texts15]
theorem allput15_pre {l m : List (H4 × ByteArray)} (h : l <+: m) (hl : allput15 l = false) : allput15 m = false := by
  obtain ⟨r, rfl⟩ := h
  unfold allput15 at *
  rw [List.all_append, hl]
  rfl

theorem ext15_size (p : ByteArray) (i j : Nat) : (p.extract i j).size = min j p.size - i := by rw [ByteArray.size_extract]
theorem put15_yes {h : H4} {pay : ByteArray} (hok : h.Ok) (hn : h.size + pay.size ≤ 65535) : putE h pay = 0 := (put_ok hok hn).1
theorem put15_no {h : H4} {pay : ByteArray} (hok : ¬ h.Ok) : putE h pay = 1 := by
  unfold putE
  rw [if_neg (fun e => hok ((H4.ok_iff h).1 e))]

/-- Pieces that may be, and fit. -/
structure Fit15 (h : H4) (n : Nat) : Prop where
  ok : h.Ok
  pos : 0 < n
  eight : n % 8 = 0
  fit : h.size + n ≤ 65535
theorem Fit15.mono {h : H4} {n : Nat} (f : Fit15 h n) {i j : Nat} (hij : i ≤ j) (hj : h.off + ((j * (n / 8) : Nat) : Int) ≤ 8191) : h.off + ((i * (n / 8) : Nat) : Int) ≤ 8191 := by
  have := Nat.mul_le_mul_right (n / 8) hij
  omega
theorem Fit15.item {h : H4} {n : Nat} (f : Fit15 h n) (pay : ByteArray) {i : Nat} (hi : h.off + ((i * (n / 8) : Nat) : Int) ≤ 8191) : putE (item15 h pay n i).1 (item15 h pay n i).2 = 0 := by
  refine put15_yes (H4.at15_ok f.ok hi _) ?_
  have := f.fit
  show h.size + (pay.extract (i * n) (i * n + n)).size ≤ 65535
  rw [ext15_size]
  omega
theorem Fit15.last {h : H4} {n : Nat} (f : Fit15 h n) (pay : ByteArray) (hi : h.off + ((fore15 pay n * (n / 8) : Nat) : Int) ≤ 8191) : putE (last15 h pay n).1 (last15 h pay n).2 = 0 := by
  refine put15_yes (H4.at15_ok f.ok hi _) ?_
  have := f.fit
  have := fore15_last (pay := pay) f.pos
  show h.size + (pay.extract (fore15 pay n * n) pay.size).size ≤ 65535
  rw [ext15_size]
  omega
theorem Fit15.upto {h : H4} {n : Nat} (f : Fit15 h n) (pay : ByteArray) : ∀ k : Nat, h.off + (((k - 1) * (n / 8) : Nat) : Int) ≤ 8191 → allput15 (upto15 h pay n k) = true := by
  intro k
  induction k with
  | zero => intro _; rfl
  | succ k ih =>
    intro hk
    rw [upto15_succ, allput15_snoc, ih (f.mono (by omega) hk), f.item pay (by simpa using hk)]
    rfl
/-- Just when all can be put. -/
theorem Fit15.all {h : H4} {n : Nat} (f : Fit15 h n) (pay : ByteArray) : allput15 (items15 h pay n) = decide (h.off + ((fore15 pay n * (n / 8) : Nat) : Int) ≤ 8191) := by
  unfold items15
  rw [allput15_snoc]
  by_cases hk : h.off + ((fore15 pay n * (n / 8) : Nat) : Int) ≤ 8191
  · rw [f.upto pay _ (f.mono (by omega) hk), f.last pay hk, decide_eq_true hk]
    rfl
  · have hb : ¬ (last15 h pay n).1.Ok := H4.at15_bad (by omega) _
    rw [put15_no hb, decide_eq_false hk]
    simp

/-- What the bytes of a packet say may be. -/
structure Right15 (p : ByteArray) : Prop where
  ok : (hdr p).Ok
  size : (hdr p).size = hsz p
  le : p.size ≤ 65535
  hz : 20 ≤ hsz p ∧ hsz p ≤ 60 ∧ hsz p ≤ p.size
  gh : getH p = hdr p
  gs : getS p = p.extract (hsz p) p.size
  pay : (getS p).size = p.size - hsz p
theorem right15 {p : ByteArray} (e : getE p = 0) : Right15 p := by
  obtain ⟨hsh, hver, ⟨hz1, hz2⟩, hall, hsum, hform⟩ := getE_zero.1 e
  have l2 := numOf_lt p 2 2 (by omega)
  have l0 := numOf_lt p 0 1 (by omega)
  have l1 := numOf_lt p 1 1 (by omega)
  have l4 := numOf_lt p 4 2 (by omega)
  have l8 := numOf_lt p 8 1 (by omega)
  have l9 := numOf_lt p 9 1 (by omega)
  have hz : hsz p = 4 * (numOf p 0 1 % 16) := rfl
  have hosz : (p.extract 20 (hsz p)).size = hsz p - 20 := by rw [ByteArray.size_extract]; omega
  have gs : getS p = p.extract (hsz p) p.size := by unfold getS; rw [if_pos e]
  refine ⟨⟨?_, ?_, ?_, ?_, ?_, ?_, ?_, ?_, ?_⟩, ?_, by omega, ⟨hz1, by omega, hz2⟩, by unfold getH; rw [if_pos e], gs, by rw [gs, ByteArray.size_extract]; omega⟩
  · show 0 ≤ ((numOf p 1 1 : Nat) : Int) ∧ ((numOf p 1 1 : Nat) : Int) ≤ 255; omega
  · show 0 ≤ ((numOf p 8 1 : Nat) : Int) ∧ ((numOf p 8 1 : Nat) : Int) ≤ 255; omega
  · show 0 ≤ ((numOf p 9 1 : Nat) : Int) ∧ ((numOf p 9 1 : Nat) : Int) ≤ 255; omega
  · show 0 ≤ ((numOf p 4 2 : Nat) : Int) ∧ ((numOf p 4 2 : Nat) : Int) ≤ 65535; omega
  · show 0 ≤ ((numOf p 6 2 % 8192 : Nat) : Int) ∧ ((numOf p 6 2 % 8192 : Nat) : Int) ≤ 8191; omega
  · show (p.extract 12 16).size = 4; rw [ByteArray.size_extract]; omega
  · show (p.extract 16 20).size = 4; rw [ByteArray.size_extract]; omega
  · show (p.extract 20 (hsz p)).size ≤ 40; rw [hosz]; omega
  · show (p.extract 20 (hsz p)).size % 4 = 0; rw [hosz]; omega
  · show 20 + (p.extract 20 (hsz p)).size = _
    rw [hosz]; omega

/-- How many bytes of payload a piece of this packet has. -/
def n15 (p : ByteArray) (m : Int) : Nat := pn15 (hsz p) m.toNat
/-- The pieces' headers and payloads. -/
def all15 (p : ByteArray) (m : Int) : List (H4 × ByteArray) := items15 (getH p) (getS p) (n15 p m)
def cutE (p : ByteArray) (m : Int) : Nat :=
  if getE p ≠ 0 then getE p else if m < 28 ∨ 65535 < m then 1 else if (p.size : Int) ≤ m then 0 else if (getH p).df = true then 8
  else if n15 p m = 0 then 1 else if allput15 (all15 p m) = true then 0 else 4
/-- The pieces. -/
def cutL (p : ByteArray) (m : Int) : List ByteArray := if cutE p m ≠ 0 then [] else if (p.size : Int) ≤ m then [p] else texts15 (all15 p m)

theorem cutE_get {p : ByteArray} {m : Int} (h : getE p ≠ 0) : cutE p m = getE p := by unfold cutE; rw [if_pos h]
theorem cutE_mtu {p : ByteArray} {m : Int} (h : getE p = 0) (h1 : m < 28 ∨ 65535 < m) : cutE p m = 1 := by unfold cutE; rw [if_neg (by simp [h]), if_pos h1]
theorem cutE_whole {p : ByteArray} {m : Int} (h : getE p = 0) (h1 : ¬ (m < 28 ∨ 65535 < m)) (h2 : (p.size : Int) ≤ m) : cutE p m = 0 := by
  unfold cutE; rw [if_neg (by simp [h]), if_neg h1, if_pos h2]
theorem cutE_df {p : ByteArray} {m : Int} (h : getE p = 0) (h1 : ¬ (m < 28 ∨ 65535 < m)) (h2 : ¬ (p.size : Int) ≤ m) (h3 : (getH p).df = true) : cutE p m = 8 := by
  unfold cutE; rw [if_neg (by simp [h]), if_neg h1, if_neg h2, if_pos h3]
theorem cutE_none {p : ByteArray} {m : Int} (h : getE p = 0) (h1 : ¬ (m < 28 ∨ 65535 < m)) (h2 : ¬ (p.size : Int) ≤ m) (h3 : (getH p).df = false) (h4 : n15 p m = 0) : cutE p m = 1 := by
  unfold cutE; rw [if_neg (by simp [h]), if_neg h1, if_neg h2, if_neg (by simp [h3]), if_pos h4]
theorem cutE_put {p : ByteArray} {m : Int} (h : getE p = 0) (h1 : ¬ (m < 28 ∨ 65535 < m)) (h2 : ¬ (p.size : Int) ≤ m) (h3 : (getH p).df = false) (h4 : n15 p m ≠ 0) : cutE p m = if allput15 (all15 p m) = true then 0 else 4 := by
  unfold cutE; rw [if_neg (by simp [h]), if_neg h1, if_neg h2, if_neg (by simp [h3]), if_neg h4]
theorem cutL_err {p : ByteArray} {m : Int} (h : cutE p m ≠ 0) : cutL p m = [] := by unfold cutL; rw [if_pos h]
theorem cutL_whole {p : ByteArray} {m : Int} (h : cutE p m = 0) (h2 : (p.size : Int) ≤ m) : cutL p m = [p] := by unfold cutL; rw [if_neg (by simp [h]), if_pos h2]
theorem cutL_put {p : ByteArray} {m : Int} (h : cutE p m = 0) (h2 : ¬ (p.size : Int) ≤ m) : cutL p m = texts15 (all15 p m) := by unfold cutL; rw [if_neg (by simp [h]), if_neg h2]

/-- What holds where a packet is cut into pieces. -/
structure Many15 (p : ByteArray) (m : Int) : Prop where
  good : getE p = 0
  mtu : 28 ≤ m ∧ m ≤ 65535
  big : m < (p.size : Int)
  df : (getH p).df = false
  fit : Fit15 (getH p) (n15 p m)
  most : (hsz p : Int) + (n15 p m : Int) ≤ m ∧ m < (hsz p : Int) + (n15 p m : Int) + 8
  more : n15 p m < (getS p).size
theorem many15 {p : ByteArray} {m : Int} (h : getE p = 0) (h1 : ¬ (m < 28 ∨ 65535 < m)) (h2 : ¬ (p.size : Int) ≤ m) (h3 : (getH p).df = false) (h4 : n15 p m ≠ 0) : Many15 p m := by
  have r := right15 h
  have hf := pn15_fits h4
  have hmod := pn15_mod (hsz p) m.toNat
  have hz := r.hz
  have hle := r.le
  have hpay := r.pay
  change hsz p + n15 p m ≤ _ ∧ _ < hsz p + n15 p m + 8 at hf
  change n15 p m % 8 = 0 at hmod
  refine ⟨h, by omega, by omega, h3, ⟨by rw [r.gh]; exact r.ok, by omega, hmod, ?_⟩, by omega, by omega⟩
  rw [r.gh, r.size]
  omega
/-- Just when a packet has pieces. -/
theorem cut15_ok {p : ByteArray} {m : Int} (h : cutE p m = 0) : getE p = 0 ∧ 28 ≤ m ∧ m ≤ 65535 ∧ ((p.size : Int) ≤ m ∨ Many15 p m ∧ (getH p).off + ((fore15 (getS p) (n15 p m) * (n15 p m / 8) : Nat) : Int) ≤ 8191) := by
  by_cases hg : getE p = 0
  · by_cases h1 : m < 28 ∨ 65535 < m
    · rw [cutE_mtu hg h1] at h; omega
    · by_cases h2 : (p.size : Int) ≤ m
      · exact ⟨hg, by omega, by omega, Or.inl h2⟩
      · cases h3 : (getH p).df with
        | true => rw [cutE_df hg h1 h2 h3] at h; omega
        | false =>
          by_cases h4 : n15 p m = 0
          · rw [cutE_none hg h1 h2 h3 h4] at h; omega
          · have hm := many15 hg h1 h2 h3 h4
            refine ⟨hg, by omega, by omega, Or.inr ⟨hm, ?_⟩⟩
            rw [cutE_put hg h1 h2 h3 h4] at h
            unfold all15 at h
            rw [hm.fit.all] at h
            by_cases hd : (getH p).off + ((fore15 (getS p) (n15 p m) * (n15 p m / 8) : Nat) : Int) ≤ 8191
            · exact hd
            · rw [if_neg (by simp only [decide_eq_true_eq]; exact hd)] at h; omega
  · rw [cutE_get hg] at h; omega

end Go.Proofs.Ytoijomdgcgbpbaa
