/-
  Clamping, plain: which packets have an MSS that may be held down, and what becomes of them; no Go function is walked here.
-/
import Derived.Test.YtppobficnjpdiaaFlowMade
import Derived.Test.YtppobficnjpdiaaTcpMss
namespace Go.Proofs.Ytppobficnjpdiaa
open Go.RowKit
set_option linter.unusedVariables false

/-- A number's two bytes. -/
def hiB (n : Nat) : UInt8 := UInt8.ofNat (n / 256 % 256)
def loB (n : Nat) : UInt8 := UInt8.ofNat (n % 256)
theorem hiB_nat (n : Nat) (h : n ≤ 65535) : (hiB n).toNat = n / 256 := by unfold hiB; rw [UInt8.toNat_ofNat']; omega
theorem loB_nat (n : Nat) : (loB n).toNat = n % 256 := by unfold loB; rw [UInt8.toNat_ofNat']; omega
theorem set_two (l : List UInt8) (k : Nat) (a b : UInt8) (h : k + 2 ≤ l.length) : l.take k ++ [a, b] ++ l.drop (k + 2) = (l.set k a).set (k + 1) b := by
  have hl := cut_two l k h
  have ht : (l.take k).length = k := by rw [List.length_take]; omega
  conv => rhs; rw [hl]
  rw [List.append_assoc, List.append_assoc, List.set_append_right _ _ (by omega), ht, Nat.sub_self, List.set_append_right _ _ (by omega), ht, Nat.add_sub_cancel_left]
  rfl
/-- A text with another number at a place, byte by byte. -/
theorem with9_set (s : ByteArray) (k n : Nat) (h : k + 2 ≤ s.size) : (with9 s k n).data.toList = (s.data.toList.set k (hiB n)).set (k + 1) (loB n) := by
  rw [← set_two _ _ _ _ (by rw [size_list]; exact h)]
  show s.data.toList.take k ++ be n 2 ++ s.data.toList.drop (k + 2) = _
  rw [be_two']
  rfl
theorem with9_comm (s : ByteArray) (i j a b : Nat) (hi : i + 2 ≤ j) (hj : j + 2 ≤ s.size) : with9 (with9 s i a) j b = with9 (with9 s j b) i a := by
  apply text_ext
  have z1 := with9_size s i a (by omega)
  have z2 := with9_size s j b (by omega)
  rw [with9_set _ j b (by omega), with9_set s i a (by omega), with9_set _ i a (by omega), with9_set s j b (by omega)]
  rw [List.set_comm (i := i + 1) (j := j) _ _ (by omega), List.set_comm (i := i) (j := j) _ _ (by omega), List.set_comm (i := i + 1) (j := j + 1) _ _ (by omega), List.set_comm (i := i) (j := j + 1) _ _ (by omega)]
theorem with9_take (s : ByteArray) (k n m : Nat) (h : k + 2 ≤ s.size) (hm : m ≤ k) : (with9 s k n).data.toList.take m = s.data.toList.take m := by
  rw [with9_set s k n h, List.take_set_of_le (by omega), List.take_set_of_le (by omega)]
theorem with9_drop (s : ByteArray) (k n m : Nat) (h : k + 2 ≤ s.size) (hm : k + 2 ≤ m) : (with9 s k n).data.toList.drop m = s.data.toList.drop m := by
  rw [with9_set s k n h, List.drop_set, if_pos (by omega), List.drop_set, if_pos (by omega)]
/-- What a change does to the sum of bytes. -/
theorem ws_with (s : ByteArray) (k n : Nat) (h : k + 2 ≤ s.size) (hn : n ≤ 65535) :
    ws true (with9 s k n).data.toList + (if k % 2 = 0 then 256 else 1) * (numOf s k 2 / 256) + (if k % 2 = 0 then 1 else 256) * (numOf s k 2 % 256) = ws true s.data.toList + (if k % 2 = 0 then 256 else 1) * (n / 256) + (if k % 2 = 0 then 1 else 256) * (n % 256) := by
  have hl : k + 1 < s.data.toList.length := by rw [size_list]; omega
  have e1 := ws_set true s.data.toList k (hiB n) (by omega)
  have e2 := ws_set true (s.data.toList.set k (hiB n)) (k + 1) (loB n) (by rw [List.length_set]; exact hl)
  rw [List.getElem_set_ne (by omega)] at e2
  rw [hiB_nat n hn] at e1
  rw [loB_nat] at e2
  have hn2 := num_2 s k (by omega)
  have x1 : s.data.toList[k] = s[k] := rfl
  have x2 : s.data.toList[k + 1] = s[k + 1] := rfl
  rw [x1] at e1
  rw [x2] at e2
  have l1 := s[k].toNat_lt
  have l2 := s[k + 1].toNat_lt
  have d1 : numOf s k 2 / 256 = s[k].toNat := by omega
  have d2 : numOf s k 2 % 256 = s[k + 1].toNat := by omega
  rw [with9_set s k n h, d1, d2]
  have s1 : side true k = decide (k % 2 = 0) := by unfold side; split <;> simp_all
  have s2 : side true (k + 1) = !decide (k % 2 = 0) := by rw [side_succ, s1]
  rw [s1] at e1
  rw [s2] at e2
  by_cases hk : k % 2 = 0
  · simp only [hk, decide_true, Bool.not_true, if_true, Bool.false_eq_true, if_false] at e1 e2 ⊢
    omega
  · simp only [hk, decide_false, Bool.not_false, if_true, Bool.false_eq_true, if_false] at e1 e2 ⊢
    omega
theorem num_with_other (s : ByteArray) (k n i c : Nat) (h : k + 2 ≤ s.size) (hi : i + c ≤ k) : numOf (with9 s k n) i c = numOf s i c := same_num (with9_take s k n k h (Nat.le_refl _)) hi
theorem num_with (s : ByteArray) (k n : Nat) (h : k + 2 ≤ s.size) (hn : n ≤ 65535) : numOf (with9 s k n) k 2 = n := by
  refine num_seg (a := s.data.toList.take k) (b := be n 2) (c := s.data.toList.drop (k + 2)) ?_ (by rw [List.length_take, size_list]; omega) rfl (by show _ < 65536; omega)
  show s.data.toList.take k ++ be n 2 ++ s.data.toList.drop (k + 2) = _
  rw [List.append_assoc]

/-- Two steps of an update. -/
theorem steps_two (X G own o0 f0 o1 f1 : Nat) (hx : 0 < X) (hX : X % 65535 = 0) (ho : own ≤ 65535) (h0 : o0 ≤ 65280) (h1 : o1 ≤ 65280) (hG : 0 < G) (e : G + own + o0 + o1 = X + f0 + f1) :
    updD (updD own o0 f0) o1 f1 = 65535 - fold G := by
  unfold updD
  have a1 : fold (65535 - own + (65535 - o0) + f0) = (65535 - own + (65535 - o0) + f0 - 1) % 65535 + 1 := by unfold fold; rw [if_neg (by omega)]
  have a2 : fold G = (G - 1) % 65535 + 1 := by unfold fold; rw [if_neg (by omega)]
  rw [a1, a2]
  generalize hr : (65535 - own + (65535 - o0) + f0 - 1) % 65535 + 1 = r
  have a3 : fold (65535 - (65535 - r) + (65535 - o1) + f1) = (65535 - (65535 - r) + (65535 - o1) + f1 - 1) % 65535 + 1 := by unfold fold; rw [if_neg (by omega)]
  rw [a3]
  omega
/-- One step. -/
theorem step_one (X G own o f : Nat) (hx : 0 < X) (hX : X % 65535 = 0) (ho : own ≤ 65534) (h0 : o ≤ 65535) (hG : 0 < G) (e : G + own + o = X + f) : updD own o f = 65535 - fold G := by
  unfold updD
  have a1 : fold (65535 - own + (65535 - o) + f) = (65535 - own + (65535 - o) + f - 1) % 65535 + 1 := by unfold fold; rw [if_neg (by omega)]
  have a2 : fold G = (G - 1) % 65535 + 1 := by unfold fold; rw [if_neg (by omega)]
  rw [a1, a2]
  omega

/-- A number at its place. -/
structure NK where
  at_ : Nat
  is_ : Nat
def NK.cells (n : NK) : Array Value := #[.int .i64 (n.at_ : Nat), .int .i64 (n.is_ : Nat)]
def NK.zero : NK := ⟨0, 0⟩
structure HcK (u : World) (B : Nat) (n : NK) : Prop where
  c0 : u.cell? ⟨B, 0, none⟩ = some (.int .i64 (n.at_ : Nat))
  c1 : u.cell? ⟨B, 1, none⟩ = some (.int .i64 (n.is_ : Nat))
  f0 : u.frozen? ⟨B, 0, none⟩ = false
  f1 : u.frozen? ⟨B, 1, none⟩ = false
theorem HcK.of {u : World} {B : Nat} {n : NK} {T : TypeId} (hb : Blk u B n.cells T) : HcK u B n := ⟨hb.cell 0, hb.cell 1, hb.frozen 0, hb.frozen 1⟩
/-- Does a packet tell an MSS? -/
def mssOf (p : ByteArray) : Option (Nat × Nat) := mssL ((pay9 p).extract 20 (off7 (pay9 p))).data.toList
def hasK (p : ByteArray) : Bool := decide (flowE p = 0) && decide ((any9 p).proto = 6) && (mssOf p).isSome && decide (numOf (pay9 p) 13 1 / 2 % 2 = 1)
/-- The MSS, and the segment's sum. -/
def mssK (p : ByteArray) : NK := if hasK p then ⟨fr9 p + 20 + mA (mssOf p), mN (mssOf p)⟩ else NK.zero
def ownK (p : ByteArray) : NK := if hasK p then ⟨fr9 p + 16, numOf (pay9 p) 16 2⟩ else NK.zero
/-- The sum that is put. -/
def newK (p : ByteArray) (m : Nat) : Nat := num9 6 (any9 p).src (any9 p).dst (with9 (pay9 p) (20 + mA (mssOf p)) m) 16
def clampK (p : ByteArray) (m : Nat) : ByteArray := if hasK p = true ∧ m < (mssK p).is_ then with9 (with9 p (mssK p).at_ m) (ownK p).at_ (newK p m) else p
/-- The nearest limit. -/
def nearK (n : Int) : Nat := (min (max n 0) 65535).toNat

structure HasK (p : ByteArray) (n q : Nat) : Prop where
  good : Good9 p
  tcp : (any9 p).proto = 6
  syn : numOf (pay9 p) 13 1 / 2 % 2 = 1
  mss : mssOf p = some (n, q)
theorem HasK.of {p : ByteArray} (h : hasK p = true) : ∃ n q, HasK p n q := by
  simp only [hasK, Bool.and_eq_true, decide_eq_true_eq] at h
  obtain ⟨⟨⟨h1, h2⟩, h3⟩, h4⟩ := h
  obtain ⟨⟨n, q⟩, h5⟩ := Option.isSome_iff_exists.1 h3
  exact ⟨n, q, flowE_zero.1 h1, h2, h4, h5⟩
theorem HasK.has {p : ByteArray} {n q : Nat} (h : HasK p n q) : hasK p = true := by
  simp only [hasK, Bool.and_eq_true, decide_eq_true_eq]
  exact ⟨⟨⟨flowE_zero.2 h.good, h.tcp⟩, by rw [h.mss]; rfl⟩, h.syn⟩
theorem HasK.tells {p : ByteArray} {n q : Nat} (h : HasK p n q) : mssK p = ⟨fr9 p + 20 + q, n⟩ := by
  unfold mssK; rw [if_pos h.has, h.mss]; rfl
theorem HasK.owns {p : ByteArray} {n q : Nat} (h : HasK p n q) : ownK p = ⟨fr9 p + 16, numOf (pay9 p) 16 2⟩ := by
  unfold ownK; rw [if_pos h.has]
theorem HasK.seg {p : ByteArray} {n q : Nat} (h : HasK p n q) : Good7 (pay9 p) := by
  have := h.good.load
  rw [h.tcp] at this
  exact get7E_zero.1 this
/-- Where all that stands. -/
structure LiesK (p : ByteArray) (n q : Nat) : Prop where
  even : fr9 p % 2 = 0
  fr : 20 ≤ fr9 p
  pay : pay9 p = p.extract (fr9 p) p.size
  list : (pay9 p).data.toList = p.data.toList.drop (fr9 p)
  size : (pay9 p).size + fr9 p = p.size
  fit : 20 + q + 2 ≤ (pay9 p).size
  two : 2 ≤ q
  num : numOf (pay9 p) (20 + q) 2 = n
  most : n ≤ 65535
theorem HasK.opts {p : ByteArray} {n q : Nat} (h : HasK p n q) : Stands ((pay9 p).extract 20 (off7 (pay9 p))).data.toList 0 n q ∧ rightL ((pay9 p).extract 20 (off7 (pay9 p))).data.toList = true := by
  have g := h.seg
  have hm := h.mss
  unfold mssOf at hm
  rw [mssL_right g.opts] at hm
  exact ⟨stands _ g.opts 0 n q hm, g.opts⟩
theorem HasK.lies {p : ByteArray} {n q : Nat} (h : HasK p n q) : LiesK p n q := by
  have sh := shape9 h.good.pkt
  have l := sh.fr
  have g := h.seg
  obtain ⟨st, _⟩ := h.opts
  obtain ⟨pre, x, y, post, e, hq, hn, _, _, _⟩ := st.at_
  have hz : (pay9 p).size + fr9 p = p.size := by rw [sh.pay, ByteArray.size_extract]; omega
  have hlist : (pay9 p).data.toList = p.data.toList.drop (fr9 p) := by rw [sh.pay, sl_ext, sl_all]
  have hfr : fr9 p % 2 = 0 := by
    unfold fr9
    split
    · unfold hsz; omega
    · rfl
  have g1 := g.least
  have g2 := g.fit
  have hol : ((pay9 p).extract 20 (off7 (pay9 p))).data.toList.length = off7 (pay9 p) - 20 := by rw [size_list, ByteArray.size_extract]; omega
  have hol2 := congrArg List.length e
  rw [hol, List.length_append, List.length_cons, List.length_cons, List.length_cons, List.length_cons] at hol2
  have hx := x.toNat_lt
  have hy := y.toNat_lt
  refine ⟨hfr, l.1, sh.pay, hlist, hz, by omega, by omega, ?_, by omega⟩
  have hs1 : (pay9 p).data.toList = ((pay9 p).data.toList.take 20 ++ (pre ++ [2, 4])) ++ ([x, y] ++ (post ++ (pay9 p).data.toList.drop (off7 (pay9 p)))) := by
    have j1 := sl_join (pay9 p) 0 20 (off7 (pay9 p)) (by omega) (by omega)
    have j2 := sl_join (pay9 p) 0 (off7 (pay9 p)) (pay9 p).size (by omega) (by omega)
    rw [sl_ext] at e
    rw [← j1, e, sl_all, sl_all, List.drop_zero] at j2
    have j3 : sl (pay9 p) 0 20 = (pay9 p).data.toList.take 20 := by unfold sl; rw [List.drop_zero]
    rw [j3] at j2
    refine j2.symm.trans ?_
    simp only [List.append_assoc, List.cons_append, List.nil_append]
  have hb : [x, y] = be n 2 := by rw [be_two', hn, two_bytes]
  rw [hb] at hs1
  refine num_seg hs1 ?_ rfl (by show _ < 65536; omega)
  rw [List.length_append, List.length_append, List.length_take, size_list, List.length_cons, List.length_cons, List.length_nil]
  omega

end Go.Proofs.Ytppobficnjpdiaa
