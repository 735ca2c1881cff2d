/-
  A clamped packet, plain: it is valid, of the same flow, and tells the limit.
-/
import Derived.Test.YtppobficnjpdiaaClampSpec
namespace Go.Proofs.Ytppobficnjpdiaa
open Go.RowKit
set_option linter.unusedVariables false

/-- A segment with another MSS and another sum. -/
def segK (s : ByteArray) (q m u : Nat) : ByteArray := with9 (with9 s (20 + q) m) 16 u
/-- What is got of it. -/
structure SegK (s T : ByteArray) (q m u : Nat) : Prop where
  size : T.size = s.size
  front : T.data.toList.take 16 = s.data.toList.take 16
  good : Good7 T
  mss : mssL (T.extract 20 (off7 T)).data.toList = some (m, q)
  sum : numOf T 16 2 = u
theorem HasK.changed {p : ByteArray} {n q : Nat} (h : HasK p n q) (m u : Nat) (hm : m ≤ 65535) (hu : u ≤ 65535) : SegK (pay9 p) (segK (pay9 p) q m u) q m u := by
  have L := h.lies
  have g := h.seg
  obtain ⟨st, _⟩ := h.opts
  obtain ⟨pre, x, y, post, e, hq, hn, _, _, hall⟩ := st.at_
  have fit := L.fit
  have q2 := L.two
  generalize pay9 p = s at *
  have z1 := with9_size s (20 + q) m fit
  have z2 := with9_size (with9 s (20 + q) m) 16 u (by omega)
  have fr : (segK s q m u).data.toList.take 16 = s.data.toList.take 16 := by
    unfold segK
    rw [with9_take _ 16 u 16 (by omega) (by omega), with9_take s (20 + q) m 16 fit (by omega)]
  have hz : (segK s q m u).size = s.size := z2.trans z1
  have ho : off7 (segK s q m u) = off7 s := by unfold off7; rw [same_num fr (by omega)]
  have hopt : ((segK s q m u).extract 20 (off7 s)).data.toList = pre ++ 2 :: 4 :: hiB m :: loB m :: post := by
    rw [sl_ext] at e ⊢
    unfold sl at e ⊢
    rw [List.drop_take] at e ⊢
    have d1 : (segK s q m u).data.toList.drop 20 = ((s.data.toList.drop 20).set q (hiB m)).set (q + 1) (loB m) := by
      unfold segK
      rw [with9_drop _ 16 u 20 (by omega) (by omega), with9_set s (20 + q) m fit, List.drop_set, if_neg (by omega), List.drop_set, if_neg (by omega), show 20 + q - 20 = q by omega, show 20 + q + 1 - 20 = q + 1 by omega]
    rw [d1, List.take_set, List.take_set, e, hq, List.set_append_right _ _ (by omega), List.set_append_right _ _ (by omega), show 0 + pre.length + 2 - pre.length = 2 by omega, show 0 + pre.length + 2 + 1 - pre.length = 3 by omega]
    rfl
  have hm2 : (hiB m).toNat * 256 + (loB m).toNat = m := by rw [hiB_nat m hm, loB_nat]; omega
  have hr := hall (hiB m) (loB m)
  rw [hm2] at hr
  refine ⟨hz, fr, ?_, ?_, ?_⟩
  · refine ⟨by rw [hz]; exact g.short, by rw [ho]; exact g.least, by rw [ho, hz]; exact g.fit, ?_, ?_⟩
    · rw [same_num fr (by omega)]; exact g.form
    · rw [ho, hopt]; exact hr.1
  · rw [ho, hopt, mssL_right hr.1]; exact hr.2
  · exact num_with _ 16 u (by omega) hu

/-- A packet with another number in its payload. -/
theorem with9_behind (p s : ByteArray) (f k n : Nat) (hs : s.data.toList = p.data.toList.drop f) (h : f + k + 2 ≤ p.size) : (with9 p (f + k) n).data.toList.drop f = (with9 s k n).data.toList := by
  have hz : s.size = p.size - f := by rw [← size_list, hs, List.length_drop, size_list]
  rw [with9_set p (f + k) n h, with9_set s k n (by omega), hs, List.drop_set, if_neg (by omega), List.drop_set, if_neg (by omega), show f + k - f = k by omega, show f + k + 1 - f = k + 1 by omega]
def pktK (p : ByteArray) (f q m u : Nat) : ByteArray := with9 (with9 p (f + 20 + q) m) (f + 16) u
structure PktK (p Q : ByteArray) (q m u : Nat) : Prop where
  size : Q.size = p.size
  front : Q.data.toList.take (fr9 p) = p.data.toList.take (fr9 p)
  back : Q.data.toList.drop (fr9 p) = (segK (pay9 p) q m u).data.toList
theorem LiesK.changed {p : ByteArray} {n q : Nat} (L : LiesK p n q) (m u : Nat) : PktK p (pktK p (fr9 p) q m u) q m u := by
  have l1 := L.size
  have l2 := L.fit
  have z1 := with9_size p (fr9 p + 20 + q) m (by omega)
  have z2 := with9_size (with9 p (fr9 p + 20 + q) m) (fr9 p + 16) u (by omega)
  refine ⟨z2.trans z1, ?_, ?_⟩
  · unfold pktK
    rw [with9_take _ (fr9 p + 16) u _ (by omega) (by omega), with9_take p _ m _ (by omega) (by omega)]
  · have b1 := with9_behind p (pay9 p) (fr9 p) (20 + q) m L.list (by omega)
    rw [← Nat.add_assoc] at b1
    exact with9_behind _ (with9 (pay9 p) (20 + q) m) (fr9 p) 16 u b1.symm (by omega)
theorem same_pkt {p Q : ByteArray} (hE : pktE p = 0) (hs : Q.size = p.size) (hf : Q.data.toList.take (fr9 p) = p.data.toList.take (fr9 p)) : pktE Q = 0 := by
  have sh := shape9 hE
  have l := sh.fr
  have hv : ver9 Q = ver9 p := by unfold ver9; rw [same_num hf (by omega)]
  unfold pktE at hE ⊢
  rw [hv]
  by_cases h4 : ver9 p = 4
  · rw [if_pos h4] at hE ⊢
    have g := getE_zero.1 hE
    have e : fr9 p = hsz p := by unfold fr9; rw [if_pos h4]
    have hz : hsz Q = hsz p := by unfold hsz; rw [same_num hf (by omega)]
    refine getE_zero.2 ⟨by omega, by rw [same_num hf (by omega)]; exact g.ver, by rw [hz, hs]; exact g.len, by rw [same_num hf (by omega), hs]; exact g.all, ?_, by rw [same_num hf (by omega)]; exact g.form⟩
    rw [hz, same_ext hf (by omega)]
    exact g.sum
  · rw [if_neg h4] at hE ⊢
    have g := get6E_zero.1 hE
    have e : fr9 p = 40 := by unfold fr9; rw [if_neg h4]
    rw [e] at hf
    exact get6E_zero.2 ⟨by rw [hs]; exact g.short, by rw [same_num hf (by omega)]; exact g.ver, by rw [same_num hf (by omega), hs]; exact g.len⟩

theorem even_pseudo (a : A9) (n : Int) {p : ByteArray} (ha : a = any9 p) (hE : pktE p = 0) : (pseudoD a.src.data.toList a.dst.data.toList 6 n).length % 2 = 0 ∧ 0 < ws true (pseudoD a.src.data.toList a.dst.data.toList 6 n) := by
  have hb : byteAt 6 0 = 6 := by decide
  have lens : (a.src.size = 4 ∧ a.dst.size = 4) ∨ (a.src.size = 16 ∧ a.dst.size = 16) := by
    subst ha
    unfold pktE at hE
    unfold any9
    by_cases h4 : ver9 p = 4
    · rw [if_pos h4] at hE ⊢
      have g := getE_zero.1 hE
      have e : getH p = hdr p := by unfold getH; rw [if_pos hE]
      rw [e]
      have := g.len
      exact Or.inl ⟨by show (p.extract 12 16).size = 4; rw [ByteArray.size_extract]; omega, by show (p.extract 16 20).size = 4; rw [ByteArray.size_extract]; omega⟩
    · rw [if_neg h4] at hE ⊢
      have g := get6E_zero.1 hE
      have e : get6H p = hdr6 p := by unfold get6H; rw [if_pos hE]
      rw [e]
      have := g.short
      exact Or.inr ⟨by show (p.extract 8 24).size = 16; rw [ByteArray.size_extract]; omega, by show (p.extract 24 40).size = 16; rw [ByteArray.size_extract]; omega⟩
  unfold pseudoD
  rw [hb]
  rcases lens with ⟨l1, l2⟩ | ⟨l1, l2⟩
  · rw [if_neg (by rw [size_list]; omega)]
    refine ⟨by simp only [List.length_append, size_list, List.length_cons, List.length_nil]; omega, ?_⟩
    rw [ws_append, List.length_append, size_list, size_list, side_even _ _ (by omega)]
    simp only [ws]
    have : (6 : UInt8).toNat = 6 := rfl
    omega
  · rw [if_pos (by rw [size_list]; omega)]
    refine ⟨by simp only [List.length_append, size_list, List.length_cons, List.length_nil]; omega, ?_⟩
    rw [ws_append, List.length_append, size_list, size_list, side_even _ _ (by omega)]
    simp only [ws]
    have : (6 : UInt8).toNat = 6 := rfl
    omega

/-- Of a packet that was clamped. -/
structure HeldK (p Q : ByteArray) (m q : Nat) : Prop where
  has : HasK Q m q
  head : any9 Q = any9 p
  fr : fr9 Q = fr9 p
  pay : pay9 Q = segK (pay9 p) q m (newK p m)
  size : Q.size = p.size
  flow : flowH Q = flowH p
theorem newK_le (p : ByteArray) (m : Nat) : newK p m ≤ 65535 := num9_le _ _ _ _ _
theorem HasK.fresh {p : ByteArray} {n q : Nat} (h : HasK p n q) (m : Nat) : newK p m = num9 6 (any9 p).src (any9 p).dst (with9 (pay9 p) (20 + q) m) 16 := by
  unfold newK; rw [h.mss]; rfl
theorem HasK.held {p : ByteArray} {n q : Nat} (h : HasK p n q) (m : Nat) (hm : m ≤ 65535) : HeldK p (pktK p (fr9 p) q m (newK p m)) m q := by
  have L := h.lies
  have hu := newK_le p m
  have S := h.changed m (newK p m) hm hu
  have P := L.changed m (newK p m)
  have hnew := h.fresh m
  generalize hx : newK p m = u at *
  generalize pktK p (fr9 p) q m u = Q at *
  have E := same_pkt h.good.pkt P.size P.front
  obtain ⟨hv, ha, hf⟩ := same_head h.good.pkt E P.front
  have hpay : pay9 Q = segK (pay9 p) q m u := by
    rw [(shape9 E).pay, hf]
    apply text_ext
    rw [sl_ext, sl_all, P.back]
  have hz := P.size
  have lf := L.fr
  have lz := L.size
  have lt := L.fit
  have g7 : get7E (pay9 Q) = 0 := by rw [hpay]; exact get7E_zero.2 S.good
  have hsum : sumD (ph9 6 (any9 p).src (any9 p).dst (segK (pay9 p) q m u)) = 0 := by
    unfold ph9
    rw [S.size]
    have ev := (even_pseudo (any9 p) ((pay9 p).size : Nat) rfl h.good.pkt).1
    have z1 := with9_size (pay9 p) (20 + q) m lt
    have hd : (segK (pay9 p) q m u).data.toList = (with9 (pay9 p) (20 + q) m).data.toList.take 16 ++ be u 2 ++ (with9 (pay9 p) (20 + q) m).data.toList.drop (16 + 2) := rfl
    rw [hd, ← List.append_assoc, ← List.append_assoc]
    refine gap_right _ _ _ ?_ (Or.inl ?_)
    · rw [List.length_append, List.length_take, size_list]; omega
    · rw [hnew]
      unfold num9
      rw [if_neg (fun x => absurd x.2 (by decide))]
      unfold gap9
      rw [z1]
  have G : Good9 Q := by
    refine ⟨?_, E, by rw [ha]; exact h.good.whole, by rw [ha]; exact h.good.known, by rw [ha, h.tcp]; exact g7, ?_⟩
    · have := verE_zero.1 h.good.ver
      exact verE_yes (by omega) (by rw [hv]; exact this.2)
    · rw [ha]
      unfold A9.holds
      rw [h.tcp, if_neg (fun x => absurd x.1 (by decide)), hpay]
      exact decide_eq_true hsum
  have hk : HasK Q m q := by
    refine ⟨G, by rw [ha]; exact h.tcp, ?_, ?_⟩
    · rw [hpay, same_num S.front (by omega)]; exact h.syn
    · unfold mssOf; rw [hpay]; exact S.mss
  refine ⟨hk, ha, hf, by rw [hpay, hx], hz, ?_⟩
  rw [flowH_ok (flowE_zero.2 G), flowH_ok (flowE_zero.2 h.good)]
  unfold flow9
  have g7p := get7E_zero.2 h.seg
  have s1 : sp9 6 (pay9 Q) = sp9 6 (pay9 p) := by
    show (get7H (pay9 Q)).src = (get7H (pay9 p)).src
    rw [(get7_ok g7).1, (get7_ok g7p).1]
    show ((numOf (pay9 Q) 0 2 : Nat) : Int) = (numOf (pay9 p) 0 2 : Nat)
    rw [hpay, same_num S.front (by omega)]
  have s2 : dp9 6 (pay9 Q) = dp9 6 (pay9 p) := by
    show (get7H (pay9 Q)).dst = (get7H (pay9 p)).dst
    rw [(get7_ok g7).1, (get7_ok g7p).1]
    show ((numOf (pay9 Q) 2 2 : Nat) : Int) = (numOf (pay9 p) 2 2 : Nat)
    rw [hpay, same_num S.front (by omega)]
  rw [ha, h.tcp, s1, s2]

theorem clampK_none {p : ByteArray} (m : Nat) (h : hasK p = false) : clampK p m = p := by unfold clampK; rw [if_neg (by rw [h]; simp)]
theorem HasK.clamp {p : ByteArray} {n q : Nat} (h : HasK p n q) (m : Nat) : clampK p m = if m < n then pktK p (fr9 p) q m (newK p m) else p := by
  unfold clampK pktK
  rw [h.tells, h.owns]
  by_cases hl : m < n
  · rw [if_pos ⟨h.has, hl⟩, if_pos hl]
  · rw [if_neg (fun x => hl x.2), if_neg hl]
theorem clampK_twice (p : ByteArray) (a b : Nat) (ha : a ≤ 65535) (hb : b ≤ 65535) : clampK (clampK p a) b = clampK p (min a b) := by
  cases hh : hasK p with
  | false => rw [clampK_none a hh, clampK_none b hh, clampK_none _ hh]
  | true =>
    obtain ⟨n, q, h⟩ := HasK.of hh
    have L := h.lies
    rw [h.clamp a, h.clamp (min a b)]
    by_cases h1 : a < n
    · rw [if_pos h1]
      have H := h.held a ha
      rw [H.has.clamp b, H.fr]
      by_cases h2 : b < a
      · rw [if_pos h2, show min a b = b by omega, if_pos (by omega)]
        have l1 := L.size
        have l2 := L.fit
        have hn : newK (pktK p (fr9 p) q a (newK p a)) b = newK p b := by
          rw [H.has.fresh b, h.fresh b, H.head, H.pay]
          unfold segK
          rw [with9_comm _ 16 (20 + q) _ _ (by omega) (by rw [with9_size _ _ _ l2]; exact l2), with9_with _ _ _ _ l2, num9_with _ _ _ _ _ _ (by rw [with9_size _ _ _ l2]; omega)]
        rw [hn]
        unfold pktK
        have z1 := with9_size p (fr9 p + 20 + q) a (by omega)
        have z2 := with9_size p (fr9 p + 20 + q) b (by omega)
        have z3 := with9_size (with9 p (fr9 p + 20 + q) a) (fr9 p + 20 + q) b (by omega)
        rw [with9_comm _ (fr9 p + 16) (fr9 p + 20 + q) _ _ (by omega) (by omega), with9_with _ _ _ _ (by omega), with9_with _ _ _ _ (by omega)]
      · rw [if_neg h2, show min a b = a by omega, if_pos h1]
    · rw [if_neg h1, h.clamp b]
      by_cases h2 : b < n
      · rw [show min a b = b by omega]
      · rw [if_neg h2, if_neg (by omega)]

end Go.Proofs.Ytppobficnjpdiaa
