/-
  What is built of a segment, or of a datagram, plain: it is valid, and of just that flow.
-/
import Derived.Test.YtppobficnjpdiaaFlowSealed
import Derived.Test.YtppobficnjpdiaaFlowFlip
import Derived.Test.YtppobficnjpdiaaIp4Plain
import Derived.Test.YtppobficnjpdiaaIp6Plain
namespace Go.Proofs.Ytppobficnjpdiaa
open Go.RowKit
set_option linter.unusedVariables false

theorem be_two' (n : Nat) : be n 2 = two n := by
  rw [be_succ, be_succ]
  rw [show n / 256 ^ 1 % 256 = n / 256 % 256 by omega, show n / 256 ^ 0 % 256 = n % 256 by omega]
  rfl
/-- A text with its sum in a gap of two bytes at an even place is right. -/
theorem gap_right (a c : List UInt8) (n : Nat) (ha : a.length % 2 = 0) (hn : n = sumD (a ++ [0, 0] ++ c) ∨ (sumD (a ++ [0, 0] ++ c) = 0 ∧ n = 65535)) : sumD (a ++ be n 2 ++ c) = 0 := by
  have hn2 : n ≤ 65535 := by
    have := sumD_le (a ++ [0, 0] ++ c)
    rcases hn with h | h <;> omega
  rw [be_two']
  have e1 : ws true (a ++ two n ++ c) = ws true a + n + ws true c := by rw [ws_mid a (two n) c ha rfl, ws_two n hn2]
  have e2 : ws true (a ++ [0, 0] ++ c) = ws true a + ws true c := by
    rw [ws_mid a [0, 0] c ha rfl]
    simp [ws]
  unfold sumD at hn ⊢
  rw [e1]
  rw [e2] at hn
  have f1 := fold_full (ws true a + n + ws true c)
  have l1 := fold_le (ws true a + ws true c)
  have l2 := fold_le (ws true a + n + ws true c)
  have z1 := fold_zero (ws true a + ws true c)
  have hmod : fold (ws true a + ws true c) % 65535 = (ws true a + ws true c) % 65535 := by
    unfold fold; split <;> omega
  generalize fold (ws true a + ws true c) = f at *
  have : fold (ws true a + n + ws true c) = 65535 := f1.2 (by omega)
  omega

/-- Equal behind a place. -/
theorem tail_ext {p q : ByteArray} {m i : Nat} (hz : q.size = p.size) (h : q.data.toList.drop m = p.data.toList.drop m) (hi : m ≤ i) (j : Nat) : q.extract i j = p.extract i j := by
  apply text_ext
  rw [sl_ext, sl_ext]
  unfold sl
  have e : ∀ (l : List UInt8), (l.take j).drop i = ((l.drop m).take (j - m)).drop (i - m) := by
    intro l
    rw [List.take_drop, List.drop_drop]
    by_cases hj : m ≤ j
    · rw [show m + (j - m) = j by omega, show m + (i - m) = i by omega]
    · rw [List.drop_eq_nil_of_le (by rw [List.length_take]; omega), List.drop_eq_nil_of_le (by rw [List.length_take]; omega)]
  rw [e, e, h]

/-- A text that says a protocol's payload, of these ports, whatever stands in its sum's place. -/
structure Made9 (n : Int) (k : Nat) (b : ByteArray) (sp dp : Int) : Prop where
  known : isK n = true
  place : pl9 n b.size = k
  even : k % 2 = 0
  pos : k ≠ 0
  short : b.size ≤ 60000
  says : ∀ X : ByteArray, X.size = b.size → X.data.toList.take k = b.data.toList.take k → X.data.toList.drop (k + 2) = b.data.toList.drop (k + 2) → loadE n X = 0 ∧ sp9 n X = sp ∧ dp9 n X = dp ∧ own9 n X = numOf X k 2
theorem made7 (s : S7) (hok : s.Ok) (hw : s.Wf) (hr : rightL s.opt.data.toList = true) (hp : s.pay.size ≤ 3000) : Made9 6 16 ⟨(s.pack 0).toArray⟩ s.src s.dst := by
  have t := put7_get s 0 hok hw (by omega)
  generalize (⟨(s.pack 0).toArray⟩ : ByteArray) = b at *
  have z := t.size
  have f := hok.few
  have o := t.off
  refine ⟨rfl, ?_, by decide, by decide, by omega, ?_⟩
  · unfold pl9; rw [if_pos (by omega)]
  · intro X hz ht hd
    have n12 : numOf X 12 1 = numOf b 12 1 := same_num ht (by omega)
    have hoff : off7 X = off7 b := by unfold off7; rw [n12]
    have e0 : get7E X = 0 := get7E_ok (by omega) (by rw [hoff]; omega) (by rw [n12]; exact t.form) (by rw [hoff, tail_ext hz hd (by omega), t.opts]; exact hr)
    have g := get7_ok e0
    have hb : seg7 b = s := t.hd
    have hs : (seg7 b).src = s.src := by rw [hb]
    have hdd : (seg7 b).dst = s.dst := by rw [hb]
    refine ⟨e0, ?_, ?_, ?_⟩
    · show (get7H X).src = s.src
      rw [g.1, ← hs]
      show ((numOf X 0 2 : Nat) : Int) = (numOf b 0 2 : Nat)
      rw [same_num ht (by omega)]
    · show (get7H X).dst = s.dst
      rw [g.1, ← hdd]
      show ((numOf X 2 2 : Nat) : Int) = (numOf b 2 2 : Nat)
      rw [same_num ht (by omega)]
    · show get7N X = _
      rw [g.2]
theorem made8 (d : D8) (hok : d.Ok) (hp : d.pay.size ≤ 3000) : Made9 17 6 ⟨(d.pack 0).toArray⟩ d.src d.dst := by
  have t := put8_get d 0 hok (by omega)
  generalize (⟨(d.pack 0).toArray⟩ : ByteArray) = b at *
  have z := t.size
  refine ⟨rfl, ?_, by decide, by decide, by omega, ?_⟩
  · unfold pl9; rw [if_neg (by omega), if_pos (by omega)]
  · intro X hz ht hd
    have n4 : numOf X 4 2 = numOf b 4 2 := same_num ht (by omega)
    have e0 : get8E X = 0 := get8E_ok (by omega) (by rw [n4, t.len]; omega)
    have g := get8_ok e0
    have hb : dat8 b = d := t.dat
    have hs : (dat8 b).src = d.src := by rw [hb]
    have hdd : (dat8 b).dst = d.dst := by rw [hb]
    refine ⟨e0, ?_, ?_, ?_⟩
    · show (get8H X).src = d.src
      rw [g.1, ← hs]
      show ((numOf X 0 2 : Nat) : Int) = (numOf b 0 2 : Nat)
      rw [same_num ht (by omega)]
    · show (get8H X).dst = d.dst
      rw [g.1, ← hdd]
      show ((numOf X 2 2 : Nat) : Int) = (numOf b 2 2 : Nat)
      rw [same_num ht (by omega)]
    · show get8N X = _
      rw [g.2]

/-- Such a text, sealed. -/
theorem made_sealed {n : Int} {k : Nat} {b : ByteArray} {sp dp : Int} (m : Made9 n k b sp dp) (src dst : ByteArray) (hl : dst.size = src.size) (he : src.size % 2 = 0) :
    loadE n (seal9 n src dst b) = 0 ∧ sp9 n (seal9 n src dst b) = sp ∧ dp9 n (seal9 n src dst b) = dp ∧ (seal9 n src dst b).size = b.size ∧
    (n = 17 → own9 n (seal9 n src dst b) ≠ 0) ∧ sumD (ph9 n src dst (seal9 n src dst b)) = 0 := by
  have h2 : k + 2 ≤ b.size := by rw [← m.place]; exact pl9_long (by rw [m.place]; exact m.pos)
  have e : seal9 n src dst b = with9 b k (num9 n src dst b k) := by unfold seal9; rw [m.place, if_neg m.pos]
  rw [e]
  have hz := with9_size b k (num9 n src dst b k) h2
  have s := m.says _ hz (with9_front b k _ h2) (with9_back b k _ h2)
  have sl := sealed9 n k src dst b m.place m.pos hl he
  rw [e] at sl
  refine ⟨s.1, s.2.1, s.2.2.1, hz, ?_, ?_⟩
  · intro h17
    rw [s.2.2.2, sl.num, h17]
    exact num9_not src dst b k
  · unfold ph9
    rw [hz]
    have hd : (with9 b k (num9 n src dst b k)).data.toList = b.data.toList.take k ++ be (num9 n src dst b k) 2 ++ b.data.toList.drop (k + 2) := rfl
    rw [hd, ← List.append_assoc, ← List.append_assoc]
    refine gap_right _ _ _ ?_ ?_
    · rw [List.length_append, List.length_take, size_list]
      have hk := m.even
      have : (pseudoD src.data.toList dst.data.toList n (b.size : Nat)).length % 2 = 0 := by
        unfold pseudoD
        split <;> simp only [List.length_append, size_list, List.length_cons, List.length_nil] <;> omega
      omega
    · have : gap9 n src dst b k = pseudoD src.data.toList dst.data.toList n (b.size : Nat) ++ b.data.toList.take k ++ [0, 0] ++ b.data.toList.drop (k + 2) := rfl
      rw [← this]
      unfold num9
      split
      · rename_i h; exact Or.inr ⟨h.1, rfl⟩
      · exact Or.inl rfl

theorem num_pack4 (h : H4) (pay : ByteArray) (hok : h.Ok) (hn : h.size + pay.size ≤ 65535) : ver9 ⟨(h.pack pay).toArray⟩ = 4 := by
  have := (put_get h pay hok hn).1.ver
  exact this
/-- A packet of version 4, built. -/
theorem valid4 (h : H4) {n : Int} {k : Nat} {b : ByteArray} {sp dp : Int} (m : Made9 n k b sp dp) (hpr : h.proto = n) (ho : h.off = 0) (hm : h.mf = false) (hE : putE h (seal9 n h.src h.dst b) = 0) :
    flowE (putS h (seal9 n h.src h.dst b)) = 0 ∧ flowH (putS h (seal9 n h.src h.dst b)) = ⟨n, h.src, h.dst, sp, dp⟩ ∧ (putS h (seal9 n h.src h.dst b)).size ≤ 65535 := by
  have hput : putS h (seal9 n h.src h.dst b) = ⟨(h.pack (seal9 n h.src h.dst b)).toArray⟩ := by unfold putS; rw [if_pos hE]
  unfold putE at hE
  by_cases hok' : h.ok = true
  case neg => rw [if_neg hok'] at hE; omega
  rw [if_pos hok'] at hE
  have hok := (H4.ok_iff h).1 hok'
  by_cases hn : 65535 < h.size + (seal9 n h.src h.dst b).size
  case pos => rw [if_pos hn] at hE; omega
  have ms := made_sealed m h.src h.dst (by rw [hok.src, hok.dst]) (by rw [hok.src])
  rw [hput]
  have pg := put_get h (seal9 n h.src h.dst b) hok (by omega)
  have pv := num_pack4 h (seal9 n h.src h.dst b) hok (by omega)
  generalize seal9 n h.src h.dst b = X at *
  generalize (⟨(h.pack X).toArray⟩ : ByteArray) = P at *
  obtain ⟨g, hd, hz, pl, sz⟩ := pg
  have e0 : getE P = 0 := getE_zero.2 g
  have ha : any9 P = .four h := by
    unfold any9
    rw [if_pos pv]
    unfold getH
    rw [if_pos e0, hd]
  have hp : pay9 P = X := by
    unfold pay9
    rw [if_pos pv]
    unfold getS
    rw [if_pos e0, hz, pl]
  have hs20 := g.short
  have G : Good9 P := by
    refine ⟨verE_yes (by omega) (Or.inl pv), by unfold pktE; rw [if_pos pv]; exact e0, ?_, ?_, ?_, ?_⟩
    · rw [ha]; show (h.off != 0 || h.mf) = false; rw [ho, hm]; rfl
    · rw [ha]; show isK h.proto = true; rw [hpr]; exact m.known
    · rw [ha, hp]; show loadE h.proto X = 0; rw [hpr]; exact ms.1
    · rw [ha, hp]
      show (A9.four h).holds (own9 h.proto X) X = true
      unfold A9.holds
      show (if h.proto = 17 ∧ own9 h.proto X = 0 then true else decide (sumD (ph9 h.proto h.src h.dst X) = 0)) = true
      rw [hpr, if_neg (fun x => ms.2.2.2.2.1 x.1 x.2), ms.2.2.2.2.2]
      rfl
  have eF := flowE_zero.2 G
  refine ⟨eF, ?_, ?_⟩
  · rw [flowH_ok eF]
    unfold flow9
    rw [ha, hp]
    show (⟨h.proto, h.src, h.dst, sp9 h.proto X, dp9 h.proto X⟩ : F9) = _
    rw [hpr, ms.2.1, ms.2.2.1]
  · omega
/-- A packet of version 6, built. -/
theorem valid6 (h : H6) {n : Int} {k : Nat} {b : ByteArray} {sp dp : Int} (m : Made9 n k b sp dp) (hpr : h.nxt = n) (hE : put6E h (seal9 n h.src h.dst b) = 0) :
    flowE (put6S h (seal9 n h.src h.dst b)) = 0 ∧ flowH (put6S h (seal9 n h.src h.dst b)) = ⟨n, h.src, h.dst, sp, dp⟩ ∧ (put6S h (seal9 n h.src h.dst b)).size ≤ 70000 := by
  rcases put6_told h (seal9 n h.src h.dst b) with ⟨_, hok, hn, hput⟩ | ⟨hne, _⟩
  case inr => exact absurd hE hne
  have ms := made_sealed m h.src h.dst (by rw [hok.src, hok.dst]) (by rw [hok.src])
  rw [hput]
  have pg := put6_get h (seal9 n h.src h.dst b) hok (by omega)
  generalize seal9 n h.src h.dst b = X at *
  generalize (⟨(h.pack X).toArray⟩ : ByteArray) = P at *
  have g := pg.good
  have e0 : get6E P = 0 := get6E_zero.2 g
  have hs40 := g.short
  have pv : ver9 P = 6 := by
    have hv := g.ver
    have h4 : numOf P 0 (3 + 1) = (P[0]'(by omega)).toNat * 256 ^ 3 + numOf P 1 3 := num_first P 3 (by omega)
    have h3 := numOf_lt P 1 3 (by omega)
    have h3' : numOf P 1 3 < 16777216 := h3
    have h4' : numOf P 0 4 = (P[0]'(by omega)).toNat * 16777216 + numOf P 1 3 := h4
    unfold ver9
    rw [numOf_one P 0 (by omega)]
    omega
  have n4 : ¬ ver9 P = 4 := by omega
  have ha : any9 P = .six h := by
    unfold any9
    rw [if_neg n4]
    unfold get6H
    rw [if_pos e0, pg.hd]
  have hp : pay9 P = X := by
    unfold pay9
    rw [if_neg n4]
    unfold get6S
    rw [if_pos e0, pg.pl]
  have G : Good9 P := by
    refine ⟨verE_yes (by omega) (Or.inr pv), by unfold pktE; rw [if_neg n4]; exact e0, ?_, ?_, ?_, ?_⟩
    · rw [ha]; rfl
    · rw [ha]; show isK h.nxt = true; rw [hpr]; exact m.known
    · rw [ha, hp]; show loadE h.nxt X = 0; rw [hpr]; exact ms.1
    · rw [ha, hp]
      show (A9.six h).holds (own9 h.nxt X) X = true
      unfold A9.holds
      show (if h.nxt = 17 ∧ own9 h.nxt X = 0 then false else decide (sumD (ph9 h.nxt h.src h.dst X) = 0)) = true
      rw [hpr, if_neg (fun x => ms.2.2.2.2.1 x.1 x.2), ms.2.2.2.2.2]
      rfl
  have eF := flowE_zero.2 G
  refine ⟨eF, ?_, ?_⟩
  · rw [flowH_ok eF]
    unfold flow9
    rw [ha, hp]
    show (⟨h.nxt, h.src, h.dst, sp9 h.nxt X, dp9 h.nxt X⟩ : F9) = _
    rw [hpr, ms.2.1, ms.2.2.1]
  · have := pg.size; omega

end Go.Proofs.Ytppobficnjpdiaa
