/-
  What is put, plainly: what is got of it; a bit of the other address, or of the datagram, turned.
-/
import Derived.Test.YtmghdgkdnacinaaDoorGueA
namespace Go.Proofs.YtmghdgkdnacinaaDoor
open Go.RowKit
set_option linter.unusedVariables false

/-- A datagram that was put, whatever stands in its sum's place. -/
structure Sent13 (port : Int) (s P : ByteArray) : Prop where
  dat : get8E P = 0
  src : (numOf P 0 2 : Int) = port
  dst : numOf P 2 2 = 6080
  pay : P.extract 8 P.size = pay13 s
  size : P.size = 12 + s.size
  en : (v11 s).en = 0
  small : P.size ≤ 65535
theorem sent13_bare {port : Int} {s : ByteArray} (h : put13E port s = 0) : Sent13 port s (bare13 port s) ∧ numOf (bare13 port s) 6 2 = 0 := by
  have he : (v11 s).en = 0 := by
    unfold put13E at h
    split at h
    · omega
    · omega
  have hd : (dg13 port s).err = 0 := by
    unfold put13E at h
    rw [if_neg (by omega)] at h
    exact h
  have hok := (D8.err_zero _).1 hd
  have t := put8_get (dg13 port s) 0 hok (by decide)
  have hz := pay13_size s
  have hpl : (dg13 port s).pay = pay13 s := rfl
  have hp := hok.pay
  rw [hpl] at hp
  have ts := t.size
  rw [hpl] at ts
  have td := t.dat
  have tn := t.num
  have tg := t.got
  show Sent13 port s ⟨((dg13 port s).pack 0).toArray⟩ ∧ _
  unfold bare13
  generalize (⟨((dg13 port s).pack 0).toArray⟩ : ByteArray) = P at *
  unfold dat8 dg13 at td
  injection td with d1 d2 d3
  exact ⟨⟨tg, d1, by omega, d3, by omega, he, by omega⟩, by omega⟩
/-- Another sum in its place. -/
theorem Sent13.with {port : Int} {s P : ByteArray} (r : Sent13 port s P) (n : Nat) : Sent13 port s (with9 P 6 n) := by
  have hz := r.size
  have h2 : 6 + 2 ≤ P.size := by omega
  have z := with9_size P 6 n h2
  have f := with9_front P 6 n h2
  have b := with9_back P 6 n h2
  have g := get8E_zero.1 r.dat
  generalize with9 P 6 n = X at *
  refine ⟨get8E_ok (by omega) (by rw [same_num f (by omega), z]; exact g.2), ?_, ?_, ?_, by omega, r.en, by have := r.small; omega⟩
  · rw [same_num f (by omega)]; exact r.src
  · rw [same_num f (by omega)]; exact r.dst
  · rw [tail_ext z b (by omega), z]; exact r.pay
/-- What is got of it. -/
theorem Sent13.got {port : Int} {s P src dst : ByteArray} (r : Sent13 port s P) (hw : wrong13 src dst P = false) :
    get13E src dst P = 0 ∧ get13H src dst P = ⟨port, decide (numOf P 6 2 ≠ 0)⟩ ∧ get13S src dst P = s := by
  have ⟨i1, i2⟩ := pay13_in r.en
  have e : get13E src dst P = 0 := get13E_zero.2 ⟨r.dat, r.dst, hw, by rw [r.pay]; exact i1⟩
  have ⟨g1, g2⟩ := get13_ok e
  refine ⟨e, ?_, by rw [g2, r.pay]; exact i2⟩
  rw [g1]
  unfold say13
  rw [r.src]
/-- With its sum wrong. -/
theorem Sent13.wrong {port : Int} {s P src dst : ByteArray} (r : Sent13 port s P) (hw : wrong13 src dst P = true) : get13E src dst P = 5 := by
  unfold get13E
  rw [if_neg (by have := r.dat; omega), if_neg (by have := r.dst; omega), if_pos hw]

theorem sealed13 {port : Int} {s K : ByteArray} (r : Sent13 port s K) (src dst : ByteArray) (hl : dst.size = src.size) (he : src.size % 2 = 0) :
    Sent13 port s (seal9 17 src dst K) ∧ numOf (seal9 17 src dst K) 6 2 ≠ 0 ∧ sumD (ph9 17 src dst (seal9 17 src dst K)) = 0 ∧ seal9 17 dst src K = seal9 17 src dst K ∧ seal9 17 src dst K = with9 K 6 (num9 17 src dst K 6) := by
  have hz := r.size
  have h2 : 6 + 2 ≤ K.size := by omega
  have hp : pl9 17 K.size = 6 := by unfold pl9; rw [if_neg (by omega), if_pos (by omega)]
  have e : ∀ a b, seal9 17 a b K = with9 K 6 (num9 17 a b K 6) := by intro a b; unfold seal9; rw [hp, if_neg (by decide)]
  have sl := sealed9 17 6 src dst K hp (by decide) hl he
  have z := with9_size K 6 (num9 17 src dst K 6) h2
  refine ⟨by rw [e]; exact r.with _, by rw [sl.num]; exact num9_not src dst K 6, ?_, ?_, e src dst⟩
  · rw [e]
    unfold ph9
    rw [z]
    have hd : (with9 K 6 (num9 17 src dst K 6)).data.toList = K.data.toList.take 6 ++ be (num9 17 src dst K 6) 2 ++ K.data.toList.drop (6 + 2) := rfl
    rw [hd, ← List.append_assoc, ← List.append_assoc]
    refine gap_right _ _ _ ?_ ?_
    · rw [List.length_append, List.length_take, size_list]
      have : (pseudoD src.data.toList dst.data.toList 17 (K.size : Nat)).length % 2 = 0 := by
        unfold pseudoD
        split <;> simp only [List.length_append, size_list, List.length_cons, List.length_nil] <;> omega
      omega
    · have : gap9 17 src dst K 6 = pseudoD src.data.toList dst.data.toList 17 (K.size : Nat) ++ K.data.toList.take 6 ++ [0, 0] ++ K.data.toList.drop (6 + 2) := rfl
      rw [← this]
      unfold num9
      split
      · rename_i h; exact Or.inr ⟨h.1, rfl⟩
      · exact Or.inl rfl
  · rw [e, e, num9_turned _ _ _ _ _ hl he]

/-- A text that was put, between two addresses. -/
structure Made13 (h : H13) (src dst s P : ByteArray) : Prop where
  sent : Sent13 h.port s P
  flag : decide (numOf P 6 2 ≠ 0) = h.sum
  right : h.sum = true → sumD (ph9 17 src dst P) = 0
  turned : full13 h dst src s = P
  drop : P.data.toList.drop 8 = (bare13 h.port s).data.toList.drop 8
  front : P.data.toList.take 6 = (bare13 h.port s).data.toList.take 6
  plain : h.sum = false → P = bare13 h.port s
theorem made13 (h : H13) (src dst s : ByteArray) (hE : put13E h.port s = 0) (hl : dst.size = src.size) (he : src.size % 2 = 0) : Made13 h src dst s (full13 h src dst s) := by
  have ⟨r, n⟩ := sent13_bare hE
  obtain ⟨port, sum⟩ := h
  have hz := r.size
  cases sum with
  | false => exact ⟨r, by simp [full13, n], fun h => (by cases h), rfl, rfl, rfl, fun _ => rfl⟩
  | true =>
    have ⟨a, b, c, d, e⟩ := sealed13 r src dst hl he
    refine ⟨a, decide_eq_true b, fun _ => c, d, ?_, ?_, fun h => (by cases h)⟩
    · show (seal9 17 src dst (bare13 port s)).data.toList.drop 8 = _
      rw [e]; exact with9_back _ 6 _ (by simp only at hz ⊢; omega)
    · show (seal9 17 src dst (bare13 port s)).data.toList.take 6 = _
      rw [e]; exact with9_front _ 6 _ (by simp only at hz ⊢; omega)
theorem Made13.not_wrong {h : H13} {src dst s P : ByteArray} (m : Made13 h src dst s P) : wrong13 src dst P = false := by
  unfold wrong13
  have f := m.flag
  cases hs : h.sum with
  | false => rw [hs] at f; rw [f]; rfl
  | true => rw [m.right hs]; simp
theorem Made13.got {h : H13} {src dst s P : ByteArray} (m : Made13 h src dst s P) : get13E src dst P = 0 ∧ get13H src dst P = h ∧ get13S src dst P = s := by
  have ⟨a, b, c⟩ := m.sent.got m.not_wrong
  refine ⟨a, ?_, c⟩
  rw [b, m.flag]
/-- A bit of the other address turned. -/
theorem Made13.other {h : H13} {src dst s P q : ByteArray} (m : Made13 h src dst s P) (hs4 : src.size = 4) (hd4 : dst.size = 4) (i j : Nat) (hi : i < dst.size) (hj : j < 8) (hq : q.data.toList = dst.data.toList.set i (dst.data.toList[i]'(by simpa using hi) ^^^ UInt8.ofNat (2 ^ j))) :
    get13E src q P = (if h.sum then 5 else 0) := by
  have f := m.flag
  cases hs : h.sum with
  | false =>
    rw [hs] at f
    exact (m.sent.got (by unfold wrong13; rw [f]; rfl)).1
  | true =>
    rw [hs] at f
    refine m.sent.wrong ?_
    unfold wrong13
    rw [f, Bool.true_and, decide_eq_true_eq]
    have r := m.right hs
    have hql : q.data.toList.length = 4 := by rw [hq, List.length_set, size_list, hd4]
    unfold ph9 pseudoD at r ⊢
    rw [if_neg (by rw [size_list]; omega)] at r ⊢
    intro e
    rw [sum_nought] at r e
    generalize [(0 : UInt8), byteAt 17 0, byteAt (P.size : Nat) 1, byteAt (P.size : Nat) 0] = t at *
    have hlt : src.data.toList.length + i < (src.data.toList ++ dst.data.toList ++ t ++ P.data.toList).length := by
      simp only [List.length_append, size_list]; omega
    have hget : (src.data.toList ++ dst.data.toList ++ t ++ P.data.toList)[src.data.toList.length + i] = dst.data.toList[i]'(by simpa using hi) := by
      rw [List.getElem_append_left (by simp only [List.length_append, size_list]; omega), List.getElem_append_left (by simp only [List.length_append, size_list]; omega), List.getElem_append_right (by omega)]
      simp
    have cw := changed_wrong _ _ j hlt hj r
    rw [hget, List.set_append_left _ _ (by simp only [List.length_append, size_list]; omega), List.set_append_left _ _ (by simp only [List.length_append, size_list]; omega), List.set_append_right _ _ (by omega), show src.data.toList.length + i - src.data.toList.length = i by omega, ← hq] at cw
    exact cw e
/-- A bit of the datagram turned: it is refused, but where its sum is 0 then. -/
theorem Made13.flip {h : H13} {src dst s P q : ByteArray} (m : Made13 h src dst s P) (hs : h.sum = true) (i j : Nat) (hi : i < P.size) (hj : j < 8) (hq : q.data.toList = P.data.toList.set i (P.data.toList[i]'(by simpa using hi) ^^^ UInt8.ofNat (2 ^ j))) (h6 : numOf q 6 2 ≠ 0) :
    get13E src dst q ≠ 0 := by
  intro e
  have g := (get13E_zero.1 e).sum
  have r := m.right hs
  have hz : q.size = P.size := by
    have := congrArg List.length hq
    rw [List.length_set, size_list, size_list] at this
    exact this
  unfold wrong13 at g
  rw [decide_eq_true h6, Bool.true_and, decide_eq_false_iff_not, Decidable.not_not] at g
  unfold ph9 at r g
  rw [hz, hq] at g
  generalize pseudoD src.data.toList dst.data.toList 17 (P.size : Nat) = l at *
  rw [sum_nought] at r g
  have hlt : l.length + i < (l ++ P.data.toList).length := by rw [List.length_append, size_list]; omega
  have hget : (l ++ P.data.toList)[l.length + i] = P.data.toList[i]'(by simpa using hi) := by
    rw [List.getElem_append_right (by omega)]
    simp
  have cw := changed_wrong (l ++ P.data.toList) (l.length + i) j hlt hj r
  rw [hget, List.set_append_right _ _ (by omega), show l.length + i - l.length = i by omega] at cw
  exact cw g
theorem put13_cases (h : H13) (src dst s : ByteArray) (hl : dst.size = src.size) (he : src.size % 2 = 0) : (put13E h.port s = 0 ∧ Made13 h src dst s (put13S h src dst s)) ∨ (put13E h.port s ≠ 0 ∧ put13S h src dst s = ⟨#[]⟩) := by
  by_cases e : put13E h.port s = 0
  · refine Or.inl ⟨e, ?_⟩
    unfold put13S
    rw [if_pos e]
    exact made13 h src dst s e hl he
  · refine Or.inr ⟨e, ?_⟩
    unfold put13S
    rw [if_neg e]

end Go.Proofs.YtmghdgkdnacinaaDoor
