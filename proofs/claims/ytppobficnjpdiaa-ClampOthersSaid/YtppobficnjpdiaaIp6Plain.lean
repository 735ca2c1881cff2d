/-
  Packets, there and back, plain: what is put is got, what is got is put; a byte less, or more, another version, another payload.
-/
import Derived.Test.YtppobficnjpdiaaIp6A
namespace Go.Proofs.Ytppobficnjpdiaa
open Go.RowKit
set_option linter.unusedVariables false

/-- Of a packet that was put: what is got of it. -/
structure Sent6 (h : H6) (pay P : ByteArray) : Prop where
  ok : h.Ok
  fit : pay.size ≤ 65535
  is : P.data.toList = h.pack pay
  good : Good6 P
  hd : hdr6 P = h
  pl : P.extract 40 P.size = pay
  size : P.size = 40 + pay.size
  num : numOf P 4 2 = pay.size
theorem put6_get (h : H6) (pay : ByteArray) (hok : h.Ok) (hn : pay.size ≤ 65535) : Sent6 h pay ⟨(h.pack pay).toArray⟩ := by
  obtain ⟨p, hp⟩ : ∃ p : ByteArray, p = ⟨(h.pack pay).toArray⟩ := ⟨_, rfl⟩
  rw [← hp]
  have hl : p.data.toList = h.pack pay := by rw [hp]
  obtain ⟨hcls, hnxt, hhop, hlab, hsrc, hdst⟩ := hok
  have hok : h.Ok := ⟨hcls, hnxt, hhop, hlab, hsrc, hdst⟩
  have hw : h.word = 1610612736 + h.cls.toNat * 1048576 + h.lab.toNat := rfl
  have hpk : p.data.toList = be h.word 4 ++ (be pay.size 2 ++ (be h.nxt.toNat 1 ++ (be h.hops.toNat 1 ++ (h.src.data.toList ++ (h.dst.data.toList ++ pay.data.toList))))) := by
    rw [hl]; unfold H6.pack; simp only [List.append_assoc]
  have hsize : p.size = 40 + pay.size := by
    have := congrArg List.length hpk
    simp only [List.length_append, be_length, Array.length_toList, ByteArray.size_data] at this
    omega
  have n0 : numOf p 0 4 = h.word := num_seg (a := []) hpk rfl rfl (by show _ < 4294967296; omega)
  have n4 : numOf p 4 2 = pay.size := num_seg (a := be h.word 4) (b := be pay.size 2) hpk (by simp [be_length]) rfl (by show _ < 65536; omega)
  have n6 : numOf p 6 1 = h.nxt.toNat := num_seg (a := be h.word 4 ++ be pay.size 2) (b := be h.nxt.toNat 1) (c := be h.hops.toNat 1 ++ (h.src.data.toList ++ (h.dst.data.toList ++ pay.data.toList))) (by rw [hpk]; simp only [List.append_assoc]) (by simp [be_length]) rfl (by show _ < 256; omega)
  have n7 : numOf p 7 1 = h.hops.toNat := num_seg (a := be h.word 4 ++ be pay.size 2 ++ be h.nxt.toNat 1) (b := be h.hops.toNat 1) (c := h.src.data.toList ++ (h.dst.data.toList ++ pay.data.toList)) (by rw [hpk]; simp only [List.append_assoc]) (by simp [be_length]) rfl (by show _ < 256; omega)
  have t8 : p.extract 8 24 = h.src := text_seg (a := be h.word 4 ++ be pay.size 2 ++ be h.nxt.toNat 1 ++ be h.hops.toNat 1) (c := h.dst.data.toList ++ pay.data.toList) (by rw [hpk]; simp only [List.append_assoc]) (by simp [be_length]) (by omega)
  have t24 : p.extract 24 40 = h.dst := text_seg (a := be h.word 4 ++ be pay.size 2 ++ be h.nxt.toNat 1 ++ be h.hops.toNat 1 ++ h.src.data.toList) (c := pay.data.toList) (by rw [hpk]; simp only [List.append_assoc]) (by simp [be_length]; omega) (by omega)
  have tp : p.extract 40 p.size = pay := text_seg (a := be h.word 4 ++ be pay.size 2 ++ be h.nxt.toNat 1 ++ be h.hops.toNat 1 ++ h.src.data.toList ++ h.dst.data.toList) (c := []) (by rw [hpk]; simp only [List.append_assoc, List.append_nil]) (by simp [be_length]; omega) (by omega)
  refine ⟨hok, hn, hl, ⟨by omega, by rw [n0]; omega, by rw [n4]; omega⟩, ?_, tp, hsize, n4⟩
  unfold hdr6
  rw [n0, n6, n7, t8, t24]
  have e1 : ((h.word / 1048576 % 256 : Nat) : Int) = h.cls := by omega
  have e2 : ((h.word % 1048576 : Nat) : Int) = h.lab := by omega
  have e3 : ((h.nxt.toNat : Nat) : Int) = h.nxt := by omega
  have e4 : ((h.hops.toNat : Nat) : Int) = h.hops := by omega
  rw [e1, e2, e3, e4]
theorem put6_cases (h : H6) (pay : ByteArray) : (put6E h pay = 0 ∧ Sent6 h pay (put6S h pay)) ∨ (put6E h pay ≠ 0 ∧ put6S h pay = ⟨#[]⟩) := by
  rcases put6_told h pay with ⟨e, hok, hn, hs⟩ | ⟨e, hs⟩
  · exact Or.inl ⟨e, by rw [hs]; exact put6_get h pay hok hn⟩
  · exact Or.inr ⟨e, hs⟩
theorem Sent6.got {h : H6} {pay P : ByteArray} (s : Sent6 h pay P) : get6E P = 0 ∧ get6H P = h ∧ get6S P = pay := by
  have e := get6E_zero.2 s.good
  refine ⟨e, by unfold get6H; rw [if_pos e, s.hd], by unfold get6S; rw [if_pos e, s.pl]⟩

/-- What is got is put as it was. -/
theorem get6_put (p : ByteArray) (g : Good6 p) : (hdr6 p).Ok ∧ (p.extract 40 p.size).size ≤ 65535 ∧ (⟨((hdr6 p).pack (p.extract 40 p.size)).toArray⟩ : ByteArray) = p := by
  obtain ⟨hsh, hver, hlen⟩ := g
  have l0 := numOf_lt p 0 4 (by omega)
  have l4 := numOf_lt p 4 2 (by omega)
  have l6 := numOf_lt p 6 1 (by omega)
  have l7 := numOf_lt p 7 1 (by omega)
  have hok : (hdr6 p).Ok := by
    refine ⟨?_, ?_, ?_, ?_, ?_, ?_⟩
    · show 0 ≤ ((numOf p 0 4 / 1048576 % 256 : Nat) : Int) ∧ ((numOf p 0 4 / 1048576 % 256 : Nat) : Int) ≤ 255; omega
    · show 0 ≤ ((numOf p 6 1 : Nat) : Int) ∧ ((numOf p 6 1 : Nat) : Int) ≤ 255; omega
    · show 0 ≤ ((numOf p 7 1 : Nat) : Int) ∧ ((numOf p 7 1 : Nat) : Int) ≤ 255; omega
    · show 0 ≤ ((numOf p 0 4 % 1048576 : Nat) : Int) ∧ ((numOf p 0 4 % 1048576 : Nat) : Int) ≤ 1048575; omega
    · show (p.extract 8 24).size = 16; rw [ByteArray.size_extract]; omega
    · show (p.extract 24 40).size = 16; rw [ByteArray.size_extract]; omega
  have hpsz : (p.extract 40 p.size).size = numOf p 4 2 := by rw [ByteArray.size_extract]; omega
  refine ⟨hok, by rw [hpsz]; omega, ?_⟩
  apply text_ext
  show (hdr6 p).pack (p.extract 40 p.size) = p.data.toList
  have hw : (hdr6 p).word = numOf p 0 4 := by
    show 1610612736 + ((numOf p 0 4 / 1048576 % 256 : Nat) : Int).toNat * 1048576 + ((numOf p 0 4 % 1048576 : Nat) : Int).toNat = numOf p 0 4
    omega
  have e6 : (hdr6 p).nxt.toNat = numOf p 6 1 := Int.toNat_natCast _
  have e7 : (hdr6 p).hops.toNat = numOf p 7 1 := Int.toNat_natCast _
  have e8 : (hdr6 p).src = p.extract 8 24 := rfl
  have e24 : (hdr6 p).dst = p.extract 24 40 := rfl
  unfold H6.pack
  rw [hw, e6, e7, hpsz, e8, e24, be_num p 0 4 (by omega), be_num p 4 2 (by omega), be_num p 6 1 (by omega), be_num p 7 1 (by omega), sl_ext, sl_ext, sl_ext,
    sl_join p 0 4 6 (by omega) (by omega), sl_join p 0 6 7 (by omega) (by omega), sl_join p 0 7 8 (by omega) (by omega), sl_join p 0 8 24 (by omega) (by omega), sl_join p 0 24 40 (by omega) (by omega), sl_join p 0 40 p.size (by omega) hsh, sl_all, List.drop_zero]

/-- Another text with the same header. -/
theorem hdr6_same {p q : ByteArray} (h : q.data.toList.take 40 = p.data.toList.take 40) : hdr6 q = hdr6 p := by
  unfold hdr6
  rw [same_num h (by decide), same_num h (by decide), same_num h (by decide), same_ext h (by decide), same_ext h (by decide)]
/-- A byte less. -/
theorem Sent6.less {h : H6} {pay P : ByteArray} (s : Sent6 h pay P) : get6E (P.extract 0 (P.size - 1)) = if pay.size = 0 then 2 else 4 := by
  have hsz := s.size
  have hs : (P.extract 0 (P.size - 1)).size = P.size - 1 := by rw [ByteArray.size_extract]; omega
  by_cases h0 : pay.size = 0
  · rw [if_pos h0, get6E_short (by omega)]
  · have e : (P.extract 0 (P.size - 1)).data.toList.take 40 = P.data.toList.take 40 := by
      rw [extract_list, List.drop_zero, List.take_take, Nat.min_eq_left (by omega)]
    rw [if_neg h0]
    exact get6E_len (by omega) (by rw [same_num e (by decide)]; exact s.good.ver) (by rw [same_num e (by decide), s.num]; omega)
/-- A byte more. -/
theorem Sent6.more {h : H6} {pay P : ByteArray} (s : Sent6 h pay P) (z : ByteArray) (hz : z.size = 1) : get6E (P ++ z) = 4 := by
  have hsz := s.size
  have hs : (P ++ z).size = P.size + 1 := by rw [cat_size, hz]
  have e : (P ++ z).data.toList.take 40 = P.data.toList.take 40 := by
    rw [cat_list, List.take_append_of_le_length (by simp; omega)]
  exact get6E_len (by omega) (by rw [same_num e (by decide)]; exact s.good.ver) (by rw [same_num e (by decide), s.num]; omega)
/-- Another payload of as many bytes. -/
theorem Sent6.other {h : H6} {pay P : ByteArray} (s : Sent6 h pay P) (z : ByteArray) (hz : z.size = pay.size) : get6E (P.extract 0 40 ++ z) = 0 ∧ get6H (P.extract 0 40 ++ z) = h := by
  have hsz := s.size
  have h40 : (P.extract 0 40).size = 40 := by rw [ByteArray.size_extract]; omega
  have hs : (P.extract 0 40 ++ z).size = P.size := by rw [cat_size, h40, hz]; omega
  have e : (P.extract 0 40 ++ z).data.toList.take 40 = P.data.toList.take 40 := by
    rw [cat_list, List.take_append_of_le_length (by simp; omega), extract_list, List.drop_zero, List.take_take, Nat.min_self]
  have e0 : get6E (P.extract 0 40 ++ z) = 0 := get6E_ok (by omega) (by rw [same_num e (by decide)]; exact s.good.ver) (by rw [same_num e (by decide), s.num]; omega)
  exact ⟨e0, by unfold get6H; rw [if_pos e0, hdr6_same e, s.hd]⟩
/-- Another first byte. -/
theorem Sent6.first {h : H6} {pay P : ByteArray} (s : Sent6 h pay P) (c : UInt8) : get6E (⟨#[c]⟩ ++ P.extract 1 P.size) = if c.toNat / 16 = 6 then 0 else 3 := by
  have hsz := s.size
  have h1 : (P.extract 1 P.size).size = P.size - 1 := by rw [ByteArray.size_extract]; omega
  obtain ⟨q, hq⟩ : ∃ q : ByteArray, q = ⟨#[c]⟩ ++ P.extract 1 P.size := ⟨_, rfl⟩
  have hqs : q.size = P.size := by rw [hq, cat_size, h1]; show 1 + (P.size - 1) = P.size; omega
  have hql : q.data.toList = [c] ++ sl P 1 P.size := by rw [hq, cat_list, sl_ext]
  have hdrop : ∀ i j, 1 ≤ i → j ≤ P.size → sl q i j = sl P i j := by
    intro i j hi hj
    have e1 : sl q i j = (sl q 1 j).drop (i - 1) := by unfold sl; rw [List.drop_drop, show 1 + (i - 1) = i by omega]
    have e2 : sl P i j = (sl P 1 j).drop (i - 1) := by unfold sl; rw [List.drop_drop, show 1 + (i - 1) = i by omega]
    have e3 : sl q 1 j = sl P 1 j := by
      by_cases h0 : j = 0
      · subst h0; simp [sl]
      · unfold sl
        rw [hql, sl_all]
        obtain ⟨m, rfl⟩ : ∃ m, j = m + 1 := ⟨j - 1, by omega⟩
        simp only [List.singleton_append, List.take_succ_cons, List.drop_succ_cons, List.drop_zero]
        rw [List.take_drop, Nat.add_comm 1 m]
    rw [e1, e2, e3]
  have hnum : ∀ i k, 1 ≤ i → i + k ≤ P.size → numOf q i k = numOf P i k := by
    intro i k hi hk
    unfold numOf
    rw [sl_ext, sl_ext, hdrop i (i + k) hi hk]
  have hq0 : q[0]'(by omega) = c := by
    have e := one_sl q 0 (by omega)
    have e2 : sl q 0 (0 + 1) = [c] := by
      unfold sl
      rw [hql]
      simp
    rw [e2] at e
    simpa using e.symm
  have hn := num_first q 3 (by omega)
  rw [hq0] at hn
  have l3 := numOf_lt q 1 3 (by omega)
  have hn' : numOf q 0 4 = c.toNat * 16777216 + numOf q 1 3 := hn
  have l3' : numOf q 1 3 < 16777216 := l3
  rw [← hq]
  by_cases hc : c.toNat / 16 = 6
  · rw [if_pos hc]
    exact get6E_ok (by omega) (by omega) (by rw [hnum 4 2 (by omega) (by omega), s.num]; omega)
  · rw [if_neg hc]
    exact get6E_ver (by omega) (by omega)

end Go.Proofs.Ytppobficnjpdiaa
