/-
  Packets, there and back, plain: what is got is put as it was; a changed bit is seen; each field stands alone.
-/
import Derived.Test.YtoijomdgcgbpbaaIp4Plain
namespace Go.Proofs.Ytoijomdgcgbpbaa
open Go.RowKit
set_option linter.unusedVariables false

/-- What is got is put as it was, where its sum isn't FFFF. -/
theorem get_put (p : ByteArray) (g : Good p) (h10 : 10 < p.size) (h11 : 11 < p.size) (hne : ¬ (p[10].toNat = 255 ∧ p[11].toNat = 255)) :
    (hdr p).Ok ∧ (hdr p).size + (p.extract (hsz p) p.size).size = p.size ∧ p.size ≤ 65535 ∧ (⟨((hdr p).pack (p.extract (hsz p) p.size)).toArray⟩ : ByteArray) = p := by
  obtain ⟨hsh, hver, ⟨hz1, hz2⟩, hall, hsum, hform⟩ := g
  have l2 := numOf_lt p 2 2 (by omega)
  have l0 := numOf_lt p 0 1 (by omega)
  have l1 := numOf_lt p 1 1 (by omega)
  have l4 := numOf_lt p 4 2 (by omega)
  have l8 := numOf_lt p 8 1 (by omega)
  have l9 := numOf_lt p 9 1 (by omega)
  have hz : hsz p = 4 * (numOf p 0 1 % 16) := rfl
  have hosz : (p.extract 20 (hsz p)).size = hsz p - 20 := by rw [ByteArray.size_extract]; omega
  have hok : (hdr p).Ok := by
    refine ⟨?_, ?_, ?_, ?_, ?_, ?_, ?_, ?_, ?_⟩
    · show 0 ≤ ((numOf p 1 1 : Nat) : Int) ∧ ((numOf p 1 1 : Nat) : Int) ≤ 255; omega
    · show 0 ≤ ((numOf p 8 1 : Nat) : Int) ∧ ((numOf p 8 1 : Nat) : Int) ≤ 255; omega
    · show 0 ≤ ((numOf p 9 1 : Nat) : Int) ∧ ((numOf p 9 1 : Nat) : Int) ≤ 255; omega
    · show 0 ≤ ((numOf p 4 2 : Nat) : Int) ∧ ((numOf p 4 2 : Nat) : Int) ≤ 65535; omega
    · show 0 ≤ ((numOf p 6 2 % 8192 : Nat) : Int) ∧ ((numOf p 6 2 % 8192 : Nat) : Int) ≤ 8191; omega
    · show (p.extract 12 16).size = 4; rw [ByteArray.size_extract]; omega
    · show (p.extract 16 20).size = 4; rw [ByteArray.size_extract]; omega
    · show (p.extract 20 (hsz p)).size ≤ 40; rw [hosz]; omega
    · show (p.extract 20 (hsz p)).size % 4 = 0; rw [hosz]; omega
  have hsize : (hdr p).size = hsz p := by
    show 20 + (p.extract 20 (hsz p)).size = _
    rw [hosz]; omega
  have hpsz : (p.extract (hsz p) p.size).size = p.size - hsz p := by rw [ByteArray.size_extract]; omega
  refine ⟨hok, by rw [hsize, hpsz]; omega, by omega, ?_⟩
  apply text_ext
  show (hdr p).pack (p.extract (hsz p) p.size) = p.data.toList
  have hfl : (hdr p).flags = numOf p 6 2 := by
    show (if decide (numOf p 6 2 / 16384 % 2 = 1) = true then 16384 else 0) + (if decide (numOf p 6 2 / 8192 % 2 = 1) = true then 8192 else 0) + ((numOf p 6 2 % 8192 : Nat) : Int).toNat = numOf p 6 2
    simp only [decide_eq_true_eq]
    split <;> split <;> omega
  have hhead : (hdr p).head p.size = sl p 0 10 := by
    have e0 : 64 + hsz p / 4 = numOf p 0 1 := by omega
    have e1 : (hdr p).tos.toNat = numOf p 1 1 := Int.toNat_natCast _
    have e4 : (hdr p).id.toNat = numOf p 4 2 := Int.toNat_natCast _
    have e8 : (hdr p).ttl.toNat = numOf p 8 1 := Int.toNat_natCast _
    have e9 : (hdr p).proto.toNat = numOf p 9 1 := Int.toNat_natCast _
    unfold H4.head
    rw [hsize, e0, e1, e4, e8, e9, hfl]
    conv => lhs; rw [← hall]
    rw [be_num p 0 1 (by omega), be_num p 1 1 (by omega), be_num p 2 2 (by omega), be_num p 4 2 (by omega), be_num p 6 2 (by omega), be_num p 8 1 (by omega), be_num p 9 1 (by omega)]
    rw [sl_join p 0 1 2 (by omega) (by omega), sl_join p 0 2 4 (by omega) (by omega), sl_join p 0 4 6 (by omega) (by omega), sl_join p 0 6 8 (by omega) (by omega), sl_join p 0 8 9 (by omega) (by omega), sl_join p 0 9 10 (by omega) (by omega)]
  have htail : (hdr p).tail = sl p 12 (hsz p) := by
    show (p.extract 12 16).data.toList ++ (p.extract 16 20).data.toList ++ (p.extract 20 (hsz p)).data.toList = _
    rw [sl_ext, sl_ext, sl_ext, sl_join p 12 16 20 (by omega) (by omega), sl_join p 12 20 (hsz p) (by omega) hz1]
  have hv : numOf p 10 2 < 65535 := by
    rw [num_2 p 10 h11]
    have := p[10].toNat_lt
    have := p[11].toNat_lt
    show p[10].toNat * 256 + p[11].toNat < 65535
    omega
  have hS : numOf p 10 2 = sumD (sl p 0 10 ++ sl p 12 (hsz p)) := by
    refine sum_mid (sl p 0 10) (sl p 12 (hsz p)) (numOf p 10 2) (by rw [sl_length p 0 10 (by omega) (by omega)]) hv ?_ ?_
    · rw [← sl_join p 0 1 10 (by omega) (by omega), one_sl p 0 (by omega), ws_append]
      have := num_1 p 0 (by omega)
      simp only [ws]
      omega
    · rw [← be_two _ (by omega), be_num p 10 2 (by omega), sl_join p 10 12 (hsz p) (by omega) (by omega), sl_join p 0 10 (hsz p) (by omega) (by omega), ← sl_ext]
      exact hsum
  unfold H4.pack
  rw [hsize, hpsz, show hsz p + (p.size - hsz p) = p.size by omega, hhead, htail, ← hS, be_num p 10 2 (by omega), sl_ext]
  rw [sl_join p 0 10 12 (by omega) (by omega), sl_join p 0 12 (hsz p) (by omega) (by omega), sl_join p 0 (hsz p) p.size (by omega) hz2, sl_all]
  rfl

theorem nibble (c : UInt8) (j : Nat) (hj : 4 ≤ j) (h8 : j < 8) (h : c.toNat / 16 = 4) : (c ^^^ UInt8.ofNat (2 ^ j)).toNat / 16 ≠ 4 := by
  have key : ∀ j : Fin 8, ∀ c : Fin 256, 4 ≤ j.val → c.val / 16 = 4 → (UInt8.ofNat c.val ^^^ UInt8.ofNat (2 ^ j.val)).toNat / 16 ≠ 4 := by decide +kernel
  have := key ⟨j, h8⟩ ⟨c.toNat, c.toNat_lt⟩ hj h
  simpa using this
theorem sum_zero (l : List UInt8) : sumD l = 0 ↔ fold (ws true l) = 65535 := by
  have := fold_le (ws true l)
  unfold sumD
  omega
/-- A changed bit is seen. -/
theorem flip_seen (p q : ByteArray) (g : Good p) (i j : Nat) (hi : i < hsz p) (hip : i < p.size) (hj : j < 8) (hij : 1 ≤ i ∨ 4 ≤ j) (hq : q.data.toList = p.data.toList.set i (p[i] ^^^ UInt8.ofNat (2 ^ j))) : getE q ≠ 0 := by
  intro e
  have gq := getE_zero.1 e
  have hsz' : q.size = p.size := by
    have := congrArg List.length hq
    simpa using this
  have hq0 : ∀ k (h : k < q.size) (h' : k < p.size), k ≠ i → q[k] = p[k] := by
    intro k h h' hk
    have h1 : q.data.toList[k]? = some q[k] := by simp [h]; rfl
    have h2 : (p.data.toList.set i (p[i] ^^^ UInt8.ofNat (2 ^ j)))[k]? = some p[k] := by
      rw [List.getElem?_set_ne (by omega)]; simp [h']; rfl
    rw [hq, h2] at h1
    exact (Option.some.inj h1).symm
  have hs0 := g.short
  by_cases hi0 : 1 ≤ i
  · have e0 : numOf q 0 1 = numOf p 0 1 := by
      rw [num_1 q 0 (by omega), num_1 p 0 (by omega), hq0 0 (by omega) (by omega) (by omega)]
    have ez : hsz q = hsz p := by unfold hsz; rw [e0]
    have hs1 := gq.sum
    have hs2 := g.sum
    rw [ez, extract_list, hq, List.take_set, List.drop_zero, sum_zero] at hs1
    rw [extract_list, List.drop_zero, sum_zero] at hs2
    have hl : i < (p.data.toList.take (hsz p)).length := by simp; omega
    have := changed_wrong (p.data.toList.take (hsz p)) i j hl hj hs2
    rw [List.getElem_take] at this
    exact this hs1
  · have hi1 : i = 0 := by omega
    subst hi1
    have e0 : numOf q 0 1 = (p[0] ^^^ UInt8.ofNat (2 ^ j)).toNat := by
      rw [num_1 q 0 (by omega)]
      have h1 : q.data.toList[0]? = some q[0] := by simp [show 0 < q.size by omega]; rfl
      rw [hq, List.getElem?_set_self (by simpa using hip)] at h1
      rw [Option.some.inj h1]
    have hv := gq.ver
    rw [e0] at hv
    have hv0 := g.ver
    rw [num_1 p 0 (by omega)] at hv0
    exact nibble p[0] j (by omega) hj hv0 hv

/-- Where the parts of a packet stand. -/
structure Parts (h : H4) (pay : ByteArray) (p : ByteArray) : Prop where
  front : p.extract 0 h.size = ⟨(h.head (h.size + pay.size) ++ be (sumD (h.head (h.size + pay.size) ++ h.tail)) 2 ++ h.tail).toArray⟩
  rest : p.extract h.size p.size = pay
  first : p.extract 0 1 = ⟨(be (64 + h.size / 4) 1).toArray⟩
  len : p.extract 2 4 = ⟨(be (h.size + pay.size) 2).toArray⟩
  proto : p.extract 9 10 = ⟨(be h.proto.toNat 1).toArray⟩
  behind : p.extract 12 p.size = ⟨(h.tail ++ pay.data.toList).toArray⟩
theorem bytes_seg {p : ByteArray} {a b c : List UInt8} {i j : Nat} (h : p.data.toList = a ++ (b ++ c)) (ha : a.length = i) (hb : i + b.length = j) : p.extract i j = ⟨b.toArray⟩ := by
  apply text_ext
  rw [extract_list]
  exact seg h ha hb
theorem pack_parts (h : H4) (pay : ByteArray) (hok : h.Ok) (hn : h.size + pay.size ≤ 65535) : Parts h pay ⟨(h.pack pay).toArray⟩ := by
  have hg := put_get h pay hok hn
  have hps := hg.2.2.2.2
  have hrest := hg.2.2.2.1
  obtain ⟨p, hp⟩ : ∃ p : ByteArray, p = ⟨(h.pack pay).toArray⟩ := ⟨_, rfl⟩
  rw [← hp] at hps hrest ⊢
  have hl : p.data.toList = h.pack pay := by rw [hp]
  have ht := H4.tail_length hok
  have hs : h.size = 20 + h.opt.size := rfl
  have hpl : pay.data.toList.length = pay.size := by simp
  generalize hN : h.size + pay.size = N at *
  refine ⟨?_, hrest, ?_, ?_, ?_, ?_⟩
  · rw [hN]
    exact bytes_seg (a := []) (c := pay.data.toList) (by rw [hl]; unfold H4.pack; rw [hN]; simp only [List.nil_append]) rfl (by simp only [List.length_append, H4.head_len, be_length, ht]; omega)
  · exact bytes_seg (a := []) (c := be h.tos.toNat 1 ++ be N 2 ++ be h.id.toNat 2 ++ be h.flags 2 ++ be h.ttl.toNat 1 ++ be h.proto.toNat 1 ++ be (sumD (h.head N ++ h.tail)) 2 ++ h.tail ++ pay.data.toList) (by rw [hl]; unfold H4.pack; rw [hN]; unfold H4.head; simp only [List.nil_append, List.append_assoc]) rfl (by simp [be_length])
  · rw [hN]
    exact bytes_seg (a := be (64 + h.size / 4) 1 ++ be h.tos.toNat 1) (c := be h.id.toNat 2 ++ be h.flags 2 ++ be h.ttl.toNat 1 ++ be h.proto.toNat 1 ++ be (sumD (h.head N ++ h.tail)) 2 ++ h.tail ++ pay.data.toList) (by rw [hl]; unfold H4.pack; rw [hN]; unfold H4.head; simp only [List.append_assoc]) (by simp [be_length]) (by simp [be_length])
  · exact bytes_seg (a := be (64 + h.size / 4) 1 ++ be h.tos.toNat 1 ++ be N 2 ++ be h.id.toNat 2 ++ be h.flags 2 ++ be h.ttl.toNat 1) (c := be (sumD (h.head N ++ h.tail)) 2 ++ h.tail ++ pay.data.toList) (by rw [hl]; unfold H4.pack; rw [hN]; unfold H4.head; simp only [List.append_assoc]) (by simp [be_length]) (by simp [be_length])
  · exact bytes_seg (a := h.head N ++ be (sumD (h.head N ++ h.tail)) 2) (c := []) (by rw [hl]; unfold H4.pack; rw [hN]; simp only [List.append_assoc, List.append_nil]) (by simp [be_length, H4.head_len]) (by simp only [List.length_append, ht, hpl]; omega)

end Go.Proofs.Ytoijomdgcgbpbaa
