/-
  Packets, there and back, plain: what is put is got, what is got is put, a changed bit is seen.
-/
import Derived.Test.YtoijomdgcgbpbaaIp4A
import Derived.Test.YtoijomdgcgbpbaaReading
import Derived.Test.YtoijomdgcgbpbaaSumMid
namespace Go.Proofs.Ytoijomdgcgbpbaa
open Go.RowKit
set_option linter.unusedVariables false

theorem H4.tail_length {h : H4} (hok : h.Ok) : h.tail.length = 8 + h.opt.size := by
  have h1 := hok.src
  have h2 := hok.dst
  simp only [H4.tail, List.length_append, Array.length_toList, ByteArray.size_data]
  omega
theorem H4.head_len (h : H4) (n : Nat) : (h.head n).length = 10 := by simp [H4.head, be_length]

/-- What is put is got as it was. -/
theorem put_get (h : H4) (pay : ByteArray) (hok : h.Ok) (hn : h.size + pay.size ≤ 65535) :
    Good ⟨(h.pack pay).toArray⟩ ∧ hdr ⟨(h.pack pay).toArray⟩ = h ∧ hsz ⟨(h.pack pay).toArray⟩ = h.size ∧ (⟨(h.pack pay).toArray⟩ : ByteArray).extract h.size (⟨(h.pack pay).toArray⟩ : ByteArray).size = pay ∧ (⟨(h.pack pay).toArray⟩ : ByteArray).size = h.size + pay.size := by
  obtain ⟨p, hp⟩ : ∃ p : ByteArray, p = ⟨(h.pack pay).toArray⟩ := ⟨_, rfl⟩
  rw [← hp]
  have hl : p.data.toList = h.pack pay := by rw [hp]
  obtain ⟨htos, httl, hpr, hid, hoff, hsrc, hdst, hopt, hopt4⟩ := hok
  have hok : h.Ok := ⟨htos, httl, hpr, hid, hoff, hsrc, hdst, hopt, hopt4⟩
  have hsz' : h.size = 20 + h.opt.size := rfl
  generalize hN : h.size + pay.size = N at *
  generalize hS : sumD (h.head N ++ h.tail) = S at *
  have hSl : S ≤ 65535 := by rw [← hS]; exact sumD_le _
  have hfl : h.flags < 32768 := by unfold H4.flags; split <;> split <;> omega
  have hpk : p.data.toList = be (64 + h.size / 4) 1 ++ (be h.tos.toNat 1 ++ (be N 2 ++ (be h.id.toNat 2 ++ (be h.flags 2 ++ (be h.ttl.toNat 1 ++ (be h.proto.toNat 1 ++ (be S 2 ++ (h.src.data.toList ++ (h.dst.data.toList ++ (h.opt.data.toList ++ pay.data.toList)))))))))) := by
    rw [hl]; unfold H4.pack; rw [hN, hS]; unfold H4.head H4.tail; simp only [List.append_assoc]
  have hsize : p.size = N := by
    have := congrArg List.length hpk
    simp only [List.length_append, be_length, Array.length_toList, ByteArray.size_data] at this
    omega
  have n0 : numOf p 0 1 = 64 + h.size / 4 := num_seg (a := []) hpk rfl rfl (by omega)
  have n1 : numOf p 1 1 = h.tos.toNat := num_seg (a := be (64 + h.size / 4) 1) (b := be h.tos.toNat 1) (c := be N 2 ++ (be h.id.toNat 2 ++ (be h.flags 2 ++ (be h.ttl.toNat 1 ++ (be h.proto.toNat 1 ++ (be S 2 ++ (h.src.data.toList ++ (h.dst.data.toList ++ (h.opt.data.toList ++ (pay.data.toList)))))))))) (by rw [hpk]) (by simp [be_length]) rfl (by omega)
  have n2 : numOf p 2 2 = N := num_seg (a := be (64 + h.size / 4) 1 ++ be h.tos.toNat 1) (b := be N 2) (c := be h.id.toNat 2 ++ (be h.flags 2 ++ (be h.ttl.toNat 1 ++ (be h.proto.toNat 1 ++ (be S 2 ++ (h.src.data.toList ++ (h.dst.data.toList ++ (h.opt.data.toList ++ (pay.data.toList))))))))) (by rw [hpk]; simp only [List.append_assoc]) (by simp [be_length]) rfl (by omega)
  have n4 : numOf p 4 2 = h.id.toNat := num_seg (a := be (64 + h.size / 4) 1 ++ be h.tos.toNat 1 ++ be N 2) (b := be h.id.toNat 2) (c := be h.flags 2 ++ (be h.ttl.toNat 1 ++ (be h.proto.toNat 1 ++ (be S 2 ++ (h.src.data.toList ++ (h.dst.data.toList ++ (h.opt.data.toList ++ (pay.data.toList)))))))) (by rw [hpk]; simp only [List.append_assoc]) (by simp [be_length]) rfl (by omega)
  have n6 : numOf p 6 2 = h.flags := num_seg (a := be (64 + h.size / 4) 1 ++ be h.tos.toNat 1 ++ be N 2 ++ be h.id.toNat 2) (b := be h.flags 2) (c := be h.ttl.toNat 1 ++ (be h.proto.toNat 1 ++ (be S 2 ++ (h.src.data.toList ++ (h.dst.data.toList ++ (h.opt.data.toList ++ (pay.data.toList))))))) (by rw [hpk]; simp only [List.append_assoc]) (by simp [be_length]) rfl (by omega)
  have n8 : numOf p 8 1 = h.ttl.toNat := num_seg (a := be (64 + h.size / 4) 1 ++ be h.tos.toNat 1 ++ be N 2 ++ be h.id.toNat 2 ++ be h.flags 2) (b := be h.ttl.toNat 1) (c := be h.proto.toNat 1 ++ (be S 2 ++ (h.src.data.toList ++ (h.dst.data.toList ++ (h.opt.data.toList ++ (pay.data.toList)))))) (by rw [hpk]; simp only [List.append_assoc]) (by simp [be_length]) rfl (by omega)
  have n9 : numOf p 9 1 = h.proto.toNat := num_seg (a := be (64 + h.size / 4) 1 ++ be h.tos.toNat 1 ++ be N 2 ++ be h.id.toNat 2 ++ be h.flags 2 ++ be h.ttl.toNat 1) (b := be h.proto.toNat 1) (c := be S 2 ++ (h.src.data.toList ++ (h.dst.data.toList ++ (h.opt.data.toList ++ (pay.data.toList))))) (by rw [hpk]; simp only [List.append_assoc]) (by simp [be_length]) rfl (by omega)
  have hz : hsz p = h.size := by unfold hsz; rw [n0]; omega
  have t12 : p.extract 12 16 = h.src := text_seg (a := h.head N ++ be S 2) (c := h.dst.data.toList ++ (h.opt.data.toList ++ pay.data.toList)) (by rw [hpk]; unfold H4.head; simp only [List.append_assoc]) (by simp [be_length, H4.head_len]) (by omega)
  have t16 : p.extract 16 20 = h.dst := text_seg (a := h.head N ++ be S 2 ++ h.src.data.toList) (c := h.opt.data.toList ++ pay.data.toList) (by rw [hpk]; unfold H4.head; simp only [List.append_assoc]) (by simp [be_length, H4.head_len]; omega) (by omega)
  have t20 : p.extract 20 h.size = h.opt := text_seg (a := h.head N ++ be S 2 ++ h.src.data.toList ++ h.dst.data.toList) (c := pay.data.toList) (by rw [hpk]; unfold H4.head; simp only [List.append_assoc]) (by simp [be_length, H4.head_len]; omega) (by omega)
  have tp : p.extract h.size p.size = pay := text_seg (a := h.head N ++ be S 2 ++ h.tail) (c := []) (by rw [hpk]; unfold H4.head H4.tail; simp only [List.append_assoc, List.append_nil]) (by simp [be_length, H4.head_len, H4.tail_length hok]; omega) (by omega)
  have hh : (p.extract 0 h.size).data.toList = h.head N ++ (two S ++ h.tail) := by
    rw [extract_list, ← be_two S hSl]
    exact seg (a := []) (c := pay.data.toList) (by rw [hpk]; unfold H4.head H4.tail; simp only [List.append_assoc, List.nil_append]) rfl (by simp [be_length, H4.head_len, H4.tail_length hok]; omega)
  refine ⟨⟨by omega, by rw [n0]; omega, by rw [hz]; omega, by rw [n2]; omega, ?_, by rw [n6]; exact hfl⟩, ?_, hz, tp, hsize⟩
  · rw [hz, hh, ← hS]
    exact seal_mid _ _ (by rw [H4.head_len])
  · unfold hdr
    rw [n1, n4, n6, n8, n9, hz, t12, t16, t20]
    have e1 : ((h.tos.toNat : Nat) : Int) = h.tos := by omega
    have e2 : ((h.id.toNat : Nat) : Int) = h.id := by omega
    have e3 : ((h.flags % 8192 : Nat) : Int) = h.off := by unfold H4.flags; split <;> split <;> omega
    have e4 : ((h.ttl.toNat : Nat) : Int) = h.ttl := by omega
    have e5 : ((h.proto.toNat : Nat) : Int) = h.proto := by omega
    have e6 : decide (h.flags / 16384 % 2 = 1) = h.df := by
      have hx : h.off.toNat < 8192 := by omega
      unfold H4.flags
      cases h.df <;> cases h.mf <;> simp <;> omega
    have e7 : decide (h.flags / 8192 % 2 = 1) = h.mf := by
      have hx : h.off.toNat < 8192 := by omega
      unfold H4.flags
      cases h.df <;> cases h.mf <;> simp <;> omega
    rw [e1, e2, e3, e4, e5, e6, e7]

end Go.Proofs.Ytoijomdgcgbpbaa
