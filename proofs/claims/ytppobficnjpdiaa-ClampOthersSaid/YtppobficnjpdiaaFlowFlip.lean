/-
  A client packet with one bit of its payload changed, plain.
-/
import Derived.Test.YtppobficnjpdiaaFlowSpec
namespace Go.Proofs.Ytppobficnjpdiaa
open Go.RowKit
set_option linter.unusedVariables false

/-- Where a packet's payload begins. -/
def fr9 (p : ByteArray) : Nat := if ver9 p = 4 then hsz p else 40
theorem sum_nought (l : List UInt8) : sumD l = 0 ↔ fold (ws true l) = 65535 := by
  have := fold_le (ws true l)
  unfold sumD
  omega
/-- What a valid packet's header and payload are. -/
structure Shape9 (p : ByteArray) : Prop where
  fr : 20 ≤ fr9 p ∧ fr9 p ≤ p.size
  pay : pay9 p = p.extract (fr9 p) p.size
theorem shape9 {p : ByteArray} (h : pktE p = 0) : Shape9 p := by
  unfold pktE at h
  by_cases h4 : ver9 p = 4
  · rw [if_pos h4] at h
    have g := getE_zero.1 h
    have e : fr9 p = hsz p := by unfold fr9; rw [if_pos h4]
    refine ⟨by rw [e]; exact g.len, ?_⟩
    rw [e]
    unfold pay9 getS
    rw [if_pos h4, if_pos h]
  · rw [if_neg h4] at h
    have g := get6E_zero.1 h
    have e : fr9 p = 40 := by unfold fr9; rw [if_neg h4]
    refine ⟨by have := g.short; omega, ?_⟩
    rw [e]
    unfold pay9 get6S
    rw [if_neg h4, if_pos h]
/-- Packets with the same header. -/
theorem same_head {p q : ByteArray} (hp : pktE p = 0) (hq : pktE q = 0) (hs : q.data.toList.take (fr9 p) = p.data.toList.take (fr9 p)) : ver9 q = ver9 p ∧ any9 q = any9 p ∧ fr9 q = fr9 p := by
  have sh := shape9 hp
  have hv : ver9 q = ver9 p := by unfold ver9; rw [same_num hs (by have := sh.fr; omega)]
  by_cases h4 : ver9 p = 4
  · have h4q : ver9 q = 4 := by rw [hv]; exact h4
    have e : fr9 p = hsz p := by unfold fr9; rw [if_pos h4]
    have hz : hsz q = hsz p := by unfold hsz; rw [same_num hs (by have := sh.fr; omega)]
    have eq : fr9 q = hsz q := by unfold fr9; rw [if_pos h4q]
    unfold pktE at hp hq
    rw [if_pos h4] at hp
    rw [if_pos h4q] at hq
    have l := sh.fr
    refine ⟨hv, ?_, by rw [eq, hz, e]⟩
    unfold any9
    rw [if_pos h4, if_pos h4q]
    unfold getH
    rw [if_pos hp, if_pos hq]
    unfold hdr
    rw [same_num hs (by omega), same_num hs (by omega), same_num hs (by omega), same_num hs (by omega), same_num hs (by omega), same_ext hs (by omega), same_ext hs (by omega), hz, same_ext hs (by omega)]
  · have h4q : ¬ ver9 q = 4 := by rw [hv]; exact h4
    have e : fr9 p = 40 := by unfold fr9; rw [if_neg h4]
    have eq : fr9 q = 40 := by unfold fr9; rw [if_neg h4q]
    unfold pktE at hp hq
    rw [if_neg h4] at hp
    rw [if_neg h4q] at hq
    rw [e] at hs
    refine ⟨hv, ?_, by rw [eq, e]⟩
    unfold any9
    rw [if_neg h4, if_neg h4q]
    unfold get6H
    rw [if_pos hp, if_pos hq]
    unfold hdr6
    rw [same_num hs (by omega), same_num hs (by omega), same_num hs (by omega), same_ext hs (by omega), same_ext hs (by omega)]
/-- A valid packet, whose datagram, if it is one, has a sum: that is right. -/
theorem sum_right {p : ByteArray} (g : Good9 p) (hn : (any9 p).proto = 17 → numOf (pay9 p) 6 2 ≠ 0) : sumD (ph9 (any9 p).proto (any9 p).src (any9 p).dst (pay9 p)) = 0 := by
  have hs := g.sum
  unfold A9.holds at hs
  by_cases h17 : (any9 p).proto = 17
  · have hl := g.load
    have hown : own9 (any9 p).proto (pay9 p) = numOf (pay9 p) 6 2 := by
      unfold loadE at hl
      unfold own9
      rw [if_neg (by omega)] at hl ⊢
      exact (get8_ok hl).2
    rw [if_neg (by rw [hown]; intro h; exact hn h17 h.2)] at hs
    exact of_decide_eq_true hs
  · rw [if_neg (fun h => h17 h.1)] at hs
    exact of_decide_eq_true hs

theorem flip9 {p q : ByteArray} (g : Good9 p) (i j : Nat) (hi : fr9 p ≤ i) (hip : i < p.size) (hj : j < 8) (hq : q.data.toList = p.data.toList.set i (p[i] ^^^ UInt8.ofNat (2 ^ j)))
    (h1 : (any9 p).proto = 17 → numOf (pay9 p) 6 2 ≠ 0) (h2 : (any9 p).proto = 17 → numOf (q.extract (fr9 p) q.size) 6 2 ≠ 0) : flowE q ≠ 0 := by
  intro e
  have gq := flowE_zero.1 e
  have sp := shape9 g.pkt
  have sq := shape9 gq.pkt
  have hs : q.data.toList.take (fr9 p) = p.data.toList.take (fr9 p) := by rw [hq, List.take_set_of_le hi]
  obtain ⟨hv, ha, hf⟩ := same_head g.pkt gq.pkt hs
  have hsz : q.size = p.size := by
    have := congrArg List.length hq
    rw [List.length_set, size_list, size_list] at this
    exact this
  have s1 := sum_right g h1
  have s2 := sum_right gq (by rw [ha, sq.pay, hf]; exact h2)
  rw [ha, sq.pay, hf] at s2
  rw [sp.pay] at s1
  have fl := sp.fr
  have hb1 : (p.extract (fr9 p) p.size).data.toList = p.data.toList.drop (fr9 p) := by rw [sl_ext, sl_all]
  have hb2 : (q.extract (fr9 p) q.size).data.toList = (p.data.toList.drop (fr9 p)).set (i - fr9 p) (p[i] ^^^ UInt8.ofNat (2 ^ j)) := by
    rw [sl_ext, sl_all, hq, List.drop_set, if_neg (by omega)]
  have z1 : (p.extract (fr9 p) p.size).size = p.size - fr9 p := by rw [ByteArray.size_extract]; omega
  have z2 : (q.extract (fr9 p) q.size).size = p.size - fr9 p := by rw [ByteArray.size_extract]; omega
  unfold ph9 at s1 s2
  rw [hb1, z1] at s1
  rw [hb2, z2] at s2
  generalize pseudoD (any9 p).src.data.toList (any9 p).dst.data.toList (any9 p).proto ((p.size - fr9 p : Nat) : Int) = l at *
  rw [sum_nought] at s1 s2
  have hlt : l.length + (i - fr9 p) < (l ++ p.data.toList.drop (fr9 p)).length := by
    rw [List.length_append, List.length_drop, size_list]
    omega
  have hget : (l ++ p.data.toList.drop (fr9 p))[l.length + (i - fr9 p)] = p[i] := by
    rw [List.getElem_append_right (by omega)]
    simp only [List.getElem_drop]
    have : fr9 p + (l.length + (i - fr9 p) - l.length) = i := by omega
    simp only [this]
    rfl
  have cw := changed_wrong (l ++ p.data.toList.drop (fr9 p)) (l.length + (i - fr9 p)) j hlt hj s1
  rw [hget, List.set_append_right _ _ (by omega), show l.length + (i - fr9 p) - l.length = i - fr9 p by omega] at cw
  exact cw s2

end Go.Proofs.Ytppobficnjpdiaa
