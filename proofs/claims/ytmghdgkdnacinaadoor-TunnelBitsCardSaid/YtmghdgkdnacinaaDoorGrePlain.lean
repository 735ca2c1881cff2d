/-
  Headers, there and back, plain: what is put is got, what is got is put, a changed bit is seen.
-/
import Derived.Test.YtmghdgkdnacinaaDoorGreA
import Derived.Test.YtmghdgkdnacinaaDoorSumMid
namespace Go.Proofs.YtmghdgkdnacinaaDoor
open Go.RowKit
set_option linter.unusedVariables false

theorem own12_le (h : H12) (s : ByteArray) : own12 h s ≤ 65535 := by
  unfold own12
  split
  · exact sumD_le _
  · exact Nat.zero_le _
/-- A header that is got as it was put. -/
def H12.seen (h : H12) : H12 := ⟨h.sum, h.key, match h.key with | true => h.v | false => 0⟩
theorem bits12_lt (s k : Bool) : bits12 s k < 65536 := by cases s <;> cases k <;> decide
theorem f12_of {b : ByteArray} {s k : Bool} (h : 4 ≤ b.size) (hb : numOf b 0 2 = bits12 s k) : f12 b = .ok s k := by
  unfold f12
  rw [if_neg (by omega), hb]
  cases s <;> cases k <;> rfl
theorem kn_four {v : V11} (h : v.en = 0) : v.kn = 2048 ∨ v.kn = 34525 := by cases v <;> simp [V11.en, V11.kn] at *
/-- What is put, byte by byte. -/
structure Put12 (h : H12) (s p : ByteArray) : Prop where
  list : p.data.toList = head12 h (v11 s).kn (own12 h s) ++ s.data.toList
  err : (v11 s).en = 0
  v : h.v < 4294967296
theorem Put12.size {h : H12} {s p : ByteArray} (r : Put12 h s p) : p.size = size12 h.sum h.key + s.size := by
  have := congrArg List.length r.list
  rw [List.length_append, head12_length] at this
  simpa using this
theorem Put12.bits {h : H12} {s p : ByteArray} (r : Put12 h s p) : numOf p 0 2 = bits12 h.sum h.key := by
  refine num_seg (a := []) (c := be (v11 s).kn 2 ++ behind12 h (own12 h s) ++ s.data.toList) (b := be (bits12 h.sum h.key) 2) ?_ rfl rfl (bits12_lt _ _)
  rw [r.list]
  simp [head12]
theorem Put12.kind {h : H12} {s p : ByteArray} (r : Put12 h s p) : numOf p 2 2 = (v11 s).kn := by
  refine num_seg (a := be (bits12 h.sum h.key) 2) (c := behind12 h (own12 h s) ++ s.data.toList) (b := be (v11 s).kn 2) ?_ (be_length _ _) rfl ?_
  · rw [r.list]
    simp [head12]
  · rcases kn_four r.err with e | e <;> rw [e] <;> decide
theorem Put12.rest {h : H12} {s p : ByteArray} (r : Put12 h s p) : p.extract (size12 h.sum h.key) p.size = s := by
  refine text_seg (a := head12 h (v11 s).kn (own12 h s)) (c := []) ?_ (head12_length _ _ _) r.size.symm
  rw [r.list, List.append_nil]
theorem Put12.front {h : H12} {s p : ByteArray} (r : Put12 h s p) : f12 p = .ok h.sum h.key := by
  refine f12_of ?_ r.bits
  have := r.size
  have := size12_le h.sum h.key
  omega
theorem Put12.pad {h : H12} {s p : ByteArray} (r : Put12 h s p) (hs : h.sum = true) : numOf p 6 2 = 0 := by
  refine num_seg (a := be (bits12 h.sum h.key) 2 ++ be (v11 s).kn 2 ++ be (own12 h s) 2) (c := q12 h.key (be h.v 4) ++ s.data.toList) (b := be 0 2) ?_ (by simp [be_length]) rfl (by decide)
  rw [r.list]
  simp [head12, behind12, hs, q12]
theorem Put12.right {h : H12} {s p : ByteArray} (r : Put12 h s p) (hs : h.sum = true) : sumD p.data.toList = 0 := by
  have hl := r.list
  have ho : own12 h s = sumD ((be (bits12 h.sum h.key) 2 ++ be (v11 s).kn 2) ++ (be 0 2 ++ (be 0 2 ++ (q12 h.key (be h.v 4) ++ s.data.toList)))) := by
    unfold own12
    rw [hs]
    simp [head12, behind12, hs, q12]
  have ho2 : own12 h s = sumD ((be (bits12 h.sum h.key) 2 ++ be (v11 s).kn 2) ++ (be 0 2 ++ (q12 h.key (be h.v 4) ++ s.data.toList))) := by
    rw [ho]
    unfold sumD
    rw [ws_append, ws_append true (be (bits12 h.sum h.key) 2 ++ be (v11 s).kn 2)]
    rw [side_even _ _ (by simp [be_length]), ws_append true (be 0 2) (be 0 2 ++ _), side_even _ _ (by simp [be_length])]
    have h0 : ws true (be 0 2) = 0 := by decide
    rw [h0, Nat.zero_add]
  have e : p.data.toList = (be (bits12 h.sum h.key) 2 ++ be (v11 s).kn 2) ++ (two (own12 h s) ++ (be 0 2 ++ (q12 h.key (be h.v 4) ++ s.data.toList))) := by
    rw [hl, ← be_two _ (own12_le h s)]
    simp [head12, behind12, hs, q12]
  rw [e, ho2]
  exact seal_mid _ _ (by simp [be_length])
theorem Put12.key {h : H12} {s p : ByteArray} (r : Put12 h s p) : key12 h.sum h.key p = h.seen.v := by
  unfold key12 H12.seen
  cases hk : h.key with
  | false => rfl
  | true =>
    simp only
    refine num_seg (a := be (bits12 h.sum h.key) 2 ++ be (v11 s).kn 2 ++ q12 h.sum (be (own12 h s) 2 ++ be 0 2)) (c := s.data.toList) (b := be h.v 4) ?_ ?_ rfl r.v
    · rw [r.list]
      simp [head12, behind12, hk, q12]
    · cases h.sum <;> simp [be_length, q12, size12, p12]
/-- What is put is got as it was. -/
theorem Put12.get {h : H12} {s p : ByteArray} (r : Put12 h s p) : get12E p = 0 ∧ get12H p = h.seen ∧ get12S p = s := by
  have hf := r.front
  have hsm : sm12 h.sum p = 0 := by
    cases hs : h.sum with
    | false => rfl
    | true =>
      show (if numOf p 6 2 ≠ 0 then 9 else if sumD p.data.toList ≠ 0 then 5 else 0) = 0
      rw [if_neg (by have := r.pad hs; omega), if_neg (by have := r.right hs; omega)]
  have hE : get12E p = 0 := by
    have e : get12E p = rest12 h.sum h.key p := by unfold get12E; rw [hf]
    rw [e]
    unfold rest12
    rw [if_neg (by have := r.size; omega), if_neg (by omega), r.rest, r.kind]
    unfold pk12
    rcases kn_four r.err with e | e <;> rw [e] <;> simp [r.err]
  refine ⟨hE, ?_, ?_⟩
  · unfold get12H hd12
    rw [if_pos hE, hf]
    show (⟨h.sum, h.key, key12 h.sum h.key p⟩ : H12) = _
    rw [r.key]
    rfl
  · unfold get12S in12
    rw [if_pos hE, hf]
    exact r.rest

/-- What bytes say that are got. -/
structure Got12 (b : ByteArray) (s k : Bool) : Prop where
  front : f12 b = .ok s k
  long : size12 s k ≤ b.size
  pad : s = true → numOf b 6 2 = 0
  sum : s = true → sumD b.data.toList = 0
  err : (v11 (b.extract (size12 s k) b.size)).en = 0
  kind : (v11 (b.extract (size12 s k) b.size)).kn = numOf b 2 2
theorem got12 {b : ByteArray} (h : get12E b = 0) : ∃ s k, Got12 b s k := by
  unfold get12E at h
  cases hf : f12 b with
  | stop n => rw [hf] at h; have := f12_stop_pos hf; simp only at h; omega
  | ok s k =>
    rw [hf] at h
    simp only at h
    refine ⟨s, k, ?_⟩
    unfold rest12 at h
    by_cases h1 : b.size < size12 s k
    · rw [if_pos h1] at h; omega
    rw [if_neg h1] at h
    by_cases h2 : sm12 s b ≠ 0
    · rw [if_pos h2] at h; omega
    rw [if_neg h2] at h
    unfold pk12 at h
    by_cases h3 : numOf b 2 2 ≠ 2048 ∧ numOf b 2 2 ≠ 34525
    · rw [if_pos h3] at h; omega
    rw [if_neg h3] at h
    by_cases h4 : (v11 (b.extract (size12 s k) b.size)).en ≠ 0
    · rw [if_pos h4] at h; omega
    rw [if_neg h4] at h
    by_cases h5 : (v11 (b.extract (size12 s k) b.size)).kn ≠ numOf b 2 2
    · rw [if_pos h5] at h; omega
    have hsm : s = true → numOf b 6 2 = 0 ∧ sumD b.data.toList = 0 := by
      intro e
      subst e
      have h2' : (if numOf b 6 2 ≠ 0 then 9 else if sumD b.data.toList ≠ 0 then 5 else 0) = 0 := by
        have : sm12 true b = 0 := by omega
        exact this
      by_cases e1 : numOf b 6 2 ≠ 0
      · rw [if_pos e1] at h2'; omega
      rw [if_neg e1] at h2'
      by_cases e2 : sumD b.data.toList ≠ 0
      · rw [if_pos e2] at h2'; omega
      omega
    exact ⟨hf, by omega, fun e => (hsm e).1, fun e => (hsm e).2, by omega, by omega⟩
theorem Got12.is {b : ByteArray} {s k : Bool} (g : Got12 b s k) : hd12 b = ⟨s, k, key12 s k b⟩ ∧ in12 b = b.extract (size12 s k) b.size := by
  unfold hd12 in12
  rw [g.front]
  exact ⟨rfl, rfl⟩
theorem Got12.v {b : ByteArray} {s k : Bool} (g : Got12 b s k) : key12 s k b < 4294967296 := by
  unfold key12
  cases k with
  | false => show (0 : Nat) < 4294967296; decide
  | true =>
    have := g.long
    exact numOf_lt b _ 4 (by have := size12_le s true; have : size12 s true ≥ 8 := by cases s <;> decide
                             omega)
/-- A text, cut where its header is. -/
theorem Got12.cut {b : ByteArray} {s k : Bool} (g : Got12 b s k) : b.data.toList = be (bits12 s k) 2 ++ be (numOf b 2 2) 2 ++ (q12 s (be (numOf b 4 2) 2 ++ be 0 2) ++ q12 k (be (key12 s k b) 4)) ++ (b.extract (size12 s k) b.size).data.toList := by
  have hl := g.long
  have h4 := (f12_ok_bits g.front).1
  have hb := (f12_ok_bits g.front).2
  have all : b.data.toList = sl b 0 b.size := by rw [sl_all]; rfl
  have e1 : be (bits12 s k) 2 = sl b 0 2 := by rw [← hb]; exact be_num b 0 2 (by omega)
  have e2 : be (numOf b 2 2) 2 = sl b 2 4 := be_num b 2 2 (by omega)
  rw [sl_ext, e1, e2, sl_join b 0 2 4 (by omega) (by omega)]
  cases s with
  | false =>
    cases k with
    | false =>
      show _ = sl b 0 4 ++ ([] ++ []) ++ sl b 4 b.size
      rw [List.append_nil, List.append_nil, sl_join b 0 4 b.size (by omega) (by omega)]
      exact all
    | true =>
      have l8 : 8 ≤ b.size := hl
      have e3 : be (key12 false true b) 4 = sl b 4 8 := be_num b 4 4 (by omega)
      show _ = sl b 0 4 ++ ([] ++ be (key12 false true b) 4) ++ sl b 8 b.size
      rw [e3, List.nil_append, sl_join b 0 4 8 (by omega) (by omega), sl_join b 0 8 b.size (by omega) (by omega)]
      exact all
  | true =>
    have hp := g.pad rfl
    cases k with
    | false =>
      have l8 : 8 ≤ b.size := hl
      have e3 : be (numOf b 4 2) 2 = sl b 4 6 := be_num b 4 2 (by omega)
      have e4 : be 0 2 = sl b 6 8 := by rw [← hp]; exact be_num b 6 2 (by omega)
      show _ = sl b 0 4 ++ ((be (numOf b 4 2) 2 ++ be 0 2) ++ []) ++ sl b 8 b.size
      rw [e3, e4, List.append_nil, sl_join b 4 6 8 (by omega) (by omega), sl_join b 0 4 8 (by omega) (by omega), sl_join b 0 8 b.size (by omega) (by omega)]
      exact all
    | true =>
      have l12 : 12 ≤ b.size := hl
      have e3 : be (numOf b 4 2) 2 = sl b 4 6 := be_num b 4 2 (by omega)
      have e4 : be 0 2 = sl b 6 8 := by rw [← hp]; exact be_num b 6 2 (by omega)
      have e5 : be (key12 true true b) 4 = sl b 8 12 := be_num b 8 4 (by omega)
      show _ = sl b 0 4 ++ ((be (numOf b 4 2) 2 ++ be 0 2) ++ be (key12 true true b) 4) ++ sl b 12 b.size
      rw [e3, e4, e5, sl_join b 4 6 8 (by omega) (by omega), sl_join b 4 8 12 (by omega) (by omega), sl_join b 0 4 12 (by omega) (by omega), sl_join b 0 12 b.size (by omega) (by omega)]
      exact all
/-- What is got is put as it was, where its sum isn't FFFF. -/
theorem Got12.put {b : ByteArray} {s k : Bool} (g : Got12 b s k) (hf : s = true → numOf b 4 2 ≠ 65535) : put12S (hd12 b) (in12 b) = b := by
  have hc := g.cut
  have he := g.err
  have hk := g.kind
  rw [g.is.1, g.is.2]
  generalize hr : b.extract (size12 s k) b.size = r at *
  unfold put12S
  rw [if_pos he]
  apply text_ext
  rw [list_text, hc]
  unfold put12L head12 behind12
  rw [hk]
  simp only
  have ho : q12 s (be (own12 ⟨s, k, key12 s k b⟩ r) 2 ++ be 0 2) = q12 s (be (numOf b 4 2) 2 ++ be 0 2) := by
    cases s with
    | false => rfl
    | true =>
      have hl : 6 ≤ b.size := by have := g.long; have : 8 ≤ size12 true k := by cases k <;> decide
                                 omega
      have hlt := numOf_lt b 4 2 hl
      have hsum := g.sum rfl
      have hh := hf rfl
      have e : numOf b 4 2 = own12 ⟨true, k, key12 true k b⟩ r := by
        unfold own12
        simp only
        have e0 : head12 ⟨true, k, key12 true k b⟩ (v11 r).kn 0 ++ r.data.toList = (be (bits12 true k) 2 ++ be (numOf b 2 2) 2) ++ (be 0 2 ++ (be 0 2 ++ (q12 k (be (key12 true k b) 4) ++ r.data.toList))) := by
          unfold head12 behind12
          rw [hk]
          simp [q12]
        have e1 : sumD ((be (bits12 true k) 2 ++ be (numOf b 2 2) 2) ++ (be 0 2 ++ (be 0 2 ++ (q12 k (be (key12 true k b) 4) ++ r.data.toList)))) = sumD ((be (bits12 true k) 2 ++ be (numOf b 2 2) 2) ++ (be 0 2 ++ (q12 k (be (key12 true k b) 4) ++ r.data.toList))) := by
          unfold sumD
          rw [ws_append, ws_append true (be (bits12 true k) 2 ++ be (numOf b 2 2) 2)]
          rw [side_even _ _ (by simp [be_length]), ws_append true (be 0 2) (be 0 2 ++ _), side_even _ _ (by simp [be_length])]
          have h0 : ws true (be 0 2) = 0 := by decide
          rw [h0, Nat.zero_add]
        rw [e0, e1]
        refine sum_mid _ _ _ (by simp [be_length]) (by omega) ?_ ?_
        · rw [ws_append]
          have : ws true (be (bits12 true k) 2) ≠ 0 := by cases k <;> decide
          omega
        · rw [← be_two _ (by omega)]
          rw [hc] at hsum
          simpa [q12] using hsum
      rw [← e]
  rw [ho]

/-- A changed bit is seen. -/
theorem Put12.flip {h : H12} {s p q : ByteArray} (r : Put12 h s p) (hs : h.sum = true) (i j : Nat) (hi : 1 ≤ i) (hip : i < p.size) (hj : j < 8) (hq : q.data.toList = p.data.toList.set i (p.data.toList[i]'(by simpa using hip) ^^^ UInt8.ofNat (2 ^ j))) : get12E q ≠ 0 := by
  intro he
  obtain ⟨s', k', g⟩ := got12 he
  have h4 := (f12_ok_bits g.front).1
  have hb := (f12_ok_bits g.front).2
  have hsz : q.size = p.size := by
    have := congrArg List.length hq
    simpa using this
  have h0 : q[0]'(by omega) = p[0]'(by omega) := by
    have h1 : q.data.toList[0]? = some (q[0]'(by omega)) := by rw [List.getElem?_eq_getElem (by simp; omega)]; rfl
    have h2 : (p.data.toList.set i (p.data.toList[i]'(by simpa using hip) ^^^ UInt8.ofNat (2 ^ j)))[0]? = some (p[0]'(by omega)) := by
      rw [List.getElem?_set_ne (by omega), List.getElem?_eq_getElem (by simp; omega)]; rfl
    rw [hq, h2] at h1
    exact (Option.some.inj h1).symm
  have hp2 := num_2 p 0 (by omega)
  have hq2 := num_2 q 0 (by omega)
  have hpb := r.bits
  rw [h0] at hq2
  have l1 := (p[0 + 1]'(by omega)).toNat_lt
  have l2 := (q[0 + 1]'(by omega)).toNat_lt
  have hs' : s' = true := by
    cases s' with
    | true => rfl
    | false =>
      have e1 : bits12 h.sum h.key ≥ 32768 := by rw [hs]; cases h.key <;> decide
      have e2 : bits12 false k' ≤ 8192 := by cases k' <;> decide
      omega
  have hz := g.sum hs'
  have hr := sum_zero_full _ (r.right hs)
  have := changed_wrong p.data.toList i j (by simpa using hip) hj hr
  rw [← hq] at this
  exact this (sum_zero_full _ hz)
/-- Another packet of the same version behind a header without a sum. -/
theorem Put12.other {h : H12} {s p t : ByteArray} (r : Put12 h s p) (hs : h.sum = false) (ht : v11 t = v11 s) : Put12 h t (p.extract 0 (size12 h.sum h.key) ++ t) := by
  have o1 : own12 h s = 0 := by unfold own12; rw [hs]
  have o2 : own12 h t = 0 := by unfold own12; rw [hs]
  have e : (p.extract 0 (size12 h.sum h.key)).data.toList = head12 h (v11 s).kn 0 := by
    rw [sl_ext]
    unfold sl
    rw [List.drop_zero, r.list, o1, List.take_left' (head12_length _ _ _)]
  refine ⟨?_, by rw [ht]; exact r.err, r.v⟩
  rw [cat_list, e, ht, o2]
theorem Put12.keySeg {h : H12} {s p : ByteArray} (r : Put12 h s p) (hk : h.key = true) (i j : Nat) (hj : j = size12 h.sum true) (hi : i + 4 = j) : p.extract i j = ⟨(be h.v 4).toArray⟩ := by
  apply text_ext
  rw [list_text, sl_ext]
  unfold sl
  refine seg (a := be (bits12 h.sum h.key) 2 ++ be (v11 s).kn 2 ++ q12 h.sum (be (own12 h s) 2 ++ be 0 2)) (c := s.data.toList) ?_ ?_ (by rw [be_length]; exact hi)
  · rw [r.list]
    simp [head12, behind12, hk, q12]
  · have : size12 h.sum true = 8 + p12 h.sum 4 := by cases h.sum <;> rfl
    have e : (be (bits12 h.sum h.key) 2 ++ be (v11 s).kn 2 ++ q12 h.sum (be (own12 h s) 2 ++ be 0 2)).length = 4 + p12 h.sum 4 := by cases h.sum <;> simp [be_length, q12, p12]
    omega

end Go.Proofs.YtmghdgkdnacinaaDoor
