/-
  Pseudo: what stands ahead of a segment, by the code and by the document.
-/
import Derived.Test.YtnlgcjcfbekgoaaSumUse
import Derived.Test.YtnlgcjcfbekgoaaOwn
namespace Go.Proofs.Ytnlgcjcfbekgoaa
open Go.RowKit
set_option linter.unusedVariables false

/-- A number's byte, the k-th from the lowest. -/
def byteAt (n : Int) (k : Nat) : UInt8 := UInt8.ofNat (n / 256 ^ k % 256).toNat
/-- What stands ahead. -/
def pseudoD (src dst : List UInt8) (proto n : Int) : List UInt8 :=
  if src.length = 16 then src ++ dst ++ [byteAt n 3, byteAt n 2, byteAt n 1, byteAt n 0, 0, 0, 0, byteAt proto 0] else src ++ dst ++ [0, byteAt proto 0, byteAt n 1, byteAt n 0]

theorem byteAt_nat (n : Int) (k : Nat) : ((byteAt n k).toNat : Int) = n / 256 ^ k % 256 := by
  unfold byteAt
  rw [UInt8.toNat_ofNat']
  omega

/-- A literal of bytes added. -/
theorem own_new (w : World) (base : Nat) (v : Value) (l m : List UInt8) (cs : Array Value) (ty : TypeId) (h : OwnB w base v l) (hb : base ≤ w.heap.size) (n : Nat) (hn : n = m.length) (hcs : cs = (m.map fun c => Value.int .u8 (c.toNat : Int)).toArray) (hs : l.length + m.length ≤ 140737488355328) :
    ∃ v' w', (Builtin.append_ #[33, 33] ty #[v, .slice (some ⟨w.heap.size, 0, none⟩) n n]).run Try.prog (w.alloc (.cells cs 5)) = .ok v' w' ∧ OwnB w' base v' (l ++ m) ∧ Kb (fun k => base ≤ k) w w' := by
  obtain ⟨g, c, rfl, hbg, hg⟩ := h.slice
  have h1 : OwnB (w.alloc (.cells cs 5)) base (.slice (some ⟨g, 0, none⟩) l.length c) l := h.kb (S := fun _ => False) ((Kb.refl _ _).alloc _) (by simp)
  obtain ⟨v', w', r1, r2, r3⟩ := own_adds (w.alloc (.cells cs 5)) base _ l m w.heap.size n n ty h1 (by simp; omega) hn (fun j hj => by
    rw [(Blk.new w cs 5).cell j, hcs]
    simp [hj]) hs
  exact ⟨v', w', r1, r2, ((Kb.refl (fun k => base ≤ k) w).alloc _).trans r3⟩

set_option maxHeartbeats 1000000 in
theorem pseudo_any (src dst : ByteArray) (proto n : Int) (w : World) (hs : src.size ≤ 1000000) (hd : dst.size ≤ 1000000) :
    Calls Try.prog 14 #[.string src, .string dst, .int .i64 proto, .int .i64 n] w fun e w' => e = .returned (.string ⟨(pseudoD src.data.toList dst.data.toList proto n).toArray⟩) ∧ Below w.heap.size w w' := by
  obtain ⟨v1, w1, hc1, ho1, hk1⟩ := own_conv w src (by omega)
  have hz1 := hk1.size
  obtain ⟨v2, w2, hc2, ho2, hk2⟩ := own_add w1 w.heap.size v1 src.data.toList dst 33 ho1 hz1 (by simp; omega)
  obtain ⟨g1, c1, rfl, _, _⟩ := ho1.slice
  obtain ⟨g2, c2, rfl, _, _⟩ := ho2.slice
  simp only [size_list, List.length_append] at hc1 hc2
  have HO2 := Lib.hid ho2
  have HK2 := Lib.hid ((hk1.mono (T := fun k => w.heap.size ≤ k) (fun _ _ h => h.elim)).trans (hk2.mono fun _ _ h => h))
  have HC2 := Lib.hid hc2
  clear ho1 ho2 hk1 hk2 hc2
  go_enter Try.func14, Try.ntmps14
  by_cases h16 : src.size = 16
  · have t1 : ((src.size : Int) == 16) = true := by simp; omega
    have H16 := Lib.hid h16
    clear h16
    obtain ⟨v3, w3, hc3, ho3, hk3⟩ := own_new w2 w.heap.size _ (src.data.toList ++ dst.data.toList) [byteAt n 3, byteAt n 2, byteAt n 1, byteAt n 0, 0, 0, 0, byteAt proto 0] #[.int .u8 (n / 16777216 % 256), .int .u8 (n / 65536 % 256), .int .u8 (n / 256 % 256), .int .u8 (n % 256), .int .u8 0, .int .u8 0, .int .u8 0, .int .u8 (proto % 256)] 33 HO2.out (by have := HK2.out.size; omega) 8 rfl (by simp only [List.map_cons, List.map_nil, byteAt_nat]; simp) (by simp; omega)
    obtain ⟨g3, c3, rfl, _, _⟩ := ho3.slice
    have hcv := ho3.text
    simp only [size_list, List.length_append, List.length_cons, List.length_nil, Nat.zero_add, Nat.reduceAdd] at hcv hc3
    have HC3 := Lib.hid hc3
    have HK3 := Lib.hid (HK2.out.trans hk3)
    clear hc3 ho3 hk3 HO2
    obtain ⟨R, hR⟩ : ∃ R : ByteArray, R = ⟨(src.data.toList ++ dst.data.toList ++ [byteAt n 3, byteAt n 2, byteAt n 1, byteAt n 0, 0, 0, 0, byteAt proto 0]).toArray⟩ := ⟨_, rfl⟩
    rw [← hR] at hcv
    have HR := Lib.hid hR
    clear hR
    go_wp2_with (first | (at_builtin; refine wp_append _ rfl _ _ 33 9 rfl _ _ rfl rfl HC2.out ?_) | (at_builtin; refine wp_append _ rfl _ _ 33 33 rfl _ _ rfl rfl HC3.out ?_))
    go_ret
    refine ⟨?_, HK3.out.below (Nat.le_refl _)⟩
    have h1 := H16.out
    unfold pseudoD
    rw [if_pos (by rw [size_list]; exact h1)]
    rw [HR.out]
    rfl
  · have t1 : ((src.size : Int) == 16) = false := by simp; omega
    have H16 := Lib.hid h16
    clear h16
    obtain ⟨v3, w3, hc3, ho3, hk3⟩ := own_new w2 w.heap.size _ (src.data.toList ++ dst.data.toList) [0, byteAt proto 0, byteAt n 1, byteAt n 0] #[.int .u8 0, .int .u8 (proto % 256), .int .u8 (n / 256 % 256), .int .u8 (n % 256)] 33 HO2.out (by have := HK2.out.size; omega) 4 rfl (by simp only [List.map_cons, List.map_nil, byteAt_nat]; simp) (by simp; omega)
    obtain ⟨g3, c3, rfl, _, _⟩ := ho3.slice
    have hcv := ho3.text
    simp only [size_list, List.length_append, List.length_cons, List.length_nil, Nat.zero_add, Nat.reduceAdd] at hcv hc3
    have HC3 := Lib.hid hc3
    have HK3 := Lib.hid (HK2.out.trans hk3)
    clear hc3 ho3 hk3 HO2
    obtain ⟨R, hR⟩ : ∃ R : ByteArray, R = ⟨(src.data.toList ++ dst.data.toList ++ [0, byteAt proto 0, byteAt n 1, byteAt n 0]).toArray⟩ := ⟨_, rfl⟩
    rw [← hR] at hcv
    have HR := Lib.hid hR
    clear hR
    go_wp2_with (first | (at_builtin; refine wp_append _ rfl _ _ 33 9 rfl _ _ rfl rfl HC2.out ?_) | (at_builtin; refine wp_append _ rfl _ _ 33 33 rfl _ _ rfl rfl HC3.out ?_))
    go_ret
    refine ⟨?_, HK3.out.below (Nat.le_refl _)⟩
    have h1 := H16.out
    unfold pseudoD
    rw [if_neg (by rw [size_list]; exact h1)]
    rw [HR.out]
    rfl

end Go.Proofs.Ytnlgcjcfbekgoaa
