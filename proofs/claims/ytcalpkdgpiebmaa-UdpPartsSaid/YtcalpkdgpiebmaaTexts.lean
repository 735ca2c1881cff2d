/-
  Texts of bytes: joined, cut, made of numbers. Plain, but for what a conversion does.
-/
import Derived.Test.YtcalpkdgpiebmaaMem
import Derived.Laws.IdiomStrings
import Derived.Laws.BitsLemmas
import Derived.Laws.BytesArg
import Derived.Laws.Concat
import Derived.Deep.OwnRows
namespace Go.Proofs.Ytcalpkdgpiebmaa
open Go.RowKit
set_option linter.unusedVariables false

theorem list_size (l : List UInt8) : (⟨l.toArray⟩ : ByteArray).size = l.length := by simp [ByteArray.size]
theorem cat_list (s t : ByteArray) : (s ++ t).data.toList = s.data.toList ++ t.data.toList := by rw [ByteArray.data_append]; simp
theorem cat_size (s t : ByteArray) : (s ++ t).size = s.size + t.size := by simp
theorem text_ext {s t : ByteArray} (h : s.data.toList = t.data.toList) : s = t := by
  cases s with | mk s => cases t with | mk t => congr; exact Array.toList_inj.1 h
theorem addr_add (g j : Nat) : (⟨g, 0, none⟩ : Addr).add j = ⟨g, j, none⟩ := by unfold Addr.add; split <;> simp_all

theorem extract_list (s : ByteArray) (i j : Nat) : (s.extract i j).data.toList = (s.data.toList.take j).drop i := by
  rw [ByteArray.data_extract, Array.toList_extract, List.extract_eq_take_drop, List.drop_take]
theorem tail_text (s t : ByteArray) : (s ++ t).extract s.size (s ++ t).size = t := by
  apply text_ext
  rw [extract_list, cat_list, List.take_of_length_le (by simp), List.drop_left' (by simp)]
/-- A fresh slice of bytes as a text. -/
theorem conv_new (w : World) (bs : List UInt8) (cs : Array Value) (hcs : cs = (bs.map fun c => Value.int .u8 (c.toNat : Int)).toArray) (n : Nat) (hn : n = bs.length) :
    (convert 40 9 (.slice (some ⟨w.heap.size, 0, none⟩) n n)).run Try.prog (w.alloc (.cells cs 5)) = .ok (.string ⟨bs.toArray⟩) (w.alloc (.cells cs 5)) := by
  subst hn hcs
  refine run_convert_bytes_back (P := Try.prog) _ 40 9 5 ⟨w.heap.size, 0, none⟩ bs.length bs Try.underlying40 Try.underlying5 Try.underlying9 fun q hq => ?_
  rw [addr_add]
  refine ((Blk.new w _ _).cell q).trans ?_
  simp [hq]
theorem conv_two (w : World) (n : Nat) : (convert 40 9 (.slice (some ⟨w.heap.size, 0, none⟩) 2 2)).run Try.prog (w.alloc (.cells #[.int .u8 ((n : Int) / 256 % 256), .int .u8 ((n : Int) % 256)] 5))
    = .ok (.string ⟨#[UInt8.ofNat (n / 256 % 256), UInt8.ofNat (n % 256)]⟩) (w.alloc (.cells #[.int .u8 ((n : Int) / 256 % 256), .int .u8 ((n : Int) % 256)] 5)) := by
  refine conv_new w [UInt8.ofNat (n / 256 % 256), UInt8.ofNat (n % 256)] _ ?_ 2 rfl
  simp only [List.map_cons, List.map_nil, UInt8.toNat_ofNat']
  have e1 : ((n : Int) / 256 % 256) = ((n / 256 % 256 % 2 ^ 8 : Nat) : Int) := by omega
  have e2 : ((n : Int) % 256) = ((n % 256 % 2 ^ 8 : Nat) : Int) := by omega
  rw [e1, e2]
theorem conv_two_small (w : World) (n : Nat) (h : n ≤ 65535) : (convert 40 9 (.slice (some ⟨w.heap.size, 0, none⟩) 2 2)).run Try.prog (w.alloc (.cells #[.int .u8 ((n : Int) / 256), .int .u8 ((n : Int) % 256)] 5))
    = .ok (.string ⟨#[UInt8.ofNat (n / 256 % 256), UInt8.ofNat (n % 256)]⟩) (w.alloc (.cells #[.int .u8 ((n : Int) / 256), .int .u8 ((n : Int) % 256)] 5)) := by
  have e : ((n : Int) / 256) = ((n : Int) / 256 % 256) := by omega
  rw [e]
  exact conv_two w n
theorem conv_two_raw (w : World) (n : Nat) (h : n ≤ 65535) : (convert 40 9 (.slice (some ⟨w.heap.size, 0, none⟩) 2 2)).run Try.prog (w.alloc (.cells #[.int .u8 (IntKind.u8.wrap ((n : Int) / 256)), .int .u8 (IntKind.u8.wrap (n : Int))] 5)).drew
    = .ok (.string ⟨#[UInt8.ofNat (n / 256 % 256), UInt8.ofNat (n % 256)]⟩) (w.alloc (.cells #[.int .u8 (IntKind.u8.wrap ((n : Int) / 256)), .int .u8 (IntKind.u8.wrap (n : Int))] 5)).drew := by
  have e1 : IntKind.u8.wrap ((n : Int) / 256) = ((UInt8.ofNat (n / 256 % 256)).toNat : Int) := by
    rw [IntKind.wrap_u8, UInt8.toNat_ofNat']; omega
  have e2 : IntKind.u8.wrap (n : Int) = ((UInt8.ofNat (n % 256)).toNat : Int) := by
    rw [IntKind.wrap_u8, UInt8.toNat_ofNat']; omega
  rw [e1, e2]
  refine run_convert_bytes_back (P := Try.prog) _ 40 9 5 ⟨w.heap.size, 0, none⟩ 2 [UInt8.ofNat (n / 256 % 256), UInt8.ofNat (n % 256)] Try.underlying40 Try.underlying5 Try.underlying9 fun q hq => ?_
  rw [addr_add]
  refine ((Blk.new w _ _).drew.cell q).trans ?_
  have : q = 0 ∨ q = 1 := by simp at hq; omega
  rcases this with rfl | rfl <;> rfl

/-- A block whose first cells are these bytes, none of them frozen. -/
def ByteBlk (w : World) (b : Nat) (l : List UInt8) : Prop :=
  ∃ xs T fr, w.heap[b]? = some (.cells xs T fr) ∧ (∀ j (h : j < l.length), xs[j]? = some (.int .u8 (l[j].toNat : Int))) ∧ (l.length ≤ fr.1 ∨ fr.2 = 0)
theorem ByteBlk.lt {w : World} {b : Nat} {l : List UInt8} (h : ByteBlk w b l) : b < w.heap.size := by
  obtain ⟨xs, T, fr, h, _⟩ := h; exact (Array.getElem?_eq_some_iff.1 h).1
theorem ByteBlk.cell {w : World} {b : Nat} {l : List UInt8} (h : ByteBlk w b l) (j : Nat) (hj : j < l.length) : w.cell? ⟨b, j, none⟩ = some (.int .u8 (l[j].toNat : Int)) := by
  obtain ⟨xs, T, fr, h, hc, _⟩ := h
  simp [World.cell?, h, hc j hj]
theorem ByteBlk.frozen {w : World} {b : Nat} {l : List UInt8} (h : ByteBlk w b l) (j : Nat) (hj : j < l.length) : w.frozen? ⟨b, j, none⟩ = false := by
  obtain ⟨xs, T, ⟨lo, hi⟩, h, hc, hl⟩ := h
  simp only at hl
  simp [World.frozen?, h]
  omega
theorem ByteBlk.set {w : World} {b : Nat} {l : List UInt8} (h : ByteBlk w b l) (i : Nat) (c : UInt8) (v : Value) (hv : v = .int .u8 (c.toNat : Int)) : ByteBlk (w.setCell ⟨b, i, none⟩ v) b (l.set i c) := by
  obtain ⟨xs, T, fr, h, hc, hl⟩ := h
  refine ⟨xs.setIfInBounds i v, T, fr, ?_, fun j hj => ?_, by simpa using hl⟩
  · simp [World.setCell, Array.getElem?_modify, h]
  · have hj' : j < l.length := by simpa using hj
    have := hc j hj'
    have hx := (Array.getElem?_eq_some_iff.1 this).1
    rw [Array.getElem?_setIfInBounds]
    by_cases e : i = j
    · subst e; simp [hx, hv]
    · simp [e, this]
theorem ByteBlk.drew {w : World} {b : Nat} {l : List UInt8} (h : ByteBlk w b l) : ByteBlk w.drew b l := h
theorem ByteBlk.kb {S : Nat → Prop} {w w' : World} {b : Nat} {l : List UInt8} (h : ByteBlk w b l) (k : Kb S w w') (hs : ¬ S b) : ByteBlk w' b l := by
  have hb := h.lt
  obtain ⟨xs, T, fr, h, hc, hl⟩ := h
  exact ⟨xs, T, fr, (k.block b hb hs).trans h, hc, hl⟩
theorem ByteBlk.text {w : World} {b cap n : Nat} {l : List UInt8} (h : ByteBlk w b l) (hn : n = l.length) :
    (convert 40 9 (.slice (some ⟨b, 0, none⟩) n cap)).run Try.prog w = .ok (.string ⟨l.toArray⟩) w := by
  subst hn
  refine run_convert_bytes_back (P := Try.prog) _ 40 9 5 ⟨b, 0, none⟩ cap l Try.underlying40 Try.underlying5 Try.underlying9 fun q hq => ?_
  rw [addr_add]
  exact h.cell q hq
/-- A text's bytes, laid anew. -/
theorem bytes_conv (w : World) (s : ByteArray) : ∃ cap w', (convert 9 40 (.string s)).run Try.prog w = .ok (.slice (some ⟨w.heap.size, 0, none⟩) s.size cap) w' ∧ ByteBlk w' w.heap.size s.data.toList ∧ Kb (fun _ => False) w w' ∧ w'.heap.size = w.heap.size + 1 := by
  refine ⟨_, _, run_bytes_of_string (P := Try.prog) w 9 40 5 s Try.underlying9 Try.underlying40 Try.underlying5, ?_, ?_, by simp⟩
  · generalize hC : bytesRow s (grownCap w s.size 0 5) = C
    refine ⟨C, 5, (C.size, C.size + 1), ?_, fun j hj => ?_, ?_⟩
    · show (w.heap.push _)[w.heap.size]? = _
      simp
    · subst hC
      have hj' : j < s.data.size := by simpa using hj
      rw [bytesRow_at s _ j hj']
      simp
    · subst hC
      left
      simp [bytesRow]
  · exact ((Kb.refl _ _).drew).alloc _
theorem Try.infoByte : (Try.prog.info? 5).map (fun i => (i.zero, i.size, i.bytes)) = some (some (.int .u8 0), 1, 1) := by kernel_rfl
/-- Bytes 00, made anew. -/
theorem zeros_made (w : World) (n : Nat) (hn : n ≤ 281474976710656) : ∃ w', (Instr.makeSlice 40 (.int .i64 (n : Int)) (.int .i64 (n : Int))).run Try.prog w = .ok (.slice (some ⟨w.heap.size, 0, none⟩) n n) w' ∧ ByteBlk w' w.heap.size (List.replicate n 0) ∧ Kb (fun _ => False) w w' ∧ w'.heap.size = w.heap.size + 1 := by
  refine ⟨_, run_make_row' (P := Try.prog) 40 5 (.int .u8 0) 1 Try.underlying40 Try.infoByte rfl .i64 .i64 n (by omega) (by omega) w, ?_, (Kb.refl _ _).alloc _, by simp⟩
  obtain ⟨c, hc, hs, hi⟩ := World.rowIs_made w (.int .u8 0) n 5
  refine ⟨c, 5, (0, 0), hc, fun j hj => ?_, Or.inr rfl⟩
  rw [hi j (by simpa using hj)]
  simp
theorem xor_u8 (a b : UInt8) : bits .xor .u8 (a.toNat : Int) (b.toNat : Int) = ((a ^^^ b).toNat : Int) := by
  have h1 : (BitVec.ofInt 8 (a.toNat : Int)) = a.toBitVec := by rw [BitVec.ofInt_natCast]; simp
  have h2 : (BitVec.ofInt 8 (b.toNat : Int)) = b.toBitVec := by rw [BitVec.ofInt_natCast]; simp
  show IntKind.u8.wrap ((BitVec.ofInt 8 (a.toNat : Int) ^^^ BitVec.ofInt 8 (b.toNat : Int)).toNat : Nat) = _
  rw [h1, h2]
  have h3 : (a.toBitVec ^^^ b.toBitVec).toNat = (a ^^^ b).toNat := rfl
  rw [h3]
  have := (a ^^^ b).toNat_lt
  generalize (a ^^^ b).toNat = x at *
  simp only [IntKind.wrap, IntKind.bits, IntKind.signed]
  simp
  omega
end Go.Proofs.Ytcalpkdgpiebmaa
