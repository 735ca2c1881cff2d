/-
  Texts of bytes: joined, cut, made of numbers. Plain, but for what a conversion does.
-/
import Derived.Test.YtnlgcjcfbekgoaaMem
import Derived.Laws.IdiomStrings
import Derived.Laws.BytesArg
import Derived.Laws.Concat
namespace Go.Proofs.Ytnlgcjcfbekgoaa
open Go.RowKit
set_option linter.unusedVariables false

theorem list_size (l : List UInt8) : (⟨l.toArray⟩ : ByteArray).size = l.length := by simp [ByteArray.size]
theorem cat_list (s t : ByteArray) : (s ++ t).data.toList = s.data.toList ++ t.data.toList := by rw [ByteArray.data_append]; simp
theorem cat_size (s t : ByteArray) : (s ++ t).size = s.size + t.size := by simp
theorem text_ext {s t : ByteArray} (h : s.data.toList = t.data.toList) : s = t := by
  cases s with | mk s => cases t with | mk t => congr; exact Array.toList_inj.1 h
theorem addr_add (g j : Nat) : (⟨g, 0, none⟩ : Addr).add j = ⟨g, j, none⟩ := by unfold Addr.add; split <;> simp_all

/-- A fresh slice of bytes as a text. -/
theorem conv_new (w : World) (bs : List UInt8) (cs : Array Value) (hcs : cs = (bs.map fun c => Value.int .u8 (c.toNat : Int)).toArray) (n : Nat) (hn : n = bs.length) :
    (convert 33 9 (.slice (some ⟨w.heap.size, 0, none⟩) n n)).run Try.prog (w.alloc (.cells cs 5)) = .ok (.string ⟨bs.toArray⟩) (w.alloc (.cells cs 5)) := by
  subst hn hcs
  refine run_convert_bytes_back (P := Try.prog) _ 33 9 5 ⟨w.heap.size, 0, none⟩ bs.length bs Try.underlying33 Try.underlying5 Try.underlying9 fun q hq => ?_
  rw [addr_add]
  refine ((Blk.new w _ _).cell q).trans ?_
  simp [hq]
theorem conv_two (w : World) (n : Nat) : (convert 33 9 (.slice (some ⟨w.heap.size, 0, none⟩) 2 2)).run Try.prog (w.alloc (.cells #[.int .u8 ((n : Int) / 256 % 256), .int .u8 ((n : Int) % 256)] 5))
    = .ok (.string ⟨#[UInt8.ofNat (n / 256 % 256), UInt8.ofNat (n % 256)]⟩) (w.alloc (.cells #[.int .u8 ((n : Int) / 256 % 256), .int .u8 ((n : Int) % 256)] 5)) := by
  refine conv_new w [UInt8.ofNat (n / 256 % 256), UInt8.ofNat (n % 256)] _ ?_ 2 rfl
  simp only [List.map_cons, List.map_nil, UInt8.toNat_ofNat']
  have e1 : ((n : Int) / 256 % 256) = ((n / 256 % 256 % 2 ^ 8 : Nat) : Int) := by omega
  have e2 : ((n : Int) % 256) = ((n % 256 % 2 ^ 8 : Nat) : Int) := by omega
  rw [e1, e2]
theorem conv_two_small (w : World) (n : Nat) (h : n ≤ 65535) : (convert 33 9 (.slice (some ⟨w.heap.size, 0, none⟩) 2 2)).run Try.prog (w.alloc (.cells #[.int .u8 ((n : Int) / 256), .int .u8 ((n : Int) % 256)] 5))
    = .ok (.string ⟨#[UInt8.ofNat (n / 256 % 256), UInt8.ofNat (n % 256)]⟩) (w.alloc (.cells #[.int .u8 ((n : Int) / 256), .int .u8 ((n : Int) % 256)] 5)) := by
  have e : ((n : Int) / 256) = ((n : Int) / 256 % 256) := by omega
  rw [e]
  exact conv_two w n
end Go.Proofs.Ytnlgcjcfbekgoaa
