/-
  An argument that is a list of calls, opened: its cells, and that each text is short enough to be counted.
-/
import Derived.Test.YtgpknkfdchiidaaCalls1
import Derived.ProofKit
import Derived.SizedLaws
import Derived.Deep.Slices
import Derived.Deep.Fields
import Derived.OpenShut
namespace Go.Proofs.Ytgpknkfdchiidaa
open Go.ChangeShapes Go.WideShapes Go.ChangeAt Go.RowKit
set_option linter.unusedVariables false

instance : Inhabited CallD := ⟨⟨0, 0, 0, ByteArray.empty⟩⟩

theorem lit_add (b off j : Nat) : (⟨b, off, none⟩ : Addr).add j = ⟨b, off + j, none⟩ := by unfold Addr.add; split <;> simp_all

theorem mem_weightsAll {H : Type} {P : Program} {e : TypeId} {d : DataW H} {n : Nat} : ∀ {ds : List (DataW H)}, d ∈ ds → n ∈ d.weights P e → n ∈ DataW.weightsAll P e ds
  | x :: r, hd, hn => by
    simp only [DataW.weightsAll, List.mem_append]
    rcases List.mem_cons.1 hd with rfl | h
    · exact Or.inl hn
    · exact Or.inr (mem_weightsAll h hn)
  | [], hd, _ => by cases hd

theorem Try.cells43 : Try.prog.cellsOf 43 = 4 := by kernel_rfl
theorem Try.cells3 : Try.prog.cellsOf 3 = 1 := by kernel_rfl
theorem Try.cells41 : Try.prog.cellsOf 41 = 1 := by kernel_rfl
theorem Try.cells9 : Try.prog.cellsOf 9 = 1 := by kernel_rfl
theorem Try.bytes43 : Try.prog.bytesOf 43 = 40 := by kernel_rfl

/-- One call, read. -/
theorem open_call {H : Type} {enc : TypeId × Value → H} {W : World} {n : Nat} {cs : List Value} {d : DataW H} {p : List MemPlace} (h : DataW.trod enc Try.prog W 0 (fun _ => true) true n 43 cs = some (d, p)) :
    ∃ c : CallD, cs = [.int .i64 c.kind, .int .i64 c.k, .int .u64 c.n, .string c.s] ∧ c.s.size ∈ d.weights Try.prog 43 ∧ c.n < 18446744073709551616 := by
  obtain ⟨xs, m, _, hx, hlen, hxl, hf⟩ := DataW.trod_struct Try.underlying43 h
  rw [Try.cells43] at hlen
  obtain ⟨x0, x1, x2, x3, rfl⟩ : ∃ x0 x1 x2 x3, cs = [x0, x1, x2, x3] := by
    match cs, hlen with
    | [x0, x1, x2, x3], _ => exact ⟨x0, x1, x2, x3, rfl⟩
  obtain ⟨y0, y1, y2, y3, rfl⟩ : ∃ y0 y1 y2 y3, xs = [y0, y1, y2, y3] := by
    match xs, hxl with
    | [y0, y1, y2, y3], _ => exact ⟨y0, y1, y2, y3, rfl⟩
  have f0 : DataW.trod enc Try.prog W 0 (fun _ => true) true m 3 [x0] = some y0 := by
    have q : DataW.trod enc Try.prog W 0 (fun _ => true) true m 3 (([x0, x1, x2, x3].drop 0).take (Try.prog.cellsOf 3)) = [y0, y1, y2, y3][0]? := hf 0 _ rfl
    rw [Try.cells3] at q
    exact q
  have f1 : DataW.trod enc Try.prog W 0 (fun _ => true) true m 3 [x1] = some y1 := by
    have q : DataW.trod enc Try.prog W 0 (fun _ => true) true m 3 (([x0, x1, x2, x3].drop 1).take (Try.prog.cellsOf 3)) = [y0, y1, y2, y3][1]? := hf 1 _ rfl
    rw [Try.cells3] at q
    exact q
  have f2 : DataW.trod enc Try.prog W 0 (fun _ => true) true m 41 [x2] = some y2 := by
    have q : DataW.trod enc Try.prog W 0 (fun _ => true) true m 41 (([x0, x1, x2, x3].drop 2).take (Try.prog.cellsOf 41)) = [y0, y1, y2, y3][2]? := hf 2 _ rfl
    rw [Try.cells41] at q
    exact q
  have f3 : DataW.trod enc Try.prog W 0 (fun _ => true) true m 9 [x3] = some y3 := by
    have q : DataW.trod enc Try.prog W 0 (fun _ => true) true m 9 (([x0, x1, x2, x3].drop 3).take (Try.prog.cellsOf 9)) = [y0, y1, y2, y3][3]? := hf 3 _ rfl
    rw [Try.cells9] at q
    exact q
  obtain ⟨n0, e0, _, _⟩ := DataW.trod_int Try.underlying3 f0
  obtain ⟨n1, e1, _, _⟩ := DataW.trod_int Try.underlying3 f1
  obtain ⟨n2, e2, _, w2⟩ := DataW.trod_int Try.underlying41 f2
  obtain ⟨s, e3, g3, _⟩ := DataW.trod_string Try.underlying9 f3
  simp at e0 e1 e2 e3
  subst e0 e1 e2 e3
  have hb := bounds_u64 w2
  obtain ⟨m2, rfl⟩ := Int.eq_ofNat_of_zero_le hb.1
  refine ⟨⟨n0, n1, m2, s⟩, rfl, ?_, by show m2 < _; omega⟩
  simp only [Prod.mk.injEq] at hx
  obtain ⟨rfl, _⟩ := hx
  subst g3
  simp [DataW.weights, Try.underlying43, DataW.weightsEach]

theorem open_calls {H : Type} {enc : TypeId × Value → H} {W : World} {fuel : Nat} {a : Option Addr} {len cap : Nat} {d : DataW H} {p : List MemPlace}
    (h : DataW.trod enc Try.prog W 0 (fun _ => true) true fuel 22 [.slice a len cap] = some (d, p)) (hsz : ∀ n ∈ d.weights Try.prog 22, n ≤ reachBytes) :
    ∃ C : Nat → CallD, CallsAt W W.heap.size a len C ∧ len ≤ 140737488355328 ∧ (∀ i, (C i).s.size ≤ 140737488355328) ∧ ∀ i, (C i).n < 18446744073709551616 := by
  have hr : reachBytes ≤ 140737488355328 := by decide
  rcases Deep.open_slice Try.underlying22 h with ⟨h0, _⟩ | ⟨ad, len', cap', m, n, D, Pl, hcs, _, hl, hm, hmm, hx, hi⟩
  · simp at h0
    obtain ⟨rfl, rfl, rfl⟩ := h0
    exact ⟨fun _ => ⟨0, 0, 0, ByteArray.empty⟩, Or.inl rfl, by omega, fun _ => by simp, fun _ => by simp⟩
  · simp at hcs
    obtain ⟨rfl, rfl, rfl⟩ := hcs
    simp only [Prod.mk.injEq] at hx
    obtain ⟨rfl, _⟩ := hx
    simp at hmm
    subst hmm
    rw [Try.cells43] at hi
    have hw : ∀ i, i < len → ∀ q ∈ (D i).weights Try.prog 43, q ≤ reachBytes := fun i hil q hq => hsz q (by
      simp only [DataW.weights, Try.underlying22, List.mem_cons, List.mem_append]
      exact Or.inr (Or.inl (mem_weightsAll (List.mem_map.2 ⟨i, List.mem_range.2 hil, rfl⟩) hq)))
    have hlen : len * 40 ≤ reachBytes := by
      have := hsz _ (show ((List.range len).map D).length * 0 + (((List.range len).map D).length + ((List.range (m - len)).map fun j => D (len + j)).length) * Try.prog.bytesOf 43 ∈ _ from by
        simp only [DataW.weights, Try.underlying22, List.mem_cons]
        left; simp)
      rw [Try.bytes43] at this
      simp at this
      omega
    have hone : ∀ i, i < len → ∃ c : CallD, (∀ j x, [Value.int .i64 c.kind, .int .i64 c.k, .int .u64 c.n, .string c.s][j]? = some x → W.cell? (ad.add (i * 4 + j)) = some x) ∧ c.s.size ≤ 140737488355328 ∧ c.n < 18446744073709551616 := by
      intro i hil
      obtain ⟨cs', hc, ht⟩ := hi i (by omega)
      obtain ⟨c, rfl, hs, hn⟩ := open_call ht
      obtain ⟨_, _, hat⟩ := World.cells?_some hc
      refine ⟨c, fun j x hj => ?_, Nat.le_trans (hw i hil _ hs) hr, hn⟩
      have hj4 : j < 4 := by
        have := (List.getElem?_eq_some_iff.1 hj).1
        simpa using this
      rw [← Deep.add_add, hat j hj4, hj]
    obtain ⟨C0, hC0⟩ := Deep.choose_lt (α := CallD) hone
    refine ⟨fun i => if i < len then C0 i else ⟨0, 0, 0, ByteArray.empty⟩, ?_, by omega, fun i => ?_, fun i => ?_⟩
    · by_cases h0 : len = 0
      · exact Or.inl h0
      · right
        have hsp : ad.spot = none := by
          have := World.cell?_spot ((hC0 0 (by omega)).1 0 _ rfl)
          simpa [Addr.add] using this
        obtain ⟨b, off, sp⟩ := ad
        simp only at hsp
        subst hsp
        refine ⟨b, off, rfl, ?_, fun i hil => ?_⟩
        · have := World.block_lt_of_cell? W _ ((hC0 0 (by omega)).1 0 _ rfl)
          rw [lit_add] at this
          exact this
        · show CallAt W b (off + i * 4) (if i < len then C0 i else ⟨0, 0, 0, ByteArray.empty⟩)
          rw [if_pos hil]
          have hh := (hC0 i hil).1
          refine ⟨?_, ?_, ?_, ?_⟩
          · have := hh 0 _ rfl; rw [lit_add] at this; exact this
          · have := hh 1 _ rfl; rw [lit_add, ← Nat.add_assoc] at this; exact this
          · have := hh 2 _ rfl; rw [lit_add, ← Nat.add_assoc] at this; exact this
          · have := hh 3 _ rfl; rw [lit_add, ← Nat.add_assoc] at this; exact this
    · show (if i < len then C0 i else ⟨0, 0, 0, ByteArray.empty⟩).s.size ≤ _
      split
      · exact (hC0 i (by assumption)).2.1
      · simp
    · show (if i < len then C0 i else ⟨0, 0, 0, ByteArray.empty⟩).n < _
      split
      · exact (hC0 i (by assumption)).2.2
      · simp

end Go.Proofs.Ytgpknkfdchiidaa
