/-
  The document's Get at any bytes; the laws' 'awake'.
-/
import Derived.Test.YtnlpbnipfglhhaaDoorGrePut
import Derived.Test.YtnlpbnipfglhhaaDoorGreGetDo
import Derived.Test.YtnlpbnipfglhhaaDoorGreRefPut
import Derived.Test.YtnlpbnipfglhhaaDoorGreRefGet
import Derived.Test.YtnlpbnipfglhhaaDoorGrePlain
namespace Go.Proofs.YtnlpbnipfglhhaaDoor
open Go.RowKit
set_option linter.unusedVariables false

theorem refget12_any (b : ByteArray) (w : World) (hs : b.size ≤ 900000) : Calls Tryd.prog 11 #[.string b] w (Ref12End b w) := by
  cases hf : f12 b with
  | stop n =>
    have hE : get12E b = n := by unfold get12E; rw [hf]
    rcases f12_stop_pos hf with ⟨rfl, h⟩ | ⟨rfl, h, h8⟩ | ⟨rfl, h, h8, h0, h1, h2, h3⟩
    · exact refget12_two b w h hE
    · have hn := num_2 b 0 (by omega)
      exact refget12_three b w _ h rfl (by simp only [Nat.zero_add] at hn; omega) hE
    · have hn := num_2 b 0 (by omega)
      have hx := (b[0]'(by omega)).toNat_lt
      have hy := (b[0 + 1]'(by omega)).toNat_lt
      exact refget12_nine b w _ _ h rfl rfl (by simp only [Nat.zero_add] at hn; omega) (by simp only [Nat.zero_add] at hn hy; omega) hE
  | ok s k =>
    have ⟨h, hb⟩ := f12_ok_bits hf
    have hn := num_2 b 0 (by omega)
    have hx := (b[0]'(by omega)).toNat_lt
    have hy := (b[0 + 1]'(by omega)).toNat_lt
    rw [hb] at hn
    simp only [Nat.zero_add] at hn hy
    cases s <;> cases k
    · have e : bits12 false false = 0 := rfl
      exact refget12_ff b w h hs (by omega) (by omega) hf
    · have e : bits12 false true = 8192 := rfl
      exact refget12_ft b w h hs (by omega) (by omega) hf
    · have e : bits12 true false = 32768 := rfl
      exact refget12_tf b w h hs (by omega) (by omega) hf
    · have e : bits12 true true = 40960 := rfl
      exact refget12_tt b w h hs (by omega) (by omega) hf

theorem put12_cases (h : H12) (s : ByteArray) (hv : h.v < 4294967296) : ((v11 s).en = 0 ∧ Put12 h s (put12S h s)) ∨ ((v11 s).en ≠ 0 ∧ put12S h s = ⟨#[]⟩) := by
  by_cases he : (v11 s).en = 0
  · refine Or.inl ⟨he, ?_, he, hv⟩
    unfold put12S
    rw [if_pos he]
    rfl
  · exact Or.inr ⟨he, put12S_err he⟩

/-- What was there, and the table. -/
structure Gl12 (w W : World) : Prop where
  bel : Below w.heap.size w W
  vs : Vers W
theorem Gl12.new {w : World} (hg : Vers w) : Gl12 w w := ⟨Below.refl _ _, hg⟩
theorem Gl12.below {w W W' : World} (r : Gl12 w W) (hb : Below W.heap.size W W') : Gl12 w W' := ⟨r.bel.trans (hb.mono r.bel.size), r.vs.on hb⟩
theorem Gl12.alloc {w W : World} (r : Gl12 w W) (o : Obj) : Gl12 w (W.alloc o) := r.below ((Below.refl _ _).alloc (Nat.le_refl _) o)

theorem Gl12.drew {w W : World} (r : Gl12 w W) : Gl12 w W.drew := r.below (below_drewN (Below.refl _ _) 1)

/-- A header's block besides. -/
structure Gm12 (w W : World) (N : Nat) (g : H12) : Prop where
  b : Blk W N g.cells 28
  gl : Gl12 w W
  le : w.heap.size ≤ N
  vn : 0 < N
theorem Gm12.below {w W W' : World} {N : Nat} {g : H12} (r : Gm12 w W N g) (hb : Below W.heap.size W W') : Gm12 w W' N g :=
  ⟨(hb.block _ r.b.lt).trans r.b, r.gl.below hb, r.le, r.vn⟩
theorem Gm12.alloc {w W : World} {N : Nat} {g : H12} (r : Gm12 w W N g) (o : Obj) : Gm12 w (W.alloc o) N g := r.below ((Below.refl _ _).alloc (Nat.le_refl _) o)
theorem Gm12.new {w W : World} (g : H12) (r : Gl12 w W) : Gm12 w (W.alloc (.cells g.cells 28)) W.heap.size g :=
  ⟨Blk.new _ _ _, r.alloc _, r.bel.size, r.vs.lt⟩
theorem Gm12.key {w W : World} {N : Nat} {g : H12} (r : Gm12 w W N g) (n : Nat) : Gm12 w (W.setCell ⟨N, 2, none⟩ (.int .u32 (n : Nat))) N ⟨g.sum, g.key, n⟩ := by
  have le := r.le
  have vn := r.vn
  refine ⟨r.b.set 2 _, ⟨r.gl.bel.setCell le _, ?_⟩, le, vn⟩
  obtain ⟨T, fr, h0⟩ := r.gl.vs.at0
  exact ⟨T, fr, (Below.heap_setCell W ⟨N, 2, none⟩ _ _ (by simp; omega)).trans h0⟩

theorem ex12_v : v11 ⟨#[69, 120]⟩ = .four := v11_four (by decide) (by decide +kernel)
theorem ex12_s : put12S H12.zero ⟨#[69, 120]⟩ = ⟨#[0, 0, 8, 0, 69, 120]⟩ := by
  unfold put12S put12L own12
  rw [ex12_v]
  decide +kernel

set_option maxRecDepth 100000 in
set_option maxHeartbeats 1000000 in
theorem awake12_any (w : World) (hg : Vers w) : Calls Tryd.prog 7 #[] w (AwakeEnd w) := by
  have h1 := put12_any H12.zero ⟨#[69, 120]⟩ w hg (by decide) (by decide)
  rw [ex12_s, ex12_v] at h1
  have h2 := fun W => gre_size_any ⟨true, true, 0⟩ W
  unfold Tells at h1 h2
  unfold H12.cells at h1 h2
  simp only [H12.zero, show ((0 : Nat) : Int) = 0 from rfl, V11.en] at h1 h2
  have H1 := Lib.hid h1
  have H2 := Lib.hid h2
  clear h1 h2 hg
  go_enter Tryd.func7, Tryd.ntmps7
  go_wp2_with fail
  refine H1.out.mono ?_
  rintro e w1 ⟨rfl, hb1⟩
  have B1 := Lib.hid hb1
  clear hb1 H1
  go_wp2_with fail
  refine (H2.out _).mono ?_
  rintro e w2 ⟨rfl, hb2⟩
  have B2 := Lib.hid (B1.out.trans (hb2.mono B1.out.size))
  clear hb2 B1 H2
  have e12 : ((size12 true true : Nat) : Int) = 12 := rfl
  rw [e12]
  go_wp2_with fail
  go_ret
  exact ⟨rfl, B2.out⟩

end Go.Proofs.YtnlpbnipfglhhaaDoor
