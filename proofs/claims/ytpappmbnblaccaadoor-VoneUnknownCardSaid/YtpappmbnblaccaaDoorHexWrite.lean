/-
  strconv.FormatUint of base 16, of numbers up to 65535.
-/
import Derived.Test.YtpappmbnblaccaaDoorVoneLib
import Derived.OwnWalk
import Derived.Lib.ItoaWalk
namespace Go.Proofs.YtpappmbnblaccaaDoor
open Go.RowKit
set_option linter.unusedVariables false

/-- The signs of all bases. -/
def signs36 : ByteArray := ⟨#[48, 49, 50, 51, 52, 53, 54, 55, 56, 57, 97, 98, 99, 100, 101, 102, 103, 104, 105, 106, 107, 108, 109, 110, 111, 112, 113, 114, 115, 116, 117, 118, 119, 120, 121, 122]⟩
theorem signs36_fin : ∀ d : Fin 16, signs36.data.toList.getD d.val 0 = sg d.val := by decide +kernel
theorem signs36_get (i : Nat) (hi : i < 16) (h : i < signs36.size) : signs36[i]'h = sg i := by
  rw [Lib.getD_at signs36 i h, signs36_fin ⟨i, hi⟩]

theorem tz64_any (w : World) (hg : G17 w) : Calls Tryd.prog 79 #[.int .u64 16] w fun e w' => e = .returned (.int .i64 4) ∧ w' = w := by
  have hc : w.cell? ⟨5, 15, none⟩ = some (.int .u8 4) := hg.db.cell g_db 15 (by decide)
  have h1 : bits .and .u64 16 (IntKind.u64.wrap (-16)) = 16 := by decide +kernel
  have h2 : IntKind.u64.wrap (16 * 285870213051353865) / 288230376151711744 = 15 := by decide +kernel
  go_enter Tryd.func79, Tryd.ntmps79
  go_wp2_with fail
  go_ret
  exact ⟨rfl, rfl⟩
theorem tz_any (w : World) (hg : G17 w) : Calls Tryd.prog 68 #[.int .u64 16] w fun e w' => e = .returned (.int .i64 4) ∧ w' = w := by
  go_enter Tryd.func68, Tryd.ntmps68
  go_wp2_with fail
  refine (tz64_any w hg).mono ?_
  rintro e w' ⟨rfl, rfl⟩
  go_wp2_with fail
  go_ret
  exact ⟨rfl, rfl⟩
theorem pow2_any (w : World) : Calls Tryd.prog 67 #[.int .i64 16] w fun e w' => e = .returned (.bool true) ∧ w' = w := by
  have h1 : bits .and .i64 16 15 = 0 := by decide +kernel
  go_enter Tryd.func67, Tryd.ntmps67
  go_wp2_with fail
  go_ret
  exact ⟨rfl, rfl⟩

theorem ByteBlk.tail {w : World} {b i n cap : Nat} {l m : List UInt8} (h : ByteBlk w b l) (hm : l.drop i = m) (hn : n = m.length) :
    (convert 54 9 (.slice (some ⟨b, i, none⟩) n cap)).run Tryd.prog w = .ok (.string ⟨m.toArray⟩) w := by
  subst hn hm
  refine run_convert_bytes_back (P := Tryd.prog) _ 54 9 5 ⟨b, i, none⟩ cap (l.drop i) Tryd.underlying54 Tryd.underlying5 Tryd.underlying9 fun q hq => ?_
  have e : (⟨b, i, none⟩ : Addr).add q = ⟨b, i + q, none⟩ := by unfold Addr.add; split <;> simp_all
  rw [e, h.cell (i + q) (by simp at hq; omega)]
  simp

/-- What formatBits has written: digits at the end of its array, behind place e. -/
structure Fb (w W : World) (N u v e : Nat) (l : List UInt8) : Prop where
  blk : ByteBlk W N l
  len : l.length = 65
  told : digs 16 u = digs 16 v ++ l.drop (e + 1)
  bel : Below N w W
theorem u64_and15 (v : Nat) (hv : v ≤ 65535) : bits .and .u64 (v : Int) 15 = ((v % 16 : Nat) : Int) := by
  have h1 : (BitVec.ofInt 64 (v : Int)) = BitVec.ofNat 64 v := by rw [BitVec.ofInt_natCast]
  have h2 : (BitVec.ofInt 64 (15 : Int)) = BitVec.ofNat 64 15 := rfl
  show IntKind.u64.wrap ((BitVec.ofInt 64 (v : Int) &&& BitVec.ofInt 64 15).toNat : Nat) = _
  rw [h1, h2, BitVec.toNat_and, BitVec.toNat_ofNat, BitVec.toNat_ofNat]
  have e1 : v % 2 ^ 64 = v := by omega
  have e2 : 15 % 2 ^ 64 = 2 ^ 4 - 1 := by decide
  rw [e1, e2, Nat.and_two_pow_sub_one_eq_mod, IntKind.wrap_u64]
  omega

theorem fb_start (u : Nat) (w : World) : Fb w (w.alloc (.cells Tryd.zeroCells98 98)) w.heap.size u u 64 (List.replicate 65 0) := by
  refine ⟨⟨_, _, _, Blk.new w _ _, fun j hj => ?_, Or.inr rfl⟩, rfl, by simp, (Below.refl _ _).alloc (Nat.le_refl _) _⟩
  have hz : Tryd.zeroCells98 = Array.replicate 65 (Value.int .u8 0) := by kernel_rfl
  rw [hz]
  have hj' : j < 65 := by simpa using hj
  rw [Array.getElem?_replicate, if_pos hj', List.getElem_replicate]
  rfl
theorem Fb.room {w W : World} {N u v e : Nat} {l : List UInt8} (h : Fb w W N u v e l) (hu : u ≤ 65535) (he : e ≤ 64) : 61 ≤ e := by
  have h1 := digs_length (b := 16) (by omega) 3 u (by omega)
  rw [h.told, List.length_append, List.length_drop, h.len] at h1
  have h2 := List.length_pos_iff.2 (@digs_ne 16 v)
  omega
theorem drop_set (l : List UInt8) (i : Nat) (c : UInt8) (hi : i < l.length) : (l.set i c).drop i = c :: l.drop (i + 1) := by
  rw [List.drop_eq_getElem_cons (by simpa using hi), List.drop_set_of_lt (by omega)]
  simp
theorem Fb.next {w W : World} {N u v e : Nat} {l : List UInt8} (h : Fb w W N u v (e + 1) l) (he : e + 1 ≤ 64) (hv : 16 ≤ v) (x : Value) (hx : x = .int .u8 ((sg (v % 16)).toNat : Int)) :
    Fb w (W.setCell ⟨N, e + 1, none⟩ x) N u (v / 16) e (l.set (e + 1) (sg (v % 16))) := by
  refine ⟨h.blk.set _ _ _ hx, by simp [h.len], ?_, (h.bel.setCell (Nat.le_refl _) _)⟩
  rw [drop_set _ _ _ (by rw [h.len]; omega), h.told, digs_big (b := 16) (n := v) (by omega) hv]
  simp
theorem Fb.last {w W : World} {N u v e : Nat} {l : List UInt8} (h : Fb w W N u v e l) (he : e ≤ 64) (hv : v < 16) (x : Value) (hx : x = .int .u8 ((sg v).toNat : Int)) :
    ByteBlk (W.setCell ⟨N, e, none⟩ x) N (l.set e (sg v)) ∧ (l.set e (sg v)).drop e = digs 16 u ∧ Below N w (W.setCell ⟨N, e, none⟩ x) := by
  refine ⟨h.blk.set _ _ _ hx, ?_, (h.bel.setCell (Nat.le_refl _) _)⟩
  rw [drop_set _ _ _ (by rw [h.len]; omega), h.told, digs_small hv]
  simp

set_option maxHeartbeats 4000000 in
set_option maxRecDepth 100000 in
theorem bits_any (u : Nat) (hu : u ≤ 65535) (w : World) (hg : G17 w) :
    Calls Tryd.prog 55 #[.slice none 0 0, .int .u64 (u : Int), .int .i64 16, .bool false, .bool false] w (Tells (.tuple #[.slice none 0 0, .string ⟨(digs 16 u).toArray⟩]) w) := by
  have H0 := Lib.hid (fb_start u w)
  have hg1 : G17 (w.alloc (.cells Tryd.zeroCells98 98)) := hg.on H0.out.bel
  generalize hN : w.heap.size = N at *
  go_enter Tryd.func55, Tryd.ntmps55
  go_wp2_with fail
  refine (pow2_any _).mono ?_
  rintro e w1 ⟨rfl, rfl⟩
  go_wp2_with fail
  refine (tz_any _ hg1).mono ?_
  rintro e w1 ⟨rfl, rfl⟩
  go_wp2_with fail
  have hNle : w.heap.size ≤ N := Nat.le_of_eq hN
  generalize w.alloc (.cells Tryd.zeroCells98 98) = W at *
  clear hg1 hN
  go_loopw [1, 13] (fun sv si wr => ∃ (v e : Nat) (l : List UInt8), sv = .int .u64 (v : Int) ∧ si = .int .i64 ((e : Int) + 1) ∧ e ≤ 64 ∧ v ≤ 65535 ∧ Hid (Fb w wr N u v e l)) (fun sv _ _ => (intOf sv).toNat)
  case atStart => exact ⟨u, 64, _, rfl, rfl, by omega, hu, H0⟩
  case round =>
    obtain ⟨v, e0, l, rfl, rfl, he, hv, HF⟩ := hrel
    have he3 := HF.out.room hu he
    obtain ⟨e, rfl⟩ : ∃ e, e0 = e + 1 := ⟨e0 - 1, by omega⟩
    have hc := HF.out.blk.cell (e + 1) (by rw [HF.out.len]; omega)
    have hz := HF.out.blk.frozen (e + 1) (by rw [HF.out.len]; omega)
    generalize ((l[e + 1]'(by rw [HF.out.len]; omega)).toNat : Int) = old at hc
    by_cases hge : 16 ≤ v
    · have hand := u64_and15 v hv
      go_wp2_with fail
      refine ⟨⟨v / 16, e, _, rfl, rfl, by omega, by omega, Lib.hid (HF.out.next he hge _ ?_)⟩, by simp [intOf]; omega⟩
      rw [← signs36_get (v % 16) (Nat.mod_lt _ (by omega)) (by show _ < 36; omega)]
      rfl
    · have hal : Tryd.prog.arrayLen 98 = 65 := by kernel_rfl
      have hsl : ∀ W, (Instr.sliceAt 98 (.pointer (some ⟨N, 0, none⟩)) (some (.int .i64 ((e : Int) + 1))) none none).run Tryd.prog W = .ok (.slice (some ⟨N, e + 1, none⟩) (64 - e) (64 - e)) W := fun W => by
        rw [run_sliceAt_array_l W 98 ⟨N, 0, none⟩ (by simp [Program.arrayLen, Program.elem, Tryd.underlying98]) .i64 ((e : Int) + 1) (by omega) (by rw [hal]; omega)]
        go_simp
        omega
      have hx := signs36_get v (by omega) (by show v < 36; omega)
      go_wp2_with fail
      generalize hX : (Value.int IntKind.u8 _) = X
      have hX' : X = .int .u8 ((sg v).toNat : Int) := by rw [← hX, ← hx]; rfl
      obtain ⟨h1, h2, h3⟩ := HF.out.last he (by omega) X hX'
      clear hX hX' hx
      generalize wr.setCell ⟨N, e + 1, none⟩ X = W2 at *
      have hlen : 64 - e = (digs 16 u).length := by rw [← h2]; simp [HF.out.len]
      have hcv := h1.tail (n := 64 - e) (cap := 64 - e) h2 hlen
      rw [hcv]
      go_simp
      go_wp2_with fail
      go_ret2
      exact ⟨rfl, h3.mono hNle⟩

theorem hex_inner (u : Nat) (hu : u ≤ 65535) (w : World) (hg : G17 w) : Calls Tryd.prog 51 #[.int .u64 (u : Int), .int .i64 16] w (Tells (.string ⟨(digs 16 u).toArray⟩) w) := by
  go_enter Tryd.func51, Tryd.ntmps51
  go_wp2_with fail
  refine (bits_any u hu w hg).mono ?_
  rintro e w1 ⟨rfl, hb⟩
  go_wp2_with fail
  go_ret
  exact ⟨rfl, hb⟩
/-- strconv.FormatUint of base 16. -/
theorem hex_any (u : Nat) (hu : u ≤ 65535) (w : World) (hg : G17 w) : Calls Tryd.prog 40 #[.int .u64 (u : Int), .int .i64 16] w (Tells (.string ⟨(digs 16 u).toArray⟩) w) := by
  go_enter Tryd.func40, Tryd.ntmps40
  go_wp2_with fail
  refine (hex_inner u hu w hg).mono ?_
  rintro e w1 ⟨rfl, hb⟩
  go_wp2_with fail
  go_ret
  exact ⟨rfl, hb⟩

end Go.Proofs.YtpappmbnblaccaaDoor
