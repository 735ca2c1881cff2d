/-
  The document's table asked: how many bytes there are, where a key's entry is.
-/
import Derived.Test.YtoijomdgcgbpbaaReasmRB
namespace Go.Proofs.Ytoijomdgcgbpbaa
open Go.RowKit
set_option linter.unusedVariables false

/-- Bytes of the first pieces; of the first entries. -/
def psum (ps : List (H4 × ByteArray)) (k : Nat) : Nat := ((ps.take k).map fun x => x.2.size).sum
def mbytes (ms : List (R16 × Value)) (k : Nat) : Nat := rbytes ((ms.take k).map (·.1))
theorem psum_succ {ps : List (H4 × ByteArray)} {k : Nat} (h : k < ps.length) : psum ps (k + 1) = psum ps k + (ps[k]'h).2.size := by
  unfold psum
  rw [List.take_succ_eq_append_getElem h, List.map_append, List.sum_append]
  simp
theorem psum_all (ps : List (H4 × ByteArray)) : psum ps ps.length = (ps.map fun x => x.2.size).sum := by unfold psum; rw [List.take_length]
theorem psum_le {ps : List (H4 × ByteArray)} {k : Nat} (h : k ≤ ps.length) : psum ps k ≤ psum ps ps.length := by
  unfold psum
  conv => rhs; rw [List.take_length, ← List.take_append_drop k ps, List.map_append, List.sum_append]
  omega
theorem mbytes_succ {ms : List (R16 × Value)} {k : Nat} (h : k < ms.length) : mbytes ms (k + 1) = mbytes ms k + psum (ms[k]'h).1.ps (ms[k]'h).1.ps.length := by
  unfold mbytes rbytes
  rw [psum_all, List.take_succ_eq_append_getElem h, List.map_append, List.map_append, List.sum_append]
  simp
theorem mbytes_le {ms : List (R16 × Value)} {k : Nat} (h : k ≤ ms.length) : mbytes ms k ≤ mbytes ms ms.length := by
  unfold mbytes rbytes
  conv => rhs; rw [List.take_length, ← List.take_append_drop k ms, List.map_append, List.map_append, List.sum_append]
  omega

set_option maxRecDepth 100000 in
set_option maxHeartbeats 1000000 in
theorem rbytes16_any {R : Nat → Prop} {mb : Nat} {s : S16} {v : Value} {ms : List (R16 × Value)} (w : World) (h : RT16 R w mb s v ms) (hl : ms.length ≤ 64) (hb : rbytes (ms.map (·.1)) ≤ 1048576) (hp : ∀ m ∈ ms, m.1.ps.length ≤ 65536) :
    Calls Try.prog 19 #[.pointer (some ⟨mb, 0, none⟩)] w (Tells (.int .i64 (rbytes (ms.map (·.1)) : Nat)) w) := by
  have H := Lib.hid h
  have HP := Lib.hid hp
  unfold Tells
  have hall : rbytes (ms.map (·.1)) = mbytes ms ms.length := by unfold mbytes; rw [List.take_length]
  rw [hall] at hb ⊢
  have HLE := Lib.hid (fun k (hk : k ≤ ms.length) => Nat.le_trans (mbytes_le hk) hb)
  have h0 : mbytes ms 0 = 0 := rfl
  clear h hp hall
  go_enter Try.func19, Try.ntmps19
  go_wp2_with fail
  go_loopw [3, 4] (fun x y wr => ∃ k : Nat, x = .int .i64 (mbytes ms k : Nat) ∧ y = .int .i64 (k : Nat) ∧ k ≤ ms.length ∧ wr = w) (fun _ y _ => ms.length - (intOf y).toNat)
  case atStart => exact ⟨0, by rw [h0]; rfl, rfl, Nat.zero_le _, rfl⟩
  case round =>
    obtain ⟨k, rfl, rfl, hk, rfl⟩ := hrel
    have HB : Blk wr mb _ _ := H.out.tb
    have c3 := HB.cell 3
    simp only [List.getElem?_toArray, List.getElem?_cons_zero, List.getElem?_cons_succ] at c3
    clear HB
    obtain ⟨a, cap, hv⟩ := owns_len H.out.row
    by_cases hlt : k < ms.length
    · obtain ⟨g, cap, hv, hg, hc, _⟩ := H.out.entry hlt
      subst hv
      have c10 := hc 10 (by omega)
      have hms := mbytes_succ hlt
      have hrow := H.out.ps _ (List.getElem_mem hlt)
      have hpl := HP.out _ (List.getElem_mem hlt)
      clear hc
      have t1 : decide ((k : Int) < (ms.length : Int)) = true := decide_eq_true (by omega)
      have u0 : (0 : Int) ≤ (k : Int) := by omega
      have u1 : (k : Int) < (ms.length : Int) := by omega
      simp only [recells, List.getElem?_cons_zero, List.getElem?_cons_succ] at c10
      have HMS := Lib.hid hms
      have HRW := Lib.hid hrow
      clear hms hrow
      obtain ⟨pa, pcap, hpv⟩ := owns_len HRW.out
      generalize (ms[k]'hlt).2 = pv at *
      generalize (ms[k]'hlt).1.ps = ps at *
      subst hpv
      have hmk := HLE.out k hk
      have hmk1 := HLE.out (k + 1) hlt
      rw [HMS.out] at hmk1
      generalize mbytes ms k = mk at *
      have hp0 : psum ps 0 = 0 := rfl
      have ew : IntKind.i64.wrap ((k : Int) + 1) = ((k + 1 : Nat) : Int) := by rw [IntWalk.i64_in _ (by omega)]; omega
      go_wp2_with fail
      go_loopw [3, 5] (fun x y wr2 => ∃ j : Nat, x = .int .i64 ((mk + psum ps j : Nat) : Int) ∧ y = .int .i64 (j : Nat) ∧ j ≤ ps.length ∧ wr2 = wr) (fun _ y _ => ps.length - (intOf y).toNat)
      case atStart => exact ⟨0, by rw [hp0]; rfl, rfl, Nat.zero_le _, rfl⟩
      case round =>
        obtain ⟨j, rfl, rfl, hj, rfl⟩ := hrel
        by_cases hjl : j < ps.length
        · obtain ⟨g2, cap2, hv2, hg2, hc2⟩ := RRow.piece HRW.out hjl
          simp only [Value.slice.injEq, true_and] at hv2
          obtain ⟨rfl, rfl⟩ := hv2
          have d10 := hc2 10 (by omega)
          simp only [pccells, List.getElem?_cons_zero, List.getElem?_cons_succ] at d10
          have hps := psum_succ hjl
          have hpl1 := psum_le (show j + 1 ≤ ps.length from hjl)
          clear hc2
          have t2 : decide ((j : Int) < (ps.length : Int)) = true := decide_eq_true (by omega)
          have u2 : (0 : Int) ≤ (j : Int) := by omega
          have u3 : (j : Int) < (ps.length : Int) := by omega
          generalize (ps[j]'hjl).2 = sx at *
          have HPS := Lib.hid hps
          have hn1 : mk + psum ps j + sx.size ≤ 1048576 := by omega
          clear hps hpl1
          have ew2 : IntKind.i64.wrap ((j : Int) + 1) = ((j + 1 : Nat) : Int) := by rw [IntWalk.i64_in _ (by omega)]; omega
          generalize hpj : psum ps j = pj at *
          have HPJ := Lib.hid hpj
          clear hpj
          have ew3 : IntKind.i64.wrap (((mk + pj : Nat) : Int) + (sx.size : Int)) = ((mk + (pj + sx.size) : Nat) : Int) := by rw [IntWalk.i64_in _ (by omega)]; omega
          go_wp2_with fail
          refine ⟨⟨j + 1, by rw [HPS.out]; first | rfl | (congr 1; omega), rfl, hjl, trivial⟩, ?_⟩
          simp [intOf]
          omega
        · have t2 : decide ((j : Int) < (ps.length : Int)) = false := decide_eq_false (by omega)
          obtain rfl : j = ps.length := by omega
          go_wp2_with fail
          refine ⟨⟨k + 1, by rw [HMS.out], rfl, hlt, trivial⟩, ?_⟩
          simp [intOf]
          omega
    · have t1 : decide ((k : Int) < (ms.length : Int)) = false := decide_eq_false (by omega)
      obtain rfl : k = ms.length := by omega
      subst hv
      go_wp2_with fail
      go_ret
      exact ⟨rfl, Below.refl _ _⟩

end Go.Proofs.Ytoijomdgcgbpbaa

/-
  The document's table asked: where a key's entry is.
-/
namespace Go.Proofs.Ytoijomdgcgbpbaa
open Go.RowKit
set_option linter.unusedVariables false

theorem str_is (a b : ByteArray) : (a.toList == b.toList) = decide (a = b) := by
  rw [Bool.eq_iff_iff, beq_iff_eq, decide_eq_true_eq, ByteArray.toList_eq, ByteArray.toList_eq]
  exact ⟨fun h => text_ext h, fun h => by rw [h]⟩
/-- What tells two keys apart, in its order. -/
theorem key_tests (o h : H4) :
    (o.key = h.key ∧ (o.src.toList == h.src.toList) = true ∧ (o.dst.toList == h.dst.toList) = true ∧ (o.proto == h.proto) = true ∧ (o.id == h.id) = true) ∨
    (o.key ≠ h.key ∧ ((o.src.toList == h.src.toList) = false ∨ ((o.src.toList == h.src.toList) = true ∧ (o.dst.toList == h.dst.toList) = false) ∨ ((o.src.toList == h.src.toList) = true ∧ (o.dst.toList == h.dst.toList) = true ∧ (o.proto == h.proto) = false) ∨ ((o.src.toList == h.src.toList) = true ∧ (o.dst.toList == h.dst.toList) = true ∧ (o.proto == h.proto) = true ∧ (o.id == h.id) = false))) := by
  rw [str_is, str_is]
  have hk : o.key = h.key ↔ o.src = h.src ∧ o.dst = h.dst ∧ o.proto = h.proto ∧ o.id = h.id := by
    unfold H4.key
    rw [K16.mk.injEq]
  rw [Ne, hk]
  by_cases e1 : o.src = h.src <;> by_cases e2 : o.dst = h.dst <;> by_cases e3 : o.proto = h.proto <;> by_cases e4 : o.id = h.id <;> simp [e1, e2, e3, e4]
def findOf (rl : List R16) (k : K16) : Int := if rfind rl k < rl.length then (rfind rl k : Nat) else -1
theorem findOf_at {ms : List (R16 × Value)} {k : K16} {i : Nat} (hi : i < ms.length) (he : (ms[i]'hi).1.hd.key = k) (hb : ∀ j (hj : j < ms.length), j < i → (ms[j]'hj).1.hd.key ≠ k) : findOf (ms.map (·.1)) k = (i : Nat) := by
  have e : rfind (ms.map (·.1)) k = i := by
    unfold rfind
    rw [List.findIdx_eq (by rw [List.length_map]; exact hi)]
    refine ⟨by rw [List.getElem_map]; simpa using he, fun j hj => ?_⟩
    rw [List.getElem_map]
    simpa using hb j (by omega) hj
  unfold findOf
  rw [e, if_pos (by rw [List.length_map]; exact hi)]
theorem findOf_none {ms : List (R16 × Value)} {k : K16} (hb : ∀ j (hj : j < ms.length), (ms[j]'hj).1.hd.key ≠ k) : findOf (ms.map (·.1)) k = -1 := by
  have e : ¬ rfind (ms.map (·.1)) k < (ms.map (·.1)).length := by
    unfold rfind
    rw [List.findIdx_lt_length]
    rintro ⟨r, hr, he⟩
    obtain ⟨m, hm, rfl⟩ := List.mem_map.1 hr
    obtain ⟨j, hj, rfl⟩ := List.getElem_of_mem hm
    exact hb j hj (of_decide_eq_true he)
  unfold findOf
  rw [if_neg e]

set_option maxRecDepth 100000 in
set_option maxHeartbeats 1000000 in
theorem rfind16_any {R : Nat → Prop} {mb : Nat} {s : S16} {v : Value} {ms : List (R16 × Value)} (x : H4) (w : World) (h : RT16 R w mb s v ms) (hl : ms.length ≤ 64) :
    Calls Try.prog 36 #[.pointer (some ⟨mb, 0, none⟩), .agg x.cells] w (Tells (.int .i64 (findOf (ms.map (·.1)) x.key)) w) := by
  have H := Lib.hid h
  have NX := Lib.hid (Blk.new w x.cells 43)
  have B0 := Lib.hid ((Below.refl w.heap.size w).alloc (Nat.le_refl _) (.cells x.cells 43))
  have KT := Lib.hid (fun o => key_tests o x)
  have FA := Lib.hid (fun i hi he hb => findOf_at (ms := ms) (k := x.key) (i := i) hi he hb)
  have FN := Lib.hid (findOf_none (ms := ms) (k := x.key))
  unfold Tells
  generalize findOf (ms.map (·.1)) x.key = F at *
  generalize x.key = K at *
  unfold H4.cells at NX B0 ⊢
  clear h
  go_enter Try.func36, Try.ntmps36
  go_wp2_with fail
  generalize w.alloc (.cells #[.int .i64 x.tos, .int .i64 x.id, .int .i64 x.off, .int .i64 x.ttl, .int .i64 x.proto, .bool x.df, .bool x.mf, .string x.src, .string x.dst, .string x.opt] 43) = w0 at *
  go_loopw [5] (fun y wr => ∃ k : Nat, y = .int .i64 (k : Nat) ∧ k ≤ ms.length ∧ (∀ j (hj : j < ms.length), j < k → (ms[j]'hj).1.hd.key ≠ K) ∧ Below w.heap.size w wr ∧ Blk wr w.heap.size #[.int .i64 x.tos, .int .i64 x.id, .int .i64 x.off, .int .i64 x.ttl, .int .i64 x.proto, .bool x.df, .bool x.mf, .string x.src, .string x.dst, .string x.opt] 43) (fun y _ => ms.length - (intOf y).toNat)
  case atStart => exact ⟨0, rfl, Nat.zero_le _, (fun j _ h => absurd h (Nat.not_lt_zero _)), B0.out, NX.out⟩
  case round =>
    obtain ⟨k, rfl, hk, hno, hb, hx⟩ := hrel
    have HR := Lib.hid (H.out.below hb)
    have NO := Lib.hid hno
    have BW := Lib.hid hb
    have HX := Lib.hid hx
    clear hno hb hx NX B0
    have HB : Blk wr mb _ _ := HR.out.tb
    have c3 := HB.cell 3
    simp only [List.getElem?_toArray, List.getElem?_cons_zero, List.getElem?_cons_succ] at c3
    clear HB
    obtain ⟨a, cap, hv⟩ := owns_len HR.out.row
    by_cases hlt : k < ms.length
    · obtain ⟨g, cap, hv, hg, hc, _⟩ := HR.out.entry hlt
      subst hv
      have d0 := hc 0 (by omega)
      have d1 := hc 1 (by omega)
      have d2 := hc 2 (by omega)
      have d3 := hc 3 (by omega)
      have d4 := hc 4 (by omega)
      have d5 := hc 5 (by omega)
      have d6 := hc 6 (by omega)
      have d7 := hc 7 (by omega)
      have d8 := hc 8 (by omega)
      have d9 := hc 9 (by omega)
      simp only [recells, List.getElem?_cons_zero, List.getElem?_cons_succ, Nat.add_zero] at d0 d1 d2 d3 d4 d5 d6 d7 d8 d9
      clear hc
      have t1 : decide ((k : Int) < (ms.length : Int)) = true := decide_eq_true (by omega)
      have u0 : (0 : Int) ≤ (k : Int) := by omega
      have u1 : (k : Int) < (ms.length : Int) := by omega
      have kt := KT.out (ms[k]'hlt).1.hd
      have FAk := Lib.hid (FA.out k hlt)
      have KN := Lib.hid (fun (hne : (ms[k]'hlt).1.hd.key ≠ K) j (hj : j < ms.length) (h : j < k + 1) => show (ms[j]'hj).1.hd.key ≠ K from by
        by_cases e : j = k
        · subst e; exact hne
        · exact NO.out j hj (by omega))
      generalize (ms[k]'hlt).1.hd = o at *
      have ew : IntKind.i64.wrap ((k : Int) + 1) = ((k + 1 : Nat) : Int) := by rw [IntWalk.i64_in _ (by omega)]; omega
      have hneq : w.heap.size ≠ wr.heap.size := by have := HX.out.lt; omega
      go_upto_region 5 with (fail)
      have NO5 := Lib.hid (Blk.new wr #[.int .i64 o.tos, .int .i64 o.id, .int .i64 o.off, .int .i64 o.ttl, .int .i64 o.proto, .bool o.df, .bool o.mf, .string o.src, .string o.dst, .string o.opt] 43)
      have ab : Below wr.heap.size wr (wr.alloc (.cells #[.int .i64 o.tos, .int .i64 o.id, .int .i64 o.off, .int .i64 o.ttl, .int .i64 o.proto, .bool o.df, .bool o.mf, .string o.src, .string o.dst, .string o.opt] 43)) := (Below.refl _ _).alloc (Nat.le_refl _) _
      have HX5 := Lib.hid ((ab.block _ HX.out.lt).trans HX.out)
      have BW5 := Lib.hid (BW.out.trans (ab.mono BW.out.size))
      clear d0 d1 d2 d3 d4 d5 d6 d7 d8 d9 c3 ab HR BW HX
      generalize wr.alloc (.cells #[.int .i64 o.tos, .int .i64 o.id, .int .i64 o.off, .int .i64 o.ttl, .int .i64 o.proto, .bool o.df, .bool o.mf, .string o.src, .string o.dst, .string o.opt] 43) = w5 at *
      generalize wr.heap.size = ob at *
      have x1 := Blk.cell HX5.out 1
      have x4 := Blk.cell HX5.out 4
      have x7 := Blk.cell HX5.out 7
      have x8 := Blk.cell HX5.out 8
      have o1 := NO5.out.cell 1
      have o4 := NO5.out.cell 4
      have o7 := NO5.out.cell 7
      have o8 := NO5.out.cell 8
      simp only [List.getElem?_toArray, List.getElem?_cons_zero, List.getElem?_cons_succ] at x1 x4 x7 x8 o1 o4 o7 o8
      have HL := Lib.hid hlt
      rcases kt with ⟨hke, k1, k2, k3, k4⟩ | ⟨hke, hks⟩
      · have FE := Lib.hid (FAk.out hke NO.out)
        clear hke
        go_wp2_with fail
        go_ret
        refine ⟨?_, BW5.out⟩
        rw [FE.out]
        rfl
      · have KN' := Lib.hid (KN.out hke)
        clear hke
        rcases hks with k1 | ⟨k1, k2⟩ | ⟨k1, k2, k3⟩ | ⟨k1, k2, k3, k4⟩
        all_goals
          go_wp2_with fail
          refine ⟨⟨k + 1, rfl, HL.out, KN'.out, BW5.out, HX5.out⟩, ?_⟩
          have := HL.out
          simp [intOf]
          omega
    · have t1 : decide ((k : Int) < (ms.length : Int)) = false := decide_eq_false (by omega)
      obtain rfl : k = ms.length := by omega
      subst hv
      have FE := Lib.hid (FN.out (fun j hj => NO.out j hj hj))
      go_wp2_with fail
      go_ret
      refine ⟨?_, BW.out⟩
      rw [FE.out]
      rfl

end Go.Proofs.Ytoijomdgcgbpbaa
