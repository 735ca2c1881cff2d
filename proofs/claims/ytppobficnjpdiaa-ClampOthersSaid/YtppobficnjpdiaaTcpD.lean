/-
  The document's own answers: May, num, and its Put's refusals.
-/
import Derived.Test.YtppobficnjpdiaaTcpA
import Derived.Test.YtppobficnjpdiaaGround
import Derived.Test.YtppobficnjpdiaaReading
import Derived.IntWalk
import Derived.Test.YtppobficnjpdiaaTcpB
import Derived.OwnWalk
import Derived.Deep.AppendLies
namespace Go.Proofs.Ytppobficnjpdiaa
open Go.RowKit
set_option linter.unusedVariables false

theorem in7_any (n m : Int) (w : World) :
    Calls Try.prog 48 #[.int .i64 n, .int .i64 0, .int .i64 m] w fun e w' => e = .returned (.bool (inR n m)) ∧ w' = w := by
  unfold inR
  by_cases h0 : 0 ≤ n
  · have t0 : decide ((0 : Int) ≤ n) = true := by simp; omega
    go_enter Try.func48, Try.ntmps48
    go_wp2_with fail
    go_ret
    exact ⟨by rw [t0]; rfl, rfl⟩
  · have t0 : decide ((0 : Int) ≤ n) = false := by simp; omega
    go_enter Try.func48, Try.ntmps48
    go_wp2_with fail
    go_ret
    exact ⟨rfl, rfl⟩

set_option maxRecDepth 100000 in
set_option maxHeartbeats 1000000 in
theorem may7_any (h : S7) (w : World) : Calls Try.prog 47 #[.agg h.cells] w fun e w' => e = .returned (.bool h.ok) ∧ Below w.heap.size w w' := by
  have S1 := Lib.hid (Held7.new w h)
  have ⟨c0, c1, c2, c3, c4, c5, c6, c7, c8⟩ := Hc7.of S1.out.b
  have HO : Hid (h.ok = (inR h.src 65535 && inR h.dst 65535 && inR h.win 65535 && inR h.urg 65535 && inR h.flg 255 && decide (h.opt.size ≤ 40) && decide (h.opt.size % 4 = 0))) := rfl
  unfold S7.cells at S1 c0 c1 c2 c3 c4 c5 c6 c7 c8 ⊢
  go_enter Try.func47, Try.ntmps47
  go_wp2_with fail
  refine (in7_any _ _ _).mono ?_
  rintro e w' ⟨rfl, rfl⟩
  cases i0 : inR h.src 65535 with
  | false =>
    go_wp2_with fail
    go_ret
    exact ⟨by rw [HO.out, i0]; rfl, S1.out.bel⟩
  | true =>
  go_wp2_with fail
  refine (in7_any _ _ _).mono ?_
  rintro e w' ⟨rfl, rfl⟩
  cases i1 : inR h.dst 65535 with
  | false =>
    go_wp2_with fail
    go_ret
    exact ⟨by rw [HO.out, i0, i1]; rfl, S1.out.bel⟩
  | true =>
  go_wp2_with fail
  refine (in7_any _ _ _).mono ?_
  rintro e w' ⟨rfl, rfl⟩
  cases i2 : inR h.win 65535 with
  | false =>
    go_wp2_with fail
    go_ret
    exact ⟨by rw [HO.out, i0, i1, i2]; rfl, S1.out.bel⟩
  | true =>
  go_wp2_with fail
  refine (in7_any _ _ _).mono ?_
  rintro e w' ⟨rfl, rfl⟩
  cases i3 : inR h.urg 65535 with
  | false =>
    go_wp2_with fail
    go_ret
    exact ⟨by rw [HO.out, i0, i1, i2, i3]; rfl, S1.out.bel⟩
  | true =>
  go_wp2_with fail
  refine (in7_any _ _ _).mono ?_
  rintro e w' ⟨rfl, rfl⟩
  cases i4 : inR h.flg 255 with
  | false =>
    go_wp2_with fail
    go_ret
    exact ⟨by rw [HO.out, i0, i1, i2, i3, i4]; rfl, S1.out.bel⟩
  | true =>
  rw [i0, i1, i2, i3, i4] at HO
  simp only [Bool.true_and] at HO
  by_cases h40 : h.opt.size ≤ 40
  case neg =>
    rw [decide_eq_false h40, Bool.false_and] at HO
    have t1 : decide ((h.opt.size : Int) ≤ 40) = false := by simp; omega
    clear h40
    go_wp2_with fail
    go_ret
    exact ⟨by rw [HO.out]; rfl, S1.out.bel⟩
  have t1 : decide ((h.opt.size : Int) ≤ 40) = true := by simp; omega
  rw [decide_eq_true h40, Bool.true_and] at HO
  by_cases h4 : h.opt.size % 4 = 0
  case neg =>
    rw [decide_eq_false h4] at HO
    have t2 : ((h.opt.size : Int) % 4 == 0) = false := by simp; omega
    clear h4
    go_wp2_with fail
    go_ret
    exact ⟨by rw [HO.out]; rfl, S1.out.bel⟩
  rw [decide_eq_true h4] at HO
  have t2 : ((h.opt.size : Int) % 4 == 0) = true := by simp; omega
  clear h4
  go_wp2_with fail
  go_ret
  exact ⟨by rw [HO.out]; rfl, S1.out.bel⟩

set_option maxHeartbeats 400000 in
/-- A number's bytes, under a name. -/
theorem num7_x (m : Int) (n k : Nat) (kk : Int) (x : ByteArray) (hkk : kk = (k : Nat)) (hm : m = (n : Nat)) (hn : n < 9223372036854775808) (hk : k ≤ 8) (hx : x = ⟨(be n k).toArray⟩) (w : World) :
    Calls Try.prog 49 #[.int .i64 m, .int .i64 kk] w fun e w' => e = .returned (.string x) ∧ Below w.heap.size w w' := by
  subst hm hx hkk
  have q : IntKind.u64.wrap (n : Int) = (n : Int) := wrap_u64 _ (by omega) (by omega)
  have HB := Lib.hid (fun W => bytes_any n k W (by omega) hk)
  go_enter Try.func49, Try.ntmps49
  go_wp2_with fail
  refine (HB.out _).mono ?_
  rintro e w1 ⟨rfl, hb⟩
  go_wp2_with fail
  go_ret
  exact ⟨rfl, hb⟩

set_option maxHeartbeats 400000 in
theorem refput7_refused (h : S7) (sum : Int) (w : World) (hn : (h.ok && inR sum 65535) = false) :
    Calls Try.prog 20 #[.agg h.cells, .int .i64 sum] w fun e w' => e = .returned (.tuple #[.string ⟨#[]⟩, .int .i64 1]) ∧ Below w.heap.size w w' := by
  have hc := may7_any h (w.alloc (.cells h.cells 49))
  have S1 := Lib.hid (Held7.new w h)
  cases hok : h.ok with
  | false =>
    rw [hok] at hc
    have HC := Lib.hid hc
    clear hc hok hn
    unfold S7.cells at HC S1 ⊢
    go_enter Try.func20, Try.ntmps20
    go_wp2_with fail
    refine HC.out.mono ?_
    rintro e w1 ⟨rfl, hb⟩
    have S2 := Lib.hid (S1.out.below hb)
    clear S1 HC hb
    go_wp2_with fail
    go_ret2
    exact ⟨rfl, S2.out.bel⟩
  | true =>
    rw [hok] at hc
    rw [hok, Bool.true_and] at hn
    have HC := Lib.hid hc
    have HN := Lib.hid hn
    clear hc hok hn
    unfold S7.cells at HC S1 ⊢
    go_enter Try.func20, Try.ntmps20
    go_wp2_with fail
    refine HC.out.mono ?_
    rintro e w1 ⟨rfl, hb⟩
    have S2 := Lib.hid (S1.out.below hb)
    clear S1 HC hb
    go_wp2_with fail
    refine (in7_any _ _ _).mono ?_
    rintro e w2 ⟨rfl, rfl⟩
    rw [HN.out]
    go_wp2_with fail
    go_ret2
    exact ⟨rfl, S2.out.bel⟩

end Go.Proofs.Ytppobficnjpdiaa

/-
  The document's walk of options: palanquinref07.Walk.
-/
namespace Go.Proofs.Ytppobficnjpdiaa
open Go.RowKit
set_option linter.unusedVariables false

theorem Try.infoI : (Try.prog.info? 3).map (fun i => (i.zero, i.size, i.bytes)) = some (some (.int .i64 0), 1, 8) := by kernel_rfl

theorem drop_one {o : ByteArray} {k : Nat} (h : k < o.size) : o.data.toList.drop k = (o[k]'h) :: o.data.toList.drop (k + 1) := by
  rw [List.drop_eq_getElem_cons (by simpa using h)]
  rfl
theorem szK_one {o : ByteArray} {k : Nat} (h : k < o.size) (hc : (o[k]'h).toNat = 1) : sz1 (o.data.toList.drop k) = 1 := by
  rw [drop_one h, UInt8.toNat_inj.1 (show (o[k]'h).toNat = (1 : UInt8).toNat from hc)]
  cases o.data.toList.drop (k + 1) <;> simp [sz1]
theorem szK_short {o : ByteArray} {k : Nat} (h : k < o.size) (hc : (o[k]'h).toNat ≠ 1) (h2 : ¬ k + 1 < o.size) : sz1 (o.data.toList.drop k) = 0 := by
  rw [drop_one h, List.drop_of_length_le (by simp; omega)]
  have : (o[k]'h) ≠ 1 := by intro e; exact hc (by rw [e]; rfl)
  simp [sz1, this]
theorem szK_bad {o : ByteArray} {k : Nat} (h : k < o.size) (hc : (o[k]'h).toNat ≠ 1) (h2 : k + 1 < o.size) (hb : (o[k + 1]'h2).toNat < 2 ∨ o.size - k < (o[k + 1]'h2).toNat) : sz1 (o.data.toList.drop k) = 0 := by
  rw [drop_one h, drop_one h2]
  have : (o[k]'h) ≠ 1 := by intro e; exact hc (by rw [e]; rfl)
  simp only [sz1, if_neg this]
  rw [if_pos (by simp only [List.length_drop, Array.length_toList, ByteArray.size_data]; omega)]
theorem szK_ok {o : ByteArray} {k : Nat} (h : k < o.size) (hc : (o[k]'h).toNat ≠ 1) (h2 : k + 1 < o.size) (hb : ¬ (o[k + 1]'h2).toNat < 2) (hb2 : ¬ o.size - k < (o[k + 1]'h2).toNat) : sz1 (o.data.toList.drop k) = (o[k + 1]'h2).toNat := by
  rw [drop_one h, drop_one h2]
  have : (o[k]'h) ≠ 1 := by intro e; exact hc (by rw [e]; rfl)
  simp only [sz1, if_neg this]
  rw [if_neg (by simp only [List.length_drop, Array.length_toList, ByteArray.size_data]; omega)]

/-- Options' places. -/
def plc (l : List (Nat × List UInt8)) : List Value := l.map fun x => .int .i64 (x.1 : Int)
theorem plc_snoc (l : List (Nat × List UInt8)) (x : Nat × List UInt8) : plc (l ++ [x]) = plc l ++ [.int .i64 (x.1 : Int)] := by simp [plc]

/-- How it ends. -/
def WalkEnd (o : ByteArray) (w : World) (e : Ending) (w' : World) : Prop :=
  Below w.heap.size w w' ∧ ((rightL o.data.toList = true ∧ ∃ v, e = .returned (.tuple #[v, .bool true]) ∧ w'.ownsRow w.heap.size 3 1 v (opts o.data.toList 0).length (plc (opts o.data.toList 0))) ∨
    (rightL o.data.toList = false ∧ e = .returned (.tuple #[.slice none 0 0, .bool false])))

/-- While it walks. -/
structure Wk (o : ByteArray) (w wr : World) (v : Value) (k : Nat) (pre : List (Nat × List UInt8)) : Prop where
  le : k ≤ o.size
  all : opts o.data.toList 0 = pre ++ opts (o.data.toList.drop k) k
  fine : pre.all fineO = true
  own : wr.ownsRow w.heap.size 3 1 v pre.length (plc pre)
  bel : Below w.heap.size w wr
  few : pre.length ≤ k
theorem Wk.done {o : ByteArray} {w wr : World} {v : Value} {k : Nat} {pre : List (Nat × List UInt8)} (h : Wk o w wr v k pre) (he : opts (o.data.toList.drop k) k = []) : WalkEnd o w (.returned (.tuple #[v, .bool true])) wr := by
  have e := h.all
  rw [he, List.append_nil] at e
  exact ⟨h.bel, Or.inl ⟨by unfold rightL; rw [e]; exact h.fine, v, rfl, by rw [e]; exact h.own⟩⟩
theorem Wk.bad {o : ByteArray} {w wr wr' : World} {v : Value} {k : Nat} {pre : List (Nat × List UInt8)} (h : Wk o w wr v k pre) (hb : Below w.heap.size w wr') (he : opts (o.data.toList.drop k) k = [(k, [])]) : WalkEnd o w (.returned (.tuple #[.slice none 0 0, .bool false])) wr' := by
  have e := h.all
  rw [he] at e
  exact ⟨hb, Or.inr ⟨by unfold rightL; rw [e, List.all_append]; simp [fineO], rfl⟩⟩
theorem Wk.step {o : ByteArray} {w wr wr' : World} {v v' : Value} {k z : Nat} {pre : List (Nat × List UInt8)} {x : List UInt8} (h : Wk o w wr v k pre) (hz : z ≠ 0) (hk : k + z ≤ o.size) (hx : x.isEmpty = false)
    (he : opts (o.data.toList.drop k) k = (k, x) :: opts (o.data.toList.drop (k + z)) (k + z)) (hown : wr'.ownsRow w.heap.size 3 1 v' (pre.length + 1) (plc pre ++ [.int .i64 (k : Int)])) (hb : Below w.heap.size w wr') : Wk o w wr' v' (k + z) (pre ++ [(k, x)]) := by
  refine ⟨hk, ?_, ?_, ?_, hb, ?_⟩
  · rw [h.all, he]; simp
  · rw [List.all_append, h.fine]; simp [fineO, hx]
  · rw [List.length_append, List.length_singleton, plc_snoc]; exact hown
  · rw [List.length_append, List.length_singleton]; have := h.few; omega

set_option maxRecDepth 100000 in
set_option maxHeartbeats 4000000 in
theorem refwalk_any (o : ByteArray) (w : World) (hs : o.size ≤ 1000000) : Calls Try.prog 67 #[.string o] w (WalkEnd o w) := by
  obtain ⟨i0, hi, hz0, hz1, hz2⟩ := info_parts Try.infoI
  go_enter Try.func67, Try.ntmps67
  go_wp2_with fail
  go_loopw [4, 5] (fun v i wr => ∃ (k : Nat) (pre : List (Nat × List UInt8)), i = .int .i64 k ∧ Wk o w wr v k pre) (fun _ i _ => o.size - (intOf i).toNat)
  case atStart => exact ⟨0, [], rfl, ⟨Nat.zero_le _, by simp, rfl, World.ownsRow_nil _ _ _ _, Below.refl _ _, Nat.le_refl _⟩⟩
  case round =>
    obtain ⟨k, pre, rfl, hw⟩ := hrel
    have HW := Lib.hid hw
    clear hw
    by_cases hlt : k < o.size
    case neg =>
      have he : opts (o.data.toList.drop k) k = [] := by rw [List.drop_of_length_le (by simp; omega), opts_nil]
      have HE := Lib.hid he
      clear he
      go_wp2
      go_ret2
      exact HW.out.done HE.out
    by_cases hc : (o[k]'hlt).toNat = 0
    · have he : opts (o.data.toList.drop k) k = [] := by
        have hh := drop_head hlt
        rw [UInt8.toNat_inj.1 (show (o[k]'hlt).toNat = (0 : UInt8).toNat from hc)] at hh
        cases hd : o.data.toList.drop k with
        | nil => rw [hd] at hh; cases hh
        | cons a r => rw [hd] at hh; rw [Option.some.inj hh, opts_end]
      have HE := Lib.hid he
      have t1 : ((((o[k]'hlt).toNat : Nat) : Int) != 0) = false := by simp; omega
      clear he hc
      go_wp2
      go_ret2
      exact HW.out.done HE.out
    have t1 : ((((o[k]'hlt).toNat : Nat) : Int) != 0) = true := by simp; omega
    have hh : (o.data.toList.drop k).head? ≠ some 0 := by
      rw [drop_head hlt]
      intro e
      exact hc (by rw [Option.some.inj e]; rfl)
    have hne := drop_ne hlt
    have EB := Lib.hid (fun hz => opts_bad k hne hh hz)
    have ES := Lib.hid (fun hz => opts_step (l := o.data.toList.drop k) k hh hz)
    have ET := Lib.hid (fun (hz : sz1 (o.data.toList.drop k) ≠ 0) => take_ne hz)
    have hle : Hid (sz1 (o.data.toList.drop k) ≤ o.size - k) := by
      show _ ≤ _
      have := sz1_le (o.data.toList.drop k)
      rwa [List.length_drop, Array.length_toList, ByteArray.size_data] at this
    have hfew := HW.out.few
    have hsz := HW.out.bel.size
    clear hh hne hc
    by_cases h1 : (o[k]'hlt).toNat = 1
    · have HZ := Lib.hid (szK_one hlt h1)
      have t2 : ((((o[k]'hlt).toNat : Nat) : Int) == 1) = true := by simp; omega
      clear h1
      go_wp2_with (at_builtin; refine wpList_append_own _ rfl _ _ 116 rfl w.heap.size 3 i0 (.int .i64 0) 1 8 Try.underlying116 hi hz0 hz1 hz2 rfl (by decide) _ _ _ rfl (HW.out.own.alloc _) ⟨wr.heap.size, 0, none⟩ 1 1 [.int .i64 (k : Int)] rfl rfl (World.news_of_block (cs := #[.int .i64 (k : Int)]) (t := 3) (fr := (0, 0)) (heap_alloc_new wr _)) (by simp [Value.oneCell']) (by unfold maxLen; omega) (by omega) (by simp; omega) ?_; intro v' w1 hown' hgrow _; have HO := Lib.hid hown'; have HB := Lib.hid ((HW.out.bel.alloc hsz (.cells #[.int .i64 (k : Int)] 3)).grown hgrow (by simp; omega) (fun j e => (HW.out.own.lt j e).1)); clear hown' hgrow)
      go_roundw
      case rel => exact ⟨k + 1, pre ++ [(k, (o.data.toList.drop k).take 1)], by go_num, HW.out.step (by decide) (by omega) (by have := ET.out (by rw [HZ.out]; decide); rwa [HZ.out] at this) (by have := ES.out (by rw [HZ.out]; decide); rw [HZ.out, List.drop_drop] at this; exact this) HO.out HB.out⟩
      case measure => simp [intOf]; omega
    have t2 : ((((o[k]'hlt).toNat : Nat) : Int) == 1) = false := by simp; omega
    by_cases h2 : k + 1 < o.size
    case neg =>
      have HZ := Lib.hid (EB.out (szK_short hlt h1 h2))
      have t3 : decide ((o.size : Int) - (k : Int) < 2) = true := by simp; omega
      clear h1 h2
      go_wp2_with (at_builtin; refine wpList_append_own _ rfl _ _ 116 rfl w.heap.size 3 i0 (.int .i64 0) 1 8 Try.underlying116 hi hz0 hz1 hz2 rfl (by decide) _ _ _ rfl (HW.out.own.alloc _) ⟨wr.heap.size, 0, none⟩ 1 1 [.int .i64 (k : Int)] rfl rfl (World.news_of_block (cs := #[.int .i64 (k : Int)]) (t := 3) (fr := (0, 0)) (heap_alloc_new wr _)) (by simp [Value.oneCell']) (by unfold maxLen; omega) (by omega) (by simp; omega) ?_; intro v' w1 hown' hgrow _; have HO := Lib.hid hown'; have HB := Lib.hid ((HW.out.bel.alloc hsz (.cells #[.int .i64 (k : Int)] 3)).grown hgrow (by simp; omega) (fun j e => (HW.out.own.lt j e).1)); clear hown' hgrow)
      go_ret2
      exact HW.out.bad HB.out HZ.out
    have t3 : decide ((o.size : Int) - (k : Int) < 2) = false := by simp; omega
    have l1 : (o[k + 1]'h2).toNat < 256 := (o[k + 1]'h2).toNat_lt
    by_cases h3 : (o[k + 1]'h2).toNat < 2
    · have HZ := Lib.hid (EB.out (szK_bad hlt h1 h2 (Or.inl h3)))
      have t4 : decide ((((o[k + 1]'h2).toNat : Nat) : Int) < 2) = true := by simp; omega
      clear h1 h3
      go_wp2_with (at_builtin; refine wpList_append_own _ rfl _ _ 116 rfl w.heap.size 3 i0 (.int .i64 0) 1 8 Try.underlying116 hi hz0 hz1 hz2 rfl (by decide) _ _ _ rfl (HW.out.own.alloc _) ⟨wr.heap.size, 0, none⟩ 1 1 [.int .i64 (k : Int)] rfl rfl (World.news_of_block (cs := #[.int .i64 (k : Int)]) (t := 3) (fr := (0, 0)) (heap_alloc_new wr _)) (by simp [Value.oneCell']) (by unfold maxLen; omega) (by omega) (by simp; omega) ?_; intro v' w1 hown' hgrow _; have HO := Lib.hid hown'; have HB := Lib.hid ((HW.out.bel.alloc hsz (.cells #[.int .i64 (k : Int)] 3)).grown hgrow (by simp; omega) (fun j e => (HW.out.own.lt j e).1)); clear hown' hgrow)
      go_ret2
      exact HW.out.bad HB.out HZ.out
    have t4 : decide ((((o[k + 1]'h2).toNat : Nat) : Int) < 2) = false := by simp; omega
    by_cases h4 : o.size - k < (o[k + 1]'h2).toNat
    · have HZ := Lib.hid (EB.out (szK_bad hlt h1 h2 (Or.inr h4)))
      have t5 : decide ((o.size : Int) - (k : Int) < (((o[k + 1]'h2).toNat : Nat) : Int)) = true := by simp; omega
      clear h1 h3 h4
      go_wp2_with (at_builtin; refine wpList_append_own _ rfl _ _ 116 rfl w.heap.size 3 i0 (.int .i64 0) 1 8 Try.underlying116 hi hz0 hz1 hz2 rfl (by decide) _ _ _ rfl (HW.out.own.alloc _) ⟨wr.heap.size, 0, none⟩ 1 1 [.int .i64 (k : Int)] rfl rfl (World.news_of_block (cs := #[.int .i64 (k : Int)]) (t := 3) (fr := (0, 0)) (heap_alloc_new wr _)) (by simp [Value.oneCell']) (by unfold maxLen; omega) (by omega) (by simp; omega) ?_; intro v' w1 hown' hgrow _; have HO := Lib.hid hown'; have HB := Lib.hid ((HW.out.bel.alloc hsz (.cells #[.int .i64 (k : Int)] 3)).grown hgrow (by simp; omega) (fun j e => (HW.out.own.lt j e).1)); clear hown' hgrow)
      go_ret2
      exact HW.out.bad HB.out HZ.out
    have HZ := Lib.hid (szK_ok hlt h1 h2 h3 h4)
    have t5 : decide ((o.size : Int) - (k : Int) < (((o[k + 1]'h2).toNat : Nat) : Int)) = false := by simp; omega
    have N3 := Lib.hid h3
    clear h1 h3
    go_wp2_with (at_builtin; refine wpList_append_own _ rfl _ _ 116 rfl w.heap.size 3 i0 (.int .i64 0) 1 8 Try.underlying116 hi hz0 hz1 hz2 rfl (by decide) _ _ _ rfl (HW.out.own.alloc _) ⟨wr.heap.size, 0, none⟩ 1 1 [.int .i64 (k : Int)] rfl rfl (World.news_of_block (cs := #[.int .i64 (k : Int)]) (t := 3) (fr := (0, 0)) (heap_alloc_new wr _)) (by simp [Value.oneCell']) (by unfold maxLen; omega) (by omega) (by simp; omega) ?_; intro v' w1 hown' hgrow _; have HO := Lib.hid hown'; have HB := Lib.hid ((HW.out.bel.alloc hsz (.cells #[.int .i64 (k : Int)] 3)).grown hgrow (by simp; omega) (fun j e => (HW.out.own.lt j e).1)); clear hown' hgrow)
    go_roundw
    case rel => exact ⟨k + (o[k + 1]'h2).toNat, pre ++ [(k, (o.data.toList.drop k).take (o[k + 1]'h2).toNat)], by go_num, HW.out.step (by have := N3.out; omega) (by omega) (by have := ET.out (by rw [HZ.out]; have := N3.out; omega); rwa [HZ.out] at this) (by have := ES.out (by rw [HZ.out]; have := N3.out; omega); rw [HZ.out, List.drop_drop] at this; exact this) HO.out HB.out⟩
    case measure => have := N3.out; simp [intOf]; omega

end Go.Proofs.Ytppobficnjpdiaa
