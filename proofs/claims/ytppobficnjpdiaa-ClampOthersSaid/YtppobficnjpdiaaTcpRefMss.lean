/-
  The document's MSS of options: palanquinref07.MSS.
-/
import Derived.Test.YtppobficnjpdiaaTcpD
import Derived.Test.YtppobficnjpdiaaTcpMss
import Derived.Test.YtppobficnjpdiaaWriting
namespace Go.Proofs.Ytppobficnjpdiaa
open Go.RowKit
set_option linter.unusedVariables false

theorem mssO_len {x : Nat × List UInt8} (h : x.2.length ≠ 4) : mssO x = none := by
  unfold mssO
  split
  · rename_i e; rw [e] at h; exact absurd rfl h
  · rfl
theorem mssO_head {x : Nat × List UInt8} (h : x.2.head? ≠ some 2) : mssO x = none := by
  unfold mssO
  split
  · rename_i e
    rw [e] at h
    rw [if_neg]
    rintro rfl
    exact h rfl
  · rfl
theorem opts_few : ∀ (l : List UInt8) (i : Nat), (opts l i).length ≤ l.length := by
  intro l
  induction l using opts_ind with
  | h0 => intro i; rw [opts_nil]; simp
  | h1 r => intro i; rw [opts_end]; simp
  | h2 l a b c =>
    intro i
    rw [opts_bad _ a b c]
    have := List.length_pos_iff.2 a
    simp only [List.length_singleton]
    omega
  | h3 l b c ih =>
    intro i
    have h1 := ih (i + sz1 l)
    have h2 := sz1_le l
    rw [List.length_drop] at h1
    rw [opts_step _ b c, List.length_cons]
    omega
/-- What is walked stands where it is told. -/
theorem opts_item : ∀ (l : List UInt8) (i : Nat), ∀ x ∈ opts l i, x.2 ≠ [] → ∃ p, x.1 = i + p ∧ p < l.length ∧ sz1 (l.drop p) ≠ 0 ∧ x.2 = (l.drop p).take (sz1 (l.drop p)) := by
  intro l
  induction l using opts_ind with
  | h0 => intro i x h; rw [opts_nil] at h; cases h
  | h1 r => intro i x h; rw [opts_end] at h; cases h
  | h2 l a b c =>
    intro i x h hx
    rw [opts_bad _ a b c] at h
    obtain rfl := List.mem_singleton.1 h
    exact absurd rfl hx
  | h3 l b c ih =>
    intro i x h hx
    rw [opts_step _ b c] at h
    rcases List.mem_cons.1 h with rfl | h
    · exact ⟨0, rfl, List.length_pos_iff.2 (sz1_ne c), by simpa using c, by simp⟩
    · obtain ⟨p, e1, e2, e3, e4⟩ := ih _ x h hx
      rw [List.length_drop] at e2
      rw [List.drop_drop] at e3 e4
      exact ⟨sz1 l + p, by omega, by omega, e3, e4⟩
/-- An option's MSS, by the bytes where it stands. -/
structure MssHere (o : ByteArray) (p : Nat) (x : Nat × List UInt8) : Prop where
  lt : p < o.size
  other : (o[p]'lt).toNat ≠ 2 → mssO x = none
  next : (o[p]'lt).toNat = 2 → p + 1 < o.size
  size : (o[p]'lt).toNat = 2 → ∀ h : p + 1 < o.size, (o[p + 1]'h).toNat ≠ 4 → mssO x = none
  four : (o[p]'lt).toNat = 2 → ∀ h : p + 1 < o.size, (o[p + 1]'h).toNat = 4 → p + 3 < o.size
  tells : (o[p]'lt).toNat = 2 → ∀ h : p + 1 < o.size, (o[p + 1]'h).toNat = 4 → ∀ h3 : p + 3 < o.size, mssO x = some ((o[p + 2]'(by omega)).toNat * 256 + (o[p + 3]'h3).toNat, p + 2)
theorem mssHere {o : ByteArray} {p : Nat} (hp : p < o.size) (hz : sz1 (o.data.toList.drop p) ≠ 0) : MssHere o p (p, (o.data.toList.drop p).take (sz1 (o.data.toList.drop p))) := by
  have hhd := take_head hz [] (sz1_ne hz)
  rw [List.append_nil, drop_head hp] at hhd
  have hl : ((o.data.toList.drop p).take (sz1 (o.data.toList.drop p))).length = sz1 (o.data.toList.drop p) := by rw [List.length_take]; have := sz1_le (o.data.toList.drop p); omega
  have hne1 : (o[p]'hp).toNat = 2 → (o[p]'hp).toNat ≠ 1 := by omega
  have hnext : (o[p]'hp).toNat = 2 → p + 1 < o.size := by
    intro h2
    by_cases h : p + 1 < o.size
    · exact h
    · exact absurd (szK_short hp (hne1 h2) h) hz
  have hsz : (o[p]'hp).toNat = 2 → ∀ h : p + 1 < o.size, sz1 (o.data.toList.drop p) = (o[p + 1]'h).toNat ∧ (o[p + 1]'h).toNat ≤ o.size - p := by
    intro h2 h
    by_cases hb : (o[p + 1]'h).toNat < 2
    · exact absurd (szK_bad hp (hne1 h2) h (Or.inl hb)) hz
    · by_cases hb2 : o.size - p < (o[p + 1]'h).toNat
      · exact absurd (szK_bad hp (hne1 h2) h (Or.inr hb2)) hz
      · exact ⟨szK_ok hp (hne1 h2) h hb hb2, by omega⟩
  refine ⟨hp, ?_, hnext, ?_, ?_, ?_⟩
  · intro h
    apply mssO_head
    simp only
    rw [hhd]
    intro e
    exact h (by rw [Option.some.inj e]; rfl)
  · intro h2 h h4
    apply mssO_len
    simp only
    rw [hl, (hsz h2 h).1]
    exact h4
  · intro h2 h h4
    have := (hsz h2 h).2
    omega
  · intro h2 h h4 h3
    have e2 : (o[p]'hp) = 2 := UInt8.toNat_inj.1 h2
    have e4 : (o[p + 1]'h) = 4 := UInt8.toNat_inj.1 h4
    rw [(hsz h2 h).1, h4, drop_one hp, drop_one h, drop_one (show p + 1 + 1 < o.size by omega), drop_one (show p + 1 + 1 + 1 < o.size by omega), e2]
    simp only [List.take_succ_cons, List.take_zero, mssO, if_true]

/-- How it ends. -/
def RefMssEnd (o : ByteArray) (w : World) (e : Ending) (w' : World) : Prop :=
  e = .returned (.tuple #[.int .i64 (mN (mssL o.data.toList) : Nat), .int .i64 (mA (mssL o.data.toList) : Nat), .bool (mssL o.data.toList).isSome]) ∧ Below w.heap.size w w'

set_option maxRecDepth 100000 in
set_option maxHeartbeats 4000000 in
theorem refmss_any (o : ByteArray) (w : World) (hs : o.size ≤ 1000000) : Calls Try.prog 40 #[.string o] w (RefMssEnd o w) := by
  have HW := Lib.hid (refwalk_any o w hs)
  go_enter Try.func40, Try.ntmps40
  go_wp2_with fail
  refine HW.out.mono ?_
  rintro e w1 ⟨hb1, ⟨hr, v, rfl, hown⟩ | ⟨hr, rfl⟩⟩
  case inr =>
    have HN := Lib.hid (mssL_none hr)
    have B1 := Lib.hid hb1
    clear hb1 hr HW
    go_wp2_with fail
    go_loop [7] (fun i => i = .int .i64 0) (fun _ => 0)
    case atStart => rfl
    case round =>
      obtain rfl := hrel
      go_wp2_with fail
      go_ret3
      exact ⟨by rw [HN.out]; rfl, B1.out⟩
  case inl =>
  have HM := Lib.hid (mssL_right hr)
  have B1 := Lib.hid hb1
  have HH : Hid (∀ (j : Nat) (hj : j < (opts o.data.toList 0).length), MssHere o ((opts o.data.toList 0)[j]).1 ((opts o.data.toList 0)[j])) := by
    show ∀ (j : Nat) (hj : j < (opts o.data.toList 0).length), MssHere o ((opts o.data.toList 0)[j]).1 ((opts o.data.toList 0)[j])
    intro j hj
    have hm := List.getElem_mem hj
    have hf := List.all_eq_true.1 hr _ hm
    obtain ⟨p, e1, e2, e3, e4⟩ := opts_item _ 0 _ hm (by intro e; unfold fineO at hf; rw [e] at hf; cases hf)
    have hp : p < o.size := by simpa using e2
    have h := mssHere hp e3
    generalize (opts o.data.toList 0)[j] = x at *
    obtain ⟨x1, x2⟩ := x
    simp only at e1 e4
    rw [Nat.zero_add] at e1
    subst e1 e4
    exact h
  have hlen : (opts o.data.toList 0).length ≤ 1000000 := by have := opts_few o.data.toList 0; simp at this; omega
  have HC : Hid (∀ g cap, v = .slice (some ⟨g, 0, none⟩) (opts o.data.toList 0).length cap → ∀ (j : Nat) (hj : j < (opts o.data.toList 0).length), w1.cell? ⟨g, j, none⟩ = some (.int .i64 (((opts o.data.toList 0)[j]).1 : Int))) := by
    show ∀ g cap, v = .slice (some ⟨g, 0, none⟩) (opts o.data.toList 0).length cap → ∀ (j : Nat) (hj : j < (opts o.data.toList 0).length), w1.cell? ⟨g, j, none⟩ = some (.int .i64 (((opts o.data.toList 0)[j]).1 : Int))
    intro g cap hv j hj
    have := hown.cells (g := g) (by rw [hv]; rfl) j (.int .i64 (((opts o.data.toList 0)[j]).1 : Int)) (by simp [plc, hj])
    rwa [addr_add] at this
  obtain ⟨a, c, hv⟩ := own_len hown
  have HO := Lib.hid hown
  clear hown hb1 hr HW
  generalize opts o.data.toList 0 = l at *
  subst hv
  go_wp2_with fail
  go_loop [7] (fun i => ∃ j : Nat, i = .int .i64 j ∧ j ≤ l.length ∧ (l.take j).findSome? mssO = none) (fun i => l.length - (intOf i).toNat)
  case atStart => exact ⟨0, rfl, Nat.zero_le _, rfl⟩
  case round =>
    obtain ⟨j, rfl, hj, hno⟩ := hrel
    by_cases hlt : j < l.length
    case neg =>
      have hall : l.findSome? mssO = none := by rwa [List.take_of_length_le (by omega)] at hno
      have HA := Lib.hid hall
      clear hall hno
      go_wp2_with fail
      go_ret3
      exact ⟨by rw [HM.out, HA.out]; rfl, B1.out⟩
    obtain ⟨g, cap, hform, _, _⟩ := HO.out.form (by omega)
    obtain ⟨rfl, _, rfl⟩ : a = some ⟨g, 0, none⟩ ∧ True ∧ c = cap := by
      cases hform
      exact ⟨rfl, trivial, rfl⟩
    have hcell := HC.out g c rfl j hlt
    have hstep : mssO (l[j]) = none → (l.take (j + 1)).findSome? mssO = none := by
      intro h
      rw [List.take_succ_eq_append_getElem hlt, List.findSome?_append, hno, Option.none_or, List.findSome?_cons, h]
      rfl
    have hhit : ∀ v, mssO (l[j]) = some v → l.findSome? mssO = some v := by
      intro v h
      rw [← List.take_append_drop j l, List.findSome?_append, hno, Option.none_or, List.drop_eq_getElem_cons hlt, List.findSome?_cons, h]
    have HST := Lib.hid hstep
    have HIT := Lib.hid hhit
    have HX := HH.out j hlt
    clear hstep hhit hno HC HH hform
    obtain ⟨p, hp⟩ : ∃ p, p = (l[j]).1 := ⟨_, rfl⟩
    rw [← hp] at hcell HX
    clear hp
    generalize l[j] = x at *
    have hpl := HX.lt
    have X := Lib.hid HX
    clear HX
    by_cases h2 : (o[p]'hpl).toNat = 2
    case neg =>
      have HN := Lib.hid (HST.out (X.out.other h2))
      have t1 : ((((o[p]'hpl).toNat : Nat) : Int) == 2) = false := by simp; omega
      clear h2
      go_wp2_with fail
      exact ⟨⟨j + 1, by go_num, by omega, HN.out⟩, by simp [intOf]; omega⟩
    have hp1 := X.out.next h2
    have t1 : ((((o[p]'hpl).toNat : Nat) : Int) == 2) = true := by simp; omega
    by_cases h4 : (o[p + 1]'hp1).toNat = 4
    case neg =>
      have HN := Lib.hid (HST.out (X.out.size h2 hp1 h4))
      have t2 : ((((o[p + 1]'hp1).toNat : Nat) : Int) == 4) = false := by simp; omega
      clear h2 h4
      go_wp2_with fail
      exact ⟨⟨j + 1, by go_num, by omega, HN.out⟩, by simp [intOf]; omega⟩
    have t2 : ((((o[p + 1]'hp1).toNat : Nat) : Int) == 4) = true := by simp; omega
    have hp3 := X.out.four h2 hp1 h4
    have ht := HIT.out _ (X.out.tells h2 hp1 h4 hp3)
    obtain ⟨p2, q2⟩ : ∃ p2, p2 = p + 2 := ⟨_, rfl⟩
    obtain ⟨p3, q3⟩ : ∃ p3, p3 = p + 3 := ⟨_, rfl⟩
    have k2 : p2 < o.size := by omega
    have k3 : p3 < o.size := by omega
    simp only [← q2, ← q3] at ht
    have HT : Hid (l.findSome? mssO = some ((o[p2]'k2).toNat * 256 + (o[p3]'k3).toNat, p2)) := ht
    have l2 : (o[p2]'k2).toNat < 256 := (o[p2]'k2).toNat_lt
    have l3 : (o[p3]'k3).toNat < 256 := (o[p3]'k3).toNat_lt
    have e1 : IntKind.i64.wrap ((p : Int) + 2) = (p2 : Int) := by rw [IntWalk.i64_in _ (by omega)]; omega
    have e2 : IntKind.i64.wrap ((p : Int) + 3) = (p3 : Int) := by rw [IntWalk.i64_in _ (by omega)]; omega
    have e3 : IntKind.i64.wrap ((o[p2]'k2).toNat : Int) = ((o[p2]'k2).toNat : Int) := IntWalk.i64_in _ (by omega)
    have e4 : IntKind.i64.wrap (((o[p2]'k2).toNat : Int) * 256) = ((o[p2]'k2).toNat : Int) * 256 := IntWalk.i64_in _ (by omega)
    have e5 : IntKind.i64.wrap ((o[p3]'k3).toNat : Int) = ((o[p3]'k3).toNat : Int) := IntWalk.i64_in _ (by omega)
    have e6 : IntKind.i64.wrap (((o[p2]'k2).toNat : Int) * 256 + ((o[p3]'k3).toNat : Int)) = ((o[p2]'k2).toNat : Int) * 256 + ((o[p3]'k3).toNat : Int) := IntWalk.i64_in _ (by omega)
    clear h2 h4 hp3 ht q2 q3
    go_wp2_with fail
    go_quiet (fail)
    go_wp2_with fail
    go_ret3
    refine ⟨?_, below_drewN B1.out nq⟩
    rw [HM.out, HT.out]
    simp [mN, mA]

end Go.Proofs.Ytppobficnjpdiaa
