/-
  A text's address: what a text is parted into is the address again. Plain. No Go function is walked here.
-/
import Derived.Test.YtpappmbnblaccaaDoorAddrText
namespace Go.Proofs.YtpappmbnblaccaaDoor
set_option linter.unusedVariables false

theorem digs10_inj {m n : Nat} (hm : m ≤ 65535) (hn : n ≤ 65535) (h : digs 10 m = digs 10 n) : m = n := by
  have := val_digs (b := 10) (by omega) (by omega) hm
  rw [h, val_digs (by omega) (by omega) hn] at this
  exact (Option.some.inj this).symm
theorem digs16_inj {m n : Nat} (hm : m ≤ 65535) (hn : n ≤ 65535) (h : digs 16 m = digs 16 n) : m = n := by
  have := val_digs (b := 16) (by omega) (by omega) hm
  rw [h, val_digs (by omega) (by omega) hn] at this
  exact (Option.some.inj this).symm
theorem hexs_inj : ∀ (l m : List Nat), (∀ n ∈ l, n ≤ 65535) → (∀ n ∈ m, n ≤ 65535) → hexs l = hexs m → l = m
  | [], [], _, _, _ => rfl
  | [], y :: m, _, _, h => by simp [hexs] at h
  | x :: l, [], _, _, h => by simp [hexs] at h
  | x :: l, y :: m, h1, h2, h => by
    simp only [hexs, List.map_cons, List.cons.injEq] at h
    rw [digs16_inj (h1 x (by simp)) (h2 y (by simp)) h.1, hexs_inj l m (fun n hn => h1 n (List.mem_cons_of_mem _ hn)) (fun n hn => h2 n (List.mem_cons_of_mem _ hn)) h.2]

/-- What the program parts a text into: no more than one word too many. -/
def pt (c : UInt8) (most : Nat) (s : List UInt8) : List (List UInt8) := if s = [] then [] else Lib.splitK [c] 0 (min (most + 1) (s.length + 1) - 1) s
theorem pt_jn (c : UInt8) (most : Nat) (ws : List (List UInt8)) (h1 : ∀ x ∈ ws, x ≠ []) (h2 : ∀ x ∈ ws, c ∉ x) (h3 : ws.length ≤ most + 1) : pt c most (jn c ws) = ws := by
  unfold pt
  by_cases h : ws = []
  · subst h; rfl
  · have := jn_min c ws h1
    have := List.length_pos_iff.2 h
    rw [if_neg (jn_ne c ws h1 h), splitK_jn c _ ws h h2 (by omega)]
theorem words4_ok (a : List UInt8) : (∀ x ∈ a.map (fun c => digs 10 c.toNat), x ≠ []) ∧ ∀ x ∈ a.map (fun c => digs 10 c.toNat), (46 : UInt8) ∉ x := by
  constructor
  · intro x hx
    obtain ⟨n, _, rfl⟩ := List.mem_map.1 hx
    exact digs_ne
  · intro x hx
    obtain ⟨n, _, rfl⟩ := List.mem_map.1 hx
    exact digs_no (by omega) (by omega) (by decide)
theorem pt_text4 (a : List UInt8) (h : a.length = 4) : pt 46 4 (text4 a) = a.map fun c => digs 10 c.toNat :=
  pt_jn 46 4 _ (words4_ok a).1 (words4_ok a).2 (by simp [h])
theorem sp_text4 (a : List UInt8) (h : a.length = 4) : sp 46 (text4 a) = a.map fun c => digs 10 c.toNat :=
  sp_jn 46 _ (by intro e; have := congrArg List.length e; simp [h] at this) (words4_ok a).2

/-- Where a row of eight numbers is left out. -/
structure Gap (l : List Nat) (f t : Nat) : Prop where
  room : f = t ∨ (f + 2 ≤ t ∧ t ≤ 8)
  row : f ≠ t → l = l.take f ++ List.replicate (t - f) 0 ++ l.drop t
theorem gap_of (l : List Nat) (h : l.length = 8) : Gap l (left0 l 8).1 (left0 l 8).2 := by
  rw [left0_eq]
  have hr := long_row l 8
  generalize long l 8 = p at hr
  obtain ⟨b, m⟩ := p
  simp only at hr ⊢
  by_cases h2 : 2 ≤ m
  · rw [if_pos h2]
    simp only
    rcases hr with hr | ⟨hb, hm⟩
    · omega
    · have hle := run0_le l b
      refine ⟨Or.inr ⟨by omega, by omega⟩, fun _ => ?_⟩
      have hz := run0_zero l b
      rw [← hm] at hz hle
      apply List.ext_getElem?
      intro k
      by_cases k1 : k < b
      · rw [List.append_assoc, List.getElem?_append_left (by simp; omega), List.getElem?_take_of_lt k1]
      · by_cases k2 : k < b + m
        · rw [List.getElem?_append_left (by simp; omega), List.getElem?_append_right (by simp; omega)]
          have := hz (k - b) (by omega)
          rw [show b + (k - b) = k by omega] at this
          rw [this, List.getElem?_replicate, if_pos]
          simp
          omega
        · rw [List.getElem?_append_right (by simp; omega), List.getElem?_drop]
          congr 1
          simp
          omega
  · rw [if_neg h2]
    exact ⟨Or.inl rfl, fun e => absurd rfl e⟩

theorem index_nil (sub : List UInt8) (c : UInt8) (t : List UInt8) (hs : sub = c :: t) : Lib.index [] sub = -1 := by subst hs; rfl
/-- Behind words joined by one colon each there are no two colons, till what stands behind them. -/
theorem index_jn : ∀ (ws : List (List UInt8)) (T : List UInt8), ws ≠ [] → (∀ x ∈ ws, x ≠ []) → (∀ x ∈ ws, (58 : UInt8) ∉ x) → Lib.index (jn 58 ws ++ T) [58, 58] = shift (jn 58 ws).length (Lib.index T [58, 58])
  | [], _, h, _, _ => absurd rfl h
  | [y], T, _, _, h2 => index_word [58, 58] 58 [58] rfl y T (h2 y (by simp))
  | y :: z :: r, T, _, h1, h2 => by
    have ih := index_jn (z :: r) T (by simp) (fun x hx => h1 x (List.mem_cons_of_mem _ hx)) (fun x hx => h2 x (List.mem_cons_of_mem _ hx))
    have hne : ∃ d u, jn 58 (z :: r) ++ T = d :: u ∧ d ≠ 58 := by
      have hz1 := h1 z (by simp)
      have hz2 := h2 z (by simp)
      cases z with
      | nil => exact absurd rfl hz1
      | cons d z =>
        rw [List.mem_cons, not_or] at hz2
        cases r with
        | nil => exact ⟨d, z ++ T, rfl, fun e => hz2.1 e.symm⟩
        | cons x r => exact ⟨d, _, rfl, fun e => hz2.1 e.symm⟩
    obtain ⟨d, u, hdu, hd⟩ := hne
    have hp : ([58, 58] : List UInt8).isPrefixOf (58 :: (jn 58 (z :: r) ++ T)) = false := by
      rw [hdu]
      simp [List.isPrefixOf, Ne.symm hd]
    have hge := Lib.index_ge T [58, 58]
    have hc : Lib.index (58 :: (jn 58 (z :: r) ++ T)) [58, 58] = shift ((jn 58 (z :: r)).length + 1) (Lib.index T [58, 58]) := by
      rw [index_cons _ _ _ hp, ih, ← shift_shift (j := 1) hge]
      rfl
    rw [jn, List.append_assoc, List.cons_append, index_word [58, 58] 58 [58] rfl y _ (h2 y (by simp)), hc, shift_shift hge]
    congr 1
    simp
    omega
theorem cut_jn (ws : List (List UInt8)) (h1 : ∀ x ∈ ws, x ≠ []) (h2 : ∀ x ∈ ws, (58 : UInt8) ∉ x) (hw : ws ≠ []) : Lib.cut (jn 58 ws) [58, 58] = (jn 58 ws, [], false) := by
  have h := index_jn ws [] hw h1 h2
  rw [List.append_nil, index_nil [58, 58] 58 [58] rfl] at h
  unfold Lib.cut
  rw [h]
  simp [shift]
theorem cut_gap (ws : List (List UInt8)) (T : List UInt8) (h1 : ∀ x ∈ ws, x ≠ []) (h2 : ∀ x ∈ ws, (58 : UInt8) ∉ x) : Lib.cut (jn 58 ws ++ [58, 58] ++ T) [58, 58] = (jn 58 ws, T, true) := by
  have hi : Lib.index (jn 58 ws ++ ([58, 58] ++ T)) [58, 58] = ((jn 58 ws).length : Int) := by
    have h0 : Lib.index ([58, 58] ++ T) [58, 58] = 0 := by
      show Lib.index (58 :: 58 :: T) [58, 58] = 0
      rw [Lib.index]
      simp [List.isPrefixOf]
    by_cases hw : ws = []
    · subst hw; exact h0
    · rw [index_jn ws _ hw h1 h2, h0]
      simp [shift]
  rw [List.append_assoc]
  unfold Lib.cut
  rw [hi, if_pos (by omega)]
  simp

/-- What the program takes for a text's eight words. -/
def w16 (s : List UInt8) : List (List UInt8) :=
  if (Lib.cut s [58, 58]).2.2 = false then pt 58 8 (Lib.cut s [58, 58]).1 else
    pt 58 8 (Lib.cut s [58, 58]).1 ++ List.replicate (8 - ((pt 58 8 (Lib.cut s [58, 58]).1).length + (pt 58 8 (Lib.cut s [58, 58]).2.1).length)) [48] ++ pt 58 8 (Lib.cut s [58, 58]).2.1
theorem hexs_append (l m : List Nat) : hexs (l ++ m) = hexs l ++ hexs m := by simp [hexs]
theorem hexs_zeros (k : Nat) : hexs (List.replicate k 0) = List.replicate k [48] := by
  simp only [hexs, List.map_replicate]
  rw [digs_small (by omega)]
  rfl
theorem w16_text (l : List Nat) (f t : Nat) (hl : l.length = 8) (hg : Gap l f t) : w16 (text8 l f t) = hexs l := by
  have no : ∀ m : List Nat, ∀ x ∈ hexs m, (58 : UInt8) ∉ x := fun m => hexs_no m (by decide)
  by_cases h : f = t
  · have hc := cut_jn (hexs l) (hexs_ne l) (no l) (by intro e; have := congrArg List.length e; simp [hexs, hl] at this)
    unfold w16 text8
    rw [if_pos h, hc]
    simp only
    rw [if_pos trivial, pt_jn 58 8 _ (hexs_ne l) (no l) (by simp [hexs, hl])]
  · have hc := cut_gap (hexs (l.take f)) (jn 58 (hexs (l.drop t))) (hexs_ne _) (no _)
    have hr := hg.row h
    rcases hg.room with e | ⟨g1, g2⟩
    · exact absurd e h
    · unfold w16 text8
      rw [if_neg h, hc]
      simp only
      rw [if_neg (by simp), pt_jn 58 8 _ (hexs_ne _) (no _) (by simp [hexs]; omega), pt_jn 58 8 _ (hexs_ne _) (no _) (by simp [hexs]; omega)]
      have hk : 8 - ((hexs (l.take f)).length + (hexs (l.drop t)).length) = t - f := by simp [hexs, hl]; omega
      rw [hk, ← hexs_zeros, ← hexs_append, ← hexs_append, ← hr]

theorem nums_len (a : List UInt8) (h : a.length = 16) : (nums a).length = 8 ∧ unnums (nums a) = a ∧ ∀ n ∈ nums a, n ≤ 65535 := by
  obtain ⟨h1, h2, h3⟩ := nums_back 8 a (by omega)
  exact ⟨h2, h1, h3⟩
theorem w16_text16 (a : List UInt8) (h : a.length = 16) : w16 (text16 a) = hexs (nums a) := w16_text _ _ _ (nums_len a h).1 (gap_of _ (nums_len a h).1)

theorem text4_dot (a : List UInt8) (h : a.length = 4) : (46 : UInt8) ∈ text4 a := by
  match a, h with
  | [x, y, z, v], _ => simp [text4, jn]
theorem text16_nodot (a : List UInt8) : (46 : UInt8) ∉ text16 a := by
  have no : ∀ m : List Nat, (46 : UInt8) ∉ jn 58 (hexs m) := by
    intro m hm
    rcases jn_mem _ _ _ hm with e | ⟨x, hx, hm⟩
    · exact absurd e (by decide)
    · exact hexs_no m (by decide) x hx hm
  unfold text16 text8
  split
  · exact no _
  · simp only [List.mem_append, List.mem_cons, List.not_mem_nil, or_false, not_or]
    exact ⟨⟨no _, by decide, by decide⟩, no _⟩
theorem text16_inj (a b : List UInt8) (ha : a.length = 16) (hb : b.length = 16) (h : text16 a = text16 b) : a = b := by
  have h1 := w16_text16 a ha
  rw [h, w16_text16 b hb] at h1
  have := hexs_inj _ _ (nums_len b hb).2.2 (nums_len a ha).2.2 h1
  rw [← (nums_len a ha).2.1, ← (nums_len b hb).2.1, this]
theorem map4_inj : ∀ (a b : List UInt8), (a.map fun c => digs 10 c.toNat) = (b.map fun c => digs 10 c.toNat) → a = b
  | [], [], _ => rfl
  | [], y :: m, h => by simp at h
  | x :: l, [], h => by simp at h
  | x :: l, y :: m, h => by
    simp only [List.map_cons, List.cons.injEq] at h
    have hx := x.toNat_lt
    have hy := y.toNat_lt
    rw [UInt8.toNat_inj.1 (digs10_inj (by omega) (by omega) h.1), map4_inj l m h.2]
theorem text4_inj (a b : List UInt8) (ha : a.length = 4) (hb : b.length = 4) (h : text4 a = text4 b) : a = b := by
  have h1 := pt_text4 a ha
  rw [h, pt_text4 b hb] at h1
  exact map4_inj _ _ h1.symm
theorem text_4 {a : List UInt8} (h : a.length = 4) : text a = text4 a := if_pos h
theorem text_16 {a : List UInt8} (h : a.length = 16) : text a = text16 a := if_neg (by omega)
theorem text_inj {a b : List UInt8} (ha : IsA a) (hb : IsA b) (h : text a = text b) : a = b := by
  rcases ha with ha | ha <;> rcases hb with hb | hb
  · rw [text_4 ha, text_4 hb] at h; exact text4_inj a b ha hb h
  · rw [text_4 ha, text_16 hb] at h; exact absurd (h ▸ text4_dot a ha) (text16_nodot b)
  · rw [text_16 ha, text_4 hb] at h; exact absurd (h.symm ▸ text4_dot b hb) (text16_nodot a)
  · rw [text_16 ha, text_16 hb] at h; exact text16_inj a b ha hb h

/-- The address whose text a text is. -/
noncomputable def addrOf (s : List UInt8) : Option (List UInt8) := open Classical in if h : ∃ a, IsA a ∧ text a = s then some h.choose else none
theorem addrOf_text {a : List UInt8} (h : IsA a) : addrOf (text a) = some a := by
  have hx : ∃ b, IsA b ∧ text b = text a := ⟨a, h, rfl⟩
  unfold addrOf
  rw [dif_pos hx]
  exact congrArg some (text_inj hx.choose_spec.1 h hx.choose_spec.2)
theorem addrOf_some {s a : List UInt8} (h : addrOf s = some a) : IsA a ∧ text a = s := by
  unfold addrOf at h
  split at h
  · rename_i hx
    obtain rfl := Option.some.inj h
    exact hx.choose_spec
  · cases h
theorem addrOf_none {s : List UInt8} (h : ∀ a, IsA a → s ≠ text a) : addrOf s = none := by
  cases hs : addrOf s with
  | none => rfl
  | some a => exact absurd (addrOf_some hs).2.symm (h a (addrOf_some hs).1)

theorem text_sign {a : List UInt8} {c : UInt8} (hc : c.toNat < 46) : c ∉ text a := by
  intro h
  have n1 : ∀ b n, 2 ≤ b → b ≤ 16 → c ∉ digs b n := fun b n h1 h2 => digs_no h1 h2 (by omega)
  have no : ∀ m : List Nat, c ∉ jn 58 (hexs m) := by
    intro m hm
    rcases jn_mem _ _ _ hm with e | ⟨x, hx, hm⟩
    · subst e; exact absurd hc (by decide)
    · exact hexs_no m (by omega) x hx hm
  unfold text at h
  split at h
  · rcases jn_mem _ _ _ h with e | ⟨x, hx, hm⟩
    · subst e; exact absurd hc (by decide)
    · obtain ⟨n, _, rfl⟩ := List.mem_map.1 hx
      exact n1 10 _ (by omega) (by omega) hm
  · unfold text16 text8 at h
    split at h
    · exact no _ h
    · simp only [List.mem_append, List.mem_cons, List.not_mem_nil, or_false] at h
      rcases h with (h | h | h) | h
      · exact no _ h
      · subst h; exact absurd hc (by decide)
      · subst h; exact absurd hc (by decide)
      · exact no _ h
theorem hexs_len (l : List Nat) (h : ∀ n ∈ l, n ≤ 65535) : ∀ x ∈ hexs l, x.length ≤ 4 := by
  intro x hx
  obtain ⟨n, hn, rfl⟩ := List.mem_map.1 hx
  exact digs_length (by omega) 3 n (by have := h n hn; omega)
theorem text_len {a : List UInt8} (h : IsA a) : (text a).length ≤ 40 := by
  rcases h with h | h
  · rw [text_4 h]
    have := jn_len 46 3 (a.map fun c => digs 10 c.toNat) (by
      intro x hx
      obtain ⟨n, _, rfl⟩ := List.mem_map.1 hx
      have := n.toNat_lt
      exact digs_length (by omega) 2 _ (by omega))
    unfold text4
    simp [h] at this
    omega
  · rw [text_16 h]
    obtain ⟨h1, h2, h3⟩ := nums_len a h
    have hg := gap_of _ h1
    unfold text16
    generalize (left0 (nums a) 8).1 = f at hg
    generalize (left0 (nums a) 8).2 = t at hg
    have hl := fun m hm => jn_len 58 4 (hexs m) (hexs_len m hm)
    unfold text8
    split
    · have := hl (nums a) h3
      simp [hexs, h1] at this
      simpa [hexs] using this
    · rename_i hne
      have l1 := hl ((nums a).take f) fun n hn => h3 n (List.mem_of_mem_take hn)
      have l2 := hl ((nums a).drop t) fun n hn => h3 n (List.mem_of_mem_drop hn)
      have hr := hg.room
      simp [hexs, h1] at l1 l2
      simp [hexs]
      omega
theorem text_ne {a : List UInt8} (h : IsA a) : text a ≠ [] := by
  rcases h with h | h
  · rw [text_4 h]
    intro e
    have := text4_dot a h
    rw [e] at this
    simp at this
  · rw [text_16 h]
    unfold text16 text8
    split
    · exact jn_ne _ _ (hexs_ne _) (by intro e; have := congrArg List.length e; simp [hexs, (nums_len a h).1] at this)
    · simp

end Go.Proofs.YtpappmbnblaccaaDoor
