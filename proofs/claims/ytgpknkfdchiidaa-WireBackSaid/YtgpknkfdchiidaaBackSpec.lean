/-
  What is written is read by the like calls as it was: the plain facts.
-/
import Derived.Test.YtgpknkfdchiidaaReadDo
import Derived.Test.YtgpknkfdchiidaaWriter5
namespace Go.Proofs.Ytgpknkfdchiidaa
set_option linter.unusedVariables false

/-- A call as it is written and read back. -/
def norm (c : CallD) : CallD :=
  if c.kind = 0 then ⟨c.kind, c.k, c.n % 256, c.s⟩ else if c.kind = 1 then ⟨c.kind, c.k, c.n % 65536, c.s⟩ else if c.kind = 2 then ⟨c.kind, c.k, c.n % 4294967296, c.s⟩ else if c.kind = 3 then c else ⟨4, c.s.size, c.n, c.s⟩
theorem norm_0 (c : CallD) (h : c.kind = 0) : norm c = ⟨c.kind, c.k, c.n % 256, c.s⟩ := if_pos h
theorem norm_1 (c : CallD) (h : c.kind = 1) : norm c = ⟨c.kind, c.k, c.n % 65536, c.s⟩ := by unfold norm; rw [if_neg (by omega), if_pos h]
theorem norm_2 (c : CallD) (h : c.kind = 2) : norm c = ⟨c.kind, c.k, c.n % 4294967296, c.s⟩ := by unfold norm; rw [if_neg (by omega), if_neg (by omega), if_pos h]
theorem norm_3 (c : CallD) (h : c.kind = 3) : norm c = c := by unfold norm; rw [if_neg (by omega), if_neg (by omega), if_neg (by omega), if_pos h]
theorem norm_4 (c : CallD) (h0 : c.kind ≠ 0) (h1 : c.kind ≠ 1) (h2 : c.kind ≠ 2) (h3 : c.kind ≠ 3) : norm c = ⟨4, c.s.size, c.n, c.s⟩ := by unfold norm; rw [if_neg h0, if_neg h1, if_neg h2, if_neg h3]

/-- A call that is such a one. -/
def Normal (c : CallD) : Prop := (0 ≤ c.kind ∧ c.kind ≤ 3 ∧ c.n < 256 ^ sizeOf' c.kind) ∨ (c.kind = 4 ∧ c.k = c.s.size)

theorem norm_normal (c : CallD) (h : c.n < 18446744073709551616) : Normal (norm c) := by
  by_cases h0 : c.kind = 0
  · rw [norm_0 c h0]; exact Or.inl ⟨by show 0 ≤ c.kind; omega, by show c.kind ≤ 3; omega, by show c.n % 256 < 256 ^ sizeOf' c.kind; rw [size_0 _ h0]; omega⟩
  by_cases h1 : c.kind = 1
  · rw [norm_1 c h1]; exact Or.inl ⟨by show 0 ≤ c.kind; omega, by show c.kind ≤ 3; omega, by show c.n % 65536 < 256 ^ sizeOf' c.kind; rw [size_1 _ h1]; omega⟩
  by_cases h2 : c.kind = 2
  · rw [norm_2 c h2]; exact Or.inl ⟨by show 0 ≤ c.kind; omega, by show c.kind ≤ 3; omega, by show c.n % 4294967296 < 256 ^ sizeOf' c.kind; rw [size_2 _ h2]; omega⟩
  by_cases h3 : c.kind = 3
  · rw [norm_3 c h3]; exact Or.inl ⟨by omega, by omega, by rw [size_3 _ h3]; omega⟩
  · rw [norm_4 c h0 h1 h2 h3]; exact Or.inr ⟨rfl, rfl⟩
theorem norm_n (c : CallD) (h : c.n < 18446744073709551616) : (norm c).n < 18446744073709551616 := by
  unfold norm
  split
  · show c.n % 256 < _; omega
  split
  · show c.n % 65536 < _; omega
  split
  · show c.n % 4294967296 < _; omega
  split
  · exact h
  · exact h
theorem norm_s (c : CallD) : (norm c).s = c.s := by
  unfold norm
  split; rfl
  split; rfl
  split; rfl
  split; rfl
  rfl
theorem tot_norm (C : Nat → CallD) : ∀ j, tot (fun i => norm (C i)) j = tot C j
  | 0 => rfl
  | j + 1 => by simp only [tot, norm_s, tot_norm C j]

theorem val_be (n : Nat) : ∀ z, val (be n z) = n % 256 ^ z
  | 0 => by simp [be, val, Nat.mod_one]
  | z + 1 => by
    -- the last byte is split off
    have e : be n (z + 1) = be (n / 256) z ++ [UInt8.ofNat (n % 256)] := by
      unfold be
      rw [List.range_succ, List.map_append]
      congr 1
      · apply List.map_congr_left
        intro i hi
        have hi' : i < z := List.mem_range.1 hi
        have : z + 1 - 1 - i = (z - 1 - i) + 1 := by omega
        rw [this, Nat.pow_succ, Nat.mul_comm, ← Nat.div_div_eq_div_mul]
      · simp
    rw [e, val_snoc, val_be (n / 256) z, UInt8.toNat_ofNat']
    have h1 := Nat.div_add_mod n 256
    have h2 : n % 256 ^ (z + 1) = 256 * (n / 256 % 256 ^ z) + n % 256 := by
      rw [Nat.pow_succ, Nat.mul_comm (256 ^ z) 256, Nat.mod_mul]
      omega
    rw [h2]
    have : n % 256 % 2 ^ 8 = n % 256 := by omega
    rw [this]
    omega

/-- Where the j-th piece begins. -/
def offs (D : Nat → CallD) (j : Nat) : Nat := (pieces D j).length
theorem offs_succ (D : Nat → CallD) (j : Nat) : offs D (j + 1) = offs D j + (piece (D j)).length := by simp [offs, pieces]
theorem offs_mono (D : Nat → CallD) (i j : Nat) (h : i ≤ j) : offs D i ≤ offs D j := by
  induction j with
  | zero => rw [show i = 0 by omega]; exact Nat.le_refl _
  | succ m ih =>
    by_cases e : i = m + 1
    · subst e; exact Nat.le_refl _
    · have := ih (by omega); rw [offs_succ]; omega

theorem pieces_split (D : Nat → CallD) (j len : Nat) (h : j < len) : ∃ r, pieces D len = pieces D j ++ piece (D j) ++ r := by
  induction len with
  | zero => omega
  | succ m ih =>
    by_cases e : j = m
    · subst e; exact ⟨[], by simp [pieces]⟩
    · obtain ⟨r, hr⟩ := ih (by omega)
      exact ⟨r ++ piece (D m), by simp [pieces, hr]⟩

/-- A text that is the first c bytes of what was written. -/
def Cut (D : Nat → CallD) (len c : Nat) (T : ByteArray) : Prop := T.data.toList = (pieces D len).take c ∧ c ≤ offs D len

theorem Cut.size {D : Nat → CallD} {len c : Nat} {T : ByteArray} (h : Cut D len c T) : T.size = c := by
  have e : T.size = T.data.toList.length := by simp
  rw [e, h.1, List.length_take]
  have := h.2
  unfold offs at this
  omega

theorem extract_list (T : ByteArray) (i j : Nat) : (T.extract i j).data.toList = (T.data.toList.take j).drop i := by
  rw [ByteArray.data_extract]
  simp [Array.toList_extract, List.extract_eq_take_drop, List.drop_take]

theorem Cut.piece {D : Nat → CallD} {len c : Nat} {T : ByteArray} (h : Cut D len c T) (j : Nat) (hj : j < len) (hc : offs D (j + 1) ≤ c) : (T.extract (offs D j) (offs D (j + 1))).data.toList = piece (D j) := by
  obtain ⟨r, hr⟩ := pieces_split D j len hj
  rw [extract_list, h.1, List.take_take, Nat.min_eq_left hc, hr, offs_succ]
  have e : (pieces D j ++ _root_.Go.Proofs.Ytgpknkfdchiidaa.piece (D j) ++ r).take (offs D j + (_root_.Go.Proofs.Ytgpknkfdchiidaa.piece (D j)).length) = pieces D j ++ _root_.Go.Proofs.Ytgpknkfdchiidaa.piece (D j) := by
    rw [List.take_append_of_le_length (by simp [offs])]
    exact List.take_of_length_le (by simp [offs])
  rw [e]
  exact List.drop_left' rfl

/-- The answer that is right. -/
def good (D : Nat → CallD) (c i : Nat) : AnsD := ⟨if (D i).kind ≤ 3 then (D i).n else 0, if (D i).kind ≤ 3 then ⟨#[]⟩ else (D i).s, offs D (i + 1), c - offs D (i + 1)⟩

theorem piece_len (c : CallD) (h : Normal c) : (piece c).length = if c.kind ≤ 3 then sizeOf' c.kind else c.s.size := by
  rcases h with ⟨h0, h3, _⟩ | ⟨h4, _⟩
  · rw [piece_num c h0 h3, be_length, if_pos h3]
  · rw [piece_str c (by omega), if_neg (by omega)]; simp

theorem bytes_eq {a b : ByteArray} (h : a.data.toList = b.data.toList) : a = b := by
  apply ByteArray.ext
  exact Array.toList_inj.1 h

theorem step_good {D : Nat → CallD} {len c : Nat} {T : ByteArray} (h : Cut D len c T) (j : Nat) (hj : j < len) (hn : Normal (D j)) (hc : offs D (j + 1) ≤ c) : step T (D j) (offs D j) = .ans (good D c j) := by
  have hp := h.piece j hj hc
  have hs := h.size
  have hl := piece_len (D j) hn
  have ho := offs_succ D j
  rcases hn with ⟨h0, h3, hlt⟩ | ⟨h4, hk⟩
  · rw [if_pos h3] at hl
    rw [hl] at ho
    rw [step_num T (D j) (offs D j) (sizeOf' (D j).kind) h0 h3 rfl (by omega)]
    unfold good
    rw [if_pos h3, if_pos h3, ho, hs]
    congr 2
    unfold numOf
    rw [← ho, hp, piece_num _ h0 h3, val_be, Nat.mod_eq_of_lt hlt]
  · have h3 : ¬ (D j).kind ≤ 3 := by omega
    rw [if_neg h3] at hl
    rw [hl] at ho
    have e : offs D j + (D j).k.toNat = offs D (j + 1) := by rw [ho, hk]; omega
    rw [step_take T (D j) (offs D j) h4 (by omega) (by omega), e]
    unfold good
    rw [if_neg h3, if_neg h3, hs]
    congr 2
    apply bytes_eq
    rw [hp, piece_str _ (by omega)]

theorem step_bad {D : Nat → CallD} {len c : Nat} {T : ByteArray} (h : Cut D len c T) (j : Nat) (hn : Normal (D j)) (h0 : offs D j ≤ c) (hc : c < offs D (j + 1)) : step T (D j) (offs D j) = .stop 2 := by
  have hs := h.size
  have hl := piece_len (D j) hn
  have ho := offs_succ D j
  rcases hn with ⟨k0, h3, hlt⟩ | ⟨h4, hk⟩
  · rw [if_pos h3] at hl
    exact step_num_no T (D j) (offs D j) (sizeOf' (D j).kind) k0 h3 rfl (by omega)
  · rw [if_neg (by omega)] at hl
    exact step_take_no T (D j) (offs D j) h4 (Or.inr (by omega))

theorem st_good {D : Nat → CallD} {len c : Nat} {T : ByteArray} (h : Cut D len c T) (hn : ∀ i, Normal (D i)) : ∀ j, j ≤ len → offs D j ≤ c → st T D j = ⟨(List.range j).map (good D c), offs D j, none⟩
  | 0, _, _ => by simp [st, offs, pieces]
  | j + 1, hj, hc => by
    have hm := offs_mono D j (j + 1) (by omega)
    have ih := st_good h hn j (by omega) (by omega)
    have := st_ans (s := T) (C := D) (j := j) (a := good D c j) (by rw [ih]) (by rw [ih]; exact step_good h j (by omega) (hn j) hc)
    rw [this, ih, List.range_succ, List.map_append]
    rfl

/-- All of it. -/
theorem st_whole {D : Nat → CallD} {len : Nat} {T : ByteArray} (h : Cut D len (offs D len) T) (hn : ∀ i, Normal (D i)) : st T D len = ⟨(List.range len).map (good D (offs D len)), offs D len, none⟩ :=
  st_good h hn len (Nat.le_refl _) (Nat.le_refl _)

/-- Cut short. -/
theorem st_cut {D : Nat → CallD} {len c : Nat} {T : ByteArray} (h : Cut D len c T) (hn : ∀ i, Normal (D i)) (hc : c < offs D len) : ∃ m, m < len ∧ st T D len = ⟨(List.range m).map (good D c), offs D m, some 2⟩ := by
  have : ∃ m, m < len ∧ offs D m ≤ c ∧ c < offs D (m + 1) := by
    clear h
    induction len with
    | zero => simp [offs, pieces] at hc
    | succ m ih =>
      by_cases e : c < offs D m
      · obtain ⟨q, h1, h2⟩ := ih e
        exact ⟨q, by omega, h2⟩
      · exact ⟨m, by omega, by omega, hc⟩
  obtain ⟨m, hm, h1, h2⟩ := this
  have hg := st_good h hn m (by omega) h1
  refine ⟨m, hm, ?_⟩
  rw [st_end (s := T) (C := D) (j := m) (e := 2) (by rw [hg]) (by rw [hg]; exact step_bad h m (hn m) h1 h2) hm, hg]

theorem cut_whole (D : Nat → CallD) (len : Nat) : Cut D len (offs D len) ⟨(pieces D len).toArray⟩ := ⟨by simp [offs], Nat.le_refl _⟩
theorem cut_part (D : Nat → CallD) (len c : Nat) (hc : c ≤ offs D len) : Cut D len c ((⟨(pieces D len).toArray⟩ : ByteArray).extract 0 c) := ⟨by rw [extract_list]; simp, hc⟩


/-- A call's cells. -/
def callCell (c : CallD) : List Value := [.int .i64 c.kind, .int .i64 c.k, .int .u64 c.n, .string c.s]
def callCells (D : Nat → CallD) (n : Nat) : List Value := (List.range n).flatMap fun i => callCell (D i)
theorem callCells_succ (D : Nat → CallD) (n : Nat) : callCells D (n + 1) = callCells D n ++ callCell (D n) := by simp [callCells, List.range_succ]
theorem callCells_length (D : Nat → CallD) : ∀ n, (callCells D n).length = n * 4
  | 0 => rfl
  | n + 1 => by rw [callCells_succ, List.length_append, callCells_length D n]; simp [callCell]; omega
theorem callCells_at (D : Nat → CallD) : ∀ (n i j : Nat) (hi : i < n) (hj : j < 4), (callCells D n)[i * 4 + j]? = (callCell (D i))[j]?
  | n + 1, i, j, hi, hj => by
    rw [callCells_succ]
    by_cases e : i = n
    · subst e
      rw [List.getElem?_append_right (by rw [callCells_length]; omega), callCells_length]
      congr 1
      omega
    · rw [List.getElem?_append_left (by rw [callCells_length]; omega)]
      exact callCells_at D n i j (by omega) hj

/-- A list of calls that is owned, as calls in memory. -/
theorem own_calls {w : World} {B n : Nat} {v : Value} {D : Nat → CallD} (h : w.ownsRow B 43 4 v n (callCells D n)) : ∃ a c, v = .slice a n c ∧ CallsAt w w.heap.size a n D := by
  have hc := h.2
  rcases hc with ⟨rfl, h0⟩ | ⟨g, cap, cur, rfl, _⟩
  · subst h0; exact ⟨_, _, rfl, Or.inl rfl⟩
  · refine ⟨_, _, rfl, Or.inr ⟨g, 0, rfl, (h.lt g rfl).2, fun i hi => ?_⟩⟩
    have hh := h.cells (g := g) rfl
    have hx : ∀ j x, j < 4 → (callCell (D i))[j]? = some x → w.cell? ⟨g, 0 + i * 4 + j, none⟩ = some x := fun j x hj hx => by
      have := hh (i * 4 + j) x (by rw [callCells_at D n i j hi hj]; exact hx)
      rw [addr_add] at this
      rw [Nat.zero_add]; exact this
    exact ⟨hx 0 _ (by omega) rfl, hx 1 _ (by omega) rfl, hx 2 _ (by omega) rfl, hx 3 _ (by omega) rfl⟩

end Go.Proofs.Ytgpknkfdchiidaa
