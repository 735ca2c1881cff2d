/-
  The document's way of reading an address: what its words are read as. Plain. No Go function is walked here.
-/
import Derived.Test.YtpappmbnblaccaaGreatDoorRef04Plain
namespace Go.Proofs.YtpappmbnblaccaaGreatDoor
set_option linter.unusedVariables false

/-- What a word is read as, of so many. -/
def fillW (L : Nat) (w : List UInt8) : Option (List UInt8) :=
  if w = [] then some (List.replicate (2 * (9 - L)) 0) else match val 16 w with
    | some n => if n ≤ 65535 then some [UInt8.ofNat (n / 256), UInt8.ofNat n] else none
    | none => none
def fill (L : Nat) : List (List UInt8) → Option (List UInt8)
  | [] => some []
  | w :: r => (fillW L w).bind fun x => (fill L r).map (x ++ ·)
theorem fill_append (L : Nat) : ∀ (a b : List (List UInt8)), fill L (a ++ b) = (fill L a).bind fun x => (fill L b).map (x ++ ·)
  | [], b => by simp [fill]
  | w :: a, b => by
    rw [List.cons_append, fill, fill, fill_append L a b]
    cases fillW L w with
    | none => rfl
    | some x =>
      cases fill L a with
      | none => rfl
      | some y =>
        cases fill L b with
        | none => rfl
        | some z => simp
theorem fill_snoc {L : Nat} {a : List (List UInt8)} {w x y : List UInt8} (h1 : fill L a = some x) (h2 : fillW L w = some y) : fill L (a ++ [w]) = some (x ++ y) := by
  rw [fill_append, h1, Option.bind_some, fill, h2]
  simp [fill]
theorem fill_bad {L : Nat} {p : List (List UInt8)} {i : Nat} (hi : i < p.length) (h : fillW L p[i] = none) : fill L p = none := by
  have e : p = p.take i ++ p[i] :: p.drop (i + 1) := by simp
  rw [e, fill_append, fill, h]
  simp
theorem fill_hexs (L : Nat) : ∀ (l : List Nat), (∀ n ∈ l, n ≤ 65535) → fill L (hexs l) = some (unnums l)
  | [], _ => rfl
  | n :: l, h => by
    have hn := h n (by simp)
    have ih := fill_hexs L l fun x hx => h x (List.mem_cons_of_mem _ hx)
    have hw : fillW L (digs 16 n) = some [UInt8.ofNat (n / 256), UInt8.ofNat n] := by
      unfold fillW
      rw [if_neg digs_ne, val_digs (by omega) (by omega) hn]
      simp only
      rw [if_pos hn]
    show fill L (digs 16 n :: hexs l) = _
    rw [fill, hw, Option.bind_some, ih]
    rfl
theorem unnums_append : ∀ (l m : List Nat), unnums (l ++ m) = unnums l ++ unnums m
  | [], m => rfl
  | n :: l, m => by rw [List.cons_append, unnums, unnums, unnums_append l m]; rfl
theorem unnums_zeros : ∀ k, unnums (List.replicate k 0) = List.replicate (2 * k) 0
  | 0 => rfl
  | k + 1 => by
    rw [List.replicate_succ, unnums, unnums_zeros k, show 2 * (k + 1) = 2 * k + 1 + 1 by omega, List.replicate_succ, List.replicate_succ]
    rfl

/-- Of two empty words at the front, or at the end, one goes. -/
def tr1 (p : List (List UInt8)) : List (List UInt8) := if 1 < p.length ∧ p[0]? = some [] ∧ p[1]? = some [] then p.drop 1 else p
def tr2 (p : List (List UInt8)) : List (List UInt8) := if 1 < p.length ∧ p[p.length - 1]? = some [] ∧ p[p.length - 2]? = some [] then p.take (p.length - 1) else p
theorem tr_plain (p : List (List UInt8)) (h : ∀ x ∈ p, x ≠ []) : tr2 (tr1 p) = p := by
  have e1 : tr1 p = p := by
    unfold tr1
    rw [if_neg]
    rintro ⟨_, h1, _⟩
    exact h _ (List.mem_of_getElem? h1) rfl
  rw [e1]
  unfold tr2
  rw [if_neg]
  rintro ⟨_, h1, _⟩
  exact h _ (List.mem_of_getElem? h1) rfl
theorem tr2_end (A B : List (List UInt8)) (hB : B ≠ []) (h : ∀ x ∈ B, x ≠ []) : tr2 (A ++ B) = A ++ B := by
  unfold tr2
  rw [if_neg]
  rintro ⟨_, h1, _⟩
  have hl := List.length_pos_iff.2 hB
  rw [List.getElem?_append_right (by simp; omega)] at h1
  exact h _ (List.mem_of_getElem? h1) rfl
theorem tr_gap (F B : List (List UInt8)) (hF : ∀ x ∈ F, x ≠ []) (hB : ∀ x ∈ B, x ≠ []) :
    tr2 (tr1 ((if F = [] then [[]] else F) ++ [] :: (if B = [] then [[]] else B))) = F ++ [] :: B := by
  by_cases f : F = []
  · subst f
    rw [if_pos rfl]
    have e1 : tr1 ([[]] ++ [] :: (if B = [] then [[]] else B)) = [] :: (if B = [] then [[]] else B) := by
      unfold tr1
      rw [if_pos]
      · rfl
      · exact ⟨by simp, rfl, rfl⟩
    rw [e1]
    by_cases b : B = []
    · subst b; rfl
    · rw [if_neg b]
      exact tr2_end [[]] B b hB
  · rw [if_neg f]
    have e1 : ∀ T, tr1 (F ++ T) = F ++ T := by
      intro T
      unfold tr1
      rw [if_neg]
      rintro ⟨_, h1, _⟩
      have hl := List.length_pos_iff.2 f
      rw [List.getElem?_append_left (by omega)] at h1
      exact hF _ (List.mem_of_getElem? h1) rfl
    rw [e1]
    by_cases b : B = []
    · subst b
      rw [if_pos rfl]
      unfold tr2
      rw [if_pos]
      · have e2 : (F ++ [[], []] : List (List UInt8)) = (F ++ [[]]) ++ [[]] := by simp
        rw [e2, List.take_append_of_le_length (by simp), List.take_of_length_le (by simp)]
      · refine ⟨by simp, ?_, ?_⟩
        · rw [List.getElem?_append_right (by simp)]; simp
        · rw [List.getElem?_append_right (by simp)]; simp
    · rw [if_neg b]
      have e2 : F ++ [] :: B = (F ++ [[]]) ++ B := by simp
      rw [e2]
      exact tr2_end _ B b hB

theorem count_ne (l : List (List UInt8)) (h : ∀ x ∈ l, x ≠ []) : l.count [] = 0 := List.count_eq_zero.2 fun hm => h [] hm rfl
/-- The words of sixteen bytes' text are read as those bytes. -/
theorem fill_text (a : List UInt8) (h : a.length = 16) : fill (tr2 (tr1 (sp 58 (text16 a)))).length (tr2 (tr1 (sp 58 (text16 a)))) = some a ∧ (tr2 (tr1 (sp 58 (text16 a)))).count [] ≤ 1 := by
  obtain ⟨h8, hun, h16⟩ := nums_len a h
  have hg := gap_of _ h8
  have no : ∀ m : List Nat, ∀ x ∈ hexs m, (58 : UInt8) ∉ x := fun m => hexs_no m (by decide)
  unfold text16
  generalize (left0 (nums a) 8).1 = f at *
  generalize (left0 (nums a) 8).2 = t at *
  by_cases hft : f = t
  · have e : sp 58 (text8 (nums a) f t) = hexs (nums a) := by
      unfold text8
      rw [if_pos hft]
      exact sp_jn 58 _ (by rw [Ne, hexs_nil_iff]; intro e; rw [e] at h8; simp at h8) (no _)
    rw [e, tr_plain _ (hexs_ne _), fill_hexs _ _ h16, hun, count_ne _ (hexs_ne _)]
    exact ⟨rfl, by omega⟩
  · rcases hg.room with e | ⟨g1, g2⟩
    · exact absurd e hft
    · have hs : ∀ m : List Nat, sp 58 (jn 58 (hexs m)) = if hexs m = [] then [[]] else hexs m := by
        intro m
        split
        · rename_i hm; rw [hm]; rfl
        · rename_i hm; exact sp_jn 58 _ hm (no m)
      have e : sp 58 (text8 (nums a) f t) = (if hexs ((nums a).take f) = [] then [[]] else hexs ((nums a).take f)) ++ [] :: (if hexs ((nums a).drop t) = [] then [[]] else hexs ((nums a).drop t)) := by
        unfold text8
        rw [if_neg hft, List.append_assoc]
        show sp 58 (jn 58 (hexs ((nums a).take f)) ++ 58 :: (58 :: jn 58 (hexs ((nums a).drop t)))) = _
        rw [sp_at, hs]
        congr 1
        show (if (58 : UInt8) = 58 then [] :: sp 58 (jn 58 (hexs ((nums a).drop t))) else _) = _
        rw [if_pos rfl, hs]
      rw [e, tr_gap _ _ (hexs_ne _) (hexs_ne _)]
      constructor
      · have hl : (hexs ((nums a).take f) ++ [] :: hexs ((nums a).drop t)).length = f + 1 + (8 - t) := by simp [hexs, h8]; omega
        rw [hl, fill_append, fill_hexs _ _ (fun n hn => h16 n (List.mem_of_mem_take hn)), Option.bind_some, fill]
        have e0 : fillW (f + 1 + (8 - t)) [] = some (List.replicate (2 * (t - f)) 0) := by
          unfold fillW
          rw [if_pos rfl]
          congr 2
          omega
        rw [e0, Option.bind_some, fill_hexs _ _ (fun n hn => h16 n (List.mem_of_mem_drop hn)), Option.map_some, Option.map_some]
        have hr := hg.row hft
        rw [← unnums_zeros, ← unnums_append, ← unnums_append, ← List.append_assoc, ← hr, hun]
      · rw [List.count_append, List.count_cons_self, count_ne _ (hexs_ne _), count_ne _ (hexs_ne _)]
        omega
theorem sp_dot16 (a : List UInt8) : (sp 46 (text16 a)).length = 1 := by rw [sp_word 46 _ (text16_nodot a)]; rfl
/-- A text whose words are four numbers is an address's. -/
theorem text4_of {s : List UInt8} {bs : List UInt8} (h : sp 46 s = bs.map fun c => digs 10 c.toNat) : s = text4 bs := by
  rw [← jn_sp 46 s, h]
  rfl

end Go.Proofs.YtpappmbnblaccaaGreatDoor
