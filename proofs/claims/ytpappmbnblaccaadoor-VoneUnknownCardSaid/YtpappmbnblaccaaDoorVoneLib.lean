/-
  What the library's functions tell that addresses, numbers and lines are made of, in a world whose tables and sentinels stand as they are laid.
-/
import Derived.Test.YtpappmbnblaccaaDoorShelf
import Derived.Test.YtpappmbnblaccaaDoorAddrSpec
import Derived.Lib.AppendIntMem
import Derived.Lib.SmallJoins
namespace Go.Proofs.YtpappmbnblaccaaDoor
open Go.RowKit
set_option linter.unusedVariables false

theorem g_pow : Tryd.prog.globalNamed "internal/strconv.uint64pow10" = some 1 := by kernel_rfl
theorem g_db : Tryd.prog.globalNamed "math/bits.deBruijn64tab" = some 5 := by kernel_rfl

/-- math/bits.deBruijn64tab. -/
def db64 : List Int := [0, 1, 56, 2, 57, 49, 28, 3, 61, 58, 42, 50, 38, 29, 17, 4, 62, 47, 59, 36, 45, 43, 51, 22, 53, 39, 33, 30, 24, 18, 12, 5, 63, 55, 48, 27, 60, 41, 37, 16, 46, 35, 44, 21, 52, 32, 23, 11, 54, 26, 40, 15, 34, 20, 31, 10, 25, 14, 19, 9, 13, 8, 7, 6]

/-- What the row lists, and that a variable of the library's holds a number. -/
structure G17 (w : World) : Prop where
  pow : Lib.TabIs Tryd.prog w "internal/strconv.uint64pow10" .u64 Lib.pow10Tab
  db : Lib.TabIs Tryd.prog w "math/bits.deBruijn64tab" .u8 db64
  mx : ∃ m, w.cell? ⟨0, 0, none⟩ = some (.int .i64 m)
  syn : ∃ te pe, w.cell? ⟨6, 0, none⟩ = some (.iface te pe)
  rng : ∃ te pe, w.cell? ⟨7, 0, none⟩ = some (.iface te pe)

theorem cell_lt {w : World} {a : Addr} {v : Value} (h : w.cell? a = some v) : a.block < w.heap.size := by
  rcases Nat.lt_or_ge a.block w.heap.size with h1 | h1
  · exact h1
  · simp [World.cell?, Array.getElem?_eq_none h1] at h
theorem G17.on {w w' : World} (h : G17 w) (hb : Below w.heap.size w w') : G17 w' := by
  obtain ⟨m, hm⟩ := h.mx
  obtain ⟨t1, p1, h1⟩ := h.syn
  obtain ⟨t2, p2, h2⟩ := h.rng
  exact ⟨Go.Joins.tab_stays g_pow h.pow hb (Nat.le_refl _), Go.Joins.tab_stays g_db h.db hb (Nat.le_refl _), ⟨m, (hb.cell (cell_lt hm)).trans hm⟩, ⟨t1, p1, (hb.cell (cell_lt h1)).trans h1⟩, ⟨t2, p2, (hb.cell (cell_lt h2)).trans h2⟩⟩

theorem itoa_any (n : Nat) (hn : n ≤ 65535) (w : World) (hg : G17 w) : Calls Tryd.prog 19 #[.int .i64 (n : Int)] w (Tells (.string ⟨(digs 10 n).toArray⟩) w) := by
  refine (Tryd.strconv_Itoa (n : Int) (by omega) (by omega) w hg.pow).mono fun e w' ⟨he, k, os, hw⟩ => ?_
  subst hw
  rw [he, Lib.itoa_nonneg, digs_10]
  exact ⟨rfl, Lib.below_grow _ w (Nat.le_refl _) k os⟩

/-- strconv.Atoi: a number and no error; or an error. -/
def AtoiEnd (s : ByteArray) (w : World) (e : Ending) (w' : World) : Prop :=
  (∃ n v, e = .returned (.tuple #[.int .i64 n, v]) ∧ -9223372036854775808 ≤ n ∧ n ≤ 9223372036854775807 ∧ ((v = .nilIface ∧ Lib.atoiAll s.data.toList = .ok n) ∨ ((∃ t p, v = .iface t p) ∧ ∀ m, Lib.atoiAll s.data.toList ≠ .ok m))) ∧ Below w.heap.size w w'
theorem atoi_any (s : ByteArray) (hs : s.size ≤ 100000) (w : World) (hg : G17 w) : Calls Tryd.prog 63 #[.string s] w (AtoiEnd s w) := by
  obtain ⟨t1, p1, h1⟩ := hg.syn
  obtain ⟨t2, p2, h2⟩ := hg.rng
  cases h : Lib.atoiAll s.data.toList with
  | ok v =>
    refine (Tryd.strconv_Atoi_ok s (by omega) v h w).mono fun e w' ⟨he, hw⟩ => ⟨⟨v, _, he, (Lib.atoiAll_bounds h).1, (Lib.atoiAll_bounds h).2, Or.inl ⟨rfl, h⟩⟩, ?_⟩
    rcases hw with rfl | ⟨t, rfl⟩
    · exact Below.refl _ _
    · exact Lib.bytesWorld_below _ _ _
  | «syntax» =>
    exact (Tryd.strconv_Atoi_syntax s (by omega) h _ w h1 (Or.inr ⟨_, _, rfl⟩)).mono fun e w' ⟨N, he, _, _, hb⟩ => ⟨⟨0, _, he, by omega, by omega, Or.inr ⟨⟨_, _, rfl⟩, fun m e => by rw [h] at e; cases e⟩⟩, hb⟩
  | range =>
    exact (Tryd.strconv_Atoi_range s (by omega) h _ w h2 (Or.inr ⟨_, _, rfl⟩)).mono fun e w' ⟨N, he, _, _, hb⟩ => ⟨⟨_, _, he, (Lib.atoiSat_bounds _).1, (Lib.atoiSat_bounds _).2, Or.inr ⟨⟨_, _, rfl⟩, fun m e => by rw [h] at e; cases e⟩⟩, hb⟩

/-- strings.Join. -/
theorem join_any (bk o c : Nat) (xs : List ByteArray) (sep : ByteArray) (w : World) (hcells : ∀ (j : Nat) x, xs[j]? = some x → w.cell? ⟨bk, o + j, none⟩ = some (.string x)) (hbk : bk < w.heap.size) (hN : xs.length ≤ 100) (hcap : xs.length ≤ c)
    (hlen : (Lib.join (xs.map (·.data.toList)) sep.data.toList).length ≤ 100000) :
    Calls Tryd.prog 17 #[.slice (some ⟨bk, o, none⟩) xs.length c, .string sep] w (Tells (.string ⟨(Lib.join (xs.map (·.data.toList)) sep.data.toList).toArray⟩) w) :=
  Tryd.strings_Join bk o c xs sep w hcells hbk (by omega) hcap (by omega)

theorem cut_any (s sep : ByteArray) (hs : s.size ≤ 100000) (w : World) (hg : G17 w) :
    Calls Tryd.prog 82 #[.string s, .string sep] w (Tells (.tuple #[.string ⟨(Lib.cut s.data.toList sep.data.toList).1.toArray⟩, .string ⟨(Lib.cut s.data.toList sep.data.toList).2.1.toArray⟩, .bool (Lib.cut s.data.toList sep.data.toList).2.2]) w) := by
  obtain ⟨m, hm⟩ := hg.mx
  exact (Tryd.strings_Cut s sep m w (by omega) hm).mono fun e w' ⟨he, n, hw⟩ => ⟨he, hw ▸ below_drewN (Below.refl _ _) n⟩

end Go.Proofs.YtpappmbnblaccaaDoor
