/-
  What each Mode gets; modeOf. (Written by wip/tools/genunwrap.py.)
-/
import Derived.Test.YtmghdgkdnacinaaDoorTunnelSize
import Derived.Test.YtmghdgkdnacinaaDoorGreB
import Derived.Test.YtmghdgkdnacinaaDoorGueB
import Derived.Test.YtmghdgkdnacinaaDoorIp4A
namespace Go.Proofs.YtmghdgkdnacinaaDoor
open Go.RowKit
set_option linter.unusedVariables false
set_option linter.unusedSimpArgs false

theorem of14_ways (p : Int) : (p = 4 ∨ p = 41) ∧ of14 p = .ipip ∨ p ≠ 4 ∧ p ≠ 41 ∧ (p = 47 ∧ of14 p = .gre ∨ p ≠ 47 ∧ (p = 17 ∧ of14 p = .gue ∨ p ≠ 17 ∧ of14 p = .none)) := by
  unfold of14
  by_cases h : p = 4 ∨ p = 41
  · exact Or.inl ⟨h, if_pos h⟩
  · rw [if_neg h]
    refine Or.inr ⟨by omega, by omega, ?_⟩
    by_cases h1 : p = 47
    · exact Or.inl ⟨h1, if_pos h1⟩
    · rw [if_neg h1]
      refine Or.inr ⟨h1, ?_⟩
      by_cases h2 : p = 17
      · exact Or.inl ⟨h2, if_pos h2⟩
      · exact Or.inr ⟨h2, if_neg h2⟩
set_option maxHeartbeats 1000000 in
theorem modeOf14_any (p : Int) (w : World) : Calls Tryd.prog 17 #[.int .i64 p] w (fun e w' => e = .returned (.int .i64 (of14 p).num) ∧ w' = w) := by
  rcases of14_ways p with ⟨h | h, he⟩ | ⟨h4, h41, ⟨h, he⟩ | ⟨h47, ⟨h, he⟩ | ⟨h, he⟩⟩⟩
  · rw [he]; subst h; clear he
    go_enter Tryd.func17, Tryd.ntmps17
    go_wp2_with fail
    go_ret
    exact ⟨rfl, rfl⟩
  · rw [he]; subst h; clear he
    go_enter Tryd.func17, Tryd.ntmps17
    go_wp2_with fail
    go_ret
    exact ⟨rfl, rfl⟩
  · rw [he]; subst h; clear he h4 h41
    go_enter Tryd.func17, Tryd.ntmps17
    go_wp2_with fail
    go_ret
    exact ⟨rfl, rfl⟩
  · rw [he]; subst h; clear he h4 h41 h47
    go_enter Tryd.func17, Tryd.ntmps17
    go_wp2_with fail
    go_ret
    exact ⟨rfl, rfl⟩
  · rw [he]
    have t1 : (p == 4) = false := by simp; omega
    have t2 : (p == 41) = false := by simp; omega
    have t3 : (p == 47) = false := by simp; omega
    have t4 : (p == 17) = false := by simp; omega
    clear he h4 h41 h47 h
    go_enter Tryd.func17, Tryd.ntmps17
    go_wp2_with fail
    go_ret
    exact ⟨rfl, rfl⟩

/-- A header's block, what is told's, and the tables. -/
structure Gt14 (w W : World) (h : H4) (xs : Array Value) : Prop where
  hb : Blk W w.heap.size h.cells 52
  mb : Blk W (w.heap.size + 1) xs 59
  gl : Gl13 w W
theorem Gt14.below {w W W' : World} {h : H4} {xs : Array Value} (r : Gt14 w W h xs) (hb : Below W.heap.size W W') : Gt14 w W' h xs :=
  ⟨(hb.block _ r.hb.lt).trans r.hb, (hb.block _ r.mb.lt).trans r.mb, r.gl.below hb⟩
theorem Gt14.new (w : World) (h : H4) (hv : Vers w) (hp : Places w) : Gt14 w ((w.alloc (.cells h.cells 52)).alloc (.cells #[.int .i64 0, .bool false, .bool false, .int .u32 0, .bool false, .int .i64 0, .int .i64 0, .int .i64 0, .string ⟨#[]⟩] 59)) h #[.int .i64 0, .bool false, .bool false, .int .u32 0, .bool false, .int .i64 0, .int .i64 0, .int .i64 0, .string ⟨#[]⟩] :=
  ⟨(Blk.new _ _ _).alloc _, bare14 _ _ _ _ _, ((Gl13.new hv hp).alloc _).alloc _⟩
theorem Gt14.alloc {w W : World} {h : H4} {xs : Array Value} (r : Gt14 w W h xs) (o : Obj) : Gt14 w (W.alloc o) h xs := r.below ((Below.refl _ _).alloc (Nat.le_refl _) o)
/-- Cells of what is told. -/
structure Pc14 (u : World) (B : Nat) (a b c d e f g h i : Value) : Prop where
  c0 : u.cell? ⟨B, 0, none⟩ = some a
  c1 : u.cell? ⟨B, 1, none⟩ = some b
  c2 : u.cell? ⟨B, 2, none⟩ = some c
  c3 : u.cell? ⟨B, 3, none⟩ = some d
  c4 : u.cell? ⟨B, 4, none⟩ = some e
  c5 : u.cell? ⟨B, 5, none⟩ = some f
  c6 : u.cell? ⟨B, 6, none⟩ = some g
  c7 : u.cell? ⟨B, 7, none⟩ = some h
  c8 : u.cell? ⟨B, 8, none⟩ = some i
theorem Pc14.of {u : World} {B : Nat} {a b c d e f g h i : Value} {T : TypeId} (hb : Blk u B #[a, b, c, d, e, f, g, h, i] T) : Pc14 u B a b c d e f g h i :=
  ⟨hb.cell 0, hb.cell 1, hb.cell 2, hb.cell 3, hb.cell 4, hb.cell 5, hb.cell 6, hb.cell 7, hb.cell 8⟩

set_option maxRecDepth 100000 in
set_option maxHeartbeats 1000000 in
theorem get14_ipip (h : H4) (s : ByteArray) (w : World) (hv : Vers w) (hp : Places w) :
    Calls Tryd.prog 22 #[.agg h.cells, .string s] w (Tells (.tuple #[.agg (P14.mk false false 0 0 (get11S h.proto s)).cells, .int .i64 (get11E h.proto s)]) w) := by
  have S0 := Lib.hid (Gt14.new w h hv hp)
  have HP := Lib.hid (fun W hv => get11_any h.proto s W hv)
  unfold Tells P14.cells at *
  simp only at *
  clear hv hp
  generalize get11S h.proto s = S at *
  generalize get11E h.proto s = E at *
  obtain ⟨tos, id, off, ttl, proto, df, mf, src, dst, opt⟩ := h
  unfold H4.cells at S0 ⊢
  simp only at S0 HP ⊢
  go_enter Tryd.func22, Tryd.ntmps22
  go_wp2_with fail
  refine (HP.out _ S0.out.gl.vs).mono ?_
  rintro e w1 ⟨rfl, hb⟩
  have S1 := Lib.hid (S0.out.below hb)
  clear hb S0 HP
  have B2 := S1.out.mb.row #[.int .i64 0, .bool false, .bool false, .int .u32 0, .bool false, .int .i64 0, .int .i64 0, .int .i64 0, .string S]
  have L2 := below_row S1.out.gl.bel (Nat.le_succ w.heap.size) #[.int .i64 0, .bool false, .bool false, .int .u32 0, .bool false, .int .i64 0, .int .i64 0, .int .i64 0, .string S]
  go_wp2_with (refine wpList_store_row rfl 59 (.tmp 4) (.tmp 16) rfl (w.heap.size + 1) #[.int .i64 0, .bool false, .bool false, .int .u32 0, .bool false, .int .i64 0, .int .i64 0, .int .i64 0, .string S] rfl rfl 59 #[.int .i64 0, .bool false, .bool false, .int .u32 0, .bool false, .int .i64 0, .int .i64 0, .int .i64 0, .string ⟨#[]⟩] S1.out.mb (by kernel_rfl) rfl (by simp; (repeat' apply And.intro); all_goals rfl) ?_; generalize w1.setRow (w.heap.size + 1) #[.int .i64 0, .bool false, .bool false, .int .u32 0, .bool false, .int .i64 0, .int .i64 0, .int .i64 0, .string S] = W2 at *)
  have ⟨c0, c1, c2, c3, c4, c5, c6, c7, c8⟩ := Pc14.of B2
  refine ⟨rfl, .tuple #[.agg #[.int .i64 0, .bool false, .bool false, .int .u32 0, .bool false, .int .i64 0, .int .i64 0, .int .i64 0, .string S], .int .i64 E], ?_, rfl, L2⟩
  simp [results, Tryd.results22, go_sem, c0, c1, c2, c3, c4, c5, c6, c7, c8]

set_option maxRecDepth 100000 in
set_option maxHeartbeats 1000000 in
theorem get14_gre (h : H4) (s : ByteArray) (w : World) (hv : Vers w) (hp : Places w) (hs : s.size ≤ 900000) :
    Calls Tryd.prog 29 #[.agg h.cells, .string s] w (Tells (.tuple #[.agg (P14.mk (get12H s).sum (get12H s).key (get12H s).v 0 (get12S s)).cells, .int .i64 (get12E s : Nat)]) w) := by
  have S0 := Lib.hid (Gt14.new w h hv hp)
  have HP := Lib.hid (fun W hv => get12_any s W hv (by omega))
  unfold Tells P14.cells at *
  simp only at *
  clear hv hp hs
  generalize get12S s = S at *
  generalize get12E s = E at *
  generalize get12H s = G at *
  obtain ⟨sum, key, v⟩ := G
  unfold H12.cells at HP
  try simp only at HP
  obtain ⟨tos, id, off, ttl, proto, df, mf, src, dst, opt⟩ := h
  unfold H4.cells at S0 ⊢
  simp only at S0 HP ⊢
  go_enter Tryd.func29, Tryd.ntmps29
  go_wp2_with fail
  refine (HP.out _ S0.out.gl.vs).mono ?_
  rintro e w1 ⟨rfl, hb⟩
  have S1 := Lib.hid ((S0.out.below hb).alloc (.cells #[.bool sum, .bool key, .int .u32 (v : Nat)] 66))
  clear hb S0 HP
  have B2 := S1.out.mb.row #[.int .i64 0, .bool sum, .bool key, .int .u32 (v : Nat), .bool false, .int .i64 0, .int .i64 0, .int .i64 0, .string S]
  have L2 := below_row S1.out.gl.bel (Nat.le_succ w.heap.size) #[.int .i64 0, .bool sum, .bool key, .int .u32 (v : Nat), .bool false, .int .i64 0, .int .i64 0, .int .i64 0, .string S]
  go_wp2_with (refine wpList_store_row rfl 59 (.tmp 4) (.tmp 23) rfl (w.heap.size + 1) #[.int .i64 0, .bool sum, .bool key, .int .u32 (v : Nat), .bool false, .int .i64 0, .int .i64 0, .int .i64 0, .string S] rfl rfl 59 #[.int .i64 0, .bool false, .bool false, .int .u32 0, .bool false, .int .i64 0, .int .i64 0, .int .i64 0, .string ⟨#[]⟩] S1.out.mb (by kernel_rfl) rfl (by simp; (repeat' apply And.intro); all_goals rfl) ?_; generalize (w1.alloc (.cells #[.bool sum, .bool key, .int .u32 (v : Nat)] 66)).setRow (w.heap.size + 1) #[.int .i64 0, .bool sum, .bool key, .int .u32 (v : Nat), .bool false, .int .i64 0, .int .i64 0, .int .i64 0, .string S] = W2 at *)
  have ⟨c0, c1, c2, c3, c4, c5, c6, c7, c8⟩ := Pc14.of B2
  refine ⟨rfl, .tuple #[.agg #[.int .i64 0, .bool sum, .bool key, .int .u32 (v : Nat), .bool false, .int .i64 0, .int .i64 0, .int .i64 0, .string S], .int .i64 (E : Nat)], ?_, rfl, L2⟩
  simp [results, Tryd.results29, go_sem, c0, c1, c2, c3, c4, c5, c6, c7, c8]

set_option maxRecDepth 100000 in
set_option maxHeartbeats 1000000 in
theorem get14_gue (h : H4) (s : ByteArray) (w : World) (hv : Vers w) (hp : Places w) (h1 : h.src.size ≤ 400000) (h2 : h.dst.size ≤ 400000) (hs : s.size ≤ 900000) :
    Calls Tryd.prog 34 #[.agg h.cells, .string s] w (Tells (.tuple #[.agg (P14.mk (get13H h.src h.dst s).sum false 0 (get13H h.src h.dst s).port (get13S h.src h.dst s)).cells, .int .i64 (get13E h.src h.dst s : Nat)]) w) := by
  have S0 := Lib.hid (Gt14.new w h hv hp)
  have HP := Lib.hid (fun W hv => get13_any h.src h.dst s W hv h1 h2 hs)
  unfold Tells P14.cells at *
  simp only at *
  clear hv hp hs h1 h2
  generalize get13S h.src h.dst s = S at *
  generalize get13E h.src h.dst s = E at *
  generalize get13H h.src h.dst s = G at *
  obtain ⟨port, sum⟩ := G
  unfold H13.cells at HP
  try simp only at HP
  obtain ⟨tos, id, off, ttl, proto, df, mf, src, dst, opt⟩ := h
  unfold H4.cells at S0 ⊢
  simp only at S0 HP ⊢
  go_enter Tryd.func34, Tryd.ntmps34
  go_wp2_with fail
  refine (HP.out _ S0.out.gl.vs).mono ?_
  rintro e w1 ⟨rfl, hb⟩
  have S1 := Lib.hid ((S0.out.below hb).alloc (.cells #[.int .i64 port, .bool sum] 73))
  clear hb S0 HP
  have B2 := S1.out.mb.row #[.int .i64 0, .bool sum, .bool false, .int .u32 0, .bool false, .int .i64 0, .int .i64 0, .int .i64 port, .string S]
  have L2 := below_row S1.out.gl.bel (Nat.le_succ w.heap.size) #[.int .i64 0, .bool sum, .bool false, .int .u32 0, .bool false, .int .i64 0, .int .i64 0, .int .i64 port, .string S]
  go_wp2_with (refine wpList_store_row rfl 59 (.tmp 4) (.tmp 25) rfl (w.heap.size + 1) #[.int .i64 0, .bool sum, .bool false, .int .u32 0, .bool false, .int .i64 0, .int .i64 0, .int .i64 port, .string S] rfl rfl 59 #[.int .i64 0, .bool false, .bool false, .int .u32 0, .bool false, .int .i64 0, .int .i64 0, .int .i64 0, .string ⟨#[]⟩] S1.out.mb (by kernel_rfl) rfl (by simp; (repeat' apply And.intro); all_goals rfl) ?_; generalize (w1.alloc (.cells #[.int .i64 port, .bool sum] 73)).setRow (w.heap.size + 1) #[.int .i64 0, .bool sum, .bool false, .int .u32 0, .bool false, .int .i64 0, .int .i64 0, .int .i64 port, .string S] = W2 at *)
  have ⟨c0, c1, c2, c3, c4, c5, c6, c7, c8⟩ := Pc14.of B2
  refine ⟨rfl, .tuple #[.agg #[.int .i64 0, .bool sum, .bool false, .int .u32 0, .bool false, .int .i64 0, .int .i64 0, .int .i64 port, .string S], .int .i64 (E : Nat)], ?_, rfl, L2⟩
  simp [results, Tryd.results34, go_sem, c0, c1, c2, c3, c4, c5, c6, c7, c8]

theorem getM14_any (m : M14) (hm : m.is = true) (h : H4) (s : ByteArray) (w : World) (hv : Vers w) (hp : Places w) (h1 : h.src.size ≤ 400000) (h2 : h.dst.size ≤ 400000) (hs : s.size ≤ 900000) :
    Calls Tryd.prog m.nG #[.agg h.cells, .string s] w (Tells (.tuple #[.agg (m.get h s).cells, .int .i64 (m.getE h s)]) w) := by
  cases m with
  | none => exact absurd hm (by decide)
  | ipip => exact get14_ipip h s w hv hp
  | gre => exact get14_gre h s w hv hp hs
  | gue => exact get14_gue h s w hv hp h1 h2 hs

end Go.Proofs.YtmghdgkdnacinaaDoor
