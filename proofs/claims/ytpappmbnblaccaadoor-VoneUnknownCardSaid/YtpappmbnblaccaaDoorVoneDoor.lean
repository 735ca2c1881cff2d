/-
  What the rows of layer 17 list: from the condition to what the walks ask; a start that meets it; the wrap of a row that lists variables, the world's shape kept.
-/
import Derived.Test.YtpappmbnblaccaaDoorVoneLib
import Derived.Test.YtpappmbnblaccaaDoorTie
import Derived.Lib.LaidTab
import Derived.Stop.LaidErr
import Derived.Stop.Joined
import Derived.Shelf.Vars
import Derived.LaidMore
import Derived.Lay
import Derived.OpenShut
import Derived.ProofKit
namespace Go.Proofs.YtpappmbnblaccaaDoor
open Go.ChangeShapes Go.WideShapes Go.ChangeAt Go.RowKit
set_option linter.unusedVariables false

def laid17 {H : Type} : List (String × DataW H) := [("math/bits.deBruijn32tab", Rows.laid_math_bits_deBruijn32tab), ("math/bits.deBruijn64tab", Rows.laid_math_bits_deBruijn64tab), ("internal/strconv.uint64pow10", Rows.laid_internal_strconv_uint64pow10), ("unicode/utf8.acceptRanges", Rows.laid_unicode_utf8_acceptRanges), ("strconv.ErrRange", Rows.laid_strconv_ErrRange), ("strconv.ErrSyntax", Rows.laid_strconv_ErrSyntax)]
def laid17u : List (String × DataW Unit) := laid17 ++ [("unicode/utf8.first", Rows.laid_unicode_utf8_first)]

theorem gES17 : Tryd.prog.globalNamed "strconv.ErrSyntax" = some 6 := by kernel_rfl
theorem gER17 : Tryd.prog.globalNamed "strconv.ErrRange" = some 7 := by kernel_rfl
theorem tES17 : (Tryd.prog.globals[6]?).map (·.type) = some 59 := by kernel_rfl
theorem tER17 : (Tryd.prog.globals[7]?).map (·.type) = some 59 := by kernel_rfl
theorem tPow17 : (Tryd.prog.globals[1]?).map (·.type) = some 96 := by kernel_rfl
theorem tDb17 : (Tryd.prog.globals[5]?).map (·.type) = some 124 := by kernel_rfl
theorem cErr17 : Tryd.prog.cellsOf 132 = 1 := by kernel_rfl
theorem cStr17 : Tryd.prog.cellsOf 9 = 1 := by kernel_rfl
theorem star17 : "*" ++ "errors.errorString" = "*errors.errorString" := by decide
theorem row17 (u : TypeId) (h : Tryd.prog.typeName? 3 u = some "*errors.errorString") : u = 130 :=
  typeName_ptr_named (nm := "errors.errorString") (by rw [star17]; kernel_rfl) (by kernel_rfl) (by decide) u (by rw [star17]; exact h)

theorem g17_of {W : World} (h0 : laidMetH Tryd.prog laid17u W) (hsh : W.ShapedOpen Tryd.prog) : G17 W := by
  rw [MakeChecks.laidMetH_plain _ _ _ (by kernel_rfl)] at h0
  have h1 : laidMet Tryd.prog (("math/bits.deBruijn64tab", Lib.tabData .u8 db64) :: _) W := h0.tail
  have h2 : laidMet Tryd.prog (("internal/strconv.uint64pow10", Lib.tabData .u64 Lib.pow10Tab) :: _) W := h1.tail
  have h3 := h2.tail.tail
  have h4 := h3.tail
  obtain ⟨a0, s0, v0, -, -, -⟩ := laid_sentinel h3 gER17 tER17 Tryd.underlying59 row17 Tryd.underlying130 Tryd.underlying132 rfl rfl Tryd.underlying9 cErr17 cStr17
  obtain ⟨a1, s1, v1, -, -, -⟩ := laid_sentinel h4 gES17 tES17 Tryd.underlying59 row17 Tryd.underlying130 Tryd.underlying132 rfl rfl Tryd.underlying9 cErr17 cStr17
  refine ⟨?_, ?_, ?_, ?_, ?_⟩
  · exact Lib.tabIs_of_head g_pow tPow17 Tryd.underlying96 Tryd.underlying71 (by kernel_rfl) (by kernel_rfl) h2
  · exact Lib.tabIs_of_head g_db tDb17 Tryd.underlying124 Tryd.underlying5 (by kernel_rfl) (by kernel_rfl) h1
  · exact cell_of_shapedOpen_int (P := Tryd.prog) (g := 0) (t := 3) (zero := #[.int .i64 0]) hsh (of_decide_eq_true (by kernel_rfl)) (by kernel_rfl) rfl (by kernel_rfl) (by kernel_rfl) Tryd.underlying3
  · exact ⟨_, _, by have h := World.var?_cell gES17 v1 0; simpa using h⟩
  · exact ⟨_, _, by have h := World.var?_cell gER17 v0 0; simpa using h⟩

/-- A start that meets the condition: the listed variables laid, one behind the other. -/
theorem door_met17 (os : Os) (args : Array Value) : laidMetH Tryd.prog laid17u ((World.laidAll Tryd.prog os laid17u).forCall (fun _ _ => 0) ⟨#[], args, []⟩).memory := by
  rw [MakeChecks.laidMetH_plain _ _ _ (by kernel_rfl)]
  exact laidMet_laidAll _ (by kernel_rfl) (by kernel_rfl)

/-- The wrap. -/
theorem wrap17 {H : Type} {enc : TypeId × Value → H} {a : Assume} {C : Checked} {os : Os} {f : FuncId} {fn : Func} {s : ChangeSpec} {conds : List PathCond} {apart fresh handsOn again : Bool} {X : World → Array Value → Prop}
    (hX : ∀ (w w' : World) (args : Array Value), w.heap = w'.heap → X w args → X w' args)
    (own : ownKnob C.prog.godebug = none) (started : os.Started) (noInit : C.prog.inits.idxOf? f = none) (hfn : C.prog.funcs[f]? = some fn)
    (witness : ∃ (w : World) (tape : Tape) (i : Input), w.os = os ∧ (w.forCall tape i).Shaped C.prog ∧ i.vars = [] ∧ Input.okWide C.prog (w.forCall tape i) .any w.heap.size f i ∧
      ((s.pre enc C.prog fn conds apart (w.forCall tape i).memory i.args ∧ X (w.forCall tape i).memory i.args) ∧ sizedMet enc C.prog fn (OpenSpec.ofChange s) apart (w.forCall tape i).memory i.args) ∧ a.holds C.prog (lone (Frame.enter C.prog f i.args .normal) [] (w.forCall tape i)))
    (contract : ∀ (W : World) (base : Nat) (args : Array Value) (ds gs : List (DataW H)) (before : List MemPlace),
      (∀ (j : Nat) t v, fn.params[j]? = some t → args[j]? = some v → Value.okWide C.prog W .any base t v) →
      DataW.Whole enc C.prog fn.params.toList s.vars apart W args.toList ds gs before →
      (DataW.weightsEach C.prog (fn.params.toList ++ s.plain.varTypes C.prog) (ds ++ gs)).all (· ≤ reachBytes) = true → X W args → W.ShapedOpen C.prog →
      Calls C.prog f args W fun e W' => ∃ v, e = .returned v ∧ s.post enc C.prog fn apart fresh handsOn again W args v W') :
    ReturnsInHanded a C os f .any (fun w args => (s.pre enc C.prog fn conds apart w args ∧ X w args) ∧ sizedMet enc C.prog fn (OpenSpec.ofChange s) apart w args) (s.post enc C.prog fn apart fresh handsOn again) := by
  refine returnsInHanded_of_calls own started noInit witness ?_
  intro w tape i _ hsh _ hok hpre _
  obtain ⟨_, _, _, g, hg, _, _, _, _, hval⟩ := hok
  obtain rfl : g = fn := Option.some.inj (hg.symm.trans hfn)
  obtain ⟨⟨⟨ds, gs, before, hw, _⟩, hx⟩, hz⟩ := hpre
  refine (contract (w.forCall tape i) w.heap.size i.args ds gs before hval (DataW.Whole.of_heap (w' := w.forCall tape i) (by rfl) hw) (hz.weights hw) (hX _ _ _ (by rfl) hx) hsh).mono fun e W' ⟨v, he, hp⟩ => ?_
  subst he
  exact ChangeSpec.post_blind hp

end Go.Proofs.YtpappmbnblaccaaDoor
