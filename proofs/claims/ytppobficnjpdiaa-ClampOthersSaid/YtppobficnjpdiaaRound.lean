/-
  A region that draws its order, in the body of a range over a function: walked as outside of it, operation by operation, by hand. Plain: no Go function is walked here.
-/
import Derived.Test.YtppobficnjpdiaaGround
import Derived.OrdersIn
import Derived.RangeFuncCalls
namespace Go.Proofs.Ytppobficnjpdiaa
set_option linter.unusedVariables false

/-- An operation that is no defer statement. -/
def noDefer (o : Oper) : Bool := match o.op with
  | .defer _ => false
  | _ => true
theorem noDefer_ne {o : Oper} (h : noDefer o = true) : ∀ c, o.op ≠ .defer c := by
  intro c e
  unfold noDefer at h
  rw [e] at h
  cases h

section
variable {P : Program} {ops : Array Oper} {Q : Exit → Act → World → Prop} {n : Nat} {F : Fence}

theorem oper_round {o : Oper} {a : Act} {w : World} {K K' : Act → World → Prop} (l : Nat) (hro : F.round = none) (hd : noDefer o = true) (hK : ∀ a w, K a w → K' a w) (h : o.wpIn F n P a w K Q) : o.wpIn (F.inRound l) n P a w K' Q := by
  have h1 := Oper.wpIn_mono hK h
  refine ⟨h1.1, ?_⟩
  have h2 := h1.2
  rw [Oper.semAt_eq _ _ _ (noDefer_ne hd)] at h2 ⊢
  exact h2
theorem ops_round (l : Nat) (hro : F.round = none) (hd : ∀ (i : Nat) o, ops[i]? = some o → noDefer o = true) : ∀ (is : List Nat) (a : Act) (w : World), wpOpsIn F n P ops Q is a w → wpOpsIn (F.inRound l) n P ops Q is a w := by
  intro is
  induction is with
  | nil => intro a w h; exact h
  | cons i is ih =>
    intro a w h
    unfold wpOpsIn at h ⊢
    cases ho : ops[i]? with
    | none => simp only [ho] at h ⊢; exact ih _ _ h
    | some o =>
      simp only [ho] at h ⊢
      by_cases hw : Region.wanted o (yielded ops a.tmps) = true
      · rw [if_pos hw] at h ⊢
        exact oper_round l hro (hd i o ho) ih h
      · rw [if_neg hw] at h ⊢
        exact ⟨h.1, ih _ _ h.2⟩
/-- Such a region, from its walk outside of a round. -/
theorem region_round {id : Nat} {a : Act} {w : World} {l : Nat} (hm : P.follows .mixedOrders = true) (hro : F.round = none) (hd : ops.all noDefer = true)
    (h : wpAnyIn F n P .any ops Q ops.size (Array.replicate ops.size false) a w.drew) : (Code.region id ops true).wpIn (F.inRound l) n P Q a w :=
  wpIn_region_draw fun t => by
    simp only [Region.schedule, hm, Bool.true_or, if_true]
    exact ops_round l hro (fun i o ho => by
      obtain ⟨hi, e⟩ := Array.getElem?_eq_some_iff.1 ho
      have := Array.all_eq_true.1 hd i hi
      rw [e] at this
      exact this) _ _ _ (wpAnyIn_sound ops.size t _ a _ h)
/-- Taken first, where it is wanted. -/
theorem takeF_yes {md : Region.Mode} {i : Nat} {d : Option Tmp} {oi : Oper} {v : Value} {fuel : Nat} {listed : Array Bool} {a : Act} {w : World} (hro : F.round = none) (hi : ops[i]? = some oi) (hd : oi.dst = d)
    (hs : Region.noSelect ops = true) (hf : Region.free md ops listed i = true) (hr : (Region.ready md ops listed).contains i = true)
    (hQ : ∀ c a w, Q (.panic c) (a.put d v) w → Q (.panic c) a w) (hw : Region.wanted oi (yielded ops a.tmps) = true) (hx : ∀ w, (execOp a.eval oi).run P w = .ok (.value v) w) (hab : ∀ w, oi.about P w a.eval = none)
    (h : wpAnyIn F n P md ops Q fuel (listed.setIfInBounds i true) (a.put d v) w) : wpAnyIn F n P md ops Q (fuel + 1) listed a w := by
  subst hd; exact wpAnyIn_take hro hi hs hf hr hQ ⟨Or.inl ⟨hw, hx⟩, hab⟩ h
end

end Go.Proofs.Ytppobficnjpdiaa
