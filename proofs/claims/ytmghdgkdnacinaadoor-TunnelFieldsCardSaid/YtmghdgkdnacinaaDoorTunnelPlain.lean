/-
  What is wrapped is unwrapped as it was, plainly; a bit of the outer header turned; another TTL, TOS, DF, ID.
-/
import Derived.Test.YtmghdgkdnacinaaDoorTunnelSpec
import Derived.Test.YtmghdgkdnacinaaDoorIp4Held
import Derived.Test.YtmghdgkdnacinaaDoorGrePut
import Derived.Test.YtmghdgkdnacinaaDoorGrePlain
import Derived.Test.YtmghdgkdnacinaaDoorGuePlain
namespace Go.Proofs.YtmghdgkdnacinaaDoor
open Go.RowKit
set_option linter.unusedVariables false

/-- A packet that was wrapped. -/
structure Wrapped14 (t : T14) (y : W14) (s X : ByteArray) : Prop where
  is_ : (m14 t.mode).is = true
  range : range14 t = true
  form : form14 (m14 t.mode) t = false
  may : may14 y = true
  pe : (m14 t.mode).putE y s = 0
  sent : Sent (outer14 t y ((m14 t.mode).proto s)) ((m14 t.mode).putS t y s) X

theorem err14_zero {t : T14} : err14 t = 0 ↔ (m14 t.mode).is = true ∧ range14 t = true ∧ form14 (m14 t.mode) t = false := by
  unfold err14
  cases h : (m14 t.mode).is with
  | false => simp
  | true => cases h1 : range14 t <;> cases h2 : form14 (m14 t.mode) t <;> simp
theorem wrap14_cases (t : T14) (y : W14) (s : ByteArray) : (wrap14E t y s = 0 ∧ Wrapped14 t y s (wrap14S t y s)) ∨ (wrap14E t y s ≠ 0 ∧ wrap14S t y s = ⟨#[]⟩) := by
  have hE : wrap14E t y s = if err14 t ≠ 0 then err14 t else if may14 y = false then 1 else if (m14 t.mode).putE y s ≠ 0 then (m14 t.mode).putE y s
    else putE (outer14 t y ((m14 t.mode).proto s)) ((m14 t.mode).putS t y s) := rfl
  have hS : wrap14S t y s = if err14 t ≠ 0 then ⟨#[]⟩ else if may14 y = false then ⟨#[]⟩ else if (m14 t.mode).putE y s ≠ 0 then ⟨#[]⟩
    else putS (outer14 t y ((m14 t.mode).proto s)) ((m14 t.mode).putS t y s) := rfl
  by_cases h0 : err14 t = 0
  case neg =>
    rw [hE, hS, if_pos h0, if_pos h0]
    exact Or.inr ⟨h0, rfl⟩
  have n0 : ¬ (err14 t ≠ 0) := fun h => h h0
  rw [if_neg n0] at hE hS
  cases h1 : may14 y with
  | false =>
    rw [if_pos h1] at hE hS
    rw [hE, hS]
    exact Or.inr ⟨by decide, rfl⟩
  | true =>
    have n1 : ¬ (may14 y = false) := by rw [h1]; decide
    rw [if_neg n1] at hE hS
    by_cases h2 : (m14 t.mode).putE y s = 0
    case neg =>
      rw [if_pos h2] at hE hS
      rw [hE, hS]
      exact Or.inr ⟨h2, rfl⟩
    have n2 : ¬ ((m14 t.mode).putE y s ≠ 0) := fun h => h h2
    rw [if_neg n2] at hE hS
    rw [hE, hS]
    rcases put_told (outer14 t y ((m14 t.mode).proto s)) ((m14 t.mode).putS t y s) with ⟨e, hok, hn, -⟩ | ⟨e, es, -⟩
    · have ⟨a, b, c⟩ := err14_zero.1 h0
      exact Or.inl ⟨e, a, b, c, h1, h2, sent_of hok hn⟩
    · exact Or.inr ⟨e, es⟩

def M14.port : M14 → W14 → Int | .gue, y => y.port | _, _ => 0
structure Inner14 (m : M14) (t : T14) (y : W14) (s : ByteArray) (h : H4) (p : ByteArray) : Prop where
  of_ : of14 h.proto = m
  err : m.getE h p = 0
  get : m.get h p = ⟨t.sum, t.key, t.v, m.port y, s⟩
  size : p.size = m.size t + s.size
theorem form14_parts {m : M14} {t : T14} (h : form14 m t = false) : (t.sum = true → m.s = true) ∧ (t.key = true → m.k = true) ∧ (t.v ≠ 0 → t.key = true) := by
  unfold form14 at h
  simp only [Bool.or_eq_false_iff, Bool.and_eq_false_iff, Bool.not_eq_false', decide_eq_false_iff_not, Classical.not_not] at h
  obtain ⟨⟨h1, h2⟩, h3⟩ := h
  refine ⟨fun a => ?_, fun a => ?_, fun a => ?_⟩
  · rcases h1 with e | e
    · rw [a] at e; exact absurd e (by decide)
    · exact e
  · rcases h2 with e | e
    · rw [a] at e; exact absurd e (by decide)
    · exact e
  · rcases h3 with e | e
    · exact absurd e a
    · exact e
theorem may14_parts {y : W14} (h : may14 y = true) : y.src.size = 4 ∧ y.dst.size = 4 ∧ 0 ≤ y.id ∧ y.id ≤ 65535 := by
  unfold may14 within14 at h
  simp only [Bool.and_eq_true, decide_eq_true_eq] at h
  omega
theorem inner14 (t : T14) (y : W14) (s : ByteArray) (hv : t.v < 4294967296) (his : (m14 t.mode).is = true) (hf : form14 (m14 t.mode) t = false) (hm : may14 y = true) (hp : (m14 t.mode).putE y s = 0) :
    Inner14 (m14 t.mode) t y s (outer14 t y ((m14 t.mode).proto s)) ((m14 t.mode).putS t y s) := by
  have ⟨fs, fk, fv⟩ := form14_parts hf
  have ⟨ys, yd, _, _⟩ := may14_parts hm
  obtain ⟨n, sum, key, v, df, ttl, tos⟩ := t
  simp only at *
  generalize m14 n = m at *
  cases m with
  | none => exact absurd his (by decide)
  | ipip =>
    have hen : (v11 s).en = 0 := hp
    have hpn : (v11 s).pn = 4 ∨ (v11 s).pn = 41 := by generalize v11 s = q at *; cases q <;> simp [V11.en, V11.pn] at *
    have hs : sum = false := by cases sum with | false => rfl | true => exact absurd (fs rfl) (by decide)
    have hk : key = false := by cases key with | false => rfl | true => exact absurd (fk rfl) (by decide)
    have hv0 : v = 0 := Classical.byContradiction (fun k => by have := fv k; rw [hk] at this; exact absurd this (by decide))
    have hput : put11S s = s := by unfold put11S; rw [if_pos (by rw [V11.err_en, hen]; rfl)]
    have hg : get11E ((v11 s).pn : Nat) s = 0 := by rw [get11_pk, pk13_zero.2 ⟨hen, rfl⟩]; rfl
    subst hs hk hv0
    refine ⟨?_, ?_, ?_, ?_⟩
    · show of14 ((v11 s).pn : Nat) = .ipip
      unfold of14
      rw [if_pos (by omega)]
    · show get11E ((v11 s).pn : Nat) (put11S s) = 0
      rw [hput]; exact hg
    · show (⟨false, false, 0, 0, get11S ((v11 s).pn : Nat) (put11S s)⟩ : P14) = _
      rw [hput]
      unfold get11S
      rw [if_pos hg]
      rfl
    · show (put11S s).size = 0 + s.size
      rw [hput]; omega
  | gre =>
    have hen : (v11 s).en = 0 := hp
    have r : Put12 ⟨sum, key, v⟩ s (put12S ⟨sum, key, v⟩ s) := ⟨by rw [put12S_ok hen, cat_list, list_text], hen, hv⟩
    have ⟨g1, g2, g3⟩ := r.get
    have hseen : H12.seen ⟨sum, key, v⟩ = ⟨sum, key, v⟩ := by
      unfold H12.seen
      cases key with
      | true => rfl
      | false =>
        have hv0 : v = 0 := Classical.byContradiction (fun k => by have := fv k; exact absurd this (by decide))
        subst hv0; rfl
    rw [hseen] at g2
    refine ⟨rfl, ?_, ?_, ?_⟩
    · show ((get12E (put12S ⟨sum, key, v⟩ s) : Nat) : Int) = 0
      rw [g1]; rfl
    · show (⟨(get12H (put12S ⟨sum, key, v⟩ s)).sum, (get12H (put12S ⟨sum, key, v⟩ s)).key, (get12H (put12S ⟨sum, key, v⟩ s)).v, 0, get12S (put12S ⟨sum, key, v⟩ s)⟩ : P14) = _
      rw [g2, g3]; rfl
    · exact r.size
  | gue =>
    have hE : put13E y.port s = 0 := hp
    have hk : key = false := by cases key with | false => rfl | true => exact absurd (fk rfl) (by decide)
    have hv0 : v = 0 := Classical.byContradiction (fun k => by have := fv k; rw [hk] at this; exact absurd this (by decide))
    subst hk hv0
    rcases put13_cases ⟨y.port, sum⟩ y.src y.dst s (by omega) (by omega) with ⟨_, md⟩ | ⟨e, _⟩
    case inr => exact absurd hE e
    have ⟨g1, g2, g3⟩ := md.got
    have hz := md.sent.size
    refine ⟨rfl, ?_, ?_, ?_⟩
    · show ((get13E y.src y.dst (put13S ⟨y.port, sum⟩ y.src y.dst s) : Nat) : Int) = 0
      rw [g1]; rfl
    · show (⟨(get13H y.src y.dst (put13S ⟨y.port, sum⟩ y.src y.dst s)).sum, false, 0, (get13H y.src y.dst (put13S ⟨y.port, sum⟩ y.src y.dst s)).port, get13S y.src y.dst (put13S ⟨y.port, sum⟩ y.src y.dst s)⟩ : P14) = _
      rw [g2, g3]; rfl
    · exact hz
/-- What is got of what was wrapped. -/
structure Got14 (t : T14) (y : W14) (s X : ByteArray) : Prop where
  err : unw14E X = 0
  t_ : unw14T X = t
  w_ : unw14W X = ⟨y.src, y.dst, y.id, (m14 t.mode).port y⟩
  s_ : unw14S X = s
  size : X.size = s.size + size14 t
theorem Wrapped14.got {t : T14} {y : W14} {s X : ByteArray} (r : Wrapped14 t y s X) (hv : t.v < 4294967296) : Got14 t y s X := by
  have i := inner14 t y s hv r.is_ r.form r.may r.pe
  have e : unw14E X = 0 := by
    unfold unw14E
    rw [r.sent.ge, if_neg (fun h => h rfl), r.sent.gh, r.sent.gs]
    unfold in14E
    rw [if_neg (by unfold outer14; simp), i.of_]
    exact i.err
  refine ⟨e, ?_, ?_, ?_, ?_⟩
  · unfold unw14T
    rw [if_pos e, r.sent.gh, r.sent.gs]
    unfold in14T
    rw [i.of_, i.get]
    have hm := m14_is r.is_
    obtain ⟨n, sum, key, v, df, ttl, tos⟩ := t
    simp only [outer14] at hm ⊢
    rw [← hm]
  · unfold unw14W
    rw [if_pos e, r.sent.gh, r.sent.gs]
    unfold in14W
    rw [i.of_, i.get]
    rfl
  · unfold unw14S
    rw [if_pos e, r.sent.gh, r.sent.gs, i.of_, i.get]
  · rw [r.sent.size, i.size]
    unfold size14
    rw [r.is_]
    show 20 + (0 : Nat) + _ = _
    simp only
    omega
/-- A bit of the outer header turned. -/
theorem Wrapped14.flip {t : T14} {y : W14} {s X q : ByteArray} (r : Wrapped14 t y s X) (i j : Nat) (hi : i < 20) (hip : i < X.size) (hj : j < 8) (hij : 1 ≤ i ∨ 4 ≤ j) (hq : q.data.toList = X.data.toList.set i (X[i] ^^^ UInt8.ofNat (2 ^ j))) :
    unw14E q ≠ 0 ∧ unw14E q = (getE q : Nat) := by
  have g := put_get _ _ r.sent.ok r.sent.fit
  rw [← r.sent.is] at g
  have hz : hsz X = 20 := g.2.2.1
  have e := flip_seen X q g.1 i j (by omega) hip hj hij hq
  have e2 : unw14E q = (getE q : Nat) := by unfold unw14E; rw [if_pos e]
  exact ⟨by rw [e2]; omega, e2⟩
theorem addr14 {h : H4} {pay X : ByteArray} (r : Sent h pay X) (ho : h.opt = ⟨#[]⟩) : X.extract 12 20 = ⟨h.tail.toArray⟩ := by
  have ht := H4.tail_length r.ok
  rw [ho] at ht
  have hl : X.data.toList = h.pack pay := by rw [r.is]
  refine bytes_seg (a := h.head (h.size + pay.size) ++ be (sumD (h.head (h.size + pay.size) ++ h.tail)) 2) (c := pay.data.toList) ?_ ?_ ?_
  · rw [hl]; unfold H4.pack; simp only [List.append_assoc]
  · simp [be_length, H4.head_len]
  · rw [ht]; rfl
/-- Another TTL, TOS, DF, ID. -/
structure Like14 (X Y : ByteArray) : Prop where
  size : X.size = Y.size
  rest : X.extract 20 X.size = Y.extract 20 Y.size
  addr : X.extract 12 20 = Y.extract 12 20
  first : X.extract 0 1 = Y.extract 0 1
  len : X.extract 2 4 = Y.extract 2 4
  proto : X.extract 9 10 = Y.extract 9 10
theorem Wrapped14.other {n : Int} {sum key : Bool} {v : Nat} {df df' : Bool} {ttl tos ttl' tos' : Int} {src dst : ByteArray} {id id' port : Int} {s X : ByteArray} (r : Wrapped14 ⟨n, sum, key, v, df, ttl, tos⟩ ⟨src, dst, id, port⟩ s X)
    (h1 : 0 ≤ ttl' ∧ ttl' ≤ 255) (h2 : 0 ≤ tos' ∧ tos' ≤ 255) (h3 : 0 ≤ id' ∧ id' ≤ 65535) :
    wrap14E ⟨n, sum, key, v, df', ttl', tos'⟩ ⟨src, dst, id', port⟩ s = 0 ∧ Wrapped14 ⟨n, sum, key, v, df', ttl', tos'⟩ ⟨src, dst, id', port⟩ s (wrap14S ⟨n, sum, key, v, df', ttl', tos'⟩ ⟨src, dst, id', port⟩ s) ∧
      Like14 X (wrap14S ⟨n, sum, key, v, df', ttl', tos'⟩ ⟨src, dst, id', port⟩ s) := by
  have e0 : err14 ⟨n, sum, key, v, df', ttl', tos'⟩ = 0 := err14_zero.2 ⟨r.is_, by unfold range14 within14; simp only [Bool.and_eq_true, decide_eq_true_eq]; omega, r.form⟩
  have hm := r.may
  have e1 : may14 ⟨src, dst, id', port⟩ = true := by
    unfold may14 within14 at hm ⊢
    simp only [Bool.and_eq_true, decide_eq_true_eq] at hm ⊢
    omega
  have hpe : (m14 n).putE ⟨src, dst, id', port⟩ s = 0 := by
    have := r.pe
    simp only at this
    generalize m14 n = m at *
    cases m <;> exact this
  have hps : (m14 n).putS ⟨n, sum, key, v, df', ttl', tos'⟩ ⟨src, dst, id', port⟩ s = (m14 n).putS ⟨n, sum, key, v, df, ttl, tos⟩ ⟨src, dst, id, port⟩ s := by
    generalize m14 n = m at *
    cases m <;> rfl
  have sx := r.sent
  simp only at sx
  have ok := sx.ok
  have ok' : (outer14 ⟨n, sum, key, v, df', ttl', tos'⟩ ⟨src, dst, id', port⟩ ((m14 n).proto s)).Ok := ⟨h2, h1, ok.proto, h3, ok.off, ok.src, ok.dst, ok.opt, ok.opt4⟩
  have fit := sx.fit
  have fit' : (outer14 ⟨n, sum, key, v, df', ttl', tos'⟩ ⟨src, dst, id', port⟩ ((m14 n).proto s)).size + ((m14 n).putS ⟨n, sum, key, v, df', ttl', tos'⟩ ⟨src, dst, id', port⟩ s).size ≤ 65535 := by rw [hps]; exact fit
  have hE : wrap14E ⟨n, sum, key, v, df', ttl', tos'⟩ ⟨src, dst, id', port⟩ s = 0 := by
    unfold wrap14E
    rw [if_neg (fun h => h e0), e1, if_neg (by decide), if_neg (fun h => h hpe)]
    exact (put_ok ok' fit').1
  rcases wrap14_cases ⟨n, sum, key, v, df', ttl', tos'⟩ ⟨src, dst, id', port⟩ s with ⟨_, wr⟩ | ⟨e, _⟩
  case inr => exact absurd hE e
  refine ⟨hE, wr, ?_⟩
  generalize wrap14S ⟨n, sum, key, v, df', ttl', tos'⟩ ⟨src, dst, id', port⟩ s = Y at *
  have sy := wr.sent
  simp only at sy
  rw [hps] at sy
  have px := pack_parts _ _ sx.ok sx.fit
  have py := pack_parts _ _ sy.ok sy.fit
  rw [← sx.is] at px
  rw [← sy.is] at py
  refine ⟨sx.size.trans sy.size.symm, px.rest.trans py.rest.symm, (addr14 sx rfl).trans (addr14 sy rfl).symm, px.first.trans py.first.symm, px.len.trans py.len.symm, px.proto.trans py.proto.symm⟩

end Go.Proofs.YtmghdgkdnacinaaDoor
