/-
  A tunnel, a way, and what Check, Size, Wrap and Unwrap answer, plainly; no Go function is walked here.
-/
import Derived.Test.YtmghdgkdnacinaaDoorTunnelMap
import Derived.Test.YtmghdgkdnacinaaDoorIp4A
import Derived.Test.YtmghdgkdnacinaaDoorGreA
import Derived.Test.YtmghdgkdnacinaaDoorGueA
namespace Go.Proofs.YtmghdgkdnacinaaDoor
open Go.RowKit
set_option linter.unusedVariables false

/-- A tunnel. -/
structure T14 where
  mode : Int
  sum : Bool
  key : Bool
  v : Nat
  df : Bool
  ttl : Int
  tos : Int
def T14.cells (t : T14) : Array Value := #[.int .i64 t.mode, .bool t.sum, .bool t.key, .int .u32 (t.v : Nat), .bool t.df, .int .i64 t.ttl, .int .i64 t.tos]
/-- The key is a number of four bytes. -/
structure T14.Wf (t : T14) : Prop where
  v : t.v < 4294967296
def T14.zero : T14 := ⟨0, false, false, 0, false, 0, 0⟩
def T14.head (t : T14) : H12 := ⟨t.sum, t.key, t.v⟩
/-- A way. -/
structure W14 where
  src : ByteArray
  dst : ByteArray
  id : Int
  port : Int
def W14.cells (y : W14) : Array Value := #[.string y.src, .string y.dst, .int .i64 y.id, .int .i64 y.port]
def W14.zero : W14 := ⟨⟨#[]⟩, ⟨#[]⟩, 0, 0⟩
/-- What a payload tells. -/
structure P14 where
  sum : Bool
  key : Bool
  v : Nat
  port : Int
  inner : ByteArray
def P14.cells (x : P14) : Array Value := #[.int .i64 0, .bool x.sum, .bool x.key, .int .u32 (x.v : Nat), .bool false, .int .i64 0, .int .i64 0, .int .i64 x.port, .string x.inner]
def P14.zero : P14 := ⟨false, false, 0, 0, ⟨#[]⟩⟩

/-- The blocks' cells. -/
structure Tc (u : World) (B : Nat) (t : T14) : Prop where
  c0 : u.cell? ⟨B, 0, none⟩ = some (.int .i64 t.mode)
  c1 : u.cell? ⟨B, 1, none⟩ = some (.bool t.sum)
  c2 : u.cell? ⟨B, 2, none⟩ = some (.bool t.key)
  c3 : u.cell? ⟨B, 3, none⟩ = some (.int .u32 (t.v : Nat))
  c4 : u.cell? ⟨B, 4, none⟩ = some (.bool t.df)
  c5 : u.cell? ⟨B, 5, none⟩ = some (.int .i64 t.ttl)
  c6 : u.cell? ⟨B, 6, none⟩ = some (.int .i64 t.tos)
theorem Tc.of {u : World} {B : Nat} {t : T14} {T : TypeId} (hb : Blk u B t.cells T) : Tc u B t := ⟨hb.cell 0, hb.cell 1, hb.cell 2, hb.cell 3, hb.cell 4, hb.cell 5, hb.cell 6⟩
structure Wc (u : World) (B : Nat) (y : W14) : Prop where
  c0 : u.cell? ⟨B, 0, none⟩ = some (.string y.src)
  c1 : u.cell? ⟨B, 1, none⟩ = some (.string y.dst)
  c2 : u.cell? ⟨B, 2, none⟩ = some (.int .i64 y.id)
  c3 : u.cell? ⟨B, 3, none⟩ = some (.int .i64 y.port)
theorem Wc.of {u : World} {B : Nat} {y : W14} {T : TypeId} (hb : Blk u B y.cells T) : Wc u B y := ⟨hb.cell 0, hb.cell 1, hb.cell 2, hb.cell 3⟩

/-- A Mode. -/
inductive M14 | none | ipip | gre | gue
def m14 (n : Int) : M14 := if n = 1 then .ipip else if n = 2 then .gre else if n = 3 then .gue else .none
def M14.num : M14 → Int | .none => 0 | .ipip => 1 | .gre => 2 | .gue => 3
def M14.is : M14 → Bool | .none => false | _ => true
def M14.s : M14 → Bool | .gre => true | .gue => true | _ => false
def M14.k : M14 → Bool | .gre => true | _ => false
def M14.nS : M14 → FuncId | .gre => 24 | .gue => 31 | _ => 19
def M14.nP : M14 → FuncId | .gre => 27 | .gue => 32 | _ => 20
def M14.nG : M14 → FuncId | .gre => 29 | .gue => 34 | _ => 22
def M14.val (m : M14) : Value := match m.is with | false => none14 | true => mode14 m.s m.k (fn14 m.nS) (fn14 m.nP) (fn14 m.nG)
theorem m14_num (m : M14) : m14 m.num = m := by cases m <;> rfl
theorem m14_is {n : Int} (h : (m14 n).is = true) : n = (m14 n).num := by
  unfold m14 at h ⊢
  split
  · assumption
  · split
    · assumption
    · split
      · assumption
      · rename_i h1 h2 h3
        rw [if_neg h1, if_neg h2, if_neg h3] at h
        exact absurd h (by decide)

theorem under14 : Tryd.prog.underlying 49 = some (.map 3 48) := Tryd.underlying49
theorem zero14 (w : World) : (zeroValue 48).run Tryd.prog w = .ok none14 w := by kernel_rfl
theorem find14 (n : Int) : Instr.findNow (.int .i64) (.int .i64 n) modes14.toList 0 = some (if n == 1 then some (0, ipip14) else if n == 2 then some (1, gre14) else if n == 3 then some (2, gue14) else none) := by
  unfold modes14
  simp only [Instr.findNow, Instr.sameNow, if_true]
  cases n == 1 <;> cases n == 2 <;> cases n == 3 <;> rfl
/-- A look-up in the map. -/
theorem look14 (n : Int) (ok : Bool) {w : World} {b : Nat} (h : Modes14 w b) :
    (Instr.lookup 49 (.map (some b)) (.int .i64 n) ok).run Tryd.prog w = .ok (if ok then .tuple #[(m14 n).val, .bool (m14 n).is] else (m14 n).val) w := by
  have hf := find14 n
  by_cases h1 : n = 1
  · subst h1
    exact run_find under14 Tryd.underlying3 1 0 ipip14 ok h.at_ hf
  by_cases h2 : n = 2
  · subst h2
    exact run_find under14 Tryd.underlying3 2 1 gre14 ok h.at_ hf
  by_cases h3 : n = 3
  · subst h3
    exact run_find under14 Tryd.underlying3 3 2 gue14 ok h.at_ hf
  have e : m14 n = .none := by unfold m14; rw [if_neg h1, if_neg h2, if_neg h3]
  rw [e]
  rw [beq_eq_false_iff_ne.2 h1, beq_eq_false_iff_ne.2 h2, beq_eq_false_iff_ne.2 h3] at hf
  exact run_miss under14 Tryd.underlying3 n none14 ok (zero14 w) h.at_ hf
theorem enterS (m : M14) (args : Array Value) (u : World) : (callFunc m.nS args).run Tryd.prog u = .ok (.enter m.nS args) u := by cases m <;> kernel_rfl
theorem enterP (m : M14) (args : Array Value) (u : World) : (callFunc m.nP args).run Tryd.prog u = .ok (.enter m.nP args) u := by cases m <;> kernel_rfl
theorem enterG (m : M14) (args : Array Value) (u : World) : (callFunc m.nG args).run Tryd.prog u = .ok (.enter m.nG args) u := by cases m <;> kernel_rfl

/-- How many bytes stand between the outer header and the packet; how many a wrapped packet has more. -/
def M14.size : M14 → T14 → Nat | .gre, t => size12 t.sum t.key | .gue, _ => 12 | _, _ => 0
def size14 (t : T14) : Nat := match (m14 t.mode).is with | true => 20 + (m14 t.mode).size t | false => 0
def within14 (n most : Int) : Bool := decide (0 ≤ n) && decide (n ≤ most)
def range14 (t : T14) : Bool := within14 t.ttl 255 && within14 t.tos 255
/-- Has it what its Mode doesn't? -/
def form14 (m : M14) (t : T14) : Bool := t.sum && !m.s || t.key && !m.k || decide (t.v ≠ 0) && !t.key
def err14 (t : T14) : Nat := match (m14 t.mode).is with | false => 15 | true => if range14 t = true then if form14 (m14 t.mode) t = true then 9 else 0 else 1
def may14 (y : W14) : Bool := decide (y.src.size = 4) && decide (y.dst.size = 4) && within14 y.id 65535 && within14 y.port 65535

/-- What a Mode puts: the protocol, the payload, the error. -/
def M14.proto : M14 → ByteArray → Int | .gre, _ => 47 | .gue, _ => 17 | _, s => (v11 s).pn
def M14.putE : M14 → W14 → ByteArray → Nat | .gue, y, s => put13E y.port s | _, _, s => (v11 s).en
def M14.putS : M14 → T14 → W14 → ByteArray → ByteArray | .gre, t, _, s => put12S t.head s | .gue, t, y, s => put13S ⟨y.port, t.sum⟩ y.src y.dst s | _, _, _, s => put11S s
def outer14 (t : T14) (y : W14) (proto : Int) : H4 := ⟨t.tos, y.id, 0, t.ttl, proto, t.df, false, y.src, y.dst, ⟨#[]⟩⟩
def wrap14E (t : T14) (y : W14) (s : ByteArray) : Nat :=
  if err14 t ≠ 0 then err14 t else if may14 y = false then 1 else if (m14 t.mode).putE y s ≠ 0 then (m14 t.mode).putE y s
  else Go.Proofs.YtmghdgkdnacinaaDoor.putE (outer14 t y ((m14 t.mode).proto s)) ((m14 t.mode).putS t y s)
def wrap14S (t : T14) (y : W14) (s : ByteArray) : ByteArray :=
  if err14 t ≠ 0 then ⟨#[]⟩ else if may14 y = false then ⟨#[]⟩ else if (m14 t.mode).putE y s ≠ 0 then ⟨#[]⟩
  else Go.Proofs.YtmghdgkdnacinaaDoor.putS (outer14 t y ((m14 t.mode).proto s)) ((m14 t.mode).putS t y s)

/-- What a Mode gets: what is told, the error. -/
def M14.getE : M14 → H4 → ByteArray → Int | .ipip, h, p => get11E h.proto p | .gre, _, p => (get12E p : Nat) | .gue, h, p => (get13E h.src h.dst p : Nat) | .none, _, _ => 6
def M14.get : M14 → H4 → ByteArray → P14
  | .ipip, h, p => ⟨false, false, 0, 0, get11S h.proto p⟩
  | .gre, _, p => ⟨(get12H p).sum, (get12H p).key, (get12H p).v, 0, get12S p⟩
  | .gue, h, p => ⟨(get13H h.src h.dst p).sum, false, 0, (get13H h.src h.dst p).port, get13S h.src h.dst p⟩
  | .none, _, _ => .zero
def of14 (proto : Int) : M14 := if proto = 4 ∨ proto = 41 then .ipip else if proto = 47 then .gre else if proto = 17 then .gue else .none
/-- What Unwrap answers. -/
def in14E (h : H4) (p : ByteArray) : Int := if h.mf = true ∨ h.off ≠ 0 then 14 else (of14 h.proto).getE h p
def in14T (h : H4) (p : ByteArray) : T14 := ⟨(of14 h.proto).num, ((of14 h.proto).get h p).sum, ((of14 h.proto).get h p).key, ((of14 h.proto).get h p).v, h.df, h.ttl, h.tos⟩
def in14W (h : H4) (p : ByteArray) : W14 := ⟨h.src, h.dst, h.id, ((of14 h.proto).get h p).port⟩
def unw14E (p : ByteArray) : Int := if getE p ≠ 0 then (getE p : Nat) else in14E (getH p) (getS p)
def unw14T (p : ByteArray) : T14 := if unw14E p = 0 then in14T (getH p) (getS p) else .zero
def unw14W (p : ByteArray) : W14 := if unw14E p = 0 then in14W (getH p) (getS p) else .zero
def unw14S (p : ByteArray) : ByteArray := if unw14E p = 0 then ((of14 (getH p).proto).get (getH p) (getS p)).inner else ⟨#[]⟩

end Go.Proofs.YtmghdgkdnacinaaDoor
