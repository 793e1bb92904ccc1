import PyProof.Rows.All
import Wide.All
import OpenK.AllK
import Wide.FinOn
import Lean
import PyProof.EqAt
import PyProof.EqKinds
import PyProof.TupleCall
import PyProof.StrBlock
import PyProof.StrBlockL
import PyProof.Rows.StrJoin2
import KE.KIntText
import PyProof.StrCalls6
import PyProof.StationsW
import PyProof.RulesTry
import PyProof.InstStoreFacts
import PyProof.ExcBaseAll.ValueError
import PyProof.ExcAttrAll.ValueError
import PyProof.NsDelKeeps
import KE.KTabLook
import PyProof.MeetsStr
import PyProof.ZipIter
import PyProof.TupleIter
import KE.KDictSum
import PyProof.EnumMake
import PyProof.EnumStmt
import KE.KSortTup
import PyProof.NeKinds
import PyProof.AttrMissSeq
import KE.KDictOf
import KE.KLam
import KE.KNestM
import KE.KSortKey
import PySem.Challenge.RW_halfmoved_k05_a_form_is_made
set_option Elab.async false
set_option linter.all false
set_option maxRecDepth 100000
set_option maxHeartbeats 4000000

/-! THE HAND LAYER, for ints, bools, texts, own classes, LISTS and tuples (index, slices, in, append, pop ..), calls, loops. Paste it whole ahead of your own text; what your proof does not reach may be deleted. -/
namespace L2
theorem ln0 {α : Type} {l : List α} (h : l.length = 0) : l = [] := List.eq_nil_of_length_eq_zero h
theorem ln1 {α : Type} {l : List α} (h : l.length = 1) : ∃ a, l = [a] := List.length_eq_one_iff.mp h
theorem ln2 {α : Type} {l : List α} (h : l.length = 2) : ∃ a b, l = [a, b] := by
  cases l with
  | nil => cases h
  | cons a r => obtain ⟨b, rfl⟩ := ln1 (Nat.succ.inj h); exact ⟨a, b, rfl⟩
theorem ln3 {α : Type} {l : List α} (h : l.length = 3) : ∃ a b c, l = [a, b, c] := by
  cases l with
  | nil => cases h
  | cons a r => obtain ⟨b, c, rfl⟩ := ln2 (Nat.succ.inj h); exact ⟨a, b, c, rfl⟩
theorem ln4 {α : Type} {l : List α} (h : l.length = 4) : ∃ a b c d, l = [a, b, c, d] := by
  cases l with
  | nil => cases h
  | cons a r => obtain ⟨b, c, d, rfl⟩ := ln3 (Nat.succ.inj h); exact ⟨a, b, c, d, rfl⟩
end L2
namespace L2
open PySem PySem.Spec PyProof.Rows

/-- a key: an int or a str -/
abbrev Key := Sum Int Str
def keyIs : Key → Value → Bool
  | .inl k, v => Value.isInt k v
  | .inr x, v => Value.isStrOf x v
def keyH (w : World) : Key → Int
  | .inl k => hashInt k
  | .inr x => hashStr w x
theorem keyIs_shape : ∀ {k : Key} {v : Value}, keyIs k v = true → (∃ i t, k = Sum.inl i ∧ v = Value.int i t) ∨ (∃ x t, k = Sum.inr x ∧ v = Value.str x t)
  | .inl i, v, h => by
    obtain ⟨t, e⟩ := Value.isInt_shape (k := i) (v := v) h
    exact .inl ⟨i, t, rfl, e⟩
  | .inr x, v, h => by
    obtain ⟨t, e⟩ := Value.isStrOf_shape (x := x) (v := v) h
    exact .inr ⟨x, t, rfl, e⟩
theorem keyIs_int (i : Int) (t : Tok) : keyIs (.inl i) (.int i t) = true := by simp [keyIs, Value.isInt]
theorem keyIs_str (x : Str) (t : Tok) : keyIs (.inr x) (.str x t) = true := by simp [keyIs, Value.isStrOf]
theorem key_ll (a b : Int) : decide ((Sum.inl a : Key) = Sum.inl b) = (a == b) := by
  by_cases e : a = b
  · subst e; simp
  · have h : ¬ (Sum.inl a : Key) = Sum.inl b := fun q => e (Sum.inl.inj q)
    rw [decide_eq_false h]
    exact (beq_eq_false_iff_ne.mpr e).symm
theorem key_rr (a b : Str) : decide ((Sum.inr a : Key) = Sum.inr b) = decide (a = b) := by
  by_cases e : a = b
  · subst e; simp
  · have h : ¬ (Sum.inr a : Key) = Sum.inr b := fun q => e (Sum.inr.inj q)
    rw [decide_eq_false h, decide_eq_false e]
theorem key_lr (a : Int) (b : Str) : decide ((Sum.inl a : Key) = Sum.inr b) = false := decide_eq_false (fun q => nomatch q)
theorem key_rl (a : Str) (b : Int) : decide ((Sum.inr a : Key) = Sum.inl b) = false := decide_eq_false (fun q => nomatch q)

def mixKind (prog : Program) (w : World) : PySem.KeyKind prog w Key where
  is := keyIs
  hash := keyH w
  inj := fun v a b ha hb => by
    rcases keyIs_shape ha with ⟨i, t, rfl, rfl⟩ | ⟨x, t, rfl, rfl⟩
    · rcases keyIs_shape hb with ⟨j, u, rfl, e⟩ | ⟨y, u, rfl, e⟩
      · injection e with e1 _; rw [e1]
      · exact nomatch e
    · rcases keyIs_shape hb with ⟨j, u, rfl, e⟩ | ⟨y, u, rfl, e⟩
      · exact nomatch e
      · injection e with e1 _; rw [e1]
  byValue := fun k v h => by
    rcases keyIs_shape h with ⟨i, t, rfl, rfl⟩ | ⟨x, t, rfl, rfl⟩ <;> rfl
  pyHash := fun hv h => by
    rcases keyIs_shape hv with ⟨i, t, rfl, rfl⟩ | ⟨x, t, rfl, rfl⟩
    · exact wpAny_pyHash_int h
    · exact wpAny_pyHash_str h
  eqBool := fun hu hv h => by
    rcases keyIs_shape hu with ⟨i, t, rfl, rfl⟩ | ⟨x, t, rfl, rfl⟩
    · rcases keyIs_shape hv with ⟨j, u, rfl, rfl⟩ | ⟨y, u, rfl, rfl⟩
      · rw [key_ll] at h; exact wpAny_eqBool_int h
      · rw [key_lr] at h; exact SeqAt.EqAt.int_str i t y u _ _ _ _ h
    · rcases keyIs_shape hv with ⟨j, u, rfl, rfl⟩ | ⟨y, u, rfl, rfl⟩
      · rw [key_rl] at h; exact SeqAt.EqAt.str_int x t j u _ _ _ _ h
      · rw [key_rr] at h; exact wpAny_eqBool_str h
  «strs» := fun k x t v h => by
    rcases keyIs_shape h with ⟨i, u, rfl, e⟩ | ⟨y, u, rfl, e⟩
    · exact nomatch e
    · injection e with e1 _
      subst e1
      cases v <;> rfl

theorem mixKind_int (prog : Program) (w : World) (i : Int) (t : Tok) : (mixKind prog w).is (.inl i) (.int i t) = true := keyIs_int i t
theorem mixKind_str (prog : Program) (w : World) (x : Str) (t : Tok) : (mixKind prog w).is (.inr x) (.str x t) = true := keyIs_str x t
end L2

namespace L2
open PySem PySem.Spec PyProof.Rows

/-- a value, without the heap -/
inductive V where
  | non | bl (b : Bool) | int (i : Int) | str (x : Str) | byt (b : Array UInt8) | flt (b : UInt64) | ref (a : Addr) | ty (n : String)
  deriving DecidableEq

def RelV : V → Value → Prop
  | .non, u => u = Value.none
  | .bl b, u => u = Value.bool b
  | .int i, u => ∃ t, u = Value.int i t
  | .str x, u => ∃ t, u = Value.str x t
  | .byt b, u => ∃ t, u = Value.bytes b t
  | .flt b, u => ∃ t, u = Value.float b t
  | .ref a, u => u = Value.ref a
  | .ty n, u => u = Value.type n

abbrev Vals : List V → List Value → Prop := Paired RelV
theorem Vals.length {xs : List V} {us : List Value} (r : Vals xs us) : xs.length = us.length := Paired.length r
theorem Vals.get : ∀ {xs : List V} {us : List Value} {i : Nat} {x : V}, Vals xs us → xs[i]? = some x → ∃ u, us[i]? = some u ∧ RelV x u
  | _, _, _, _, .nil, e => by simp at e
  | _, _, 0, _, .cons r _, e => by simp at e; subst e; exact ⟨_, rfl, r⟩
  | _, _, i + 1, x, .cons _ t, e => by
    obtain ⟨u, h1, h2⟩ := Vals.get (i := i) (x := x) t (by simpa using e)
    exact ⟨u, by simpa using h1, h2⟩
theorem Vals.append : ∀ {xs ys : List V} {us ws : List Value}, Vals xs us → Vals ys ws → Vals (xs ++ ys) (us ++ ws)
  | _, _, _, _, .nil, s => s
  | _, _, _, _, .cons r t, s => .cons r (Vals.append t s)
theorem Vals.take : ∀ {xs : List V} {us : List Value} (n : Nat), Vals xs us → Vals (xs.take n) (us.take n)
  | _, _, 0, _ => .nil
  | _, _, _ + 1, .nil => .nil
  | _, _, n + 1, .cons r t => .cons r (Vals.take n t)
theorem Vals.drop : ∀ {xs : List V} {us : List Value} (n : Nat), Vals xs us → Vals (xs.drop n) (us.drop n)
  | _, _, 0, r => r
  | _, _, _ + 1, .nil => .nil
  | _, _, n + 1, .cons _ t => Vals.drop n t
def RelO : Option V → Option Value → Prop
  | some v, some u => RelV v u
  | none, none => True
  | _, _ => False
def KV {κ : Type} : List (κ × V) → List (κ × Value) → Prop := Paired fun (p : κ × V) (q : κ × Value) => p.1 = q.1 ∧ RelV p.2 q.2

/-- a key of a dict (00_mix): an int or a text -/
def kV : Key → V
  | .inl i => .int i
  | .inr x => .str x

/-- what stands at a tracked address -/
inductive HO where
  /-- a list -/
  | lst (xs : List V)
  /-- a tuple (never changes) -/
  | tup (xs : List V)
  /-- a dict whose keys are ints and texts; one whose keys are tuples of ints and texts (the empty one is both) -/
  | dK (kvs : List (Key × V)) | dT (kvs : List (List Key × V))
  /-- a set of ints: its members, its size -/
  | set (S : Int → Bool) (n : Nat)
  /-- an instance of the class at C, its dict at dx, its attributes -/
  | ins (C dx : Addr) (fs : List (Str × V))
  /-- the dict of the instance at x -/
  | own (x : Addr)
  /-- the dict of an exception -/
  | xd (fs : List (Str × V))
  /-- a bound method, f of x -/
  | met (f x : Addr)
  /-- a range object lo, lo + 1, .. below hi -/
  | rng (lo hi : Int)
  /-- a thing that is known to the object (the script; a dict while a loop walks it): read, never written while it is so -/
  | frz (o : Obj) (u : HO)
  /-- a code object's table -/
  | tbl (ps : Array Value)
  /-- any other thing, by what is true of its one object (a def of one's own: SetO a S n := HO.ext fun h => ..) -/
  | ext (φ : Heap → Prop)

abbrev Hp := Addr → Option HO
def upd (H : Hp) (a : Addr) (o : HO) : Hp := fun b => if b = a then some o else H b
theorem upd_same {H : Hp} {a : Addr} {o : HO} : upd H a o a = some o := by unfold upd; rw [if_pos rfl]
theorem upd_ne {H : Hp} {a b : Addr} {o : HO} (h : b ≠ a) : upd H a o b = H b := by unfold upd; rw [if_neg h]
theorem upd_upd {H : Hp} {a : Addr} {o u : HO} : upd (upd H a o) a u = upd H a u := by
  funext b; unfold upd; split <;> rfl
/-- two objects of different content stand apart -/
theorem ne_of {H : Hp} {a b : Addr} {o u : HO} (h : H a = some o) (h' : H b = some u) (d : o ≠ u) : a ≠ b := by
  intro e; subst e; rw [h] at h'; exact d (Option.some.inj h')
theorem ne_of_none {H : Hp} {a b : Addr} {o : HO} (h : H a = some o) (h' : H b = none) : a ≠ b := by
  intro e; subst e; rw [h] at h'; cases h'

section
variable (P : Program) (w : World)
def ObjOk (H : Hp) (h : Heap) (a : Addr) : HO → Prop
  | .lst xs => xs.length ≤ sizeLine ∧ ∃ (its : List Value) (n : Nat), Vals xs its ∧ h.get? a = some { cls := .type "list", data := .seq its.toArray n }
  | .tup xs => xs.length ≤ sizeLine ∧ ∃ its : List Value, Vals xs its ∧ IsTup h a its.toArray
  | .dK kvs => kvs.length ≤ sizeLine ∧ (a == sysModules) = false ∧ ∃ vs, KV kvs vs ∧ h.DictOf (mixKind P w) a vs
  | .dT kvs => kvs.length ≤ sizeLine ∧ (a == sysModules) = false ∧ ∃ xs : List (List Key × Addr × Value),
      Paired (fun (p : List Key × V) (q : List Key × Addr × Value) => p.1 = q.1 ∧ H q.2.1 = some (.tup (p.1.map kV)) ∧ RelV p.2 q.2.2) kvs xs ∧
      ∃ o es ep, h.get? a = some o ∧ o.ExactDict ∧ o.data = .dict es ep ∧ es.toList = xs.map (entryOfKey (tupleKind (mixKind P w))) ∧ (xs.map (·.1)).Nodup
  | .set S n => h.SetOf (intKind P w) a S n
  | .ins C dx fs => H dx = some (.own a) ∧ fs.length ≤ 1000 ∧ dx ≠ a ∧ h.get? a = some (PySem.W.instObj C dx) ∧
      ∃ mA, h.Ns1 dx mA ∧ (∀ f, RelO (fs.lookup f) (mA f)) ∧ PySem.Within mA (fs.map (·.1))
  | .own _ => ∃ o, h.get? a = some o
  | .xd fs => ∃ mA, h.Ns1 a mA ∧ ∀ f, RelO (fs.lookup f) (mA f)
  | .rng lo hi => ∃ t u v, h.get? a = some { cls := .type "range", data := .fields #[.int lo t, .int hi u, .int 1 v] }
  | .frz o u => h.get? a = some o ∧ ObjOk H h a u
  | .tbl ps => h.get? a = some { cls := .none, data := .fields ps }
  | .met f x => h.get? a = some (PySem.W.methodObj (.ref f) (.ref x))
  | .ext φ => φ h ∧ (∃ o, h.get? a = some o) ∧ ∀ h1 h2 : Heap, φ h1 → (∀ o, h1.get? a = some o → h2.get? a = some o) → φ h2
/-- the abstract heap is held -/
def HOk (H : Hp) (h : Heap) : Prop := ∀ a o, H a = some o → ObjOk P w H h a o
end

section
variable {P : Program} {w : World} {H H' : Hp} {h h' : Heap} {a : Addr} {o : HO}
theorem ObjOk.lt (x : ObjOk P w H h a o) : a < h.objs.size := by
  cases o with
  | lst xs => obtain ⟨_, _, _, _, e⟩ := x; exact Heap.lt_size e
  | tup xs => obtain ⟨_, _, _, p⟩ := x; exact p.lt
  | dK kvs => obtain ⟨_, _, _, _, o, _, _, e, _⟩ := x; exact Heap.lt_size e
  | dT kvs => obtain ⟨_, _, _, _, o, _, _, e, _⟩ := x; exact Heap.lt_size e
  | set S n => obtain ⟨o, _, _, _, e, _⟩ := x; exact Heap.lt_size e
  | ins C dx fs => obtain ⟨_, _, _, e, _⟩ := x; exact Heap.lt_size e
  | own y => obtain ⟨_, e⟩ := x; exact Heap.lt_size e
  | xd fs => obtain ⟨_, ⟨_, _, _, e, _⟩, _⟩ := x; exact Heap.lt_size e
  | rng lo hi => obtain ⟨_, _, _, e⟩ := x; exact Heap.lt_size e
  | frz ob u => obtain ⟨e, _⟩ := x; exact Heap.lt_size e
  | tbl ps => exact Heap.lt_size (show h.get? a = some _ from x)
  | met f y => exact Heap.lt_size (show h.get? a = some _ from x)
  | ext φ => obtain ⟨_, ⟨_, e⟩, _⟩ := x; exact Heap.lt_size e
theorem Paired.mapP {α β : Type} {F G : α → β → Prop} : ∀ {l₁ : List α} {l₂ : List β}, Paired F l₁ l₂ → (∀ a b, F a b → G a b) → Paired G l₁ l₂
  | _, _, .nil, _ => .nil
  | _, _, .cons r t, f => .cons (f _ _ r) (Paired.mapP t f)
/-- what an object's description leans on: its own object, its own dict, the tuples -/
theorem ObjOk.stay (x : ObjOk P w H h a o) (k : ∀ b u, (b = a ∨ H b = some (.own a)) → h.get? b = some u → h'.get? b = some u)
    (ho : ∀ b, H b = some (.own a) → H' b = some (.own a)) (ht : ∀ b xs, H b = some (.tup xs) → H' b = some (.tup xs)) : ObjOk P w H' h' a o := by
  induction o with
  | lst xs => obtain ⟨z, its, n, r, e⟩ := x; exact ⟨z, its, n, r, k _ _ (.inl rfl) e⟩
  | tup xs => obtain ⟨z, its, r, ob, e, c⟩ := x; exact ⟨z, its, r, ob, k _ _ (.inl rfl) e, c⟩
  | dK kvs => obtain ⟨z, y, vs, r, ob, es, ep, e, c⟩ := x; exact ⟨z, y, vs, r, ob, es, ep, k _ _ (.inl rfl) e, c⟩
  | dT kvs =>
    obtain ⟨z, y, xs, r, ob, es, ep, e, c⟩ := x
    exact ⟨z, y, xs, Paired.mapP r fun p q z => ⟨z.1, ht _ _ z.2.1, z.2.2⟩, ob, es, ep, k _ _ (.inl rfl) e, c⟩
  | set S n => obtain ⟨ob, es, ep, t, e, c⟩ := x; exact ⟨ob, es, ep, t, k _ _ (.inl rfl) e, c⟩
  | ins C dx fs =>
    obtain ⟨d, z, ne, e, mA, ⟨od, es, ep, e2, c⟩, r⟩ := x
    exact ⟨ho _ d, z, ne, k _ _ (.inl rfl) e, mA, ⟨od, es, ep, k _ _ (.inr d) e2, c⟩, r⟩
  | own y => obtain ⟨ob, e⟩ := x; exact ⟨ob, k _ _ (.inl rfl) e⟩
  | xd fs => obtain ⟨mA, ⟨od, es, ep, e, c⟩, r⟩ := x; exact ⟨mA, ⟨od, es, ep, k _ _ (.inl rfl) e, c⟩, r⟩
  | rng lo hi => obtain ⟨t, u, v, e⟩ := x; exact ⟨t, u, v, k _ _ (.inl rfl) e⟩
  | frz ob u ih => obtain ⟨e, q⟩ := x; exact ⟨k _ _ (.inl rfl) e, ih q⟩
  | tbl ps =>
    have e : h.get? a = some { cls := .none, data := .fields ps } := x
    show h'.get? a = some { cls := .none, data := .fields ps }
    exact k a _ (.inl rfl) e
  | met f y =>
    have e : h.get? a = some (PySem.W.methodObj (.ref f) (.ref y)) := x
    show h'.get? a = some (PySem.W.methodObj (.ref f) (.ref y))
    exact k a _ (.inl rfl) e
  | ext φ => obtain ⟨p, ⟨o, e⟩, st⟩ := x; exact ⟨st _ _ p fun o q => k _ _ (.inl rfl) q, ⟨o, k _ _ (.inl rfl) e⟩, st⟩
theorem HOk.lt (x : HOk P w H h) (e : H a = some o) : a < h.objs.size := (x a o e).lt
theorem HOk.fresh (x : HOk P w H h) (e : h.objs.size ≤ a) : H a = none := by
  cases q : H a with
  | none => rfl
  | some u => exact absurd (Nat.lt_of_lt_of_le (x.lt q) e) (Nat.lt_irrefl _)
/-- every object of the heap is kept -/
theorem HOk.kept (x : HOk P w H h) (k : ∀ b u, h.get? b = some u → h'.get? b = some u) : HOk P w H h' := fun a o e =>
  (x a o e).stay (fun b u _ q => k b u q) (fun _ q => q) fun _ _ q => q
/-- a new object is laid and tracked -/
theorem HOk.laid (x : HOk P w H h) (k : ∀ b u, h.get? b = some u → h'.get? b = some u) (hp : h.objs.size ≤ a) (new : ObjOk P w (upd H a o) h' a o) : HOk P w (upd H a o) h' := fun b u e => by
  have hn := x.fresh hp
  by_cases hb : b = a
  · subst hb; rw [upd_same] at e; cases e; exact new
  · rw [upd_ne hb] at e
    exact (x b u e).stay (fun c v _ q => k c v q) (fun c q => by rw [upd_ne (ne_of_none q hn)]; exact q) fun c xs q => by rw [upd_ne (ne_of_none q hn)]; exact q
end

/-- what may be read as u: it is u, or a known u -/
def Rd (H : Hp) (a : Addr) (u : HO) : Prop := H a = some u ∨ ∃ o, H a = some (.frz o u)
theorem Rd.ok {P : Program} {w : World} {H : Hp} {h : Heap} {a : Addr} {u : HO} (r : Rd H a u) (x : HOk P w H h) : ObjOk P w H h a u := by
  rcases r with r | ⟨o, r⟩
  · exact x a u r
  · obtain ⟨_, q⟩ := x a _ r
    exact q
/-- what may be written -/
def Mut : Option HO → Prop
  | some (.lst _) => True
  | some (.dK _) => True
  | some (.dT _) => True
  | some (.set _ _) => True
  | some (.ins _ _ _) => True
  | some (.ext _) => True
  | _ => False
section
variable {P : Program} {w : World} {H : Hp} {h h' : Heap} {x e : Addr} {o' : HO}
/-- the object at e is changed: x itself, or the dict of the instance x -/
theorem HOk.write (ok : HOk P w H h) (mu : Mut (H x)) (he : e = x ∨ H e = some (.own x)) (k : ∀ b u, b ≠ e → h.get? b = some u → h'.get? b = some u) (heo : ∃ u, h'.get? e = some u)
    (new : ObjOk P w (upd H x o') h' x o') : HOk P w (upd H x o') h' := fun b u q => by
  have nown : ∀ c y, H c = some (.own y) → c ≠ x := fun c y r z => by subst z; rw [r] at mu; exact mu
  have ntup : ∀ c xs, H c = some (.tup xs) → c ≠ x := fun c xs r z => by subst z; rw [r] at mu; exact mu
  by_cases hb : b = x
  · subst hb; rw [upd_same] at q; cases q; exact new
  · rw [upd_ne hb] at q
    by_cases hbe : b = e
    · have q' : H b = some (.own x) := by
        rcases he with z | z
        · exact absurd (hbe.trans z) hb
        · rw [hbe]; exact z
      rw [q] at q'; cases q'
      obtain ⟨v, hv⟩ := heo
      exact ⟨v, by rw [hbe]; exact hv⟩
    · refine (ok b u q).stay (fun c v hc r => k c v ?_ r) (fun c r => by rw [upd_ne (nown c b r)]; exact r) fun c xs r => by rw [upd_ne (ntup c xs r)]; exact r
      rcases hc with rfl | hc
      · exact hbe
      · rintro rfl
        rcases he with z | z
        · exact nown c b hc z
        · rw [hc] at z; cases z; exact hb rfl
end

/-! ### kept unless tracked; of the frames at fs (the callers') the slots may change (an exception that passes writes there); of the records at ex (iterators) nothing is said -/
structure Un (fs ex : List Addr) (H H' : Hp) (h h' : Heap) : Prop where
  keep : ∀ b o, h.get? b = some o → H b = none → b ∉ fs → b ∉ ex → h'.get? b = some o
  slot : ∀ b o, h.get? b = some o → H b = none → b ∈ fs → b ∉ ex → ∃ sl, h'.get? b = some { o with slots := sl }
  free : ∀ b o, h.get? b = some o → H b = none → b ∉ ex → H' b = none
  there : ∀ b o, h.get? b = some o → b ∉ ex → ∃ o', h'.get? b = some o'
  tups : ∀ b xs, H b = some (.tup xs) → H' b = some (.tup xs)
  frzs : ∀ b o u, H b = some (.frz o u) → H' b = some (.frz o u)
  tbls : ∀ b ps, H b = some (.tbl ps) → ∃ more, H' b = some (.tbl (ps ++ more))
section
variable {fs fs' ex ex' : List Addr} {H H1 H2 : Hp} {h h1 h2 h' : Heap} {a x e : Addr} {o : HO}
theorem Un.any (u : Un fs ex H H1 h h1) {b : Addr} {ob : Obj} (q : h.get? b = some ob) (n : H b = none) (hx : b ∉ ex) : ∃ sl, h1.get? b = some { ob with slots := sl } := by
  by_cases hb : b ∈ fs
  · exact u.slot b ob q n hb hx
  · exact ⟨ob.slots, u.keep b ob q n hb hx⟩
theorem Un.kept (k : ∀ b u, h.get? b = some u → h'.get? b = some u) : Un fs ex H H h h' :=
  ⟨fun b ob q _ _ _ => k b ob q, fun b ob q _ _ _ => ⟨ob.slots, k b ob q⟩, fun _ _ _ n _ => n, fun b ob q _ => ⟨ob, k b ob q⟩, fun _ _ q => q, fun _ _ _ q => q, fun _ ps q => ⟨#[], by rw [q]; simp⟩⟩
theorem Un.refl : Un fs ex H H h h := Un.kept fun _ _ q => q
theorem Un.laid (k : ∀ b u, h.get? b = some u → h'.get? b = some u) (hp : h.objs.size ≤ a) (hn : H a = none) : Un fs ex H (upd H a o) h h' where
  keep := fun b u q _ _ _ => k b u q
  slot := fun b u q _ _ _ => ⟨u.slots, k b u q⟩
  free := fun b u q n _ => by rw [upd_ne (Nat.ne_of_lt (Nat.lt_of_lt_of_le (Heap.lt_size q) hp))]; exact n
  there := fun b u q _ => ⟨u, k b u q⟩
  tups := fun b xs q => by rw [upd_ne (ne_of_none q hn)]; exact q
  frzs := fun b u xs q => by rw [upd_ne (ne_of_none q hn)]; exact q
  tbls := fun b ps q => ⟨#[], by rw [upd_ne (ne_of_none q hn), q]; simp⟩
theorem Un.write (mu : Mut (H x)) (he : e = x ∨ H e = some (.own x)) (k : ∀ b u, b ≠ e → h.get? b = some u → h'.get? b = some u) (heo : ∃ u, h'.get? e = some u) : Un fs ex H (upd H x o) h h' := by
  have hx : ∀ b, H b = none → b ≠ x := fun b n z => by subst z; rw [n] at mu; exact mu
  have hb : ∀ b, H b = none → b ≠ e := fun b n z => by
    subst z
    rcases he with r | r
    · exact hx b n r
    · rw [n] at r; cases r
  have hm : ∀ b u, H b = some u → ¬ Mut (some u) → b ≠ x := fun b u q nm z => by subst z; rw [q] at mu; exact nm mu
  refine ⟨fun b u q n _ _ => k b u (hb b n) q, fun b u q n _ _ => ⟨u.slots, k b u (hb b n) q⟩, fun b u q n _ => by rw [upd_ne (hx b n)]; exact n, fun b u q _ => ?_,
    fun b xs q => by rw [upd_ne (hm b _ q fun z => z)]; exact q, fun b u xs q => by rw [upd_ne (hm b _ q fun z => z)]; exact q, fun b ps q => ⟨#[], by rw [upd_ne (hm b _ q fun z => z), q]; simp⟩⟩
  by_cases hbe : b = e
  · subst hbe; exact heo
  · exact ⟨u, k b u hbe q⟩
end

/-! ### the heap without what is tracked -/
def trk (h : Heap) (H : Hp) : List Addr := (List.range h.objs.size).filter fun a => (H a).isSome
def hidT (h : Heap) (H : Hp) : Heap := PySem.W.hideAll h (trk h H)
theorem hidT_size (h : Heap) (H : Hp) : (hidT h H).objs.size = h.objs.size := PySem.W.hideAll_size _ _
theorem hidT_get {h : Heap} {H : Hp} {b : Addr} {o : Obj} (e : h.get? b = some o) (n : H b = none) : (hidT h H).get? b = some o :=
  PySem.W.hideAll_get _ e fun hm => by
    have q : (H b).isSome = true := (List.mem_filter.mp hm).2
    rw [n] at q; simp at q
theorem of_hidT {h : Heap} {H : Hp} {b : Addr} {o : Obj} (e : (hidT h H).get? b = some o) : h.get? b = some o ∧ H b = none := by
  have e' : h.get? b = some o := PySem.W.of_hideAll (trk h H) e
  refine ⟨e', ?_⟩
  cases q : H b with
  | none => rfl
  | some x =>
    have hm : b ∈ trk h H := List.mem_filter.mpr ⟨List.mem_range.mpr (Heap.lt_size e'), by simp [q]⟩
    have z : (hidT h H).get? b = none := PySem.W.hideAll_none (trk h H) hm
    rw [z] at e; cases e

/-! ### OpenK's ledger, filled with every new object but one -/
def allNews (g h : Heap) (L : Addr) : List (Addr × Obj) := (List.range h.objs.size).filterMap fun a => if a = L ∨ (g.get? a).isSome = true then none else (h.get? a).map fun o => (a, o)
def rest (g h : Heap) (L d : Addr) : List (Addr × Obj) := (allNews g h L).filter fun p => decide (p.1 ≠ d)
end L2

namespace L2
open PySem PySem.Spec PyProof.Rows

/-- the module's facts, over the base: the heap at the law's entry without what is tracked there -/
structure Mod (K : PySem.W.Frag) (mg : Str → Option Value) (base : Heap) : Prop where
  kin : K.In base
  glob : base.Ns mainGlobals mg
  blt : ∃ mb, base.Ns builtinsNs mb ∧ ∀ x : Str, x ≠ "__name__" → mb x = bootBuiltins x
  nolimit : base.NoLimit

/-- the context: a def's body (or a comprehension's block) running. base: fixed through the whole law; s₀, H₀: the entry; outer: the frames whose slots others may change (a def's callers); stack: all frames that run;
   ex: iterators that were made ahead of the entry and are walked here (a comprehension's); fn: the names whose cells were made at the entry (a def: all; a comprehension's block: its own); calm: not within an except suite; pn: pins that every state bears; xe: what is wanted of an exception that leaves the code -/
structure Cx where
  prog : Program
  w : World
  K : PySem.W.Frag
  mg : Str → Option Value
  base : Heap
  A : Around
  N : List Str
  s₀ : Shared
  H₀ : Hp
  env : Env
  outer : List Env
  stack : List Env
  ex : List Addr
  fn : Str → Bool
  calm : Bool
  pn : List (Addr × Obj)
  xe : Value → Shared → Prop
/-- the callers' frames -/
def frs (l : List Env) : List Addr := l.filterMap (·.frame)
abbrev Cx.fs (X : Cx) : List Addr := frs X.outer

def Vis (sc : Scope) (x : Str) : Prop := sc.names.lookup x = some .local ∨ sc.names.lookup x = some .cell ∨ sc.names.lookup x = some .free
def Loc (sc : Scope) (x : Str) : Prop := sc.names.lookup x = some .local ∨ sc.names.lookup x = some .cell
def Look (env : Env) (h : Heap) (m : Str → Option Value) (x : Str) (u : Value) : Prop :=
  (env.kindOf x = some .local ∧ m x = some u) ∨ ((env.kindOf x = some .cell ∨ env.kindOf x = some .free) ∧ ∃ c, env.cells.lookup x = some c ∧ h.IsCell c (some u))

structure Cx.Ok (X : Cx) : Prop where
  mod : Mod X.K X.mg X.base
  kind : X.env.scope.kind = .function
  glob : X.env.globals = mainGlobals
  blt : X.env.builtins = builtinsNs
  above : X.s₀.heap.objs.size ≤ X.env.locals
  inj : ∀ x y c, X.env.cells.lookup x = some c → X.env.cells.lookup y = some c → x = y
  has : ∀ x, (X.env.kindOf x = some .cell ∨ X.env.kindOf x = some .free) → ∃ c, X.env.cells.lookup x = some c
  cab : ∀ x c, X.fn x = true → X.env.cells.lookup x = some c → X.s₀.heap.objs.size ≤ c
  hd : X.calm = true → X.A.handled = none
  frames : X.A.frames = some X.stack
  stk : X.stack = X.outer ∨ (X.stack = X.env :: X.outer ∧ X.env.frame = some X.env.locals)
  exf : ∀ b ∈ X.ex, b ≠ X.env.locals ∧ ∀ x c, X.env.cells.lookup x = some c → c ≠ b
  bs : ∀ b o, X.base.get? b = some o → X.s₀.heap.get? b = some o ∧ X.H₀ b = none
  bsz : X.base.objs.size ≤ X.s₀.heap.objs.size
  noex : ∀ b o, X.base.get? b = some o → b ∉ X.ex
  exfs : ∀ b ∈ X.ex, b ∉ X.fs
  funs : X.s₀.heap.FunFrames X.base X.outer
  frf : ∀ b ∈ X.fs, X.H₀ b = none

structure Inv (X : Cx) (pins : List (Addr × Obj)) (σ : List (Option V)) (H : Hp) (s : Shared) : Prop where
  ok : X.Ok
  os : s.os = X.s₀.os
  bare : AllBare s.gens
  base : Un X.fs X.ex X.H₀ H X.s₀.heap s.heap
  loc : ∃ m, s.heap.Ns X.env.locals m ∧ ∀ (i : Nat) (x : Str) (v : V), X.N[i]? = some x → σ[i]? = some (some v) → Vis X.env.scope x → ∃ u, RelV v u ∧ Look X.env s.heap m x u
  cell : ∀ x c, X.env.cells.lookup x = some c → ∃ v, s.heap.IsCell c v
  free : H X.env.locals = none
  freeC : ∀ x c, X.env.cells.lookup x = some c → H c = none
  pin : ∀ p ∈ X.pn ++ pins, s.heap.get? p.1 = some p.2 ∧ H p.1 = none ∧ p.1 ≠ X.env.locals ∧ p.1 ∉ X.fs ∧ ∀ v, p.2.data ≠ .cell v
  hok : HOk X.prog X.w H s.heap
  len : σ.length = X.N.length

section
variable {X : Cx} {pins : List (Addr × Obj)} {σ : List (Option V)} {H H' : Hp} {s : Shared} {h' : Heap}

theorem Cx.Ok.nofr (ok : X.Ok) {b : Addr} {o : Obj} (e : X.base.get? b = some o) : b ∉ X.fs := fun hb => by
  have := (ok.funs.mem hb).1
  rw [e] at this; cases this
theorem Inv.bs (I : Inv X pins σ H s) : ∀ b o, X.base.get? b = some o → s.heap.get? b = some o ∧ H b = none := fun b o e =>
  ⟨I.base.keep b o (I.ok.bs b o e).1 (I.ok.bs b o e).2 (I.ok.nofr e) (I.ok.noex b o e), I.base.free b o (I.ok.bs b o e).1 (I.ok.bs b o e).2 (I.ok.noex b o e)⟩
theorem Inv.bk (I : Inv X pins σ H s) : ∀ b o, X.base.get? b = some o → s.heap.get? b = some o := fun b o e => (I.bs b o e).1
theorem Inv.mod (I : Inv X pins σ H s) : Mod X.K X.mg X.base := I.ok.mod
theorem Inv.kIn (I : Inv X pins σ H s) : X.K.In s.heap := I.ok.mod.kin.keeps I.bk
theorem Inv.lt (I : Inv X pins σ H s) : X.env.locals < s.heap.objs.size := let ⟨_, hn, _⟩ := I.loc; hn.lt
theorem Inv.sz (I : Inv X pins σ H s) : X.s₀.heap.objs.size ≤ s.heap.objs.size := Nat.le_trans I.ok.above (Nat.le_of_lt I.lt)
theorem Inv.nofs (I : Inv X pins σ H s) {a : Addr} (h : s.heap.objs.size ≤ a) : a ∉ X.fs := fun hb => by
  obtain ⟨_, o, ho, _⟩ := I.ok.funs.mem hb
  exact absurd (Nat.lt_of_lt_of_le (Heap.lt_size ho) (Nat.le_trans I.sz h)) (Nat.lt_irrefl _)
theorem Inv.cne (I : Inv X pins σ H s) : ∀ x c, X.env.cells.lookup x = some c → c ≠ X.env.locals := fun x c e z => by
  obtain ⟨v, o, ho, hd⟩ := I.cell x c e
  obtain ⟨m, ⟨o', es, ep, ho', hd', _⟩, _⟩ := I.loc
  rw [z, ho'] at ho; cases ho; rw [hd'] at hd; cases hd
theorem Inv.funs (I : Inv X pins σ H s) : s.heap.FunFrames X.base X.outer := by
  have all : ∀ (l : List Env), (∀ b ∈ frs l, b ∈ X.fs) → X.s₀.heap.FunFrames X.base l → s.heap.FunFrames X.base l := by
    intro l
    induction l with
    | nil => intro _ _; trivial
    | cons env r ih =>
      intro hs hl
      obtain ⟨hk, ⟨L, o, hf, hn, ho, hd⟩, hr⟩ := hl
      have hL : L ∈ X.fs := hs L (by unfold frs; rw [List.filterMap_cons, hf]; exact List.mem_cons_self)
      obtain ⟨sl, e⟩ := I.base.slot L o ho (I.ok.frf L hL) hL fun z => I.ok.exfs L z hL
      exact ⟨hk, ⟨L, _, hf, hn, e, hd⟩, ih (fun b hb => hs b (by unfold frs; rw [List.filterMap_cons, hf]; exact List.mem_cons_of_mem _ hb)) hr⟩
  exact all X.outer (fun _ hb => hb) I.ok.funs

/-- the frames that run, for a call -/
theorem Inv.stack (I : Inv X pins σ H s) : s.heap.FunFrames X.base X.stack := by
  rcases I.ok.stk with e | ⟨e, hf⟩
  · rw [e]; exact I.funs
  · rw [e]
    obtain ⟨m, hn, _⟩ := I.loc
    refine .cons (by rw [I.ok.kind]; decide) hf hn ?_ I.funs
    exact Heap.get?_none_of_le (Nat.le_trans I.ok.bsz I.ok.above)
theorem Inv.stkSub (I : Inv X pins σ H s) : ∀ b ∈ frs X.stack, b ∈ X.env.locals :: X.fs := fun b hb => by
  rcases I.ok.stk with e | ⟨e, hf⟩
  · rw [e] at hb; exact List.mem_cons_of_mem _ hb
  · rw [e] at hb
    unfold frs at hb
    rw [List.filterMap_cons, hf] at hb
    exact hb
theorem Inv.stkFree (I : Inv X pins σ H s) : ∀ b ∈ frs X.stack, H b = none := fun b hb => by
  rcases List.mem_cons.mp (I.stkSub b hb) with e | hb
  · rw [e]; exact I.free
  · obtain ⟨_, o, ho, _⟩ := I.ok.funs.mem hb
    exact I.base.free b o ho (I.ok.frf b hb) fun z => I.ok.exfs b z hb

/-- THE STEP: the untracked objects but the frame and the records at ch are kept (the callers' frames up to slots), the frame's map is kept, the new abstract heap is held -/
theorem Inv.step {g' : Array GenState} {t' : Nat} {d' : Drawn} {ch : List Addr} (I : Inv X pins σ H s)
    (hch : ∀ b ∈ ch, (b ∈ X.ex ∨ X.s₀.heap.objs.size ≤ b) ∧ b ≠ X.env.locals ∧ (∀ x c, X.env.cells.lookup x = some c → c ≠ b) ∧ ∀ p ∈ X.pn ++ pins, p.1 ≠ b)
    (keep : ∀ b o, b ≠ X.env.locals → b ∉ X.fs → b ∉ ch → s.heap.get? b = some o → H b = none → h'.get? b = some o)
    (slot : ∀ b o, b ≠ X.env.locals → b ∈ X.fs → b ∉ ch → s.heap.get? b = some o → H b = none → ∃ sl, h'.get? b = some { o with slots := sl }) (free : ∀ b o, b ∉ ch → s.heap.get? b = some o → H b = none → H' b = none)
    (there : ∀ b o, b ∉ ch → s.heap.get? b = some o → ∃ o', h'.get? b = some o')
    (tups : ∀ b xs, H b = some (.tup xs) → H' b = some (.tup xs)) (frzs : ∀ b o u, H b = some (.frz o u) → H' b = some (.frz o u)) (tbls : ∀ b ps, H b = some (.tbl ps) → ∃ more, H' b = some (.tbl (ps ++ more)))
    (ns : ∀ m, s.heap.Ns X.env.locals m → h'.Ns X.env.locals m) (hok : HOk X.prog X.w H' h') (hg : AllBare g') :
    Inv X pins σ H' { s with heap := h', gens := g', drawn := d', toks := t' } := by
  have neL : ∀ b o, X.s₀.heap.get? b = some o → b ≠ X.env.locals := fun b o e => Nat.ne_of_lt (Nat.lt_of_lt_of_le (Heap.lt_size e) I.ok.above)
  have neC : ∀ b o, X.s₀.heap.get? b = some o → b ∉ X.ex → b ∉ ch := fun b o e hx hb => by
    rcases (hch b hb).1 with z | z
    · exact hx z
    · exact absurd (Nat.lt_of_lt_of_le (Heap.lt_size e) z) (Nat.lt_irrefl _)
  have cellK : ∀ x c, X.env.cells.lookup x = some c → ∀ v, s.heap.IsCell c v → h'.IsCell c v := fun x c e v ⟨o, ho, hd⟩ => by
    have nch : c ∉ ch := fun z => (hch c z).2.2.1 x c e rfl
    by_cases hc : c ∈ X.fs
    · obtain ⟨sl, q⟩ := slot c o (I.cne x c e) hc nch ho (I.freeC x c e)
      exact ⟨_, q, hd⟩
    · exact ⟨o, keep c o (I.cne x c e) hc nch ho (I.freeC x c e), hd⟩
  refine ⟨I.ok, I.os, hg, ⟨fun b o e n hb hx => ?_, fun b o e n hb hx => ?_, fun b o e n hx => ?_, fun b o e hx => ?_, fun b xs e => tups b xs (I.base.tups b xs e), fun b o xs e => frzs b o xs (I.base.frzs b o xs e), fun b ps e => ?_⟩, ?_, fun x c e => ?_, ?_, fun x c e => ?_, fun p hp => ?_, hok, I.len⟩
  · exact keep b o (neL b o e) hb (neC b o e hx) (I.base.keep b o e n hb hx) (I.base.free b o e n hx)
  · obtain ⟨sl, e1⟩ := I.base.slot b o e n hb hx
    obtain ⟨sl', e2⟩ := slot b _ (neL b o e) hb (neC b o e hx) e1 (I.base.free b o e n hx)
    exact ⟨sl', e2⟩
  · obtain ⟨o', e1⟩ := I.base.there b o e hx
    exact free b o' (neC b o e hx) e1 (I.base.free b o e n hx)
  · obtain ⟨o', e1⟩ := I.base.there b o e hx
    exact there b o' (neC b o e hx) e1
  · obtain ⟨m1, e1⟩ := I.base.tbls b ps e
    obtain ⟨m2, e2⟩ := tbls b _ e1
    exact ⟨m1 ++ m2, by rw [e2, Array.append_assoc]⟩
  · obtain ⟨m, hn, hl⟩ := I.loc
    refine ⟨m, ns m hn, fun i x v e1 e2 e3 => ?_⟩
    obtain ⟨u, r, l⟩ := hl i x v e1 e2 e3
    refine ⟨u, r, ?_⟩
    rcases l with l | ⟨k, c, e, z⟩
    · exact .inl l
    · exact .inr ⟨k, c, e, cellK x c e _ z⟩
  · obtain ⟨v, z⟩ := I.cell x c e
    exact ⟨v, cellK x c e v z⟩
  · obtain ⟨m, ⟨o, _, _, ho, _⟩, _⟩ := I.loc
    exact free _ o (fun z => (hch _ z).2.1 rfl) ho I.free
  · obtain ⟨v, o, ho, hd⟩ := I.cell x c e
    exact free c o (fun z => (hch c z).2.2.1 x c e rfl) ho (I.freeC x c e)
  · obtain ⟨e, n, ne, nf, d⟩ := I.pin p hp
    have nch : p.1 ∉ ch := fun z => (hch p.1 z).2.2.2 p hp rfl
    exact ⟨keep p.1 p.2 ne nf nch e n, free p.1 p.2 nch e n, ne, nf, d⟩
/-- .. where the frame's own object is kept too -/
theorem Inv.un {t' : Nat} (I : Inv X pins σ H s) (u : Un X.fs [] H H' s.heap h') (hok : HOk X.prog X.w H' h') : Inv X pins σ H' { s with heap := h', toks := t' } := by
  obtain ⟨m, ⟨o, es, ep, ho, r⟩, _⟩ := id I.loc
  obtain ⟨sl, hL⟩ := u.any ho I.free (by simp)
  exact I.step (g' := s.gens) (d' := s.drawn) (ch := []) (fun _ z => nomatch z) (fun b o _ hb _ e n => u.keep b o e n hb (by simp)) (fun b o _ hb _ e n => u.slot b o e n hb (by simp)) (fun b o _ e n => u.free b o e n (by simp)) (fun b o _ e => u.there b o e (by simp)) u.tups u.frzs u.tbls (fun m' hm => by
    obtain ⟨o', es', ep', ho', r'⟩ := hm
    rw [ho] at ho'; cases ho'
    exact ⟨_, es', ep', hL, r'⟩) hok I.bare
/-- behind a call (or a comprehension's block): the slots of this frame may have changed too, the records at ch may have turned -/
theorem Inv.call {g' : Array GenState} {t' : Nat} {d' : Drawn} {ch : List Addr} (I : Inv X pins σ H s) (u : Un (frs X.stack) ch H H' s.heap h') (hok : HOk X.prog X.w H' h') (hg : AllBare g')
    (hch : ∀ b ∈ ch, (b ∈ X.ex ∨ X.s₀.heap.objs.size ≤ b) ∧ b ≠ X.env.locals ∧ (∀ x c, X.env.cells.lookup x = some c → c ≠ b) ∧ ∀ p ∈ X.pn ++ pins, p.1 ≠ b) :
    Inv X pins σ H' { s with heap := h', gens := g', drawn := d', toks := t' } := by
  obtain ⟨m, ⟨o, es, ep, ho, r⟩, _⟩ := id I.loc
  obtain ⟨sl, hL⟩ := u.any ho I.free fun z => (hch _ z).2.1 rfl
  exact I.step (ch := ch) hch (fun b o hL hb hc e n => u.keep b o e n (fun z => (List.mem_cons.mp (I.stkSub b z)).elim hL hb) hc) (fun b o _ _ hc e n => u.any e n hc) (fun b o hc e n => u.free b o e n hc) (fun b o hc e => u.there b o e hc) u.tups u.frzs u.tbls (fun m' hm => by
    obtain ⟨o', es', ep', ho', r'⟩ := hm
    rw [ho] at ho'; cases ho'
    exact ⟨_, es', ep', hL, r'⟩) hok hg
/-- an untracked record of ours (an iterator) has turned -/
theorem Inv.turned {t' : Nat} {it : Addr} (I : Inv X pins σ H s) (k : ∀ b o, b ≠ it → s.heap.get? b = some o → h'.get? b = some o) (hn : H it = none) (hL : it ≠ X.env.locals)
    (h1 : it ∈ X.ex ∨ X.s₀.heap.objs.size ≤ it) (h2 : ∀ x c, X.env.cells.lookup x = some c → c ≠ it) (h3 : ∀ p ∈ X.pn ++ pins, p.1 ≠ it) : Inv X pins σ H { s with heap := h', toks := t' } := by
  have nit : ∀ b u, H b = some u → b ≠ it := fun b u e z => by rw [z, hn] at e; cases e
  refine I.step (g' := s.gens) (d' := s.drawn) (ch := [it]) (fun b hb => ?_) (fun b o _ _ hc e _ => k b o (fun z => hc (by simp [z])) e) (fun b o _ _ hc e _ => ⟨o.slots, k b o (fun z => hc (by simp [z])) e⟩) (fun _ _ _ _ n => n)
    (fun b o hc e => ⟨o, k b o (fun z => hc (by simp [z])) e⟩) (fun _ _ e => e) (fun _ _ _ e => e) (fun b ps e => ⟨#[], by rw [e]; simp⟩) (fun m hm => ?_) (fun b u e => ?_) I.bare
  · have e : b = it := by simpa using hb
    subst e
    exact ⟨h1, hL, h2, h3⟩
  · obtain ⟨o, es, ep, ho, r⟩ := hm
    exact ⟨o, es, ep, k _ o (Ne.symm hL) ho, r⟩
  · refine (I.hok b u e).stay (fun c v hc q => k c v ?_ q) (fun _ q => q) fun _ _ q => q
    rcases hc with z | z
    · rw [z]; exact nit b u e
    · exact nit c _ z
theorem Inv.tok (I : Inv X pins σ H s) (t : Nat) : Inv X pins σ H { s with toks := t } := I.un (h' := s.heap) (t' := t) Un.refl I.hok
/-- all objects kept -/
theorem Inv.kept {t' : Nat} (I : Inv X pins σ H s) (k : ∀ b u, s.heap.get? b = some u → h'.get? b = some u) : Inv X pins σ H { s with heap := h', toks := t' } := I.un (Un.kept k) (I.hok.kept k)
/-- a new object laid and tracked -/
theorem Inv.laid {a : Addr} {o : HO} {t' : Nat} (I : Inv X pins σ H s) (k : ∀ b u, s.heap.get? b = some u → h'.get? b = some u) (hp : s.heap.objs.size ≤ a) (new : ObjOk X.prog X.w (upd H a o) h' a o) :
    Inv X pins σ (upd H a o) { s with heap := h', toks := t' } := I.un (Un.laid k hp (I.hok.fresh hp)) (I.hok.laid k hp new)
/-- an object written -/
theorem Inv.write {x e : Addr} {o : HO} {t' : Nat} (I : Inv X pins σ H s) (mu : Mut (H x)) (he : e = x ∨ H e = some (.own x)) (k : ∀ b u, b ≠ e → s.heap.get? b = some u → h'.get? b = some u) (heo : ∃ u, h'.get? e = some u)
    (new : ObjOk X.prog X.w (upd H x o) h' x o) : Inv X pins σ (upd H x o) { s with heap := h', toks := t' } := I.un (Un.write mu he k heo) (I.hok.write mu he k heo new)
theorem Inv.pins_of {pins' : List (Addr × Obj)} (I : Inv X pins σ H s) (h : ∀ p ∈ pins', s.heap.get? p.1 = some p.2 ∧ H p.1 = none ∧ p.1 ≠ X.env.locals ∧ p.1 ∉ X.fs ∧ ∀ v, p.2.data ≠ .cell v) : Inv X pins' σ H s :=
  ⟨I.ok, I.os, I.bare, I.base, I.loc, I.cell, I.free, I.freeC, fun p hp => (List.mem_append.mp hp).elim (fun z => I.pin p (List.mem_append_left _ z)) (h p), I.hok, I.len⟩

theorem nodup_ix {N : List Str} (hN : N.Nodup) {i j : Nat} {x : Str} (a : N[i]? = some x) (b : N[j]? = some x) : i = j := by
  obtain ⟨h1, e1⟩ := List.getElem?_eq_some_iff.mp a
  obtain ⟨h2, e2⟩ := List.getElem?_eq_some_iff.mp b
  exact (List.getElem_inj hN).mp (e1.trans e2.symm)

/-- a name is stored; what changed -/
theorem store_ok2 {M : Model} {A : Around} {E : Value → Shared → Prop} {i : Nat} {x : Str} {v : V} {u : Value} {Q : Unit → Shared → Prop} (I : Inv X pins σ H s) (hN : X.N.Nodup) (hi : X.N[i]? = some x) (hx : Loc X.env.scope x) (r : RelV v u)
    (h : ∀ s', Inv X pins (σ.set i (some v)) H s' → (∃ a, Heap.SameBut a s.heap s'.heap ∧ (a = X.env.locals ∨ X.env.cells.lookup x = some a)) → Q () s') (hf : X.fn x = true ∨ X.env.scope.names.lookup x = some .local := by first | exact .inl rfl | exact .inr rfl | assumption) : wpAny M A (storeName X.env x u) Q E s := by
  obtain ⟨m, hn, hl⟩ := id I.loc
  have hcls : (X.env.scope.kind == .class || (X.env.scope.kind == .module && X.env.locals != X.env.globals)) = false := by rw [I.ok.kind]; rfl
  have hiσ : i < σ.length := by rw [I.len]; exact (List.getElem?_eq_some_iff.mp hi).1
  have cne := I.cne
  have tracked : ∀ {a : Addr} {h' : Heap}, (∃ o, s.heap.get? a = some o ∧ H a = none) → Heap.SameBut a s.heap h' → HOk X.prog X.w H h' := fun {a h'} ha hs b ob e => by
    obtain ⟨_, _, hfree⟩ := ha
    refine (I.hok b ob e).stay (fun c w' hc q => (hs.2 c ?_).trans q) (fun _ q => q) fun _ _ q => q
    rintro rfl
    rcases hc with rfl | hc
    · rw [hfree] at e; cases e
    · rw [hfree] at hc; cases hc
  rcases hx with hk | hk
  · refine wpAny_storeName_local hk hn (fun h' hn' hs => ?_) hcls
    obtain ⟨oL, _, _, hoL, _⟩ := id hn
    refine h _ ⟨I.ok, I.os, I.bare, ⟨fun b o e n hb hx => ?_, fun b o e n hb hx => ?_, I.base.free, fun b o e hx => ?_, I.base.tups, I.base.frzs, I.base.tbls⟩, ⟨_, hn', fun j y v' e1 e2 e3 => ?_⟩, fun y c e => ?_, I.free, I.freeC, fun p hp => ?_, tracked ⟨oL, hoL, I.free⟩ hs, by simpa using I.len⟩ ⟨_, hs, .inl rfl⟩
    · exact (hs.2 b (Nat.ne_of_lt (Nat.lt_of_lt_of_le (Heap.lt_size e) I.ok.above))).trans (I.base.keep b o e n hb hx)
    · obtain ⟨sl, e1⟩ := I.base.slot b o e n hb hx
      exact ⟨sl, (hs.2 b (Nat.ne_of_lt (Nat.lt_of_lt_of_le (Heap.lt_size e) I.ok.above))).trans e1⟩
    · obtain ⟨o', e1⟩ := I.base.there b o e hx
      exact ⟨o', (hs.2 b (Nat.ne_of_lt (Nat.lt_of_lt_of_le (Heap.lt_size e) I.ok.above))).trans e1⟩
    · by_cases hj : j = i
      · subst hj
        rw [hi] at e1; cases e1
        rw [List.getElem?_set_self hiσ] at e2
        cases e2
        exact ⟨u, r, .inl ⟨hk, by simp⟩⟩
      · rw [List.getElem?_set_ne (Ne.symm hj)] at e2
        obtain ⟨u', r', q⟩ := hl j y v' e1 e2 e3
        refine ⟨u', r', ?_⟩
        rcases q with ⟨k, e⟩ | ⟨k, c, e, z⟩
        · refine .inl ⟨k, ?_⟩
          have : y ≠ x := fun e => hj (nodup_ix hN e1 (e ▸ hi))
          simp [this, e]
        · exact .inr ⟨k, c, e, z.sameBut hs (cne y c e)⟩
    · obtain ⟨w', z⟩ := I.cell y c e
      exact ⟨w', z.sameBut hs (cne y c e)⟩
    · obtain ⟨e, n, ne, nf, d⟩ := I.pin p hp
      exact ⟨(hs.2 p.1 ne).trans e, n, ne, nf, d⟩
  · have hfn : X.fn x = true := by
      rcases hf with z | z
      · exact z
      · rw [z] at hk; cases hk
    obtain ⟨c, hc⟩ := I.ok.has x (.inl hk)
    obtain ⟨w', z⟩ := I.cell x c hc
    refine wpAny_storeName_cell I.ok.kind hk hc z (fun h' hc' hs => ?_)
    obtain ⟨oc, hoc, hocd⟩ := id z
    refine h { s with heap := h' } ⟨I.ok, I.os, I.bare, ⟨fun b o e n hb hx => ?_, fun b o e n hb hx => ?_, I.base.free, fun b o e hx => ?_, I.base.tups, I.base.frzs, I.base.tbls⟩, ⟨m, hn.sameBut hs (Ne.symm (cne x c hc)), fun j y v' e1 e2 e3 => ?_⟩, fun y c' e => ?_, I.free, I.freeC, fun p hp => ?_, tracked ⟨oc, hoc, I.freeC x c hc⟩ hs, by simpa using I.len⟩ ⟨c, hs, .inr hc⟩
    · exact (hs.2 b (Nat.ne_of_lt (Nat.lt_of_lt_of_le (Heap.lt_size e) (I.ok.cab x c hfn hc)))).trans (I.base.keep b o e n hb hx)
    · obtain ⟨sl, e1⟩ := I.base.slot b o e n hb hx
      exact ⟨sl, (hs.2 b (Nat.ne_of_lt (Nat.lt_of_lt_of_le (Heap.lt_size e) (I.ok.cab x c hfn hc)))).trans e1⟩
    · obtain ⟨o', e1⟩ := I.base.there b o e hx
      exact ⟨o', (hs.2 b (Nat.ne_of_lt (Nat.lt_of_lt_of_le (Heap.lt_size e) (I.ok.cab x c hfn hc)))).trans e1⟩
    · by_cases hj : j = i
      · subst hj
        rw [hi] at e1; cases e1
        rw [List.getElem?_set_self hiσ] at e2
        cases e2
        exact ⟨u, r, .inr ⟨.inl hk, c, hc, hc'⟩⟩
      · rw [List.getElem?_set_ne (Ne.symm hj)] at e2
        obtain ⟨u', r', q⟩ := hl j y v' e1 e2 e3
        refine ⟨u', r', ?_⟩
        rcases q with q | ⟨k, c', e, z'⟩
        · exact .inl q
        · refine .inr ⟨k, c', e, z'.sameBut hs ?_⟩
          rintro rfl
          exact hj (nodup_ix hN e1 (I.ok.inj _ _ _ e hc ▸ hi))
    · by_cases hcc : c' = c
      · subst hcc; exact ⟨_, hc'⟩
      · obtain ⟨w2, z2⟩ := I.cell y c' e
        exact ⟨w2, z2.sameBut hs hcc⟩
    · obtain ⟨e, n, ne, nf, d⟩ := I.pin p hp
      refine ⟨(hs.2 p.1 ?_).trans e, n, ne, nf, d⟩
      intro q
      rw [q, hoc] at e
      have q' : oc = p.2 := Option.some.inj e
      exact d w' (by rw [← q']; exact hocd)
theorem store_ok {M : Model} {A : Around} {E : Value → Shared → Prop} {i : Nat} {x : Str} {v : V} {u : Value} {Q : Unit → Shared → Prop} (I : Inv X pins σ H s) (hN : X.N.Nodup) (hi : X.N[i]? = some x) (hx : Loc X.env.scope x) (r : RelV v u)
    (h : ∀ s', Inv X pins (σ.set i (some v)) H s' → Q () s') (hf : X.fn x = true ∨ X.env.scope.names.lookup x = some .local := by first | exact .inl rfl | exact .inr rfl | assumption) : wpAny M A (storeName X.env x u) Q E s :=
  store_ok2 I hN hi hx r (fun s' I' _ => h s' I') hf
/-- behind a call or a block, the state as it is -/
theorem Inv.call' {s' : Shared} {ch : List Addr} (I : Inv X pins σ H s) (ho : s'.os = s.os) (u : Un (frs X.stack) ch H H' s.heap s'.heap) (hok : HOk X.prog X.w H' s'.heap) (hg : AllBare s'.gens)
    (hch : ∀ b ∈ ch, (b ∈ X.ex ∨ X.s₀.heap.objs.size ≤ b) ∧ b ≠ X.env.locals ∧ (∀ x c, X.env.cells.lookup x = some c → c ≠ b) ∧ ∀ p ∈ X.pn ++ pins, p.1 ≠ b) : Inv X pins σ H' s' := by
  obtain ⟨h', g', d', t', o'⟩ := s'
  have e : o' = s.os := ho
  subst e
  exact I.call (g' := g') (t' := t') (d' := d') u hok hg hch
end

/-! ### the judgements -/
/-- an exception: its class, its own dict's address (where it has one), the abstract heap behind it -/
abbrev XK := Value → Option Addr → Hp → Prop
abbrev St := List (Option V)
abbrev VK := V → Hp → Prop
/-- an expression's reading; a test's; an argument list's -/
abbrev TE := St → Hp → VK → Prop
abbrev TT := St → Hp → (Bool → Hp → Prop) → Prop
abbrev TA := St → Hp → (List V → Hp → Prop) → Prop
/-- what is wanted behind a statement -/
structure Ends where
  nx : St → Hp → Prop
  rt : VK
  bk : St → Hp → Prop := fun _ _ => False
  ct : St → Hp → Prop := fun _ _ => False
abbrev TS := Ends → St → Hp → Prop

def EP (X : Cx) (pins : List (Addr × Obj)) (σ : St) (Q : VK) (u : Value) (s' : Shared) : Prop := ∃ v H', Inv X pins σ H' s' ∧ RelV v u ∧ Q v H'
def TP (X : Cx) (pins : List (Addr × Obj)) (σ : St) (Q : Bool → Hp → Prop) (b : Bool) (s' : Shared) : Prop := ∃ H', Inv X pins σ H' s' ∧ Q b H'
def AP (X : Cx) (pins : List (Addr × Obj)) (σ : St) (Q : List V → Hp → Prop) (us : List Value) (s' : Shared) : Prop := ∃ vs H', Inv X pins σ H' s' ∧ Vals vs us ∧ Q vs H'
def SP (X : Cx) (pins : List (Addr × Obj)) (D : Ends) (f : Flow) (s' : Shared) : Prop :=
  match f with
  | .next => ∃ σ' H', Inv X pins σ' H' s' ∧ D.nx σ' H'
  | .brk => ∃ σ' H', Inv X pins σ' H' s' ∧ D.bk σ' H'
  | .cont => ∃ σ' H', Inv X pins σ' H' s' ∧ D.ct σ' H'
  | .ret u => ∃ v σ' H', Inv X pins σ' H' s' ∧ RelV v u ∧ D.rt v H'

def PE (X : Cx) (e : Expr) (t : TE) : Prop :=
  ∀ (pins : List (Addr × Obj)) (s : Shared) (σ : St) (H : Hp) (Q : VK), Inv X pins σ H s → t σ H Q → wpAny (model X.prog X.w) X.A (eval e X.env) (EP X pins σ Q) X.xe s
def PT (X : Cx) (e : Expr) (t : TT) : Prop :=
  ∀ (pins : List (Addr × Obj)) (s : Shared) (σ : St) (H : Hp) (Q : Bool → Hp → Prop), Inv X pins σ H s → t σ H Q → wpAny (model X.prog X.w) X.A (isTrue e X.env (eval e X.env)) (TP X pins σ Q) X.xe s
/-- a test whatever its 'whole' is (and, or) -/
def PW (X : Cx) (e : Expr) (t : TT) : Prop :=
  ∀ (whole : Sem Value) (pins : List (Addr × Obj)) (s : Shared) (σ : St) (H : Hp) (Q : Bool → Hp → Prop), Inv X pins σ H s → t σ H Q → wpAny (model X.prog X.w) X.A (isTrue e X.env whole) (TP X pins σ Q) X.xe s
theorem PW.pt {X : Cx} {e : Expr} {t : TT} (h : PW X e t) : PT X e t := h _
/-- an argument list (no star), from the left -/
def PA (X : Cx) (es : List Expr) (t : TA) : Prop :=
  ∀ (pos : Pos) (pins : List (Addr × Obj)) (s : Shared) (σ : St) (H : Hp) (Q : List V → Hp → Prop), Inv X pins σ H s → t σ H Q → wpAny (model X.prog X.w) X.A (spliced (backTo pos (starEach es X.env))) (AP X pins σ Q) X.xe s
def PS (X : Cx) (st : Stmt) (t : TS) : Prop :=
  ∀ (pins : List (Addr × Obj)) (s : Shared) (σ : St) (H : Hp) (D : Ends), Inv X pins σ H s → t D σ H → wpAny (model X.prog X.w) X.A (exec st X.env) (SP X pins D) X.xe s
def PSs (X : Cx) (st : List Stmt) (t : TS) : Prop :=
  ∀ (pins : List (Addr × Obj)) (s : Shared) (σ : St) (H : Hp) (D : Ends), Inv X pins σ H s → t D σ H → wpAny (model X.prog X.w) X.A (execs st X.env) (SP X pins D) X.xe s
/-- weaken the end -/
theorem thn {α : Type} {t : Sem α} {Q Q' : α → Shared → Prop} {M : Model} {A : Around} {E : Value → Shared → Prop} {s : Shared} (h : wpAny M A t Q E s) (hQ : ∀ a s, Q a s → Q' a s) : wpAny M A t Q' E s := wpAny_mono h hQ fun _ _ x => x
end L2

namespace L2
open PySem PySem.Spec PyProof.Rows
section
variable {X : Cx}

/-- two expressions in a row -/
theorem bin {a b : Expr} {ta tb : TE} (ha : PE X a ta) (hb : PE X b tb) {pins : List (Addr × Obj)} {s : Shared} {σ : St} {H : Hp} {R : V → V → Hp → Prop} (I : Inv X pins σ H s) (h : ta σ H fun x H1 => tb σ H1 fun y H2 => R x y H2)
    {α : Type} {Q : α → Shared → Prop} {f : Value → Value → Sem α}
    (hf : ∀ v u s2 x y H2, Inv X pins σ H2 s2 → RelV x v → RelV y u → R x y H2 → wpAny (model X.prog X.w) X.A (f v u) Q X.xe s2) :
    wpAny (model X.prog X.w) X.A (eval a X.env) (fun v s₁ => wpAny (model X.prog X.w) X.A (eval b X.env) (fun u s₂ => wpAny (model X.prog X.w) X.A (f v u) Q X.xe s₂) X.xe s₁) X.xe s := by
  refine thn (ha pins s σ H _ I h) fun v s1 ⟨x, H1, I1, r1, q1⟩ => ?_
  refine thn (hb pins s1 σ H1 _ I1 q1) fun u s2 ⟨y, H2, I2, r2, q2⟩ => ?_
  exact hf v u s2 x y H2 I2 r1 r2 q2

/-! ### names and constants -/
def tVar (i : Nat) : TE := fun σ H Q => ∃ v, σ[i]? = some (some v) ∧ Q v H
def tC (v : V) : TE := fun _ H Q => Q v H
theorem pe_var {i : Nat} {x : Str} {pos : Pos} (hN : X.N[i]? = some x) (hv : Vis X.env.scope x) (hd : (x == ("__debug__" : Str)) = false := by decide) (hcd : (x == ("__classdict__" : Str)) = false := by decide) : PE X (.Name x pos) (tVar i) := by
  intro pins s σ H Q I h
  obtain ⟨v, e, h⟩ := h
  obtain ⟨m, hn, hl⟩ := I.loc
  obtain ⟨u, r, l⟩ := hl i x v hN e hv
  have fin : EP X pins σ Q u s := ⟨v, H, I, r, h⟩
  rcases l with ⟨hk, hm⟩ | ⟨hk, c, hc, hcell⟩
  · exact wpAny_Name (wpAny_loadName_local I.ok.kind hk hn hm fin) hd
  · rcases hk with hk | hk
    · exact wpAny_Name (wpAny_loadName_cell I.ok.kind hk hc hcell fin) hd
    · exact wpAny_Name (wpAny_loadName_free I.ok.kind hk hc hcell fin hcd) hd
theorem pe_int {i j pos} : PE X (.Constant (.int i) j pos) (tC (.int i)) := fun _ _ _ H _ I h => wpAny_Constant_int ⟨.int i, H, I.tok _, ⟨_, rfl⟩, h⟩
theorem pe_bl {b j pos} : PE X (.Constant (.bool b) j pos) (tC (.bl b)) := fun _ _ _ H _ I h => Constant_bool ⟨.bl b, H, I, rfl, h⟩
theorem pe_str {x j pos} : PE X (.Constant (.str x) j pos) (tC (.str x)) := fun _ _ _ H _ I h => Calls.Constant_str ⟨.str x, H, I.tok _, ⟨_, rfl⟩, h⟩

/-- a global name of the def -/
def Gl (X : Cx) (x : Str) : Prop := X.env.kindOf x = some .globalImplicit
theorem ld_glob {E : Value → Shared → Prop} {pins : List (Addr × Obj)} {s : Shared} {σ : St} {H : Hp} {x : Str} {u : Value} {pos : Pos} {Q : Value → Shared → Prop} (I : Inv X pins σ H s) (hg : Gl X x) (hm : X.mg x = some u) (h : Q u s)
    (hd : (x == ("__debug__" : Str)) = false := by decide) : wpAny (model X.prog X.w) X.A (eval (.Name x pos) X.env) Q E s :=
  Calls.Name_function_global I.ok.kind hg (Calls.loadGlobal_global (by rw [I.ok.glob]; exact I.mod.glob.keeps I.bk) hm h) hd
theorem ld_blt {E : Value → Shared → Prop} {pins : List (Addr × Obj)} {s : Shared} {σ : St} {H : Hp} {x : Str} {u : Value} {pos : Pos} {Q : Value → Shared → Prop} (I : Inv X pins σ H s) (hg : Gl X x) (hm : X.mg x = none) (hv : bootBuiltins x = some u) (h : Q u s)
    (hn : x ≠ "__name__" := by decide) (hd : (x == ("__debug__" : Str)) = false := by decide) : wpAny (model X.prog X.w) X.A (eval (.Name x pos) X.env) Q E s := by
  obtain ⟨mb, h1, h2⟩ := I.mod.blt
  exact Calls.Name_function_global I.ok.kind hg (Calls.loadGlobal_builtin (by rw [I.ok.glob]; exact I.mod.glob.keeps I.bk) hm (by rw [I.ok.blt]; exact h1.keeps I.bk) ((h2 x hn).trans hv) h) hd
/-- a module's constant, a class, a function, as a value -/
theorem pe_glob {x : Str} {v : V} {u : Value} {pos : Pos} (hg : Gl X x) (hm : X.mg x = some u) (r : RelV v u) (hd : (x == ("__debug__" : Str)) = false := by decide) : PE X (.Name x pos) (tC v) :=
  fun _ _ _ H _ I h => ld_glob I hg hm ⟨v, H, I, r, h⟩ hd
theorem pe_bltn {x : Str} {v : V} {u : Value} {pos : Pos} (hg : Gl X x) (hm : X.mg x = none) (hv : bootBuiltins x = some u) (r : RelV v u) (hn : x ≠ "__name__" := by decide) (hd : (x == ("__debug__" : Str)) = false := by decide) : PE X (.Name x pos) (tC v) :=
  fun _ _ _ H _ I h => ld_blt I hg hm hv ⟨v, H, I, r, h⟩ hn hd

/-! ### arithmetic -/
/-- two ints -/
def t2I (ta tb : TE) (k : Int → Int → Hp → Prop) : St → Hp → Prop := fun σ H => ta σ H fun x H1 => tb σ H1 fun y H2 => ∃ i j, x = .int i ∧ y = .int j ∧ k i j H2
def tAdd (ta tb : TE) : TE := fun σ H Q => t2I ta tb (fun i j H2 => Q (.int (i + j)) H2) σ H
def tSub (ta tb : TE) : TE := fun σ H Q => t2I ta tb (fun i j H2 => Q (.int (i - j)) H2) σ H
/-- the left factor below 2^64 -/
def tMul (ta tb : TE) : TE := fun σ H Q => t2I ta tb (fun i j H2 => (-(2 ^ 64) < i ∧ i < 2 ^ 64) ∧ Q (.int (i * j)) H2) σ H
variable {a b : Expr} {ta tb : TE} {pos : Pos}
/-! ### comparisons -/
def PC (X : Cx) (op : CmpOp) (a b : Expr) (t : TE) : Prop :=
  ∀ (pins : List (Addr × Obj)) (s : Shared) (σ : St) (H : Hp) (Q : VK), Inv X pins σ H s → t σ H Q →
    wpAny (model X.prog X.w) X.A (eval a X.env) (fun v s₁ => wpAny (model X.prog X.w) X.A (eval b X.env) (fun u s₂ => wpAny (model X.prog X.w) X.A (compareOp op v u) (EP X pins σ Q) X.xe s₂) X.xe s₁) X.xe s
def tCmp (p : Int → Int → Bool) (ta tb : TE) : TE := fun σ H Q => t2I ta tb (fun i j H2 => Q (.bl (p i j)) H2) σ H
abbrev tLt : TE → TE → TE := tCmp fun i j => decide (i < j)
abbrev tLe : TE → TE → TE := tCmp fun i j => decide (i ≤ j)
abbrev tGt : TE → TE → TE := tCmp fun i j => decide (j < i)
abbrev tGe : TE → TE → TE := tCmp fun i j => decide (j ≤ i)
abbrev tEqI : TE → TE → TE := tCmp fun i j => decide (i = j)
abbrev tNeI : TE → TE → TE := tCmp fun i j => !decide (i = j)
/-- is None -/
def tIsN (ta : TE) : TE := fun σ H Q => ta σ H fun x H1 => Q (.bl (decide (x = .non))) H1
def tNotN (ta : TE) : TE := fun σ H Q => ta σ H fun x H1 => Q (.bl (!decide (x = .non))) H1
/-- a comparison as a value, as a test -/
def tB (t : TE) : TT := fun σ H Q => t σ H fun x H1 => ∃ c, x = .bl c ∧ Q c H1
theorem pt_cmp {op : CmpOp} {t : TE} (h : PC X op a b t) (h1 : behindInMarks op b = false := by first | exact nobehind _ (by decide) (by decide) | rfl) : PT X (.Compare a [op] [b] pos) (tB t) := by
  intro pins s σ H Q I hw
  refine wpAny_isTrue_Compare1 (thn (h pins s σ H _ I hw) fun v s1 h1 => thn h1 fun u s2 h2 => thn h2 fun c s3 ⟨x, H1, I1, r1, q1⟩ => ?_) h1
  obtain ⟨d, rfl, q⟩ := q1
  cases r1
  exact wpAny_truthy_bool ⟨H1, I1, q⟩
/-- an expression whose value is a bool, as a test -/
theorem pt_val {e : Expr} {t : TE} (h : PE X e t) (he : ∀ whole, isTrue e X.env whole = (do let v ← whole; standAt e.pos; holding [v] (truthy v)) := by intro _; rfl) : PT X e (tB t) := by
  intro pins s σ H Q I hw
  refine isTrue_plain (thn (h pins s σ H _ I hw) fun v s1 ⟨x, H1, I1, r1, q1⟩ => ?_) (he _)
  obtain ⟨d, rfl, q⟩ := q1
  cases r1
  exact wpAny_truthy_bool ⟨H1, I1, q⟩

/-! ### and, or, not -/
variable {tA tB' : TT} {rest : List Expr}
def tAnd (t u : TT) : TT := fun σ H Q => t σ H fun c H1 => if c = true then u σ H1 Q else Q false H1
def tOr (t u : TT) : TT := fun σ H Q => t σ H fun c H1 => if c = true then Q true H1 else u σ H1 Q
def tNot (t : TT) : TT := fun σ H Q => t σ H fun c H1 => Q (!c) H1
theorem pw_and1 (ha : PT X a tA) : PW X (.BoolOp .And [a] pos) tA := by
  intro wh pins s σ H Q I h
  refine isTrue_and (thn (ha pins s σ H Q I h) fun c s1 e => ?_)
  cases c with
  | true => exact isTrue_and_nil e
  | false => exact e
theorem pw_or1 (ha : PT X a tA) : PW X (.BoolOp .Or [a] pos) tA := by
  intro wh pins s σ H Q I h
  refine isTrue_or (thn (ha pins s σ H Q I h) fun c s1 e => ?_)
  cases c with
  | false => exact isTrue_or_nil e
  | true => exact e
theorem pw_and (ha : PT X a tA) (hb : PW X (.BoolOp .And (b :: rest) pos) tB') : PW X (.BoolOp .And (a :: b :: rest) pos) (tAnd tA tB') := by
  intro wh pins s σ H Q I h
  refine isTrue_and (thn (ha pins s σ H _ I h) fun c s1 ⟨H1, I1, q1⟩ => ?_)
  cases c with
  | true => exact hb wh pins s1 σ H1 Q I1 q1
  | false => exact ⟨H1, I1, q1⟩
theorem pw_or (ha : PT X a tA) (hb : PW X (.BoolOp .Or (b :: rest) pos) tB') : PW X (.BoolOp .Or (a :: b :: rest) pos) (tOr tA tB') := by
  intro wh pins s σ H Q I h
  refine isTrue_or (thn (ha pins s σ H _ I h) fun c s1 ⟨H1, I1, q1⟩ => ?_)
  cases c with
  | true => exact ⟨H1, I1, q1⟩
  | false => exact hb wh pins s1 σ H1 Q I1 q1
theorem pt_not (ha : PT X a tA) : PT X (.UnaryOp .Not a pos) (tNot tA) := by
  intro pins s σ H Q I h
  exact isTrue_not (ha pins s σ H (fun c H1 => Q (!c) H1) I h)
/-- .. as values (bools) -/
def tAndV (ta tb : TE) : TE := fun σ H Q => ta σ H fun x H1 => ∃ c, x = .bl c ∧ if c = true then tb σ H1 Q else Q (.bl false) H1
def tOrV (ta tb : TE) : TE := fun σ H Q => ta σ H fun x H1 => ∃ c, x = .bl c ∧ if c = true then Q (.bl true) H1 else tb σ H1 Q
def tNotV (ta : TE) : TE := fun σ H Q => ta σ H fun x H1 => ∃ c, x = .bl c ∧ Q (.bl (!c)) H1
theorem pe_one {op} {t : TE} (h : PE X a t) : PE X (.BoolOp op [a] pos) t := fun pins s σ H Q I hw => BoolOp_one (h pins s σ H Q I hw)
theorem pe_and (ha : PE X a ta) (hb : PE X (.BoolOp .And (b :: rest) pos) tb) : PE X (.BoolOp .And (a :: b :: rest) pos) (tAndV ta tb) := by
  intro pins s σ H Q I h
  refine BoolOp_and (thn (ha pins s σ H _ I h) fun v s1 ⟨x, H1, I1, r1, q1⟩ => ?_)
  obtain ⟨c, rfl, q1⟩ := q1
  cases r1
  refine wpAny_truthy_bool ?_
  cases c with
  | true => exact hb pins s1 σ H1 Q I1 q1
  | false => exact ⟨.bl false, H1, I1, rfl, q1⟩
theorem pe_not (ha : PE X a ta) : PE X (.UnaryOp .Not a pos) (tNotV ta) := by
  intro pins s σ H Q I h
  refine UnaryOp_ (thn (ha pins s σ H _ I h) fun v s1 ⟨x, H1, I1, r1, q1⟩ => ?_)
  obtain ⟨c, rfl, q1⟩ := q1
  cases r1
  exact not_of (wpAny_truthy_bool ⟨.bl (!c), H1, I1, rfl, q1⟩)
/-- a if t else b -/
def tIf (t : TT) (ta tb : TE) : TE := fun σ H Q => t σ H fun c H1 => if c = true then ta σ H1 Q else tb σ H1 Q
end
end L2

namespace L2
open PySem PySem.Spec PyProof.Rows

/-! ### a list, a tuple that is read: tracked, frozen, or an object of the module -/
def SqL (K : PySem.W.Frag) (H : Hp) (a : Addr) (xs : List V) : Prop :=
  Rd H a (.lst xs) ∨
    ∃ (o : Obj) (its : Array Value) (n : Nat), K.lookup a = some o ∧ o.cls = .type "list" ∧ o.dict = none ∧ o.data = .seq its n ∧ its.size ≤ sizeLine ∧ Vals xs its.toList
def SqT (K : PySem.W.Frag) (H : Hp) (a : Addr) (xs : List V) : Prop :=
  Rd H a (.tup xs) ∨
    ∃ (o : Obj) (its : Array Value) (n : Nat), K.lookup a = some o ∧ o.cls = .type "tuple" ∧ o.data = .seq its n ∧ its.size ≤ sizeLine ∧ Vals xs its.toList
def absV : Value → Option V
  | .none => some .non
  | .bool b => some (.bl b)
  | .int i _ => some (.int i)
  | .str x _ => some (.str x)
  | .bytes b _ => some (.byt b)
  | .float b _ => some (.flt b)
  | .ref a => some (.ref a)
  | .type n => some (.ty n)
  | _ => none
theorem RelV.abs {x : V} {u : Value} (r : RelV x u) : absV u = some x := by
  cases x with
  | non => cases r; rfl
  | bl _ => cases r; rfl
  | int _ => obtain ⟨t, rfl⟩ := r; rfl
  | str _ => obtain ⟨t, rfl⟩ := r; rfl
  | byt _ => obtain ⟨t, rfl⟩ := r; rfl
  | flt _ => obtain ⟨t, rfl⟩ := r; rfl
  | ref _ => cases r; rfl
  | ty _ => cases r; rfl
theorem RelV.inj {x y : V} {u : Value} (r : RelV x u) (q : RelV y u) : x = y := Option.some.inj (r.abs.symm.trans q.abs)
theorem Vals.inj : ∀ {xs ys : List V} {us : List Value}, Vals xs us → Vals ys us → xs = ys
  | _, _, _, .nil, .nil => rfl
  | _, _, _, .cons r t, .cons r' t' => by rw [r.inj r', Vals.inj t t']
section
variable {X : Cx} {pins : List (Addr × Obj)} {σ : St} {H : Hp} {s : Shared} {a : Addr} {xs ys : List V}
theorem SqL.of {K : PySem.W.Frag} (h : H a = some (.lst xs)) : SqL K H a xs := .inl (.inl h)
theorem SqT.of {K : PySem.W.Frag} (h : H a = some (.tup xs)) : SqT K H a xs := .inl (.inl h)
theorem Inv.list (I : Inv X pins σ H s) (h : SqL X.K H a xs) : ∃ its : List Value, Vals xs its ∧ PlainL s.heap a its.toArray ∧ xs.length ≤ sizeLine := by
  rcases h with h | ⟨o, its, n, hk, hc, hd, hs, hz, r⟩
  · obtain ⟨z, its, n, r, e⟩ := h.ok I.hok
    exact ⟨its, r, ⟨_, n, e, rfl, rfl, rfl⟩, z⟩
  · refine ⟨its.toList, r, ⟨o, n, I.kIn a o hk, hc, hd, by simpa using hs⟩, ?_⟩
    have e := r.length
    simp only [Array.length_toList] at e
    omega
theorem Inv.tuple (I : Inv X pins σ H s) (h : SqT X.K H a xs) : ∃ its : List Value, Vals xs its ∧ IsTup s.heap a its.toArray ∧ xs.length ≤ sizeLine := by
  rcases h with h | ⟨o, its, n, hk, hc, hs, hz, r⟩
  · obtain ⟨z, its, r, p⟩ := h.ok I.hok
    exact ⟨its, r, p, z⟩
  · refine ⟨its.toList, r, ⟨o, I.kIn a o hk, hc, n, by simpa using hs⟩, ?_⟩
    have e := r.length
    simp only [Array.length_toList] at e
    omega
theorem Inv.list_inj (I : Inv X pins σ H s) (h : SqL X.K H a xs) (h' : SqL X.K H a ys) : xs = ys := by
  obtain ⟨its, r, ⟨o, n, e, _, _, d⟩, _⟩ := I.list h
  obtain ⟨its', r', ⟨o', n', e', _, _, d'⟩, _⟩ := I.list h'
  rw [e] at e'; cases e'
  rw [d] at d'
  injection d' with d1 _
  have : its = its' := by simpa using congrArg Array.toList d1
  subst this
  exact r.inj r'
theorem Inv.tuple_inj (I : Inv X pins σ H s) (h : SqT X.K H a xs) (h' : SqT X.K H a ys) : xs = ys := by
  obtain ⟨its, r, ⟨o, e, _, n, d⟩, _⟩ := I.tuple h
  obtain ⟨its', r', ⟨o', e', _, n', d'⟩, _⟩ := I.tuple h'
  rw [e] at e'; cases e'
  rw [d] at d'
  injection d' with d1 _
  have : its = its' := by simpa using congrArg Array.toList d1
  subst this
  exact r.inj r'
end

/-! ### another wish about exceptions -/
abbrev Cx.wish (X : Cx) (E : Value → Shared → Prop) : Cx := { X with xe := E }
/-- no exception leaves -/
abbrev Cx.nox (X : Cx) : Cx := X.wish fun _ _ => False
theorem Cx.Ok.wish {X : Cx} (ok : X.Ok) (E : Value → Shared → Prop) : (X.wish E).Ok :=
  ⟨ok.mod, ok.kind, ok.glob, ok.blt, ok.above, ok.inj, ok.has, ok.cab, ok.hd, ok.frames, ok.stk, ok.exf, ok.bs, ok.bsz, ok.noex, ok.exfs, ok.funs, ok.frf⟩
theorem Cx.Ok.unwish {X : Cx} {E : Value → Shared → Prop} (ok : (X.wish E).Ok) : X.Ok :=
  ⟨ok.mod, ok.kind, ok.glob, ok.blt, ok.above, ok.inj, ok.has, ok.cab, ok.hd, ok.frames, ok.stk, ok.exf, ok.bs, ok.bsz, ok.noex, ok.exfs, ok.funs, ok.frf⟩
section
variable {X : Cx} {pins : List (Addr × Obj)} {σ : St} {H : Hp} {s : Shared} {E : Value → Shared → Prop}
theorem Inv.wish (I : Inv X pins σ H s) (E : Value → Shared → Prop) : Inv (X.wish E) pins σ H s := ⟨I.ok.wish E, I.os, I.bare, I.base, I.loc, I.cell, I.free, I.freeC, I.pin, I.hok, I.len⟩
theorem Inv.unwish (I : Inv (X.wish E) pins σ H s) : Inv X pins σ H s := ⟨I.ok.unwish, I.os, I.bare, I.base, I.loc, I.cell, I.free, I.freeC, I.pin, I.hok, I.len⟩
theorem SP.unwish {D : Ends} {f : Flow} {s' : Shared} (h : SP (X.wish E) pins D f s') : SP X pins D f s' := by
  cases f with
  | next => obtain ⟨σ', H', I, q⟩ := h; exact ⟨σ', H', I.unwish, q⟩
  | brk => obtain ⟨σ', H', I, q⟩ := h; exact ⟨σ', H', I.unwish, q⟩
  | cont => obtain ⟨σ', H', I, q⟩ := h; exact ⟨σ', H', I.unwish, q⟩
  | ret u => obtain ⟨v, σ', H', I, r, q⟩ := h; exact ⟨v, σ', H', I.unwish, r, q⟩
theorem PE.nox {e : Expr} {t : TE} (h : PE X.nox e t) : PE X e t := fun pins s σ H Q I hw =>
  wpAny_mono (h pins s σ H Q (I.wish _) hw) (fun _ _ ⟨v, H', I', r, q⟩ => ⟨v, H', I'.unwish, r, q⟩) fun _ _ z => False.elim z
theorem PSs.nox {st : List Stmt} {t : TS} (h : PSs X.nox st t) : PSs X st t := fun pins s σ H D I hw =>
  wpAny_mono (h pins s σ H D (I.wish _) hw) (fun _ _ q => q.unwish) fun _ _ z => False.elim z
end

/-! ### blocks and small statements -/
section
variable {X : Cx} {st : Stmt} {rest : List Stmt} {t u : TS} {e : Expr} {te : TE} {pos : Pos}
def tNext : TS := fun D σ H => D.nx σ H
def tSeq (t u : TS) : TS := fun D σ H => t { D with nx := u D } σ H
theorem pss_nil : PSs X [] tNext := fun _ _ σ H _ I h => wpAny_execs_nil ⟨σ, H, I, h⟩
theorem pss_cons (h1 : PS X st t) (h2 : PSs X rest u) : PSs X (st :: rest) (tSeq t u) := by
  intro pins s σ H D I h
  refine wpAny_execs_cons (thn (h1 pins s σ H { D with nx := u D } I h) fun f s1 q => ?_)
  cases f with
  | next =>
    obtain ⟨σ', H', I', q⟩ := q
    exact h2 pins s1 σ' H' D I' q
  | ret v => exact q
  | brk => exact q
  | cont => exact q
theorem pss_one (h1 : PS X st t) : PSs X [st] t := by
  intro pins s σ H D I h
  refine wpAny_execs_cons (thn (h1 pins s σ H D I h) fun f s1 q => ?_)
  cases f with
  | next => exact wpAny_execs_nil q
  | ret v => exact q
  | brk => exact q
  | cont => exact q
def tBreak : TS := fun D σ H => D.bk σ H
def tCont : TS := fun D σ H => D.ct σ H
/-- in a def's body nothing is shown -/
theorem Inv.quiet {pins : List (Addr × Obj)} {σ : St} {H : Hp} {s : Shared} (I : Inv X pins σ H s) : interactive X.env = false := by simp [interactive, I.ok.kind]
/-- an expression whose value is dropped -/
def tDrop (te : TE) : TS := fun D σ H => te σ H fun _ H1 => D.nx σ H1
theorem ps_expr (he : PE X e te) (hs : swapsWith e none pos.line X.env = pure false := by rfl) : PS X (.Expr e pos) (tDrop te) := by
  intro pins s σ H D I h
  exact wpAny_Expr_any (thn (he pins s σ H _ I h) fun v s1 ⟨x, H1, I1, r1, q1⟩ => ⟨σ, H1, I1, q1⟩) I.quiet hs
def tRet (te : TE) : TS := fun D σ H => te σ H D.rt
theorem ps_ret (he : PE X e te) : PS X (.Return (some e) pos) (tRet te) := by
  intro pins s σ H D I h
  exact wpAny_Return_some (thn (he pins s σ H _ I h) fun v s1 ⟨x, H1, I1, r1, q1⟩ => ⟨x, σ, H1, I1, r1, q1⟩)
def tRetN : TS := fun D _ H => D.rt .non H
def tIfS (c : TT) (t u : TS) : TS := fun D σ H => c σ H fun b H1 => if b = true then t D σ H1 else u D σ H1
theorem ps_if {c : Expr} {a b : List Stmt} {tc : TT} (hc : PT X c tc) (ha : PSs X a t) (hb : PSs X b u) : PS X (.If c a b pos) (tIfS tc t u) := by
  intro pins s σ H D I h
  refine wpAny_If (thn (hc pins s σ H _ I h) fun d s1 ⟨H1, I1, q1⟩ => ?_)
  cases d with
  | true => exact ha pins s1 σ H1 D I1 q1
  | false => exact hb pins s1 σ H1 D I1 q1
/-- code that the proof never comes to -/
def tNever : TS := fun _ _ _ => False
theorem pss_never {sts : List Stmt} : PSs X sts tNever := fun _ _ _ _ _ _ h => h.elim
end

/-! ### targets -/
abbrev TG := V → St → Hp → (St → Hp → Prop) → Prop
abbrev TGs := List V → St → Hp → (St → Hp → Prop) → Prop
def PG (X : Cx) (target : Expr) (t : TG) : Prop :=
  ∀ (pins : List (Addr × Obj)) (s : Shared) (σ : St) (H : Hp) (v : V) (u : Value) (Q : St → Hp → Prop), Inv X pins σ H s → RelV v u → t v σ H Q →
    wpAny (model X.prog X.w) X.A (assign target X.env u) (fun _ s' => ∃ σ' H', Inv X pins σ' H' s' ∧ Q σ' H') X.xe s
/-- several targets, one after another -/
def PGs (X : Cx) (ts : List Expr) (t : TGs) : Prop :=
  ∀ (pins : List (Addr × Obj)) (s : Shared) (σ : St) (H : Hp) (vs : List V) (us : List Value) (Q : St → Hp → Prop), Inv X pins σ H s → Vals vs us → t vs σ H Q →
    wpAny (model X.prog X.w) X.A (assignInOrder ((assignEach ts X.env).map (·.2)) us) (fun _ s' => ∃ σ' H', Inv X pins σ' H' s' ∧ Q σ' H') X.xe s
/-- o[i] = v, by values -/
abbrev TSet := V → V → V → Hp → (Hp → Prop) → Prop
def PSet (X : Cx) (t : TSet) : Prop :=
  ∀ (pins : List (Addr × Obj)) (s : Shared) (σ : St) (H : Hp) (o i v : V) (ov iv u : Value) (Q : Hp → Prop), Inv X pins σ H s → RelV o ov → RelV i iv → RelV v u → t o i v H Q →
    wpAny (model X.prog X.w) X.A (setItem ov iv u) (fun _ s' => ∃ H', Inv X pins σ H' s' ∧ Q H') X.xe s
/-- a op= b, by values -/
abbrev TIp := V → V → Hp → VK → Prop
def PIp (X : Cx) (op : Operator) (t : TIp) : Prop :=
  ∀ (pins : List (Addr × Obj)) (s : Shared) (σ : St) (H : Hp) (x y : V) (v u : Value) (Q : VK), Inv X pins σ H s → RelV x v → RelV y u → t x y H Q →
    wpAny (model X.prog X.w) X.A (inplaceOp op v u) (EP X pins σ Q) X.xe s
section
variable {X : Cx} {pos : Pos}
def gName (i : Nat) : TG := fun v σ H Q => Q (σ.set i (some v)) H
theorem pg_name {i : Nat} {x : Str} (hN : X.N.Nodup) (hi : X.N[i]? = some x) (hx : Loc X.env.scope x) (hf : X.fn x = true ∨ X.env.scope.names.lookup x = some .local := by first | exact .inl rfl | exact .inr rfl | assumption) : PG X (.Name x pos) (gName i) := by
  intro pins s σ H v u Q I r h
  exact wpAny_assign_Name (store_ok I hN hi hx r (fun s' I' => ⟨_, H, I', h⟩) hf)
def gNil : TGs := fun vs σ H Q => vs = [] ∧ Q σ H
def gCons (t : TG) (u : TGs) : TGs := fun vs σ H Q => ∃ v r, vs = v :: r ∧ t v σ H fun σ' H' => u r σ' H' Q
theorem pgs_nil : PGs X [] gNil := by
  intro pins s σ H vs us Q I r h
  obtain ⟨e, h⟩ := h
  subst e
  cases r
  exact assignInOrder_nil ⟨σ, H, I, h⟩
theorem pgs_cons {e : Expr} {es : List Expr} {t : TG} {u : TGs} (h1 : PG X e t) (h2 : PGs X es u)
    (hs : (assignEach (e :: es) X.env).map (·.2) = assign e X.env :: (assignEach es X.env).map (·.2) := by rfl) : PGs X (e :: es) (gCons t u) := by
  intro pins s σ H vs us Q I r h
  obtain ⟨v, vr, e1, h⟩ := h
  subst e1
  cases r with
  | cons r rr =>
    rw [hs]
    refine assignInOrder_cons (thn (h1 pins s σ H _ _ _ I r h) fun _ s1 ⟨σ1, H1, I1, q1⟩ => ?_)
    exact h2 pins s1 σ1 H1 _ _ Q I1 rr q1
/-- (a, b, ..) = a tuple of that length -/
def gTup (K : PySem.W.Frag) (n : Nat) (t : TGs) : TG := fun v σ H Q => ∃ a xs, v = .ref a ∧ SqT K H a xs ∧ xs.length = n ∧ t xs σ H Q
theorem pg_tup {es : List Expr} {k : Nat} {t : TGs} {n : Nat} (hc : X.calm = true) (h : PGs X es t)
    (hn : (assignEach es X.env).length = n := by rfl) (hst : (assignEach es X.env).findIdx? (·.1) = none := by rfl) : PG X (.Tuple es k pos) (gTup X.K n t) := by
  intro pins s σ H v u Q I r hw
  obtain ⟨a, xs, e1, hq, hl, hw⟩ := hw
  subst e1
  cases r
  obtain ⟨its, rv, ht, hz⟩ := I.tuple hq
  refine assign_Tuple_tuple (I.ok.hd hc) ht (by simp [hn, ← hl, rv.length]) hst fun h' hx => ?_
  have I1 : Inv X pins σ H { s with heap := h' } := I.kept (t' := s.toks) fun b o e => hx b o (Nat.ne_of_lt (Heap.lt_size e)) e
  exact h pins _ σ H xs _ Q I1 (by simpa using rv) hw
/-- o[i] = .. -/
def gSub (to ti : TE) (t : TSet) : TG := fun v σ H Q => to σ H fun o H1 => ti σ H1 fun i H2 => t o i v H2 fun H3 => Q σ H3
/-- target = value -/
def tAsg (te : TE) (g : TG) : TS := fun D σ H => te σ H fun x H1 => g x σ H1 D.nx
/-- name = value -/
theorem ps_set {i : Nat} {x : Str} {e : Expr} {te : TE} {pos' : Pos} (hN : X.N.Nodup) (hi : X.N[i]? = some x) (hx : Loc X.env.scope x) (he : PE X e te) (hs : swapsWith e (some (.Name x pos')) pos.line X.env = pure false := by rfl) (hf : X.fn x = true ∨ X.env.scope.names.lookup x = some .local := by first | exact .inl rfl | exact .inr rfl | assumption) :
    PS X (.Assign [.Name x pos'] e pos) (tAsg te (gName i)) := by
  intro pins s σ H D I h
  refine wpAny_Assign_Name (thn (he pins s σ H _ I h) fun v s1 ⟨y, H1, I1, r1, q1⟩ => ?_) hs
  exact store_ok I1 hN hi hx r1 (fun s2 I2 => ⟨_, H1, I2, q1⟩) hf
/-- a, b = x, y with plain local names: stored from the right; the pair itself is not tracked (the opening rows as in PyProof/Rows/TupAssign.lean:23) -/
def tPar (i j : Nat) (ta : TA) : TS := fun D σ H => ta σ H fun vs H1 => ∃ v w, vs = [v, w] ∧ D.nx ((σ.set i (some v)).set j (some w)) H1
/-- name op= e -/
def tAug (i : Nat) (te : TE) (ti : TIp) : TS := fun D σ H => ∃ x, σ[i]? = some (some x) ∧ te σ H fun y H1 => ti x y H1 fun z H2 => D.nx (σ.set i (some z)) H2
/-- o[i] op= e -/
def tAugS (to ti te : TE) (tget : V → V → Hp → VK → Prop) (tip : TIp) (tset : TSet) : TS := fun D σ H => to σ H fun o H1 => ti σ H1 fun i H2 => tget o i H2 fun x H3 => te σ H3 fun y H4 => tip x y H4 fun z H5 => tset o i z H5 fun H6 => D.nx σ H6
/-- o[i], by values -/
def PGet (X : Cx) (t : V → V → Hp → VK → Prop) : Prop :=
  ∀ (pins : List (Addr × Obj)) (s : Shared) (σ : St) (H : Hp) (o i : V) (ov iv : Value) (Q : VK), Inv X pins σ H s → RelV o ov → RelV i iv → t o i H Q →
    wpAny (model X.prog X.w) X.A (getItem ov iv) (EP X pins σ Q) X.xe s
/-- ints -/
def ipI (f : Int → Int → Int) : TIp := fun x y H Q => ∃ i j, x = .int i ∧ y = .int j ∧ Q (.int (f i j)) H
end

/-! ### while -/
section
variable {X : Cx} {pos : Pos}
/-- the invariant W with its measure -/
def tWhile (c : TT) (tb : TS) : TS := fun D σ H => ∃ W : Nat → St → Hp → Prop, (∃ m, W m σ H) ∧ ∀ m σ H, W m σ H →
  c σ H fun b H1 => if b = true then ∃ N : St → Hp → Prop, (∀ σ' H', N σ' H' → ∃ m', m' < m ∧ W m' σ' H') ∧ tb { D with nx := N, ct := N, bk := D.nx } σ H1 else D.nx σ H1
end

/-! ### what a loop or a comprehension walks -/
/-- at turn i: it yields x (the heap may grow), or it stops -/
structure It where
  go : Nat → Hp → Prop
  yld : Nat → Hp → V → Hp → Prop
  stop : Nat → Hp → Prop
/-- the iterator's own objects may turn: they are not the frame's, not pinned, younger than the entry (or a comprehension's own) -/
def FpOk (X : Cx) (pins : List (Addr × Obj)) (H : Hp) (b : Addr) : Prop :=
  H b = none ∧ b ≠ X.env.locals ∧ b ∉ X.fs ∧ (b ∈ X.ex ∨ X.s₀.heap.objs.size ≤ b) ∧ (∀ x c, X.env.cells.lookup x = some c → c ≠ b) ∧ ∀ p ∈ X.pn ++ pins, p.1 ≠ b
theorem Inv.fpOk {X : Cx} {pins : List (Addr × Obj)} {σ : St} {H H' : Hp} {s : Shared} {b : Addr} (I : Inv X pins σ H s) (hb : s.heap.objs.size ≤ b) (hn : H' b = none) : FpOk X pins H' b := by
  refine ⟨hn, Nat.ne_of_gt (Nat.lt_of_lt_of_le I.lt hb), I.nofs hb, .inr (Nat.le_trans I.sz hb), fun x c e z => ?_, fun p hp z => ?_⟩
  · obtain ⟨v, q⟩ := I.cell x c e
    exact absurd (Nat.lt_of_lt_of_le q.lt (by rw [z]; exact hb)) (Nat.lt_irrefl _)
  · exact absurd (Nat.lt_of_lt_of_le (Heap.lt_size (I.pin p hp).1) (by rw [z]; exact hb)) (Nat.lt_irrefl _)
structure Turn (P : Program) (w : World) (K : PySem.W.Frag) (tg : Expr) (J : It) (fp : List Addr) (it : Addr) (tn : Nat → Heap → Prop) : Prop where
  mem : it ∈ fp
  obj : ∀ i h, tn i h → ∀ b ∈ fp, ∃ o, h.get? b = some o ∧ ∀ v, o.data ≠ .cell v
  keep : ∀ i h h', tn i h → (∀ b ∈ fp, ∀ o, h.get? b = some o → h'.get? b = some o) → tn i h'
  item : ∀ (X : Cx), X.prog = P → X.w = w → X.K = K → X.calm = true → ∀ (i : Nat) (pins : List (Addr × Obj)) (s : Shared) (σ : St) (H : Hp) (E : Value → Shared → Prop), Inv X pins σ H s → (∀ b ∈ fp, FpOk X pins H b) → tn i s.heap → J.go i H →
    wpAny (model P w) X.A (pyNext (.ref it)) (fun r s1 => ∃ u, r = some u ∧
      wpAny (model P w) X.A (letOwnedTupleGo tg (.ref it) u) (fun _ s2 => ∃ x H', Inv X pins σ H' s2 ∧ RelV x u ∧ J.yld i H x H' ∧ tn (i + 1) s2.heap ∧ ∀ b ∈ fp, H' b = none) E s1) E s
  done : ∀ (X : Cx), X.prog = P → X.w = w → X.K = K → X.calm = true → ∀ (i : Nat) (pins : List (Addr × Obj)) (s : Shared) (σ : St) (H : Hp) (E : Value → Shared → Prop), Inv X pins σ H s → (∀ b ∈ fp, FpOk X pins H b) → tn i s.heap → J.stop i H →
    wpAny (model P w) X.A (pyNext (.ref it)) (fun r s1 => r = none ∧ Inv X pins σ H s1) E s
  self : ∀ (A : Around) (i : Nat) (s : Shared) (Q : Value → Shared → Prop) (E : Value → Shared → Prop), tn i s.heap → Q (.ref it) s → wpAny (model P w) A (pyIter (.ref it)) Q E s
abbrev TI := St → Hp → (It → Hp → Prop) → Prop
/-- an iterator has come -/
def PIE (X : Cx) (pins : List (Addr × Obj)) (σ : St) (tg : Expr) (R : It → Hp → Prop) (itv : Value) (s2 : Shared) : Prop :=
  ∃ (it : Addr) (fp : List Addr) (tn : Nat → Heap → Prop) (J : It) (H' : Hp), itv = .ref it ∧ Inv X pins σ H' s2 ∧ Turn X.prog X.w X.K tg J fp it tn ∧ tn 0 s2.heap ∧ (∀ b ∈ fp, FpOk X pins H' b) ∧ R J H'
def PI (X : Cx) (tg iter : Expr) (wi : TI) : Prop :=
  ∀ (pins : List (Addr × Obj)) (s : Shared) (σ : St) (H : Hp) (R : It → Hp → Prop), Inv X pins σ H s → wi σ H R →
    wpAny (model X.prog X.w) X.A (eval iter X.env) (fun v s1 => wpAny (model X.prog X.w) X.A (pyIter v) (PIE X pins σ tg R) X.xe s1) X.xe s

/-- the step ahead of the store is nothing for an iterator that keeps no tuple -/
theorem go_of {M : Model} {A : Around} {E : Value → Shared → Prop} {s : Shared} {tg : Expr} {it : Addr} {u : Value} {o : Obj} {n : String} {vs : Array Value} {Q : Unit → Shared → Prop} (ho : s.heap.get? it = some o) (hc : o.cls = .type n) (hd : o.data = .fields vs)
    (hn : ["enumerate", "zip", "dict_itemiterator", "dict_reverseitemiterator", "odict_iterator", "itertools.zip_longest", "itertools.pairwise"].contains n = false) (hQ : Q () s) : wpAny M A (letOwnedTupleGo tg (.ref it) u) Q E s := by
  unfold letOwnedTupleGo
  cases tg <;> first
    | exact wpAny_pure hQ
    | (cases u <;> first
        | exact wpAny_pure hQ
        | (refine wpAny_bind (wpAny_load ho ?_)
           rw [hc, hd]
           show wpAny M A (if (["enumerate", "zip", "dict_itemiterator", "dict_reverseitemiterator", "odict_iterator", "itertools.zip_longest", "itertools.pairwise"].contains n && vs[0]? == some (rawInt _)) = true then _ else _) Q E s
           rw [if_neg (by intro h; rw [hn, Bool.false_and] at h; cases h)]
           exact wpAny_pure hQ))

/-- the list at a, as it stands at each turn (a loop may append to it) -/
def Itl (K : PySem.W.Frag) (a : Addr) : It :=
  ⟨fun i H => ∃ xs x, SqL K H a xs ∧ xs[i]? = some x, fun i H x H' => H' = H ∧ ∀ xs, SqL K H a xs → xs[i]? = some x, fun i H => ∃ xs, SqL K H a xs ∧ xs.length ≤ i⟩
def Itt (K : PySem.W.Frag) (a : Addr) : It :=
  ⟨fun i H => ∃ xs x, SqT K H a xs ∧ xs[i]? = some x, fun i H x H' => H' = H ∧ ∀ xs, SqT K H a xs → xs[i]? = some x, fun i H => ∃ xs, SqT K H a xs ∧ xs.length ≤ i⟩
/-- lo, lo + 1, .. (n of them) -/
def Itr (lo : Int) (n : Nat) : It := ⟨fun i _ => i < n, fun i H x H' => H' = H ∧ x = .int (lo + i), fun i _ => n ≤ i⟩
theorem turn_list {P : Program} {w : World} {K : PySem.W.Frag} {tg : Expr} (a it : Addr) : Turn P w K tg (Itl K a) [it] it (fun i h => h.IsListIter it a i) where
  mem := by simp
  obj := fun i h st b hb => by
    have e : b = it := by simpa using hb
    subst e
    obtain ⟨o, e, c, d⟩ := st
    exact ⟨o, e, fun v z => by rw [d] at z; cases z⟩
  keep := fun i h h' st k => st.at fun o e => k it (by simp) o e
  item := by
    intro X hP hw hK hc i pins s σ H E I hf st hg
    subst hP hw hK
    obtain ⟨xs, x, hq, hx⟩ := hg
    obtain ⟨its, rv, p, hz⟩ := I.list hq
    obtain ⟨u, hu, ru⟩ := rv.get hx
    obtain ⟨f0, f1, f2, f3, f4, f5⟩ := hf it (by simp)
    refine wpAny_pyNext_list_item st p.isList (x := u) (by simpa using hu) fun h' st' sb => ?_
    have I1 : Inv X pins σ H { s with heap := h' } := I.turned (t' := s.toks) (fun b o hb e => (sb.2 b hb).trans e) f0 f1 f3 f4 f5
    obtain ⟨o, e, c, d⟩ := id st'
    exact ⟨u, rfl, go_of (s := { s with heap := h' }) e c d (by decide) ⟨x, H, I1, ru, ⟨rfl, fun ys hy => by rw [I.list_inj hy hq]; exact hx⟩, st', fun b hb => (hf b hb).1⟩⟩
  done := by
    intro X hP hw hK hc i pins s σ H E I hf st hg
    subst hP hw hK
    obtain ⟨xs, hq, hx⟩ := hg
    obtain ⟨its, rv, p, hz⟩ := I.list hq
    obtain ⟨f0, f1, f2, f3, f4, f5⟩ := hf it (by simp)
    have hl := rv.length
    exact wpAny_pyNext_list_end (I.ok.hd hc) st p.isList (by simp; omega) fun h' eb => ⟨rfl, I.turned (t' := s.toks) (fun b o hb e => eb b o hb e) f0 f1 f3 f4 f5⟩
  self := fun _ _ _ _ _ st h => wpAny_pyIter_listiter st h
theorem turn_tuple {P : Program} {w : World} {K : PySem.W.Frag} {tg : Expr} (a it : Addr) : Turn P w K tg (Itt K a) [it] it (fun i h => h.IsTupleIter it a i) where
  mem := by simp
  obj := fun i h st b hb => by
    have e : b = it := by simpa using hb
    subst e
    obtain ⟨o, e, c, d⟩ := st
    exact ⟨o, e, fun v z => by rw [d] at z; cases z⟩
  keep := fun i h h' st k => st.at fun o e => k it (by simp) o e
  item := by
    intro X hP hw hK hc i pins s σ H E I hf st hg
    subst hP hw hK
    obtain ⟨xs, x, hq, hx⟩ := hg
    obtain ⟨its, rv, p, hz⟩ := I.tuple hq
    obtain ⟨u, hu, ru⟩ := rv.get hx
    obtain ⟨f0, f1, f2, f3, f4, f5⟩ := hf it (by simp)
    refine wpAny_pyNext_tuple_item st (show s.heap.IsTuple a its.toArray from p) (x := u) (by simpa using hu) fun h' st' sb => ?_
    have I1 : Inv X pins σ H { s with heap := h' } := I.turned (t' := s.toks) (fun b o hb e => (sb.2 b hb).trans e) f0 f1 f3 f4 f5
    obtain ⟨o, e, c, d⟩ := id st'
    exact ⟨u, rfl, go_of (s := { s with heap := h' }) e c d (by decide) ⟨x, H, I1, ru, ⟨rfl, fun ys hy => by rw [I.tuple_inj hy hq]; exact hx⟩, st', fun b hb => (hf b hb).1⟩⟩
  done := by
    intro X hP hw hK hc i pins s σ H E I hf st hg
    subst hP hw hK
    obtain ⟨xs, hq, hx⟩ := hg
    obtain ⟨its, rv, p, hz⟩ := I.tuple hq
    obtain ⟨f0, f1, f2, f3, f4, f5⟩ := hf it (by simp)
    have hl := rv.length
    exact wpAny_pyNext_tuple_end (I.ok.hd hc) st (show s.heap.IsTuple a its.toArray from p) (by simp; omega) fun h' eb => ⟨rfl, I.turned (t' := s.toks) (fun b o hb e => eb b o hb e) f0 f1 f3 f4 f5⟩
  self := fun _ _ _ _ _ st h => wpAny_pyIter_tupleiter st h
theorem turn_range {P : Program} {w : World} {K : PySem.W.Frag} {tg : Expr} (it : Addr) (lo : Int) (n : Nat) : Turn P w K tg (Itr lo n) [it] it (fun i h => IsRangeIter h it (lo + (i : Nat) * 1) ((n : Int) - (i : Nat)) 1) where
  mem := by simp
  obj := fun i h st b hb => by
    have e : b = it := by simpa using hb
    subst e
    exact ⟨_, st, fun v z => by
      have z' : Data.fields _ = Data.cell v := z
      cases z'⟩
  keep := fun i h h' st k => k it (by simp) _ st
  item := by
    intro X hP hw hK hc i pins s σ H E I hf st hg
    subst hP hw hK
    obtain ⟨f0, f1, f2, f3, f4, f5⟩ := hf it (by simp)
    have W := Walks.range (prog := X.prog) (w := X.w) (I.ok.hd hc) it lo 1 n
    refine W.item i s _ _ hg st fun v h' tk hv st' kk => ?_
    obtain ⟨t, rfl⟩ := hv
    have I1 : Inv X pins σ H { s with heap := h', toks := tk } := I.turned (fun b o hb e => kk b o (by simpa using hb) e) f0 f1 f3 f4 f5
    refine ⟨_, rfl, go_of (s := { s with heap := h', toks := tk }) (n := "range_iterator") st' rfl rfl (by decide) ⟨.int (lo + i), H, I1, ⟨t, ?_⟩, ⟨rfl, rfl⟩, st', fun b hb => (hf b hb).1⟩⟩
    rw [Int.mul_one]
  done := by
    intro X hP hw hK hc i pins s σ H E I hf st hg
    subst hP hw hK
    obtain ⟨f0, f1, f2, f3, f4, f5⟩ := hf it (by simp)
    exact wpAny_pyNext_range_end (I.ok.hd hc) st (by have : n ≤ i := hg; omega) fun h' eb => ⟨rfl, I.turned (t' := s.toks) (fun b o hb e => eb b o hb e) f0 f1 f3 f4 f5⟩
  self := fun _ _ _ _ _ st h => wpAny_pyIter_rangeiter st h
end L2

namespace L2
open PySem PySem.Spec PyProof.Rows
section
variable {X : Cx} {tg : Expr}
def iList (K : PySem.W.Frag) (tl : TE) : TI := fun σ H R => tl σ H fun x H1 => ∃ a, x = .ref a ∧ (∃ xs, SqL K H1 a xs) ∧ R (Itl K a) H1
def iTup (K : PySem.W.Frag) (tl : TE) : TI := fun σ H R => tl σ H fun x H1 => ∃ a, x = .ref a ∧ (∃ xs, SqT K H1 a xs) ∧ R (Itt K a) H1
theorem pi_list {l : Expr} {tl : TE} (hl : PE X l tl) : PI X tg l (iList X.K tl) := by
  intro pins s σ H R I h
  refine thn (hl pins s σ H _ I h) fun v s1 ⟨x, H1, I1, r1, q1⟩ => ?_
  obtain ⟨a, e, ⟨xs, hq⟩, q⟩ := q1
  subst e
  cases r1
  obtain ⟨its, rv, p, hz⟩ := I1.list hq
  refine wpAny_pyIter_list p.isList ?_
  refine ⟨s1.heap.objs.size, [s1.heap.objs.size], _, _, H1, rfl, I1.kept (t' := s1.toks) fun b o e => Heap.get?_push_of_some _ e, turn_list a _, ⟨_, Heap.get?_push_size _ rfl, rfl, rfl⟩, fun b hb => ?_, q⟩
  have e : b = s1.heap.objs.size := by simpa using hb
  subst e
  exact I1.fpOk (Nat.le_refl _) (I1.hok.fresh (Nat.le_refl _))
theorem pi_tup {l : Expr} {tl : TE} (hl : PE X l tl) : PI X tg l (iTup X.K tl) := by
  intro pins s σ H R I h
  refine thn (hl pins s σ H _ I h) fun v s1 ⟨x, H1, I1, r1, q1⟩ => ?_
  obtain ⟨a, e, ⟨xs, hq⟩, q⟩ := q1
  subst e
  cases r1
  obtain ⟨its, rv, p, hz⟩ := I1.tuple hq
  refine wpAny_pyIter_tuple (show s1.heap.IsTuple a its.toArray from p) ?_
  refine ⟨s1.heap.objs.size, [s1.heap.objs.size], _, _, H1, rfl, I1.kept (t' := s1.toks) fun b o e => Heap.get?_push_of_some _ e, turn_tuple a _, ⟨_, Heap.get?_push_size _ rfl, rfl, rfl⟩, fun b hb => ?_, q⟩
  have e : b = s1.heap.objs.size := by simpa using hb
  subst e
  exact I1.fpOk (Nat.le_refl _) (I1.hok.fresh (Nat.le_refl _))
/-- a range object just made, walked -/
theorem range_it {pins : List (Addr × Obj)} {σ : St} {H : Hp} {s : Shared} {R : It → Hp → Prop} {E : Value → Shared → Prop} {lo hi : Int} {t u v : Tok} {tk : Nat} (I : Inv X pins σ H s) (h1 : -(2 ^ 62) ≤ lo) (h2 : lo < 2 ^ 62) (h3 : -(2 ^ 62) ≤ hi) (h4 : hi < 2 ^ 62)
    (q : R (Itr lo (hi - lo).toNat) H) : wpAny (model X.prog X.w) X.A (pyIter (.ref s.heap.objs.size)) (PIE X pins σ tg R) E { s with heap := s.heap.push { cls := .type "range", data := .fields #[.int lo t, .int hi u, .int 1 v] }, toks := tk } := by
  refine wpAny_pyIter_range (IsRange.new ..) (small_one h1 h2 h3 h4) ?_
  have I1 : Inv X pins σ H { s with heap := s.heap.push { cls := .type "range", data := .fields #[.int lo t, .int hi u, .int 1 v] }, toks := tk } := I.kept fun b o e => Heap.get?_push_of_some _ e
  refine ⟨(s.heap.push { cls := .type "range", data := .fields #[.int lo t, .int hi u, .int 1 v] }).objs.size, [(s.heap.push { cls := .type "range", data := .fields #[.int lo t, .int hi u, .int 1 v] }).objs.size], _, _, H, rfl,
    I1.kept (t' := tk) fun b o e => Heap.get?_push_of_some _ e, turn_range _ lo (hi - lo).toNat, ?_, fun b hb => ?_, q⟩
  · have e1 : lo + ((0 : Nat) : Int) * 1 = lo := by simp
    have e2 : (((hi - lo).toNat : Nat) : Int) - ((0 : Nat) : Int) = Builtin.Range.rangeSize lo hi 1 := by rw [rangeSize_one]; split <;> omega
    show IsRangeIter _ _ (lo + ((0 : Nat) : Int) * 1) ((((hi - lo).toNat : Nat) : Int) - ((0 : Nat) : Int)) 1
    rw [e1, e2]
    exact Heap.get?_push_size _ rfl
  · have e : b = (s.heap.push { cls := .type "range", data := .fields #[.int lo t, .int hi u, .int 1 v] }).objs.size := by simpa using hb
    subst e
    exact I1.fpOk (Nat.le_refl _) (I1.hok.fresh (Nat.le_refl _))
def iRng1 (ta : TA) : TI := fun σ H R => ta σ H fun vs H1 => ∃ j : Int, vs = [.int j] ∧ -(2 ^ 62) ≤ j ∧ j < 2 ^ 62 ∧ R (Itr 0 j.toNat) H1
def iRng2 (ta : TA) : TI := fun σ H R => ta σ H fun vs H1 => ∃ i j : Int, vs = [.int i, .int j] ∧ (-(2 ^ 62) ≤ i ∧ i < 2 ^ 62 ∧ -(2 ^ 62) ≤ j ∧ j < 2 ^ 62) ∧ R (Itr i (j - i).toNat) H1
theorem pi_range1 {a : Expr} {ta : TA} {p pos : Pos} (hg : Gl X "range") (hm : X.mg "range" = none) (ha : PA X [a] ta) (hs : starEach [a] X.env = [(false, eval a X.env)] := by rfl) : PI X tg (.Call (.Name "range" p) [a] [] pos) (iRng1 ta) := by
  intro pins s σ H R I h
  refine Call_ (ld_blt I hg hm boot_range (PyProof.Rows.callWith_type1 (thn (ha pos pins s σ H _ I h) fun us s1 ⟨vs, H1, I1, r1, q1⟩ => ?_) hs rfl))
  obtain ⟨j, e, q1, q2, q⟩ := q1
  subst e
  cases r1 with
  | cons r rr =>
    cases rr
    obtain ⟨t, rfl⟩ := r
    exact call_range_1 (range_it I1 (by omega) (by omega) q1 q2 (by simpa using q))
theorem pi_range2 {a b : Expr} {ta : TA} {p pos : Pos} (hg : Gl X "range") (hm : X.mg "range" = none) (ha : PA X [a, b] ta) (hs : starEach [a, b] X.env = [(false, eval a X.env), (false, eval b X.env)] := by rfl) (hs2 : starEach [b] X.env = [(false, eval b X.env)] := by rfl) :
    PI X tg (.Call (.Name "range" p) [a, b] [] pos) (iRng2 ta) := by
  intro pins s σ H R I h
  refine Call_ (ld_blt I hg hm boot_range (PyProof.Rows.callWith_type1 (thn (ha pos pins s σ H _ I h) fun us s1 ⟨vs, H1, I1, r1, q1⟩ => ?_) (by rw [hs, hs2]) (by rw [hs2]; rfl)))
  obtain ⟨i, j, e, ⟨q1, q2, q3, q4⟩, q⟩ := q1
  subst e
  cases r1 with
  | cons r rr =>
    cases rr with
    | cons r' rr =>
      cases rr
      obtain ⟨t, rfl⟩ := r
      obtain ⟨t', rfl⟩ := r'
      exact call_range_2 (range_it I1 q1 q2 q3 q4 q)

/-! ### for -/
/-- W: the invariant by the turn and a measure; N: what the body is to reach -/
def tFor (wi : TI) (g : TG) (tb : TS) : TS := fun D σ H => wi σ H fun J H1 => ∃ W : Nat → Nat → St → Hp → Prop, (∃ m, W 0 m σ H1) ∧ ∀ i m σ H, W i m σ H →
  (J.stop i H ∧ D.nx σ H) ∨ (J.go i H ∧ ∃ N : St → Hp → Prop, (∀ σ' H', N σ' H' → ∃ m', m' < m ∧ W (i + 1) m' σ' H') ∧ ∀ x H', J.yld i H x H' → g x σ H' fun σ2 H2 => tb { D with nx := N, ct := N, bk := D.nx } σ2 H2)
/-- the records at fp as they stand -/
def pinsAt (fp : List Addr) (h : Heap) : List (Addr × Obj) := fp.filterMap fun b => (h.get? b).map fun o => (b, o)
theorem mem_pinsAt {fp : List Addr} {h : Heap} {b : Addr} {o : Obj} (hb : b ∈ fp) (e : h.get? b = some o) : (b, o) ∈ pinsAt fp h := List.mem_filterMap.mpr ⟨b, hb, by rw [e]; rfl⟩
theorem of_pinsAt {fp : List Addr} {h : Heap} {p : Addr × Obj} (hp : p ∈ pinsAt fp h) : p.1 ∈ fp ∧ h.get? p.1 = some p.2 := by
  obtain ⟨b, hb, e⟩ := List.mem_filterMap.mp hp
  cases q : h.get? b with
  | none => rw [q] at e; cases e
  | some o =>
    rw [q] at e
    have e' : (b, o) = p := Option.some.inj e
    subst e'
    exact ⟨hb, q⟩
theorem Inv.pinned {pins : List (Addr × Obj)} {σ : St} {H : Hp} {s : Shared} {fp : List Addr} (I : Inv X pins σ H s) (hf : ∀ b ∈ fp, FpOk X pins H b) (ho : ∀ b ∈ fp, ∃ o, s.heap.get? b = some o ∧ ∀ v, o.data ≠ .cell v) : Inv X (pins ++ pinsAt fp s.heap) σ H s :=
  I.pins_of fun p hp => (List.mem_append.mp hp).elim (fun z => I.pin p (List.mem_append_right _ z)) fun z => by
    obtain ⟨hb, e⟩ := of_pinsAt z
    obtain ⟨f0, f1, f2, _⟩ := hf p.1 hb
    obtain ⟨o, e', d⟩ := ho p.1 hb
    rw [e] at e'; cases e'
    exact ⟨e, f0, f1, f2, d⟩
theorem Inv.unpinned {pins pl : List (Addr × Obj)} {σ : St} {H : Hp} {s : Shared} (I : Inv X (pins ++ pl) σ H s) : Inv X pins σ H s := I.pins_of fun p hp => I.pin p (List.mem_append_right _ (List.mem_append_left _ hp))
theorem ps_for {iter : Expr} {body : List Stmt} {wi : TI} {g : TG} {tb : TS} {pos : Pos} (hp : PassesOwn (model X.prog X.w) X.A X.env X.xe) (hc : X.calm = true) (hi : PI X tg iter wi) (hg : PG X tg g) (hb : PSs X body tb)
    (hs : ∀ x, foldedSetIterable iter X.env x = pure x := by intro _; rfl) : PS X (.For tg iter body [] pos) (tFor wi g tb) := by
  intro pins s σ H D I h
  refine wpAny_For (thn (hi pins s σ H _ I h) fun v s1 h1 => thn h1 fun itv s2 h2 => ?_) hs
  obtain ⟨it, fp, tn, J, H2, e, I2, T, st2, f2, W, ⟨m0, w0⟩, turn⟩ := h2
  subst e
  -- what stays true of the iterator's objects through the loop
  have stat : ∀ {H' : Hp}, (∀ b ∈ fp, H' b = none) → ∀ b ∈ fp, FpOk X pins H' b := fun hn b hb => ⟨hn b hb, (f2 b hb).2⟩
  refine codeAny_forLoop_any (fun n s' => ∃ i σ' H', Inv X pins σ' H' s' ∧ tn i s'.heap ∧ (∀ b ∈ fp, H' b = none) ∧ W i n σ' H') ?_ m0 ⟨0, σ, H2, I2, st2, fun b hb => (f2 b hb).1, w0⟩
  rintro n s3 ⟨i, σ3, H3, I3, st3, fr3, w3⟩
  rcases turn i n σ3 H3 w3 with ⟨stop, qn⟩ | ⟨go, N, hN, step⟩
  · refine wpAny_passesOwn hp (thn (T.done X rfl rfl rfl hc i pins s3 σ3 H3 X.xe I3 (stat fr3) st3 stop) fun r s4 ⟨hr, I4⟩ => ?_)
    subst hr
    exact wpAny_execs_nil ⟨σ3, H3, I4, qn⟩
  · refine wpAny_passesOwn hp (thn (T.item X rfl rfl rfl hc i pins s3 σ3 H3 X.xe I3 (stat fr3) st3 go) fun r s4 ⟨u, hr, h4⟩ => ?_)
    subst hr
    refine wpAny_passesOwn hp (thn h4 fun _ s5 ⟨x, H5, I5, r5, y5, st5, fr5⟩ => ?_)
    have I5' := I5.pinned (stat fr5) (T.obj _ _ st5)
    refine wpAny_passesOwn hp (thn (hg _ s5 σ3 H5 x u _ I5' r5 (step x H5 y5)) fun _ s6 ⟨σ6, H6, I6, q6⟩ => ?_)
    refine wpAny_passesOwn hp (thn (hb _ s6 σ6 H6 _ I6 q6) fun f s7 q7 => ?_)
    have again : ∀ {σ7 : St} {H7 : Hp}, Inv X (pins ++ pinsAt fp s5.heap) σ7 H7 s7 → N σ7 H7 → ∃ m, m < n ∧ ∃ i σ' H', Inv X pins σ' H' s7 ∧ tn i s7.heap ∧ (∀ b ∈ fp, H' b = none) ∧ W i m σ' H' := fun {σ7 H7} I7 n7 => by
      obtain ⟨m', hm, w7⟩ := hN σ7 H7 n7
      refine ⟨m', hm, i + 1, σ7, H7, I7.unpinned, T.keep _ _ _ st5 fun b hb o e => (I7.pin (b, o) (List.mem_append_right _ (List.mem_append_right _ (mem_pinsAt hb e)))).1, fun b hb => ?_, w7⟩
      obtain ⟨o, e, d⟩ := T.obj _ _ st5 b hb
      exact (I7.pin (b, o) (List.mem_append_right _ (List.mem_append_right _ (mem_pinsAt hb e)))).2.1
    cases f with
    | next => obtain ⟨σ7, H7, I7, n7⟩ := q7; exact again I7 n7
    | cont => obtain ⟨σ7, H7, I7, n7⟩ := q7; exact again I7 n7
    | brk => obtain ⟨σ7, H7, I7, q7⟩ := q7; exact ⟨σ7, H7, I7.unpinned, q7⟩
    | ret v => obtain ⟨x7, σ7, H7, I7, r7, q7⟩ := q7; exact ⟨x7, σ7, H7, I7.unpinned, r7, q7⟩
end

/-! ### the forms one uses -/
/-- over a list that the body leaves as it is -/
theorem for_list {K : PySem.W.Frag} {a : Addr} {xs : List V} {g : TG} {tb : TS} {D : Ends} {σ : St} {H : Hp} (Pv : Nat → St → Hp → Prop) (h0 : Pv 0 σ H) (hl : ∀ i σ H, i ≤ xs.length → Pv i σ H → SqL K H a xs)
    (hs : ∀ i x σ H, xs[i]? = some x → Pv i σ H → g x σ H fun σ2 H2 => tb { D with nx := Pv (i + 1), ct := Pv (i + 1), bk := D.nx } σ2 H2) (hd : ∀ σ H, Pv xs.length σ H → D.nx σ H) :
    ∃ W : Nat → Nat → St → Hp → Prop, (∃ m, W 0 m σ H) ∧ ∀ i m σ H, W i m σ H →
      ((Itl K a).stop i H ∧ D.nx σ H) ∨ ((Itl K a).go i H ∧ ∃ N : St → Hp → Prop, (∀ σ' H', N σ' H' → ∃ m', m' < m ∧ W (i + 1) m' σ' H') ∧ ∀ x H', (Itl K a).yld i H x H' → g x σ H' fun σ2 H2 => tb { D with nx := N, ct := N, bk := D.nx } σ2 H2) := by
  refine ⟨fun i m σ H => m = xs.length - i ∧ i ≤ xs.length ∧ Pv i σ H, ⟨xs.length, by simp, Nat.zero_le _, h0⟩, ?_⟩
  rintro i m σ H ⟨rfl, hi, p⟩
  have q := hl i σ H hi p
  by_cases hlt : i < xs.length
  · refine .inr ⟨⟨xs, xs[i], q, by simp [hlt]⟩, Pv (i + 1), fun σ' H' p' => ⟨xs.length - (i + 1), by omega, rfl, hlt, p'⟩, fun x H' y => ?_⟩
    obtain ⟨e, y⟩ := y
    subst e
    exact hs i x σ _ (y xs q) p
  · have e : i = xs.length := by omega
    subst e
    exact .inl ⟨⟨xs, q, Nat.le_refl _⟩, hd σ H p⟩
theorem for_tup {K : PySem.W.Frag} {a : Addr} {xs : List V} {g : TG} {tb : TS} {D : Ends} {σ : St} {H : Hp} (Pv : Nat → St → Hp → Prop) (h0 : Pv 0 σ H) (hl : ∀ i σ H, i ≤ xs.length → Pv i σ H → SqT K H a xs)
    (hs : ∀ i x σ H, xs[i]? = some x → Pv i σ H → g x σ H fun σ2 H2 => tb { D with nx := Pv (i + 1), ct := Pv (i + 1), bk := D.nx } σ2 H2) (hd : ∀ σ H, Pv xs.length σ H → D.nx σ H) :
    ∃ W : Nat → Nat → St → Hp → Prop, (∃ m, W 0 m σ H) ∧ ∀ i m σ H, W i m σ H →
      ((Itt K a).stop i H ∧ D.nx σ H) ∨ ((Itt K a).go i H ∧ ∃ N : St → Hp → Prop, (∀ σ' H', N σ' H' → ∃ m', m' < m ∧ W (i + 1) m' σ' H') ∧ ∀ x H', (Itt K a).yld i H x H' → g x σ H' fun σ2 H2 => tb { D with nx := N, ct := N, bk := D.nx } σ2 H2) := by
  refine ⟨fun i m σ H => m = xs.length - i ∧ i ≤ xs.length ∧ Pv i σ H, ⟨xs.length, by simp, Nat.zero_le _, h0⟩, ?_⟩
  rintro i m σ H ⟨rfl, hi, p⟩
  have q := hl i σ H hi p
  by_cases hlt : i < xs.length
  · refine .inr ⟨⟨xs, xs[i], q, by simp [hlt]⟩, Pv (i + 1), fun σ' H' p' => ⟨xs.length - (i + 1), by omega, rfl, hlt, p'⟩, fun x H' y => ?_⟩
    obtain ⟨e, y⟩ := y
    subst e
    exact hs i x σ _ (y xs q) p
  · have e : i = xs.length := by omega
    subst e
    exact .inl ⟨⟨xs, q, Nat.le_refl _⟩, hd σ H p⟩
theorem for_range {lo : Int} {n : Nat} {g : TG} {tb : TS} {D : Ends} {σ : St} {H : Hp} (Pv : Nat → St → Hp → Prop) (h0 : Pv 0 σ H)
    (hs : ∀ i σ H, i < n → Pv i σ H → g (.int (lo + i)) σ H fun σ2 H2 => tb { D with nx := Pv (i + 1), ct := Pv (i + 1), bk := D.nx } σ2 H2) (hd : ∀ σ H, Pv n σ H → D.nx σ H) :
    ∃ W : Nat → Nat → St → Hp → Prop, (∃ m, W 0 m σ H) ∧ ∀ i m σ H, W i m σ H →
      ((Itr lo n).stop i H ∧ D.nx σ H) ∨ ((Itr lo n).go i H ∧ ∃ N : St → Hp → Prop, (∀ σ' H', N σ' H' → ∃ m', m' < m ∧ W (i + 1) m' σ' H') ∧ ∀ x H', (Itr lo n).yld i H x H' → g x σ H' fun σ2 H2 => tb { D with nx := N, ct := N, bk := D.nx } σ2 H2) := by
  refine ⟨fun i m σ H => m = n - i ∧ i ≤ n ∧ Pv i σ H, ⟨n, by simp, Nat.zero_le _, h0⟩, ?_⟩
  rintro i m σ H ⟨rfl, hi, p⟩
  by_cases hlt : i < n
  · refine .inr ⟨hlt, Pv (i + 1), fun σ' H' p' => ⟨n - (i + 1), by omega, rfl, hlt, p'⟩, fun x H' y => ?_⟩
    obtain ⟨e, y⟩ := y
    subst e y
    exact hs i σ _ hlt p
  · have e : i = n := by omega
    subst e
    exact .inl ⟨Nat.le_refl _, hd σ H p⟩
end L2

namespace L2
open PySem PySem.Spec PyProof.Rows

abbrev R2 := V → V → Hp → VK → Prop
/-- a two-place operation on values: f is binaryOp op, inplaceOp op or compareOp op -/
def OpR (X : Cx) (f : Value → Value → Sem Value) (r : R2) : Prop :=
  ∀ (pins : List (Addr × Obj)) (s : Shared) (σ : St) (H : Hp) (x y : V) (v u : Value) (Q : VK), Inv X pins σ H s → RelV x v → RelV y u → r x y H Q →
    wpAny (model X.prog X.w) X.A (f v u) (EP X pins σ Q) X.xe s
/-- a one-place operation -/
def UnR (X : Cx) (f : Value → Sem Value) (r : V → Hp → VK → Prop) : Prop :=
  ∀ (pins : List (Addr × Obj)) (s : Shared) (σ : St) (H : Hp) (x : V) (v : Value) (Q : VK), Inv X pins σ H s → RelV x v → r x H Q →
    wpAny (model X.prog X.w) X.A (f v) (EP X pins σ Q) X.xe s
/-- a call of a value that is known (a builtin, a type) with values -/
def CallR (X : Cx) (f : Value) (r : List V → Hp → VK → Prop) : Prop :=
  ∀ (pins : List (Addr × Obj)) (s : Shared) (σ : St) (H : Hp) (xs : List V) (us : List Value) (Q : VK), Inv X pins σ H s → Vals xs us → r xs H Q →
    wpAny (model X.prog X.w) X.A (call f us) (EP X pins σ Q) X.xe s
/-- a value's truth -/
def TruR (X : Cx) (r : V → Hp → (Bool → Hp → Prop) → Prop) : Prop :=
  ∀ (pins : List (Addr × Obj)) (s : Shared) (σ : St) (H : Hp) (x : V) (v : Value) (Q : Bool → Hp → Prop), Inv X pins σ H s → RelV x v → r x H Q →
    wpAny (model X.prog X.w) X.A (truthy v) (TP X pins σ Q) X.xe s

def tOp (r : R2) (ta tb : TE) : TE := fun σ H Q => ta σ H fun x H1 => tb σ H1 fun y H2 => r x y H2 Q
def tUn (r : V → Hp → VK → Prop) (ta : TE) : TE := fun σ H Q => ta σ H fun x H1 => r x H1 Q
/-- ints in, under C, and a value out -/
def rI (C : Int → Int → Prop) (g : Int → Int → V) : R2 := fun x y H Q => ∃ i j, x = .int i ∧ y = .int j ∧ C i j ∧ Q (g i j) H
def rI0 (g : Int → Int → V) : R2 := fun x y H Q => ∃ i j, x = .int i ∧ y = .int j ∧ Q (g i j) H
def rU (g : Int → V) : V → Hp → VK → Prop := fun x H Q => ∃ i, x = .int i ∧ Q (g i) H

section
variable {X : Cx} {a b c : Expr} {ta tb tc : TE} {pos : Pos}

theorem binT (ha : PE X a ta) (hb : PE X b tb) {pins : List (Addr × Obj)} {s : Shared} {σ : St} {H : Hp} {R : V → V → Hp → Prop} (I : Inv X pins σ H s)
    (h : ta σ H fun x H1 => tb σ H1 fun y H2 => R x y H2) {Q : Value → Shared → Prop} {f : Value → Value → Sem Value}
    (hf : ∀ v u s2 x y H2, Inv X pins σ H2 s2 → RelV x v → RelV y u → R x y H2 → wpAny (model X.prog X.w) X.A (f v u) Q X.xe s2) :
    wpAny (model X.prog X.w) X.A (eval a X.env) (fun v s₁ => wpAny (model X.prog X.w) X.A (eval b X.env) (fun u s₂ => wpAny (model X.prog X.w) X.A (f v u) Q X.xe s₂) X.xe s₁) X.xe s := by
  refine thn (ha pins s σ H _ I h) fun v s1 ⟨x, H1, I1, r1, q1⟩ => ?_
  refine thn (hb pins s1 σ H1 _ I1 q1) fun u s2 ⟨y, H2, I2, r2, q2⟩ => ?_
  exact hf v u s2 x y H2 I2 r1 r2 q2

theorem pe_op {op : Operator} {r : R2} (ho : OpR X (binaryOp op) r) (ha : PE X a ta) (hb : PE X b tb) : PE X (.BinOp a op b pos) (tOp r ta tb) := by
  intro pins s σ H Q I h
  exact wpAny_BinOp (binT ha hb I h fun v u s2 x y H2 I2 rx ry q => ho pins s2 σ H2 x y v u Q I2 rx ry q)
/-! ### ints -/
theorem opI {f : Value → Value → Sem Value} {C : Int → Int → Prop} {g : Int → Int → Int}
    (rule : ∀ (i j : Int) (t u : Tok) (s : Shared) (Q : Value → Shared → Prop) (E : Value → Shared → Prop), C i j → Q (.int (g i j) s.toks) { s with toks := s.toks + 1 } → wpAny (model X.prog X.w) X.A (f (.int i t) (.int j u)) Q E s) :
    OpR X f (rI C fun i j => .int (g i j)) := by
  intro pins s σ H x y v u Q I rx ry h
  obtain ⟨i, j, rfl, rfl, hc, q⟩ := h
  obtain ⟨t, rfl⟩ := rx
  obtain ⟨t', rfl⟩ := ry
  exact rule i j t t' s _ _ hc ⟨.int (g i j), H, I.tok _, ⟨_, rfl⟩, q⟩
theorem opI0 {f : Value → Value → Sem Value} {g : Int → Int → Int}
    (rule : ∀ (i j : Int) (t u : Tok) (s : Shared) (Q : Value → Shared → Prop) (E : Value → Shared → Prop), Q (.int (g i j) s.toks) { s with toks := s.toks + 1 } → wpAny (model X.prog X.w) X.A (f (.int i t) (.int j u)) Q E s) :
    OpR X f (rI0 fun i j => .int (g i j)) := by
  intro pins s σ H x y v u Q I rx ry h
  obtain ⟨i, j, rfl, rfl, q⟩ := h
  obtain ⟨t, rfl⟩ := rx
  obtain ⟨t', rfl⟩ := ry
  exact rule i j t t' s _ _ ⟨.int (g i j), H, I.tok _, ⟨_, rfl⟩, q⟩
theorem opB0 {f : Value → Value → Sem Value} {g : Int → Int → Bool}
    (rule : ∀ (i j : Int) (t u : Tok) (s : Shared) (Q : Value → Shared → Prop) (E : Value → Shared → Prop), Q (.bool (g i j)) s → wpAny (model X.prog X.w) X.A (f (.int i t) (.int j u)) Q E s) :
    OpR X f (rI0 fun i j => .bl (g i j)) := by
  intro pins s σ H x y v u Q I rx ry h
  obtain ⟨i, j, rfl, rfl, q⟩ := h
  obtain ⟨t, rfl⟩ := rx
  obtain ⟨t', rfl⟩ := ry
  exact rule i j t t' s _ _ ⟨.bl (g i j), H, I, rfl, q⟩

def CDiv (i j : Int) : Prop := 0 < j ∧ j < 1073741824
def CDivN (i j : Int) : Prop := j ≠ 0 ∧ j.natAbs < 1073741824
def CPow (i j : Int) : Prop := 0 ≤ j ∧ j ≤ 1000000 ∧ i.natAbs < 2 ^ 64
def CMul (i j : Int) : Prop := (-(2 ^ 64) < i ∧ i < 2 ^ 64) ∨ (-(2 ^ 64) < j ∧ j < 2 ^ 64)
theorem CMul.ok {i j : Int} (h : CMul i j) : IntMulOk i j := by
  rcases h with ⟨h1, h2⟩ | ⟨h1, h2⟩
  · exact .of_left (intBits_le_64 h1 h2)
  · exact .of_right (intBits_le_64 h1 h2)
theorem op_add : OpR X (binaryOp .Add) (rI0 fun i j => .int (i + j)) := opI0 fun _ _ _ _ _ _ _ q => add_int q
theorem op_sub : OpR X (binaryOp .Sub) (rI0 fun i j => .int (i - j)) := opI0 fun _ _ _ _ _ _ _ q => sub_int q
theorem op_mul : OpR X (binaryOp .Mult) (rI CMul fun i j => .int (i * j)) := opI fun _ _ _ _ _ _ _ hc q => mul_int q hc.ok
/-- // by a positive divisor -/
theorem op_fdiv : OpR X (binaryOp .FloorDiv) (rI CDiv fun i j => .int (i / j)) := opI fun i j _ _ _ _ _ hc q => by
  have h1 : (0 : Int) < j := hc.1
  have h2 : j < 1073741824 := hc.2
  exact floordiv_int (by omega) (by rw [Int.fdiv_eq_ediv_of_nonneg i (by omega)]; exact q) (.inl (PyProof.noPylong_small (by omega)))
/-- % by a positive divisor of any size -/
theorem op_mod : OpR X (binaryOp .Mod) (rI (fun _ j => 0 < j) fun i j => .int (i % j)) := opI fun i j _ _ _ _ _ hc q => by
  have h1 : (0 : Int) < j := hc
  exact mod_int' (by omega) (by rw [Int.fmod_eq_emod_of_nonneg i (by omega)]; exact q)
theorem op_pow : OpR X (binaryOp .Pow) (rI CPow fun i j => .int (i ^ j.toNat)) := opI fun _ _ _ _ _ _ _ hc q => pow_int_small hc.1 hc.2.1 hc.2.2 q
/-! ### bools among ints: n += (a < b) -/
end

/-! ### comparisons -/
/-- the scalars that == tells apart as data does -/
def scal : V → V → Bool
  | .non, .non => true | .non, .int _ => true | .int _, .non => true | .non, .bl _ => true | .bl _, .non => true | .non, .str _ => true | .str _, .non => true
  | .int _, .int _ => true | .bl _, .bl _ => true | .str _, .str _ => true | .byt _, .byt _ => true
  | .int _, .str _ => true | .str _, .int _ => true | .bl _, .str _ => true | .str _, .bl _ => true
  | _, _ => false
def rEq : R2 := fun x y H Q => scal x y = true ∧ Q (.bl (decide (x = y))) H
def rNe : R2 := fun x y H Q => scal x y = true ∧ Q (.bl (!decide (x = y))) H

theorem dec_int {i j : Int} : decide (V.int i = V.int j) = (i == j) := by
  rw [Bool.eq_iff_iff]
  simp
theorem dec_bl {i j : Bool} : decide (V.bl i = V.bl j) = (i == j) := by
  rw [Bool.eq_iff_iff]
  simp
theorem dec_str {i j : Str} : decide (V.str i = V.str j) = (i == j) := by
  rw [Bool.eq_iff_iff]
  simp
theorem dec_byt {i j : Array UInt8} : decide (V.byt i = V.byt j) = (i.toList == j.toList) := by
  rw [Bool.eq_iff_iff]
  cases i
  cases j
  simp

section
variable {X : Cx} {a b c : Expr} {ta tb tc : TE} {pos : Pos}
theorem fin_bl {pins : List (Addr × Obj)} {σ : St} {H : Hp} {s : Shared} {Q : VK} {k k' : Bool} (I : Inv X pins σ H s) (q : Q (.bl k) H) (e : k = k') : EP X pins σ Q (.bool k') s := by
  subst e
  exact ⟨.bl k, H, I, rfl, q⟩
theorem op_eq : OpR X (compareOp .Eq) rEq := by
  intro pins s σ H x y v u Q I rx ry h
  obtain ⟨hs, q⟩ := h
  cases x with
  | non =>
    cases rx
    cases y with
    | non => cases ry; exact PySem.EqNone.eq_none_none (fin_bl I q (by simp))
    | bl j => cases ry; exact PySem.EqNone.eq_none_bool (fin_bl I q (by simp))
    | int j => obtain ⟨t', rfl⟩ := ry; exact PySem.EqNone.eq_none_int (fin_bl I q (by simp))
    | str j => obtain ⟨t', rfl⟩ := ry; exact PySem.EqNone.eq_none_str (fin_bl I q (by simp))
    | _ => exact absurd (show false = true from hs) Bool.false_ne_true
  | bl i =>
    cases rx
    cases y with
    | non => cases ry; exact PySem.EqNone.eq_bool_none (fin_bl I q (by simp))
    | bl j => cases ry; exact eq_bool (fin_bl I q dec_bl)
    | str j => obtain ⟨t', rfl⟩ := ry; exact PySem.EqMixed.eq_bool_str (fin_bl I q (by simp))
    | _ => exact absurd (show false = true from hs) Bool.false_ne_true
  | int i =>
    obtain ⟨t, rfl⟩ := rx
    cases y with
    | non => cases ry; exact PySem.EqNone.eq_int_none (fin_bl I q (by simp))
    | int j => obtain ⟨t', rfl⟩ := ry; exact eq_int (fin_bl I q dec_int)
    | str j => obtain ⟨t', rfl⟩ := ry; exact PySem.EqMixed.eq_int_str (fin_bl I q (by simp))
    | _ => exact absurd (show false = true from hs) Bool.false_ne_true
  | str i =>
    obtain ⟨t, rfl⟩ := rx
    cases y with
    | non => cases ry; exact PySem.EqNone.eq_str_none (fin_bl I q (by simp))
    | bl j => cases ry; exact PySem.EqMixed.eq_str_bool (fin_bl I q (by simp))
    | int j => obtain ⟨t', rfl⟩ := ry; exact PySem.EqMixed.eq_str_int (fin_bl I q (by simp))
    | str j => obtain ⟨t', rfl⟩ := ry; exact eq_str (fin_bl I q dec_str)
    | _ => exact absurd (show false = true from hs) Bool.false_ne_true
  | byt i =>
    obtain ⟨t, rfl⟩ := rx
    cases y with
    | byt j => obtain ⟨t', rfl⟩ := ry; exact PySem.W.eq_bytes (fin_bl I q dec_byt)
    | _ => exact absurd (show false = true from hs) Bool.false_ne_true
  | _ => cases y <;> exact absurd (show false = true from hs) Bool.false_ne_true
theorem op_ne : OpR X (compareOp .NotEq) rNe := by
  intro pins s σ H x y v u Q I rx ry h
  obtain ⟨hs, q⟩ := h
  cases x with
  | non =>
    cases rx
    cases y with
    | non => cases ry; exact PySem.EqNone.ne_none_none (fin_bl I q (by simp))
    | bl j => cases ry; exact PySem.EqNone.ne_none_bool (fin_bl I q (by simp))
    | int j => obtain ⟨t', rfl⟩ := ry; exact PySem.EqNone.ne_none_int (fin_bl I q (by simp))
    | str j => obtain ⟨t', rfl⟩ := ry; exact PySem.EqNone.ne_none_str (fin_bl I q (by simp))
    | _ => exact absurd (show false = true from hs) Bool.false_ne_true
  | bl i =>
    cases rx
    cases y with
    | non => cases ry; exact PySem.EqNone.ne_bool_none (fin_bl I q (by simp))
    | bl j => cases ry; exact ne_bool (fin_bl I q (congrArg not dec_bl))
    | str j => obtain ⟨t', rfl⟩ := ry; exact PySem.EqMixed.ne_bool_str (fin_bl I q (by simp))
    | _ => exact absurd (show false = true from hs) Bool.false_ne_true
  | int i =>
    obtain ⟨t, rfl⟩ := rx
    cases y with
    | non => cases ry; exact PySem.EqNone.ne_int_none (fin_bl I q (by simp))
    | int j => obtain ⟨t', rfl⟩ := ry; exact ne_int (fin_bl I q (congrArg not dec_int))
    | str j => obtain ⟨t', rfl⟩ := ry; exact PySem.EqMixed.ne_int_str (fin_bl I q (by simp))
    | _ => exact absurd (show false = true from hs) Bool.false_ne_true
  | str i =>
    obtain ⟨t, rfl⟩ := rx
    cases y with
    | non => cases ry; exact PySem.EqNone.ne_str_none (fin_bl I q (by simp))
    | bl j => cases ry; exact PySem.EqMixed.ne_str_bool (fin_bl I q (by simp))
    | int j => obtain ⟨t', rfl⟩ := ry; exact PySem.EqMixed.ne_str_int (fin_bl I q (by simp))
    | str j => obtain ⟨t', rfl⟩ := ry; exact ne_str (fin_bl I q (congrArg not dec_str))
    | _ => exact absurd (show false = true from hs) Bool.false_ne_true
  | byt i =>
    obtain ⟨t, rfl⟩ := rx
    cases y with
    | byt j => obtain ⟨t', rfl⟩ := ry; exact PySem.W.ne_bytes (fin_bl I q (congrArg not dec_byt))
    | _ => exact absurd (show false = true from hs) Bool.false_ne_true
  | _ => cases y <;> exact absurd (show false = true from hs) Bool.false_ne_true

theorem op_lt : OpR X (compareOp .Lt) (rI0 fun i j => .bl (decide (i < j))) := opB0 fun _ _ _ _ _ _ _ q => lt_int q
theorem op_le : OpR X (compareOp .LtE) (rI0 fun i j => .bl (decide (i ≤ j))) := opB0 fun _ _ _ _ _ _ _ q => le_int q
theorem op_gt : OpR X (compareOp .Gt) (rI0 fun i j => .bl (decide (j < i))) := opB0 fun _ _ _ _ _ _ _ q => gt_int q
theorem op_ge : OpR X (compareOp .GtE) (rI0 fun i j => .bl (decide (j ≤ i))) := opB0 fun _ _ _ _ _ _ _ q => ge_int q
/-- the one string within the other -/
theorem op_in_str : OpR X (compareOp .In) (fun x y H Q => ∃ i j, x = .str i ∧ y = .str j ∧ Q (.bl (!(Builtin.Str.occurrences j i 0 j.length 1).isEmpty)) H) := by
  intro pins s σ H x y v u Q I rx ry h
  obtain ⟨i, j, rfl, rfl, q⟩ := h
  obtain ⟨t, rfl⟩ := rx
  obtain ⟨t', rfl⟩ := ry
  exact in_str (fin_bl I q rfl)

/-- is, is not of two objects that are tracked lists or instances -/
def isObj : HO → Bool
  | .lst _ => true
  | .ins _ _ _ => true
  | _ => false
theorem nomark (b : Expr) {op : CmpOp} (h : op ≠ .In := by decide) (h2 : op ≠ .NotIn := by decide) : behindInMarks op b = false := by
  have e1 : (op == CmpOp.In) = false := by cases op <;> first | rfl | exact absurd rfl h
  have e2 : (op == CmpOp.NotIn) = false := by cases op <;> first | rfl | exact absurd rfl h2
  cases b <;> simp [behindInMarks, e1, e2]
/-- a comparison as a value; hm: nomark b, or (for in, not in) by with_unfolding_all rfl -/
theorem pe_cmpR {op : CmpOp} {r : R2} (ho : OpR X (compareOp op) r) (ha : PE X a ta) (hb : PE X b tb) (hm : behindInMarks op b = false) : PE X (.Compare a [op] [b] pos) (tOp r ta tb) := by
  intro pins s σ H Q I h
  exact wpAny_Compare1 (binT ha hb I h fun v u s2 x y H2 I2 rx ry q => ho pins s2 σ H2 x y v u Q I2 rx ry q) hm
/-- a reading of a value as a test -/
def tTest (t : TE) : TT := fun σ H Q => t σ H fun x H' => ∃ k, x = .bl k ∧ Q k H'
theorem pt_cmpR {op : CmpOp} {r : R2} (ho : OpR X (compareOp op) r) (ha : PE X a ta) (hb : PE X b tb) (hm : behindInMarks op b = false) : PT X (.Compare a [op] [b] pos) (tTest (tOp r ta tb)) := by
  intro pins s σ H Q I h
  refine wpAny_isTrue_Compare1 (thn (ha pins s σ H _ I h) fun v s1 ⟨x, H1, I1, r1, q1⟩ => thn (hb pins s1 σ H1 _ I1 q1) fun u s2 ⟨y, H2, I2, r2, q2⟩ =>
    thn (ho pins s2 σ H2 x y v u _ I2 r1 r2 q2) fun c s3 ⟨z, H3, I3, r3, k, e, q3⟩ => ?_) hm
  subst e
  cases r3
  exact wpAny_truthy_bool ⟨H3, I3, q3⟩
/-- a op1 b op2 c -/
def tChain (r r' : R2) (ta tb tc : TE) : TE := fun σ H Q => ta σ H fun x H1 => tb σ H1 fun y H2 => r x y H2 fun z H3 => ∃ k, z = .bl k ∧
  (if k = true then tc σ H3 fun w' H4 => r' y w' H4 Q else Q (.bl false) H3)
theorem pe_chain {op op' : CmpOp} {r r' : R2} (ho : OpR X (compareOp op) r) (ho' : OpR X (compareOp op') r') (ha : PE X a ta) (hb : PE X b tb) (hc : PE X c tc)
    (hm : lastMarks [op, op'] [b, c] = false := by with_unfolding_all rfl) : PE X (.Compare a [op, op'] [b, c] pos) (tChain r r' ta tb tc) := by
  intro pins s σ H Q I h
  refine Compare_chain (thn (ha pins s σ H _ I h) fun v s1 ⟨x, H1, I1, r1, q1⟩ => chain_link (thn (hb pins s1 σ H1 _ I1 q1) fun u s2 ⟨y, H2, I2, r2, q2⟩ =>
    thn (ho pins s2 σ H2 x y v u _ I2 r1 r2 q2) fun d s3 ⟨z, H3, I3, r3, k, e, q3⟩ => ?_)) hm
  subst e
  cases r3
  refine wpAny_truthy_bool ?_
  cases k with
  | false => exact ite_ff ⟨.bl false, H3, I3, rfl, q3⟩
  | true => exact ite_tt (chain_last (thn (hc pins s3 σ H3 _ I3 q3) fun w' s4 ⟨z', H4, I4, r4, q4⟩ => ho' pins s4 σ H4 y z' u w' Q I4 r2 r4 q4))
theorem pt_chain {op op' : CmpOp} {r r' : R2} (ho : OpR X (compareOp op) r) (ho' : OpR X (compareOp op') r') (ha : PE X a ta) (hb : PE X b tb) (hc : PE X c tc)
    (hm : lastMarks [op, op'] [b, c] = false := by with_unfolding_all rfl) : PT X (.Compare a [op, op'] [b, c] pos) (tTest (tChain r r' ta tb tc)) := by
  intro pins s σ H Q I h
  refine isTrue_chain (thn (ha pins s σ H _ I h) fun v s1 ⟨x, H1, I1, r1, q1⟩ => test_link (thn (hb pins s1 σ H1 _ I1 q1) fun u s2 ⟨y, H2, I2, r2, q2⟩ =>
    thn (ho pins s2 σ H2 x y v u _ I2 r1 r2 q2) fun d s3 ⟨z, H3, I3, r3, k, e, q3⟩ => ?_)) hm
  subst e
  cases r3
  refine wpAny_truthy_bool ?_
  cases k with
  | false =>
    obtain ⟨k', e', q'⟩ := q3
    cases e'
    exact ite_ff ⟨H3, I3, q'⟩
  | true =>
    refine ite_tt (test_last (thn (hc pins s3 σ H3 _ I3 q3) fun w' s4 ⟨z', H4, I4, r4, q4⟩ => thn (ho' pins s4 σ H4 y z' u w' _ I4 r2 r4 q4) fun d' s5 ⟨z2, H5, I5, r5, k2, e2, q5⟩ => ?_))
    subst e2
    cases r5
    exact wpAny_truthy_bool ⟨H5, I5, q5⟩

/-! ### truth -/
/-- a value's truth by the abstract heap -/
def TruV (K : PySem.W.Frag) (x : V) (H : Hp) (k : Bool) : Prop :=
  match x with
  | .non => k = false
  | .bl b => k = b
  | .int i => k = (i != 0)
  | .str y => y.length ≤ sizeLine ∧ k = ((y.length : Int) != 0)
  | .byt y => y.size ≤ sizeLine ∧ k = ((y.size : Int) != 0)
  | .ref p => (∃ xs, SqL K H p xs ∧ k = !xs.isEmpty) ∨ (∃ xs, SqT K H p xs ∧ k = !xs.isEmpty) ∨ ∃ kvs, H p = some (.dK kvs) ∧ k = !kvs.isEmpty
  | _ => False
theorem line63 : (sizeLine : Nat) < 2 ^ 63 := by rw [sizeLine_eq]; decide
/-! ### strs and bytes -/
theorem op_add_str : OpR X (binaryOp .Add) (fun x y H Q => ∃ i j, x = .str i ∧ y = .str j ∧ i.length + j.length ≤ sizeLine ∧ Q (.str (i ++ j)) H) := by
  intro pins s σ H x y v u Q I rx ry h
  obtain ⟨i, j, rfl, rfl, hz, q⟩ := h
  obtain ⟨t, rfl⟩ := rx
  obtain ⟨t', rfl⟩ := ry
  exact add_str (fun t' tk => ⟨.str (i ++ j), H, I.tok _, ⟨_, rfl⟩, q⟩) hz
def PlainIxT (b : Expr) : Prop := ∀ o i, subscripted b false o i = operate [o, i] (getItem o i)
/-! ### scalar builtins, by CallR -/
theorem vals1 {x : V} {us : List Value} (r : Vals [x] us) : ∃ u, us = [u] ∧ RelV x u := by
  cases r with
  | cons r1 r2 => cases r2; exact ⟨_, rfl, r1⟩
theorem vals2 {x y : V} {us : List Value} (r : Vals [x, y] us) : ∃ u w', us = [u, w'] ∧ RelV x u ∧ RelV y w' := by
  cases r with
  | cons r1 r2 =>
    cases r2 with
    | cons r3 r4 => cases r4; exact ⟨_, _, rfl, r1, r3⟩
theorem call_ord : CallR X (.builtin "ord") (fun xs H Q => ∃ x, xs = [.str x] ∧ x.length = 1 ∧ Q (.int (x.cps.getD 0 0 : Nat)) H) := by
  intro pins s σ H xs us Q I r h
  obtain ⟨x, rfl, hz, q⟩ := h
  obtain ⟨u, rfl, t, rfl⟩ := vals1 r
  exact ord_of_one hz ⟨.int _, H, I.tok _, ⟨_, rfl⟩, q⟩
/-- len of a str, a bytes, a list, a tuple -/
def LenV (K : PySem.W.Frag) (x : V) (H : Hp) (n : Nat) : Prop :=
  match x with
  | .str y => y.length ≤ sizeLine ∧ n = y.length
  | .byt y => y.size ≤ sizeLine ∧ n = y.size
  | .ref p => (∃ xs, SqL K H p xs ∧ n = xs.length) ∨ ∃ xs, SqT K H p xs ∧ n = xs.length
  | _ => False
end
end L2

namespace L2
open PySem PySem.Spec PyProof.Rows

/-! ### an instance, its attributes a map -/
structure ObjM (h : Heap) (x dx C : Addr) (mA : Str → Option Value) : Prop where
  obj : h.get? x = some (PySem.W.instObj C dx)
  ns : h.Ns1 dx mA
  ne : dx ≠ x

theorem lookIn_ns {h : Heap} {dx : Addr} {mA : Str → Option Value} (n : h.Ns1 dx mA) : ∃ od, h.get? dx = some od ∧ ∀ name, PySem.W.lookIn name od = some (mA name) := by
  obtain ⟨o, es, ep, ho, hd, hk, _, hm⟩ := n
  refine ⟨o, ho, fun name => ?_⟩
  have e := hm name
  unfold nsFind findBy at e
  rw [← Array.find?_toList] at e
  unfold PySem.W.lookIn
  rw [hd]
  dsimp only
  split
  · rename_i y q
    rw [q] at e
    exact congrArg some e
  · rename_i q
    rw [q] at e
    have a : es.toList.any (·.refKey) = false := by
      rw [List.any_eq_false]
      intro y hy
      obtain ⟨z, t, hkey⟩ := hk y (Array.mem_toList_iff.mp hy)
      simp [DictEntry.refKey, hkey]
    have a' : ¬ es.toList.any (·.refKey) = true := by rw [a]; exact Bool.false_ne_true
    rw [if_neg a']
    exact congrArg some e

theorem ObjM.look {h : Heap} {x dx C : Addr} {mA : Str → Option Value} (I : ObjM h x dx C mA) : ∃ od, PySem.W.InstAt h x (PySem.W.instObj C dx) C (some od) ∧ ∀ name, PySem.W.lookIn name od = some (mA name) :=
  let ⟨od, ho, hl⟩ := lookIn_ns I.ns
  ⟨od, ⟨I.obj, rfl, rfl, ho⟩, hl⟩

section
variable {prog : Program} {w : World} {A : Around} {E : Value → Shared → Prop} {s : Shared} {K : PySem.W.Frag} {x dx C f : Addr} {mA : Str → Option Value} {name : Str} {v : Value}

end

/-! ### the attributes as a list of pairs -/
def putF (f : Str) (v : V) : List (Str × V) → List (Str × V)
  | [] => [(f, v)]
  | (g, x) :: r => if g = f then (g, v) :: r else (g, x) :: putF f v r
theorem RelO.some_of {v : V} {o : Option Value} (r : RelO (some v) o) : ∃ u, o = some u ∧ RelV v u := by
  cases o with
  | none => exact (show False from r).elim
  | some u => exact ⟨u, rfl, r⟩
section
variable {P : Program} {w : World} {H H' : Hp} {h h' : Heap} {a C dx : Addr} {fs fs' : List (Str × V)}
theorem ins_get (hok : HOk P w H h) (e : H a = some (.ins C dx fs)) : ∃ mA, ObjM h a dx C mA ∧ (∀ f, RelO (fs.lookup f) (mA f)) ∧ PySem.Within mA (fs.map (·.1)) ∧ fs.length ≤ 1000 ∧ H dx = some (.own a) := by
  obtain ⟨d, z, ne, ob, mA, n, r, q⟩ := (show ObjOk P w H h a (.ins C dx fs) from hok a _ e)
  exact ⟨mA, ⟨ob, n, ne⟩, r, q, z, d⟩
end

/-! ### what of the text a class must have -/
structure Cls (K : PySem.W.Frag) (C : Addr) : Prop where
  pg : PySem.W.plainGet K C Str.empty = true
  hd : PySem.W.hasDictIn K C = true
  po : PySem.W.plainOver K C = true
  sa : PySem.W.findIn K (.ref C) "__setattr__" = some (some (.builtin "object.__setattr__"))
theorem Cls.get {K : PySem.W.Frag} {C : Addr} (c : Cls K C) (f : Str) : PySem.W.plainGet K C f = true := c.pg
/-- no class of it has the name -/
def NoAttr (K : PySem.W.Frag) (C : Addr) (f : Str) : Prop := PySem.W.findIn K (.ref C) f = some none
/-- a constant of the class -/
structure Con (K : PySem.W.Frag) (C : Addr) (f : Str) (v : V) (u : Value) : Prop where
  at_ : PySem.W.findIn K (.ref C) f = some (some u)
  rel : RelV v u
  get : PySem.W.specialIn K u "__get__" = some none
  cp : PySem.W.copiedNames.contains f = false
/-- a method: a plain def of the class or of one above it -/
structure Meth (K : PySem.W.Frag) (C : Addr) (m : Str) (f : Addr) : Prop where
  at_ : PySem.W.findIn K (.ref C) m = some (some (.ref f))
  fn : PySem.W.isFn K (.ref f) = true
  kp : PySem.W.keepIn K (.ref f) = true

section
variable {X : Cx} {pins : List (Addr × Obj)} {σ : St} {H : Hp} {s : Shared} {a C dx : Addr} {fs : List (Str × V)} {f : Str} {v : V} {A : Around} {E : Value → Shared → Prop}

end

/-! ### readings and rules -/
/-- e.f, an attribute of the instance -/
def tFld (K : PySem.W.Frag) (ta : TE) (f : Str) : TE := fun σ H Q => ta σ H fun x H1 => ∃ a C dx fs v, x = .ref a ∧ H1 a = some (.ins C dx fs) ∧ Cls K C ∧ NoAttr K C f ∧ fs.lookup f = some v ∧ Q v H1
/-- e.f, a constant of the class -/
def tCon (K : PySem.W.Frag) (ta : TE) (f : Str) : TE := fun σ H Q => ta σ H fun x H1 => ∃ a C dx fs v u, x = .ref a ∧ H1 a = some (.ins C dx fs) ∧ Cls K C ∧ Con K C f v u ∧ fs.lookup f = none ∧ Q v H1
/-- e.f = value -/
def sFld (K : PySem.W.Frag) (ta tv : TE) (f : Str) : TS := fun D σ H => tv σ H fun y H1 => ta σ H1 fun x H2 => ∃ a C dx fs, x = .ref a ∧ H2 a = some (.ins C dx fs) ∧ Cls K C ∧ NoAttr K C f ∧ fs.length < 1000 ∧
  D.nx σ (upd H2 a (.ins C dx (putF f y fs)))
/-- an augmented operator on two values -/
def InOp (X : Cx) (op : Operator) (rd : V → V → Hp → VK → Prop) : Prop :=
  ∀ (pins : List (Addr × Obj)) (s : Shared) (σ : St) (H : Hp) (x y : V) (u v : Value) (Q : VK), Inv X pins σ H s → RelV x u → RelV y v → rd x y H Q → wpAny (model X.prog X.w) X.A (inplaceOp op u v) (EP X pins σ Q) X.xe s
/-- e.f op= value -/
def sFldAug (K : PySem.W.Frag) (ta tv : TE) (rd : V → V → Hp → VK → Prop) (f : Str) : TS := fun D σ H => ta σ H fun x H1 => ∃ a C dx fs v, x = .ref a ∧ H1 a = some (.ins C dx fs) ∧ Cls K C ∧ NoAttr K C f ∧ fs.lookup f = some v ∧
  tv σ H1 fun y H2 => rd v y H2 fun z H3 => ∃ dx' fs', H3 a = some (.ins C dx' fs') ∧ fs'.length < 1000 ∧ D.nx σ (upd H3 a (.ins C dx' (putF f z fs')))

section
variable {X : Cx} {o e value : Expr} {f : Str} {pos pos' tpos : Pos} {ta tv : TE}
def rAdd : V → V → Hp → VK → Prop := fun x y H Q => ∃ i j, x = .int i ∧ y = .int j ∧ Q (.int (i + j)) H
def rSub : V → V → Hp → VK → Prop := fun x y H Q => ∃ i j, x = .int i ∧ y = .int j ∧ Q (.int (i - j)) H
end

/-! ### isinstance -/
section
variable {X : Cx} {pins : List (Addr × Obj)} {σ : St} {H : Hp} {s : Shared} {A : Around} {E : Value → Shared → Prop} {Q : Value → Shared → Prop} {c : Value} {b : Bool}
/-- the type of a value, as the fragment's deciders take it; for an instance its class -/
inductive TyOf (K : PySem.W.Frag) (H : Hp) : V → Value → Prop where
  | non : TyOf K H .non (.type "NoneType")
  | bl (x : Bool) : TyOf K H (.bl x) (.type "bool")
  | int (i : Int) : TyOf K H (.int i) (.type "int")
  | str (x : Str) : TyOf K H (.str x) (.type "str")
  | flt (x : UInt64) : TyOf K H (.flt x) (.type "float")
  | lst {a : Addr} {xs : List V} (e : H a = some (.lst xs)) : TyOf K H (.ref a) (.type "list")
  | frz {a : Addr} {o : Obj} {xs : List V} (e : H a = some (.frz o (.lst xs))) : TyOf K H (.ref a) (.type "list")
  | tup {a : Addr} {xs : List V} (e : H a = some (.tup xs)) : TyOf K H (.ref a) (.type "tuple")
  | dK {a : Addr} {kvs : List (Key × V)} (e : H a = some (.dK kvs)) : TyOf K H (.ref a) (.type "dict")
  | dT {a : Addr} {kvs : List (List Key × V)} (e : H a = some (.dT kvs)) : TyOf K H (.ref a) (.type "dict")
  | ins {a C dx : Addr} {fs : List (Str × V)} (e : H a = some (.ins C dx fs)) (cl : Cls K C) (ha : PySem.W.findIn K (.ref C) "__class__" = some (some (.builtin "object.__class__")))
      (hn : PySem.W.specialIn K (.builtin "object.__class__") "__get__" = some (some (.builtin "getset_descriptor.__get__"))) (htk : PySem.W.takesIn K (.builtin "object.__class__") = some true)
      (hm : PySem.W.mroIn K C (.type "object") = some true) : TyOf K H (.ref a) (.ref C)
/-- isinstance(x, c) for one class c, a built-in or an own one: kitOne's answer -/
theorem isinst_ok {x : V} {u t : Value} (I : Inv X pins σ H s) (rx : RelV x u) (ty : TyOf X.K H x t) (e : PySem.W.kitOne X.K t c = some b) (h : ∀ tk, Q (.bool b) { s with toks := tk }) :
    wpAny (model X.prog X.w) A (call (.builtin "isinstance") [u, c]) Q E s := by
  cases ty with
  | non => cases (show u = Value.none from rx); exact PySem.W.kia_one PySem.W.kitx_none I.kIn True.intro e (fun z => nomatch z) h
  | bl y => cases (show u = Value.bool y from rx); exact PySem.W.kia_one PySem.W.kitx_bool I.kIn True.intro e (fun z => nomatch z) h
  | int i => obtain ⟨t, q⟩ := (show ∃ t, u = Value.int i t from rx); cases q; exact PySem.W.kia_one PySem.W.kitx_int I.kIn True.intro e (fun z => nomatch z) h
  | str y => obtain ⟨t, q⟩ := (show ∃ t, u = Value.str y t from rx); cases q; exact PySem.W.kia_one PySem.W.kitx_str I.kIn True.intro e (fun z => nomatch z) h
  | flt y => obtain ⟨t, q⟩ := (show ∃ t, u = Value.float y t from rx); cases q; exact PySem.W.kia_one PySem.W.kitx_float I.kIn True.intro e (fun z => nomatch z) h
  | @lst a xs ea =>
    cases (show u = Value.ref a from rx)
    obtain ⟨_, _, n, _, h1⟩ := (show ObjOk X.prog X.w H s.heap a (.lst xs) from I.hok a _ ea)
    exact PySem.W.kia_one PySem.W.kitx_list I.kIn ⟨_, h1, rfl⟩ e (fun z => nomatch z) h
  | @frz a ob xs ea =>
    cases (show u = Value.ref a from rx)
    obtain ⟨_, _, _, n, _, h1⟩ := (show ObjOk X.prog X.w H s.heap a (.frz ob (.lst xs)) from I.hok a _ ea)
    exact PySem.W.kia_one PySem.W.kitx_list I.kIn ⟨_, h1, rfl⟩ e (fun z => nomatch z) h
  | @tup a xs ea =>
    cases (show u = Value.ref a from rx)
    obtain ⟨_, _, _, p⟩ := (show ObjOk X.prog X.w H s.heap a (.tup xs) from I.hok a _ ea)
    obtain ⟨o, h1, h2, _⟩ := p
    exact PySem.W.kia_one PySem.W.kitx_tuple I.kIn ⟨o, h1, h2⟩ e (fun z => nomatch z) h
  | @dK a kvs ea =>
    cases (show u = Value.ref a from rx)
    obtain ⟨_, _, vs, _, p⟩ := (show ObjOk X.prog X.w H s.heap a (.dK kvs) from I.hok a _ ea)
    obtain ⟨o, es, ep, h1, h2, _⟩ := p
    exact PySem.W.kia_one PySem.W.kitx_dict I.kIn ⟨o, h1, h2.1⟩ e (fun z => nomatch z) h
  | @dT a kvs ea =>
    cases (show u = Value.ref a from rx)
    obtain ⟨_, _, xs, _, o, es, ep, h1, h2, _⟩ := (show ObjOk X.prog X.w H s.heap a (.dT kvs) from I.hok a _ ea)
    exact PySem.W.kia_one PySem.W.kitx_dict I.kIn ⟨o, h1, h2.1⟩ e (fun z => nomatch z) h
  | @ins a C dx fs ea cl ha hn htk hm =>
    cases (show u = Value.ref a from rx)
    obtain ⟨mA, O, _⟩ := ins_get I.hok ea
    obtain ⟨od, J, _⟩ := O.look
    exact PySem.W.kia_one (PySem.W.kitx_own (cl.get _) cl.hd ha hn htk hm) I.kIn J e (fun z => nomatch z) h
end
end L2

namespace L2
open PySem PySem.Spec PyProof.Rows

/-! ### room -/
structure Room (k : Nat) (A : Around) : Prop where
  hd : A.handled = none
  dp : A.depth + 3 * k + 5 < recursionLimit
  un : A.units + 16 * k + 200 < cLine
theorem Room.mono {j k : Nat} {A : Around} (r : Room k A) (h : j ≤ k) : Room j A := ⟨r.hd, by have := r.dp; omega, by have := r.un; omega⟩
theorem Room.deeper {k : Nat} {A : Around} (r : Room (k + 1) A) (env : Env) : Room k (A.deeper env) :=
  ⟨r.hd, by have := r.dp; show A.depth + 1 + 3 * k + 5 < _; omega, by have := r.un; show A.units + 3 + 16 * k + 200 < _; omega⟩
theorem Room.in1 {k : Nat} {A : Around} (r : Room (k + 1) A) : Room k A.in1 :=
  ⟨r.hd, by have := r.dp; show A.depth + 3 * k + 5 < _; omega, by have := r.un; show A.units + 1 + 16 * k + 200 < _; omega⟩
theorem Room.depth {k : Nat} {A : Around} (r : Room k A) : A.depth < recursionLimit := by have := r.dp; omega
theorem Room.units {k : Nat} {A : Around} (r : Room k A) : A.units + 64 < cLine := by have := r.un; omega
theorem Room.units0 {k : Nat} {A : Around} (r : Room k A) : A.units < cLine := by have := r.un; omega

/-! ### argument lists and displays -/
def tNil : TA := fun _ H Q => Q [] H
def tCons (ta : TE) (tr : TA) : TA := fun σ H Q => ta σ H fun x H1 => tr σ H1 fun xs H2 => Q (x :: xs) H2
section
variable {X : Cx} {e : Expr} {es : List Expr} {te : TE} {t : TA} {pos : Pos}
theorem pa_nil : PA X [] tNil := fun _ _ _ _ H Q I h => Calls.spliced_nil ⟨[], H, I, .nil, h⟩
theorem pa_cons (ha : PE X e te) (hr : PA X es t) (hs : starEach (e :: es) X.env = (false, eval e X.env) :: starEach es X.env := by rfl) : PA X (e :: es) (tCons te t) := by
  intro pos pins s σ H Q I h
  rw [hs]
  show wpAny _ _ (spliced ((false, eval e X.env) :: backTo pos (starEach es X.env))) _ _ s
  refine Calls.spliced_cons (thn (ha pins s σ H _ I h) fun u s1 ⟨x, H1, I1, r1, q1⟩ => ?_)
  exact thn (hr pos pins s1 σ H1 _ I1 q1) fun us s2 ⟨xs, H2, I2, r2, q2⟩ => ⟨x :: xs, H2, I2, .cons r1 r2, q2⟩

/-- a tuple, a list of written items -/
def tTup (t : TA) : TE := fun σ H Q => t σ H fun xs H1 => xs.length ≤ sizeLine ∧ ∀ p, H1 p = none → Q (.ref p) (upd H1 p (.tup xs))
def tLst (t : TA) : TE := fun σ H Q => t σ H fun xs H1 => xs.length ≤ sizeLine ∧ ∀ p, H1 p = none → Q (.ref p) (upd H1 p (.lst xs))
theorem pe_tup {x1} (h : PA X es t) : PE X (.Tuple es x1 pos) (tTup t) := by
  intro pins s σ H Q I hq
  refine wpAny_Tuple_spliced (thn (h pos pins s σ H _ I hq) fun us s1 ⟨xs, H1, I1, r, z, q⟩ => ⟨by rw [← r.length]; exact z, ?_⟩)
  have hf : H1 s1.heap.objs.size = none := I1.hok.fresh (Nat.le_refl _)
  refine ⟨.ref s1.heap.objs.size, upd H1 s1.heap.objs.size (.tup xs), I1.laid (t' := s1.toks) (fun b u e => Heap.get?_push_of_some _ e) (Nat.le_refl _) ?_, rfl, q _ hf⟩
  exact ⟨z, us, r, ⟨_, Heap.get?_push_size _ rfl, rfl, _, rfl⟩⟩
theorem pe_lst (h : PA X es t) : PE X (.List es pos) (tLst t) := by
  intro pins s σ H Q I hq
  refine wpAny_List_spliced (thn (h pos pins s σ H _ I hq) fun us s1 ⟨xs, H1, I1, r, z, q⟩ => ⟨by rw [← r.length]; exact z, ?_⟩)
  have hf : H1 s1.heap.objs.size = none := I1.hok.fresh (Nat.le_refl _)
  refine ⟨.ref s1.heap.objs.size, upd H1 s1.heap.objs.size (.lst xs), I1.laid (t' := s1.toks) (fun b u e => Heap.get?_push_of_some _ e) (Nat.le_refl _) ?_, rfl, q _ hf⟩
  exact ⟨z, us, 0, r, Heap.get?_push_size _ rfl⟩
end

/-! ### what a def promises -/
/-- a def's promise: the bound arguments in the parameters' order, the heap, the wanted end, the wanted exception -/
abbrev Sp := List V → Hp → VK → XK → Prop
/-- how an exception lies behind a call (file 08 gives it): the callers' frames, abstract heap and state ahead of the call, the wish, the exception, the state -/
abbrev CXT := List Env → Hp → Shared → XK → Value → Shared → Prop

/-- the state at a call -/
structure Env0 (P : Program) (w : World) (K : PySem.W.Frag) (mg : Str → Option Value) (base : Heap) (A : Around) (outer : List Env) (s : Shared) (H : Hp) : Prop where
  frames : A.frames = some outer
  mod : Mod K mg base
  bs : ∀ b o, base.get? b = some o → s.heap.get? b = some o ∧ H b = none
  bsz : base.objs.size ≤ s.heap.objs.size
  funs : s.heap.FunFrames base outer
  frf : ∀ b ∈ frs outer, H b = none
  hok : HOk P w H s.heap
  bare : AllBare s.gens
/-- a call's end -/
def CE (outer : List Env) (P : Program) (w : World) (H : Hp) (s : Shared) (Q : VK) (u : Value) (s' : Shared) : Prop :=
  ∃ v H', s'.os = s.os ∧ AllBare s'.gens ∧ Un (frs outer) [] H H' s.heap s'.heap ∧ HOk P w H' s'.heap ∧ RelV v u ∧ Q v H'
def CR (CX : CXT) (outer : List Env) (P : Program) (w : World) (H : Hp) (s : Shared) (Q : VK) (E : XK) (r : Result) (s' : Shared) : Prop :=
  match r with
  | .ok (.ret u) => CE outer P w H s Q u s'
  | .ok _ => False
  | .error e => CX outer H s E e s'
structure FnOk (P : Program) (w : World) (K : PySem.W.Frag) (mg : Str → Option Value) (base : Heap) (CX : CXT) (k : Nat) (f : Addr) (fd : FuncData) (ps : List Str) (sp : Sp) : Prop where
  len : ∀ vs H Q E, sp vs H Q E → vs.length = ps.length
  run : ∀ (A : Around) (outer : List Env) (s : Shared) (H : Hp) (args : Args) (us : List Value) (vs : List V) (Q : VK) (E : XK), Room k A → Env0 P w K mg base A outer s H → BindsTo s fd args (ps.zip us) → Vals vs us → sp vs H Q E →
    codeAny (model P w) A (.call (.ref f) args) (CR CX outer P w H s Q E) s
theorem Env0.in1 {P : Program} {w : World} {K : PySem.W.Frag} {mg : Str → Option Value} {base : Heap} {A : Around} {outer : List Env} {s : Shared} {H : Hp} (e : Env0 P w K mg base A outer s H) :
    Env0 P w K mg base A.in1 outer s H := ⟨e.frames, e.mod, e.bs, e.bsz, e.funs, e.frf, e.hok, e.bare⟩

section
variable {X : Cx} {pins : List (Addr × Obj)} {σ : St} {H : Hp} {s s' : Shared}
/-- from a body: what a callee wants -/
theorem Inv.env0 (I : Inv X pins σ H s) : Env0 X.prog X.w X.K X.mg X.base X.A X.stack s H :=
  ⟨I.ok.frames, I.ok.mod, I.bs, Nat.le_trans I.ok.bsz I.sz, I.stack, I.stkFree, I.hok, I.bare⟩
/-- behind a call -/
theorem Inv.after {Q : VK} {u : Value} (I : Inv X pins σ H s) (h : CE X.stack X.prog X.w H s Q u s') : EP X pins σ Q u s' := by
  obtain ⟨v, H', os, bare, un, hok, r, q⟩ := h
  obtain ⟨hh, g, d, t, os'⟩ := s'
  obtain rfl : os' = s.os := os
  exact ⟨v, H', I.call (h' := hh) (g' := g) (d' := d) (t' := t) (ch := []) un hok bare (fun b z => absurd z (by simp)), r, q⟩
end

/-! ### calls -/
/-- f(..): the written arguments, then the defaults dvs; E: what is wanted of an exception -/
def tCall (sp : Sp) (dvs : List V) (E : XK) (t : TA) : TE := fun σ H Q => t σ H fun vs H1 => sp (vs ++ dvs) H1 Q E
/-- o.m(..) of an instance of the class at C -/
def tMeth (C : Addr) (m : Str) (sp : Sp) (dvs : List V) (E : XK) (ta : TE) (t : TA) : TE := fun σ H Q => ta σ H fun x H1 => ∃ a dx fs, x = .ref a ∧ H1 a = some (.ins C dx fs) ∧ fs.lookup m = none ∧
  t σ H1 fun vs H2 => sp (x :: (vs ++ dvs)) H2 Q E
/-- C(..): a new instance and its dict, then __init__ -/
def tMake (C : Addr) (sp : Sp) (dvs : List V) (E : XK) (t : TA) : TE := fun σ H Q => t σ H fun vs H1 => ∀ x dx, H1 x = none → H1 dx = none → dx ≠ x →
  sp (.ref x :: (vs ++ dvs)) (upd (upd H1 dx (.own x)) x (.ins C dx [])) (fun v H2 => v = .non ∧ Q (.ref x) H2) E

/-- how the parameters are bound: us the positional arguments, kw the keywords' values by name, ds the defaults that fill up -/
def Binds (K : PySem.W.Frag) (fd : FuncData) (ps : List Str) (ds : List Value) : Prop :=
  ∀ (s : Shared) (us : List Value), K.In s.heap → (us ++ ds).length = ps.length → BindsTo s fd ⟨us, []⟩ (ps.zip (us ++ ds))
/-- every parameter is given -/
theorem Binds.all {K : PySem.W.Frag} {fd : FuncData} {ps : List Str} (h : ∀ us : List Value, us.length = ps.length → bindArgs fd ⟨us, []⟩ = pure (ps.zip us)) : Binds K fd ps [] := fun s us _ hl => by
  rw [List.append_nil] at hl ⊢
  exact .of_eq (h us hl)

/-- an exception of a callee reaches what this body wants of exceptions -/
def Passes (CX : CXT) (X : Cx) (E : XK) : Prop := ∀ (pins : List (Addr × Obj)) (σ : St) (H : Hp) (s : Shared) (e : Value) (s' : Shared), Inv X pins σ H s → CX X.stack H s E e s' → X.xe e s'

section
variable {X : Cx} {CX : CXT} {k : Nat} {f C : Addr} {fd : FuncData} {ps : List Str} {sp : Sp} {dvs : List V} {ds : List Value} {E : XK} {x m : Str} {p pos apos : Pos} {e o : Expr} {es : List Expr} {ta : TE} {t : TA}

/-- the callee runs -/
theorem run_fn {pins : List (Addr × Obj)} {σ : St} {H : Hp} {s : Shared} {Q : VK} {us : List Value} {vs : List V} (F : FnOk X.prog X.w X.K X.mg X.base CX k f fd ps sp) (hr : Room k X.A) (hb : Binds X.K fd ps ds) (hd : Vals dvs ds) (hx : Passes CX X E)
    (I : Inv X pins σ H s) (r : Vals vs us) (h : sp (vs ++ dvs) H Q E) : wpAny (model X.prog X.w) X.A (call (.ref f) us) (EP X pins σ Q) X.xe s := by
  have r2 : Vals (vs ++ dvs) (us ++ ds) := r.append hd
  have hl : (us ++ ds).length = ps.length := by rw [← r2.length]; exact F.len _ _ _ _ h
  refine wpAny_call (codeAny_mono (F.run X.A X.stack s H ⟨us, []⟩ (us ++ ds) (vs ++ dvs) Q E hr I.env0 (hb s us I.kIn hl) r2 h) fun r s' hq => ?_)
  cases r with
  | error e => exact hx pins σ H s e s' I hq
  | ok fl =>
    cases fl with
    | ret u => exact I.after hq
    | next => exact False.elim hq
    | brk => exact False.elim hq
    | cont => exact False.elim hq

theorem pe_call (F : FnOk X.prog X.w X.K X.mg X.base CX k f fd ps sp) (hr : Room k X.A) (hg : Gl X x) (hm : X.mg x = some (.ref f)) (hk : PySem.W.keepIn X.K (.ref f) = true) (hb : Binds X.K fd ps ds) (hd : Vals dvs ds) (hx : Passes CX X E)
    (ha : PA X (e :: es) t) (hdb : (x == ("__debug__" : Str)) = false := by decide) (he : starEach (e :: es) X.env = (false, eval e X.env) :: starEach es X.env := by rfl) (hpl : (backTo pos (starEach es X.env)).any (·.1) = false := by rfl) :
    PE X (.Call (.Name x p) (e :: es) [] pos) (tCall sp dvs E t) := by
  intro pins s σ H Q I h
  refine wpAny_Call_Name_kw (ld_glob I hg hm ?_ hdb)
  refine PySem.W.callWith_K (h₀ := X.base) I.ok.mod.kin hk (thn (ha pos pins s σ H _ I h) fun us s1 ⟨vs, H1, I1, r, q⟩ => ⟨I1.kIn, ?_⟩) he hpl
  exact run_fn F hr hb hd hx I1 r q
/-- what a class must have to be made -/
structure Mk (K : PySem.W.Frag) (C f : Addr) : Prop where
  makes : PySem.W.makesIn K C = true
  init : PySem.W.findIn K (.ref C) "__init__" = some (some (.ref f))
  fn : PySem.W.isFn K (.ref f) = true
  kp : PySem.W.keepIn K (.ref C) = true

end

/-! ### keywords -/
/-- the values of the keywords, from the left -/
def PK (X : Cx) (kws : List Keyword) (t : TA) : Prop :=
  ∀ (pos : Pos) (pins : List (Addr × Obj)) (s : Shared) (σ : St) (H : Hp) (Q : List V → Hp → Prop), Inv X pins σ H s → t σ H Q → wpAny (model X.prog X.w) X.A (evalAll ((backToKw pos (keywordEach kws X.env)).map (·.2))) (AP X pins σ Q) X.xe s
section
variable {X : Cx} {CX : CXT} {k : Nat} {f C : Addr} {fd : FuncData} {ps ks : List Str} {sp : Sp} {E : XK} {x m : Str} {p pos apos kpos : Pos} {e o : Expr} {es : List Expr} {kws : List Keyword} {te ta : TE} {t tk : TA} {nm : Option Str}
/-- how a call with keywords binds: g puts the positional values us and the keywords' values ws (names ks) in the parameters' order, defaults among them -/
structure KBinds (K : PySem.W.Frag) (fd : FuncData) (ps ks : List Str) (g : List Value → List Value → List Value) (gV : List V → List V → List V) : Prop where
  to : ∀ (s : Shared) (us ws : List Value), K.In s.heap → (g us ws).length = ps.length → BindsTo s fd ⟨us, ks.zip ws⟩ (ps.zip (g us ws))
  rel : ∀ {vs : List V} {us : List Value} {zs : List V} {ws : List Value}, Vals vs us → Vals zs ws → Vals (gV vs zs) (g us ws)
def tCallK (sp : Sp) (gV : List V → List V → List V) (E : XK) (t tk : TA) : TE := fun σ H Q => t σ H fun vs H1 => tk σ H1 fun zs H2 => sp (gV vs zs) H2 Q E
variable {g : List Value → List Value → List Value} {gV : List V → List V → List V}
end

/-! ### a def's body keeps its promise -/
/-- names: the parameters first -/
structure FnScope (N P : List Str) (sc : Scope) : Prop where
  kind : sc.kind = .function
  co : sc.isCoroutine = false
  gen : sc.isGenerator = false
  nd : N.Nodup
  pre : N.take P.length = P
  par : ∀ x ∈ P, sc.names.lookup x = some .local ∨ sc.names.lookup x = some .cell
  nofree : ∀ y ∈ sc.names, y.2 ≠ .free

theorem bindL_out {kindOf : Str → Option NameKind} {x : Str} : ∀ {binds : List (Str × Value)} {m : Str → Option Value}, (∀ v, (x, v) ∉ binds) → bindL kindOf binds m x = m x
  | [], _, _ => rfl
  | (n, v) :: r, m, h => by
    unfold bindL
    rw [bindL_out fun w hw => h w (List.mem_cons_of_mem _ hw)]
    split
    · have : x ≠ n := by rintro rfl; exact h v List.mem_cons_self
      simp [this]
    · rfl
theorem bindC_out {kindOf : Str → Option NameKind} {x : Str} : ∀ {binds : List (Str × Value)} {m : Str → Option Value}, (∀ v, (x, v) ∉ binds) → bindC kindOf binds m x = m x
  | [], _, _ => rfl
  | (n, v) :: r, m, h => by
    unfold bindC
    rw [bindC_out fun w hw => h w (List.mem_cons_of_mem _ hw)]
    split
    · rfl
    · have : x ≠ n := by rintro rfl; exact h v List.mem_cons_self
      simp [this]
theorem bindL_get {kindOf : Str → Option NameKind} {x : Str} {v : Value} : ∀ {P : List Str} {vs : List Value} {i : Nat} {m : Str → Option Value}, P.Nodup → P[i]? = some x → vs[i]? = some v → kindOf x = some .local →
    bindL kindOf (P.zip vs) m x = some v
  | [], _, _, _, _, h, _, _ => by simp at h
  | _ :: _, [], _, _, _, _, h, _ => by simp at h
  | p :: P, w :: vs, 0, m, nd, h1, h2, hk => by
    simp at h1 h2; subst h1; subst h2
    show bindL kindOf ((p, w) :: P.zip vs) m p = _
    unfold bindL
    rw [bindL_out fun v hv => (List.nodup_cons.mp nd).1 (List.of_mem_zip hv).1, if_pos hk]
    simp
  | p :: P, w :: vs, i + 1, m, nd, h1, h2, hk => by
    show bindL kindOf ((p, w) :: P.zip vs) m x = _
    unfold bindL
    exact bindL_get (i := i) (List.nodup_cons.mp nd).2 (by simpa using h1) (by simpa using h2) hk
theorem bindC_get {kindOf : Str → Option NameKind} {x : Str} {v : Value} : ∀ {P : List Str} {vs : List Value} {i : Nat} {m : Str → Option Value}, P.Nodup → P[i]? = some x → vs[i]? = some v → kindOf x ≠ some .local →
    bindC kindOf (P.zip vs) m x = some v
  | [], _, _, _, _, h, _, _ => by simp at h
  | _ :: _, [], _, _, _, _, h, _ => by simp at h
  | p :: P, w :: vs, 0, m, nd, h1, h2, hk => by
    simp at h1 h2; subst h1; subst h2
    show bindC kindOf ((p, w) :: P.zip vs) m p = _
    unfold bindC
    rw [bindC_out fun v hv => (List.nodup_cons.mp nd).1 (List.of_mem_zip hv).1, if_neg hk]
    simp
  | p :: P, w :: vs, i + 1, m, nd, h1, h2, hk => by
    show bindC kindOf ((p, w) :: P.zip vs) m x = _
    unfold bindC
    exact bindC_get (i := i) (List.nodup_cons.mp nd).2 (by simpa using h1) (by simpa using h2) hk

/-- the names' values at the entry -/
def start (N : List Str) (vs : List V) : St := vs.map some ++ List.replicate (N.length - vs.length) none

/-- the context of a def's body, at its entry; an exception leaves the frame, then lies as CX says -/
def cxOf (CX : CXT) (P : Program) (w : World) (K : PySem.W.Frag) (mg : Str → Option Value) (base : Heap) (N : List Str) (qual : Str) (scope : Scope) (f : Addr) (cd : Value) (A : Around) (outer : List Env) (s : Shared) (H : Hp) (E : XK) : Cx where
  prog := P
  w := w
  K := K
  mg := mg
  base := base
  A := A.deeper (envOfC qual scope s.heap.objs.size f cd)
  N := N
  s₀ := s
  H₀ := H
  env := envOfC qual scope s.heap.objs.size f cd
  outer := outer
  stack := envOfC qual scope s.heap.objs.size f cd :: outer
  ex := []
  calm := true
  fn := fun _ => true
  pn := []
  xe := fun e s' => wpAny (model P w) (A.deeper (envOfC qual scope s.heap.objs.size f cd)) (leaving (envOfC qual scope s.heap.objs.size f cd) e) (fun _ s'' => CX outer H s E e s'') (fun e' s'' => CX outer H s E e' s'') s'

theorem cell_has {sc : Scope} {n : Nat} {x : Str} (h : sc.names.lookup x = some .cell) : ∃ c, (cellsFrom n sc.names []).lookup x = some c := by
  have q := PySem.W.cellsFrom_some sc.names n [] (.inl h)
  exact Option.isSome_iff_exists.mp q

theorem inv_start {CX : CXT} {P : Program} {w : World} {K : PySem.W.Frag} {mg : Str → Option Value} {base : Heap} {N ps : List Str} {qual : Str} {scope : Scope} {f : Addr} {cd : Value} {A : Around} {outer : List Env} {s s1 : Shared} {H : Hp} {E : XK} {us : List Value} {vs : List V}
    (S : FnScope N ps scope) (hd : A.handled = none) (e0 : Env0 P w K mg base A outer s H) (hl : vs.length = ps.length) (r : Vals vs us)
    (x : InCallC s s.heap.objs.size (bindL (envOfC qual scope s.heap.objs.size f cd).kindOf (ps.zip us) fun _ => none) (cellsFrom (s.heap.objs.size + 1) scope.names []) (bindC (envOfC qual scope s.heap.objs.size f cd).kindOf (ps.zip us) fun _ => none) s1) :
    Inv (cxOf CX P w K mg base N qual scope f cd A outer s H E) [] (start N vs) H s1 := by
  have hpl : ps.length ≤ N.length := by have := congrArg List.length S.pre; rw [List.length_take] at this; omega
  obtain ⟨h1, tk, rfl, hk⟩ := x.done
  have noA : ∀ b : Addr, b ∉ (cxOf CX P w K mg base N qual scope f cd A outer s H E).ex := fun b z => absurd (show b ∈ ([] : List Addr) from z) (by simp)
  refine ⟨⟨e0.mod, S.kind, rfl, rfl, Nat.le_refl _, fun y z c h1 h2 => ?_, fun y hy => ?_, fun y c _ h => ?_, fun _ => hd, Around.frames_deeper e0.frames, .inr ⟨rfl, rfl⟩, fun b z => absurd z (noA b), e0.bs, e0.bsz, fun b _ _ => noA b, fun b z => absurd z (noA b), e0.funs, e0.frf⟩,
    rfl, e0.bare, Un.kept hk, ⟨_, x.toInCall.ns, fun i y v h1 h2 h3 => ?_⟩, fun y c h => ⟨_, x.cell y c h⟩, e0.hok.fresh (Nat.le_refl _), fun y c h => ?_, fun p hp => absurd (show p ∈ ([] : List (Addr × Obj)) from hp) (by simp), e0.hok.kept hk, ?_⟩
  · exact name_of_addr x.apart (PySem.mem_of_lookup h1) (PySem.mem_of_lookup h2)
  · have hy : scope.names.lookup y = some .cell ∨ scope.names.lookup y = some .free := hy
    rcases hy with hy | hy
    · exact cell_has hy
    · exact absurd rfl (S.nofree _ (PySem.mem_of_lookup hy))
  · exact Nat.le_of_lt (x.above y c (PySem.mem_of_lookup h))
  · have hi : i < vs.length := by
      unfold start at h2
      by_cases hi : i < vs.length
      · exact hi
      · rw [List.getElem?_append_right (by simpa using hi)] at h2
        rw [List.getElem?_replicate] at h2
        split at h2 <;> cases h2
    have ha : vs[i]? = some v := by
      unfold start at h2
      rw [List.getElem?_append_left (by simpa using hi), List.getElem?_map] at h2
      cases e : vs[i]? with
      | none => rw [e] at h2; cases h2
      | some a => rw [e] at h2; cases h2; rfl
    obtain ⟨u, hu, rv⟩ := r.get ha
    have hp : ps[i]? = some y := by
      rw [← S.pre, List.getElem?_take_of_lt (by omega)]; exact h1
    have ndP : ps.Nodup := by rw [← S.pre]; exact S.nd.sublist (List.take_sublist _ _)
    refine ⟨u, rv, ?_⟩
    rcases S.par y (List.mem_of_getElem? hp) with k | k
    · exact .inl ⟨k, bindL_get ndP hp hu k⟩
    · obtain ⟨c, e⟩ := cell_has (n := s.heap.objs.size + 1) k
      refine .inr ⟨.inl k, c, e, ?_⟩
      have q := x.cell y c e
      rw [bindC_get ndP hp hu (by show scope.names.lookup y ≠ _; rw [k]; decide)] at q
      exact q
  · exact e0.hok.fresh (Nat.le_of_lt (x.above y c (PySem.mem_of_lookup h)))
  · unfold start
    show _ = N.length
    rw [List.length_append, List.length_map, List.length_replicate]
    omega

/-- THE RULE: a def (or a method) of the text, by its body. The body's reading t is chosen for each entry; it is run at the parameters' values -/
theorem fn_of {CX : CXT} {P : Program} {w : World} {K : PySem.W.Frag} {mg : Str → Option Value} {base : Heap} {k : Nat} {f : Addr} {name qual : Str} {params : Arguments} {body : List Stmt} {scope : Scope} {dV kV doc pm cdv ct oc : Value} {an od : Option Addr}
    {osl : Array (Option Value)} {N ps : List Str} {sp : Sp} (lk : K.lookup f = some ⟨oc, od, .func (PySem.W.fnOf name qual params body scope dV kV doc pm an cdv ct), osl⟩) (hcd : PySem.W.codeIn K cdv qual = true) (S : FnScope N ps scope)
    (len : ∀ vs H Q E, sp vs H Q E → vs.length = ps.length)
    (hbody : ∀ (A : Around) (outer : List Env) (s : Shared) (H : Hp) (vs : List V) (Q : VK) (E : XK), Room k (A.deeper (envOfC qual scope s.heap.objs.size f cdv)) → sp vs H Q E →
      ∃ t, PSs (cxOf CX P w K mg base N qual scope f cdv A outer s H E) body t ∧ t { nx := fun _ H' => Q .non H', rt := Q } (start N vs) H) :
    FnOk P w K mg base CX (k + 1) f (PySem.W.fnOf name qual params body scope dV kV doc pm an cdv ct) ps sp := by
  refine ⟨len, fun A outer s H args us vs Q E hr e0 hb r hsp => ?_⟩
  have hl := len _ _ _ _ hsp
  have KX : K.In s.heap := e0.mod.kin.keeps fun b o e => (e0.bs b o e).1
  have lim : s.heap.NoLimit := e0.mod.nolimit.keeps fun b o e => (e0.bs b o e).1
  have hkind : ∀ y ∈ ps.zip us, scope.names.lookup y.1 = some .local ∨ (scope.names.lookup y.1 = some .cell ∧ ((cellsFrom (s.heap.objs.size + 1) scope.names []).lookup y.1).isSome = true) := fun ⟨n, v⟩ hy => by
    rcases S.par n (List.of_mem_zip hy).1 with q | q
    · exact .inl q
    · exact .inr ⟨q, PySem.W.cellsFrom_some _ _ _ (.inl q)⟩
  refine codeAny_call_function hr.depth (KX _ _ lk) rfl S.co S.gen rfl (PySem.W.codeRec_of KX hcd) (hb _ _ _ _ ?_)
  refine wpAny_newFunctionEnv_cells S.kind hkind fun env he s1 x => ?_
  subst he
  refine ⟨lim.keeps x.toInCall.keep, codeAny_func ?_⟩
  obtain ⟨t, ht, hq⟩ := hbody A outer s H vs Q E (hr.deeper _) hsp
  have I : Inv (cxOf CX P w K mg base N qual scope f cdv A outer s H E) [] (start N vs) H s1 := inv_start S hr.hd e0 hl r x
  refine wpAny_mono (ht [] s1 (start N vs) H _ I hq) (fun fl s' hs => ?_) fun e s' hs => hs
  have fin : ∀ {σ' : St} {H' : Hp} {v : V} {u : Value}, Inv (cxOf CX P w K mg base N qual scope f cdv A outer s H E) [] σ' H' s' → RelV v u → Q v H' → CE outer P w H s Q u s' :=
    fun {σ' H' v u} J rv q => ⟨v, H', J.os, J.bare, J.base, J.hok, rv, q⟩
  cases fl with
  | ret u =>
    obtain ⟨v, σ', H', J, rv, q⟩ := hs
    exact fin J rv q
  | next =>
    obtain ⟨σ', H', J, q⟩ := hs
    exact fin (v := V.non) (u := Value.none) J rfl q
  | brk =>
    obtain ⟨_, _, _, q⟩ := hs
    exact False.elim q
  | cont =>
    obtain ⟨_, _, _, q⟩ := hs
    exact False.elim q
end L2

namespace L2
open PySem PySem.Spec PyProof.Rows
section
variable {X : Cx} {x : Str} {p pos : Pos} {e : Expr} {es : List Expr} {t : TA} {id T : String} {r : List V → Hp → VK → Prop}

def tCB (r : List V → Hp → VK → Prop) (t : TA) : TE := fun σ H Q => t σ H fun vs H1 => r vs H1 Q
/-- f(e, ..), f a built-in function -/
theorem pe_callB (hc : CallR X (.builtin id) r) (hg : Gl X x) (hm : X.mg x = none) (hv : bootBuiltins x = some (.builtin id)) (ha : PA X (e :: es) t) (hn : x ≠ "__name__" := by decide) (hdb : (x == ("__debug__" : Str)) = false := by decide)
    (he : starEach (e :: es) X.env = (false, eval e X.env) :: starEach es X.env := by rfl) (hpl : (backTo pos (starEach es X.env)).any (·.1) = false := by rfl) : PE X (.Call (.Name x p) (e :: es) [] pos) (tCB r t) := by
  intro pins s σ H Q I h
  refine wpAny_Call_Name_kw (ld_blt I hg hm hv ?_ hn hdb)
  exact PyProof.Rows.callWith_builtin1 (thn (ha pos pins s σ H _ I h) fun us s1 ⟨vs, H1, I1, r1, q1⟩ => hc pins s1 σ H1 vs us Q I1 r1 q1) he hpl
/-- T(e, ..), T a built-in type -/
theorem pe_callTy (hc : CallR X (.type T) r) (hg : Gl X x) (hm : X.mg x = none) (hv : bootBuiltins x = some (.type T)) (ha : PA X (e :: es) t) (hn : x ≠ "__name__" := by decide) (hdb : (x == ("__debug__" : Str)) = false := by decide)
    (he : starEach (e :: es) X.env = (false, eval e X.env) :: starEach es X.env := by rfl) (hpl : (backTo pos (starEach es X.env)).any (·.1) = false := by rfl) : PE X (.Call (.Name x p) (e :: es) [] pos) (tCB r t) := by
  intro pins s σ H Q I h
  refine wpAny_Call_Name_kw (ld_blt I hg hm hv ?_ hn hdb)
  exact PyProof.Rows.callWith_type1 (thn (ha pos pins s σ H _ I h) fun us s1 ⟨vs, H1, I1, r1, q1⟩ => hc pins s1 σ H1 vs us Q I1 r1 q1) he hpl
end
end L2

namespace HT
open PySem PyProof.Rows

/-- t < u of tuples of ints -/
def lexLt : List Int → List Int → Bool
  | [], [] => false
  | [], _ :: _ => true
  | _ :: _, [] => false
  | x :: xs, y :: ys => if x = y then lexLt xs ys else decide (x < y)
section
open PySem.SeqAt
open PySem.AutoSeq1 (wpAny_loadPart')
open PySem.MeetsSeq PySem.MeetsSeq2 PySem.MeetsSeq3

end

section
variable {prog : Program} {w : World} {A : Around} {E : Value → Shared → Prop} {s : Shared}

/-! ### t[a:b], not the whole -/
/-- a slice's bound as a place among n (d where it is left out) -/
def sIx (n d : Nat) : Option Int → Nat
  | none => d
  | some v => if v < 0 then (v + (n : Int)).toNat else min v.toNat n
theorem sIx_none (n d : Nat) : sIx n d none = d := rfl
theorem clip_eq (v : Int) (n d : Nat) : (if v < 0 then max (v + (n : Int)) 0 else min v (n : Int)) = ((sIx n d (some v) : Nat) : Int) := by
  show (if v < 0 then max (v + (n : Int)) 0 else min v (n : Int)) = (((if v < 0 then (v + (n : Int)).toNat else min v.toNat n) : Nat) : Int)
  by_cases hv : v < 0
  · simp only [if_pos hv]; omega
  · simp only [if_neg hv]; omega
end
end HT

namespace L2
open PySem PySem.Spec PyProof.Rows

/-! ### the parts of a slice -/
abbrev TO := St → Hp → (Option Int → Hp → Prop) → Prop
/-- a slice's part (left out, or an int) -/
def PO (X : Cx) (e : Option Expr) (t : TO) : Prop :=
  ∀ (pins : List (Addr × Obj)) (s : Shared) (σ : St) (H : Hp) (Q : Option Int → Hp → Prop), Inv X pins σ H s → t σ H Q →
    wpAny (model X.prog X.w) X.A (evalPart e X.env) (fun u s' => ∃ o H', Inv X pins σ H' s' ∧ IsPart u o ∧ Q o H') X.xe s
def tNoPart : TO := fun _ H Q => Q none H
def tPart (t : TE) : TO := fun σ H Q => t σ H fun x H1 => ∃ i, x = .int i ∧ Q (some i) H1

section
variable {X : Cx} {e : Expr} {te : TE} {lo hi : Option Expr} {tl th : TO} {pos p2 : Pos}

theorem po_none : PO X none tNoPart := by
  intro pins s σ H Q I h
  rw [evalPart_none]
  exact wpAny_pure ⟨none, H, I, .none, h⟩
theorem po_some (h : PE X e te) : PO X (some e) (tPart te) := by
  intro pins s σ H Q I hw
  rw [evalPart_some]
  refine thn (h pins s σ H _ I hw) fun u s1 ⟨x, H1, I1, r1, q1⟩ => ?_
  obtain ⟨i, rfl, q⟩ := q1
  obtain ⟨t, rfl⟩ := r1
  exact ⟨some i, H1, I1, .int i t, q⟩

/-- what a slice of a value is, by values: the slice object stands at sl -/
def SlR (X : Cx) (r : V → Option Int → Option Int → Hp → VK → Prop) : Prop :=
  ∀ (pins : List (Addr × Obj)) (s : Shared) (σ : St) (H : Hp) (x : V) (v vl vu : Value) (lo hi : Option Int) (sl : Addr) (Q : VK), Inv X pins σ H s → RelV x v → s.heap.IsSliceOf sl vl vu .none → IsPart vl lo → IsPart vu hi → r x lo hi H Q →
    ∃ T id, typeLookup (.type T) "__getitem__" = pure (some (.builtin id)) ∧ s.TypeIs v T ∧ wpAny (model X.prog X.w) X.A (getItem v (.ref sl)) (EP X pins σ Q) X.xe s
def tSl (r : V → Option Int → Option Int → Hp → VK → Prop) (te : TE) (tl th : TO) : TE := fun σ H Q => te σ H fun x H1 => tl σ H1 fun l H2 => th σ H2 fun u H3 => r x l u H3 Q
/-- a[lo:hi], any a -/
theorem pe_slice {r : V → Option Int → Option Int → Hp → VK → Prop} (hr : SlR X r) (he : PE X e te) (hl : PO X lo tl) (hu : PO X hi th) : PE X (.Subscript e (.Slice lo hi none p2) pos) (tSl r te tl th) := by
  intro pins s σ H Q I h
  refine Subscript_ (thn (he pins s σ H _ I h) fun v s1 ⟨x, H1, I1, r1, q1⟩ => ?_)
  refine wpAny_Slice (thn (hl pins s1 σ H1 _ I1 q1) fun vl s2 ⟨l, H2, I2, pl, q2⟩ => thn (hu pins s2 σ H2 _ I2 q2) fun vu s3 ⟨u, H3, I3, pu, q3⟩ => ?_)
  rw [evalPart_none]
  refine wpAny_pure ?_
  have I4 : Inv X pins σ H3 { s3 with heap := s3.heap.push { cls := .type "slice", data := .fields #[vl, vu, .none] } } := I3.kept (t' := s3.toks) fun b ob q => Heap.get?_push_of_some _ q
  obtain ⟨T, id, hT, ht, hg⟩ := hr pins { s3 with heap := s3.heap.push { cls := .type "slice", data := .fields #[vl, vu, .none] } } σ H3 x v vl vu l u s3.heap.objs.size Q I4 r1 (Heap.IsSliceOf.new ..) pl pu q3
  show wpAny (model X.prog X.w) X.A (subscriptTail e (.Slice lo hi none p2) v (.ref s3.heap.objs.size)) (EP X pins σ Q) X.xe { s3 with heap := s3.heap.push { cls := .type "slice", data := .fields #[vl, vu, .none] } }
  exact tail_any (ops := [.ref s3.heap.objs.size, v]) ht hT hg (by with_unfolding_all rfl)

/-- the items of xs[lo:hi] -/
def cutV (xs : List V) (lo hi : Option Int) : List V := (xs.drop (HT.sIx xs.length 0 lo)).take (HT.sIx xs.length xs.length hi - HT.sIx xs.length 0 lo)
theorem cutV_length (xs : List V) (lo hi : Option Int) : (cutV xs lo hi).length ≤ xs.length := by
  unfold cutV
  rw [List.length_take, List.length_drop]
  omega
/-- t[lo:hi], not the whole of it (the whole would be t itself) -/
def rSlT (K : PySem.W.Frag) : V → Option Int → Option Int → Hp → VK → Prop := fun x lo hi H Q => ∃ a xs, x = .ref a ∧ SqT K H a xs ∧
  ¬ (HT.sIx xs.length 0 lo = 0 ∧ HT.sIx xs.length xs.length hi = xs.length) ∧ ∀ p, H p = none → Q (.ref p) (upd H p (.tup (cutV xs lo hi)))
/-! ### t < u, t + u -/
def rLtT (K : PySem.W.Frag) : R2 := fun x y H Q => ∃ a b ns ms, x = .ref a ∧ y = .ref b ∧ SqT K H a (ns.map V.int) ∧ SqT K H b (ms.map V.int) ∧ Q (.bl (HT.lexLt ns ms)) H
/-- t + u, t not empty: u empty gives t itself -/
def rCatT (K : PySem.W.Frag) : R2 := fun x y H Q => ∃ a b xs ys, x = .ref a ∧ y = .ref b ∧ SqT K H a xs ∧ SqT K H b ys ∧ xs ≠ [] ∧ xs.length + ys.length ≤ sizeLine ∧
  (ys = [] → Q (.ref a) H) ∧ (ys ≠ [] → ∀ p, H p = none → Q (.ref p) (upd H p (.tup (xs ++ ys))))
end
end L2

namespace L2
open PySem PySem.Spec PyProof.Rows

/-! ### places -/
/-- the place that an index of any sign means -/
def ixN (n : Nat) (i : Int) : Option Nat := if 0 ≤ i then (if i < n then some i.toNat else none) else if -(n : Int) ≤ i then some (i + n).toNat else none
def atI {α : Type} (xs : List α) (i : Int) : Option α := (ixN xs.length i).bind fun j => xs[j]?
theorem ixN_seq {n : Nat} {i : Int} {j : Nat} (h : ixN n i = some j) : seqIndex? i n = some j ∧ j < n ∧ -(n : Int) ≤ i ∧ i < n := by
  unfold ixN at h
  by_cases h0 : 0 ≤ i
  · rw [if_pos h0] at h
    by_cases h1 : i < n
    · rw [if_pos h1] at h
      have e : i.toNat = j := Option.some.inj h
      exact ⟨by rw [seqIndex_of h0 h1, e], by omega, by omega, h1⟩
    · rw [if_neg h1] at h; cases h
  · rw [if_neg h0] at h
    by_cases h1 : -(n : Int) ≤ i
    · rw [if_pos h1] at h
      have e : (i + n).toNat = j := Option.some.inj h
      exact ⟨by rw [seqIndex_neg (by omega) h1, e], by omega, h1, by omega⟩
    · rw [if_neg h1] at h; cases h
theorem atI_get {α : Type} {xs : List α} {i : Int} {v : α} (h : atI xs i = some v) : ∃ j, seqIndex? i xs.length = some j ∧ xs[j]? = some v ∧ j < xs.length ∧ -(xs.length : Int) ≤ i ∧ i < xs.length := by
  unfold atI at h
  cases e : ixN xs.length i with
  | none => rw [e] at h; cases h
  | some j =>
    rw [e] at h
    obtain ⟨h1, h2, h3, h4⟩ := ixN_seq e
    exact ⟨j, h1, h, h2, h3, h4⟩
theorem atI_nat {α : Type} {xs : List α} {j : Nat} {v : α} (h : xs[j]? = some v) : atI xs (j : Int) = some v := by
  have hj : j < xs.length := (List.getElem?_eq_some_iff.mp h).1
  have e : ixN xs.length (j : Int) = some j := by
    unfold ixN
    rw [if_pos (by omega), if_pos (by omega)]; simp
  unfold atI; rw [e]; exact h
/-! ### what may be subscripted -/
/-- what stands as an index of a plain subscript -/
def PlainIx (b : Expr) : Prop := ∀ o i, subscripted b false o i = operate [o, i] (getItem o i)
/-- a subscript by values -/
def IxR (X : Cx) (r : R2) : Prop :=
  ∀ (value slice : Expr) (pins : List (Addr × Obj)) (s : Shared) (σ : St) (H : Hp) (x y : V) (v u : Value) (Q : VK), Inv X pins σ H s → RelV x v → RelV y u → r x y H Q →
    subscripted slice false v u = operate [v, u] (getItem v u) → wpAny (model X.prog X.w) X.A (subscriptTail value slice v u) (EP X pins σ Q) X.xe s
/-- a call of a builtin's method by values: the receiver, the arguments -/
def MtR (X : Cx) (id : String) (r : V → List V → Hp → VK → Prop) : Prop :=
  ∀ (pins : List (Addr × Obj)) (s : Shared) (σ : St) (H : Hp) (x : V) (xs : List V) (v : Value) (us : List Value) (Q : VK), Inv X pins σ H s → RelV x v → Vals xs us → r x xs H Q →
    wpAny (model X.prog X.w) X.A (call (.builtin id) (v :: us)) (EP X pins σ Q) X.xe s
section
variable {X : Cx} {a b : Expr} {ta tb : TE} {pos : Pos}
/-- a[b] -/
theorem pe_ix {r : R2} (hr : IxR X r) (ha : PE X a ta) (hb : PE X b tb) (hs : PlainIx b) : PE X (.Subscript a b pos) (tOp r ta tb) := by
  intro pins s σ H Q I h
  exact Subscript_ (binT ha hb I h fun v u s2 x y H2 I2 rx ry q => hr a b pins s2 σ H2 x y v u Q I2 rx ry q (hs _ _))

def rIxL (K : PySem.W.Frag) : R2 := fun x y H Q => ∃ p xs i v, x = .ref p ∧ y = .int i ∧ SqL K H p xs ∧ atI xs i = some v ∧ Q v H
def rIxT (K : PySem.W.Frag) : R2 := fun x y H Q => ∃ p xs i v, x = .ref p ∧ y = .int i ∧ SqT K H p xs ∧ atI xs i = some v ∧ Q v H
def rIxS : R2 := fun x y H Q => ∃ z i c, x = .str z ∧ y = .int i ∧ z.length ≤ sizeLine ∧ atI z.cps.toList i = some c ∧ Q (.str ⟨#[c]⟩) H
theorem ix_list : IxR X (rIxL X.K) := by
  intro value slice pins s σ H x y v u Q I rx ry h hs
  obtain ⟨p, xs, i, z, rfl, rfl, hq, he, q⟩ := h
  cases rx
  obtain ⟨t, rfl⟩ := ry
  obtain ⟨its, r, pl, hz⟩ := I.list hq
  obtain ⟨j, h1, h2, h3, h4, h5⟩ := atI_get he
  obtain ⟨w, ew, rw'⟩ := r.get h2
  have hl := r.length
  have hn := line63
  have fin : EP X pins σ Q w s := ⟨z, H, I, rw', q⟩
  by_cases h0 : 0 ≤ i
  · have hj : i.toNat = j := by
      rw [seqIndex_of h0 h5] at h1
      exact Option.some.inj h1
    exact item_listR pl.isList h0 (by omega) (by rw [hj]; simpa using ew) fin hs
  · have hj : (i + (its.toArray.size : Int)).toNat = j := by
      rw [seqIndex_neg (by omega) h4] at h1
      rw [List.size_toArray, ← hl]
      exact Option.some.inj h1
    exact subscriptTail_builtinR (x := w) pl.isList.typeIs slot_list_getitem.lookup
      (wpAny_getItem_list_neg (Q := fun r s' => r = w ∧ EP X pins σ Q r s') pl.isList (by omega) (by rw [List.size_toArray] <;> omega) (by omega) (by rw [hj]; simpa using ew) ⟨rfl, fin⟩) hs
theorem ix_tup : IxR X (rIxT X.K) := by
  intro value slice pins s σ H x y v u Q I rx ry h hs
  obtain ⟨p, xs, i, z, rfl, rfl, hq, he, q⟩ := h
  cases rx
  obtain ⟨t, rfl⟩ := ry
  obtain ⟨its, r, pl, hz⟩ := I.tuple hq
  obtain ⟨j, h1, h2, h3, h4, h5⟩ := atI_get he
  obtain ⟨w, ew, rw'⟩ := r.get h2
  have hl := r.length
  have hn := line63
  have fin : EP X pins σ Q w s := ⟨z, H, I, rw', q⟩
  exact subscriptTail_builtinR (x := w) pl.typeIs slot_tuple_getitem.lookup
    (getItem_tuple (j := j) (Q := fun r s' => r = w ∧ EP X pins σ Q r s') pl (by omega) (by omega) (by rw [List.size_toArray, ← hl]; exact h1) (by simpa using ew) ⟨rfl, fin⟩) hs
theorem ix_str : IxR X rIxS := by
  intro value slice pins s σ H x y v u Q I rx ry h hs
  obtain ⟨z, i, c, rfl, rfl, hz, he, q⟩ := h
  obtain ⟨t, rfl⟩ := rx
  obtain ⟨t', rfl⟩ := ry
  obtain ⟨j, h1, h2, h3, h4, h5⟩ := atI_get he
  have hl : z.cps.toList.length = z.length := by simp [Str.length]
  rw [hl] at h1 h4 h5
  have hn := line63
  exact tail_any (typeIs_str s z t) slot_str_getitem.lookup (getItem_str (c := c) (by
    have e1 : decide (i < -(2 ^ 63 : Int)) = false := decide_eq_false (by omega)
    have e2 : decide (i ≥ 2 ^ 63) = false := decide_eq_false (by omega)
    rw [e1, e2, Bool.or_false]) (by rw [h1]; simpa using h2) ⟨.str ⟨#[c]⟩, H, I.tok _, ⟨_, rfl⟩, q⟩) hs
/-- list, tuple or str -/
def rIx (K : PySem.W.Frag) : R2 := fun x y H Q => rIxL K x y H Q ∨ rIxT K x y H Q ∨ rIxS x y H Q
/-! ### xs[i] = v, any sign -/
def rSetL : V → V → V → Hp → (Hp → Prop) → Prop := fun o i v H Q => ∃ p xs k j, o = .ref p ∧ i = .int k ∧ H p = some (.lst xs) ∧ ixN xs.length k = some j ∧ Q (upd H p (.lst (xs.set j v)))
/-! ### slices -/
theorem slice_bounds (lo hi : Option Int) (n : Nat) : (sliceBounds lo hi none n).1 = ((HT.sIx n 0 lo : Nat) : Int) ∧ (sliceBounds lo hi none n).2.1 = ((HT.sIx n n hi : Nat) : Int) ∧ (sliceBounds lo hi none n).2.2 = 1 := by
  refine ⟨?_, ?_, rfl⟩
  · cases lo with
    | none => simp [sliceBounds, HT.sIx]
    | some i =>
      simp only [sliceBounds, HT.sIx, Option.getD_none, show (1 : Int) > 0 by decide, if_true]
      by_cases h : i < 0
      · simp only [h, if_true] <;> omega
      · simp only [h, if_false] <;> omega
  · cases hi with
    | none => simp [sliceBounds, HT.sIx]
    | some i =>
      simp only [sliceBounds, HT.sIx, Option.getD_none, show (1 : Int) > 0 by decide, if_true]
      by_cases h : i < 0
      · simp only [h, if_true] <;> omega
      · simp only [h, if_false] <;> omega
theorem slicePick_cut (its : List Value) (lo hi : Option Int) : slicePick its.toArray lo hi none = ((its.drop (HT.sIx its.length 0 lo)).take (HT.sIx its.length its.length hi - HT.sIx its.length 0 lo)).toArray := by
  obtain ⟨h1, h2, h3⟩ := slice_bounds lo hi its.toArray.size
  unfold slicePick
  rw [h1, h2, h3]
  simp only [sliceRange_one, pick_run, List.size_toArray] <;> rfl
/-- xs[lo:hi] of a list: a new list -/
def rSlL (K : PySem.W.Frag) : V → Option Int → Option Int → Hp → VK → Prop := fun x lo hi H Q => ∃ a xs, x = .ref a ∧ SqL K H a xs ∧ ∀ p, H p = none → Q (.ref p) (upd H p (.lst (cutV xs lo hi)))
theorem sl_list : SlR X (rSlL X.K) := by
  intro pins s σ H x v vl vu lo hi sl Q I rx hs pl pu h
  obtain ⟨a, xs, rfl, hx, q⟩ := h
  cases rx
  obtain ⟨its, r, ht, hz⟩ := I.list hx
  have hlen := r.length
  refine ⟨"list", _, slot_list_getitem.lookup, ht.isList.typeIs, ?_⟩
  refine wpAny_getItem_list_slice ht.isList hs pl pu .none (by simp) ?_ (by rw [List.size_toArray] <;> omega)
  rw [slicePick_cut, ← hlen]
  refine ⟨.ref s.heap.objs.size, _, I.laid (t' := s.toks) (o := .lst (cutV xs lo hi)) (fun b ob q => Heap.get?_push_of_some _ q) (Nat.le_refl _) ?_, rfl, q _ (I.hok.fresh (Nat.le_refl _))⟩
  exact ⟨Nat.le_trans (cutV_length xs lo hi) hz, _, 0, (r.drop (HT.sIx xs.length 0 lo)).take (HT.sIx xs.length xs.length hi - HT.sIx xs.length 0 lo), Heap.get?_push_size _ rfl⟩

/-! ### in, not in: flat items -/
def flatV : V → Bool
  | .non => true
  | .bl _ => true
  | .int _ => true
  | .str _ => true
  | _ => false
/-- == of flat values -/
def eqV : V → V → Bool
  | .non, .non => true
  | .bl a, .bl b => a == b
  | .bl a, .int b => (if a then 1 else 0) == b
  | .int a, .bl b => a == (if b then 1 else 0)
  | .int a, .int b => a == b
  | .str a, .str b => a == b
  | _, _ => false
theorem eqAt_V {A : Around} {s : Shared} {y x : V} {u v : Value} (ry : RelV y u) (rx : RelV x v) (fy : flatV y = true) (fx : flatV x = true) : SeqAt.EqAt A s u v (eqV y x) := by
  cases y with
  | non =>
    cases ry
    cases x with
    | non => cases rx; exact SeqAt.EqAt.same _
    | bl b => cases rx; exact SeqAt.EqAt.none_bool b
    | int b => obtain ⟨t, rfl⟩ := rx; exact SeqAt.EqAt.none_int b t
    | str b => obtain ⟨t, rfl⟩ := rx; exact SeqAt.EqAt.none_str b t
    | _ => exact absurd (show false = true from fx) Bool.false_ne_true
  | bl a =>
    cases ry
    cases x with
    | non => cases rx; exact SeqAt.EqAt.bool_none a
    | bl b => cases rx; exact SeqAt.EqAt.bool_bool a b
    | int b => obtain ⟨t, rfl⟩ := rx; exact SeqAt.EqAt.bool_int a b t
    | str b => obtain ⟨t, rfl⟩ := rx; exact SeqAt.EqAt.bool_str a b t
    | _ => exact absurd (show false = true from fx) Bool.false_ne_true
  | int a =>
    obtain ⟨t', rfl⟩ := ry
    cases x with
    | non => cases rx; exact SeqAt.EqAt.int_none a t'
    | bl b => cases rx; exact SeqAt.EqAt.int_bool a t' b
    | int b => obtain ⟨t, rfl⟩ := rx; exact SeqAt.EqAt.int_int a t' b t
    | str b => obtain ⟨t, rfl⟩ := rx; exact SeqAt.EqAt.int_str a t' b t
    | _ => exact absurd (show false = true from fx) Bool.false_ne_true
  | str a =>
    obtain ⟨t', rfl⟩ := ry
    cases x with
    | non => cases rx; exact SeqAt.EqAt.str_none a t'
    | bl b => cases rx; exact SeqAt.EqAt.str_bool a t' b
    | int b => obtain ⟨t, rfl⟩ := rx; exact SeqAt.EqAt.str_int a t' b t
    | str b => obtain ⟨t, rfl⟩ := rx; exact SeqAt.EqAt.str_str a t' b t
    | _ => exact absurd (show false = true from fx) Bool.false_ne_true
  | _ => exact absurd (show false = true from fy) Bool.false_ne_true
/-- the items' answers, read off the values (a value's own answer does not lean on its token) -/
def eqU (x : V) (u : Value) : Bool := match u with
  | .none => eqV .non x
  | .bool b => eqV (.bl b) x
  | .int i _ => eqV (.int i) x
  | .str z _ => eqV (.str z) x
  | _ => false
theorem eqU_of {x y : V} {u : Value} (r : RelV y u) (f : flatV y = true) : eqU x u = eqV y x := by
  cases y with
  | non => cases r; rfl
  | bl b => cases r; rfl
  | int i => obtain ⟨t, rfl⟩ := r; rfl
  | str z => obtain ⟨t, rfl⟩ := r; rfl
  | _ => exact absurd (show false = true from f) Bool.false_ne_true
theorem any_eqU {x : V} : ∀ {xs : List V} {us : List Value}, Vals xs us → xs.all flatV = true → us.any (eqU x) = xs.any fun y => eqV y x
  | _, _, .nil, _ => rfl
  | y :: xs, u :: us, .cons r t, f => by
    rw [List.all_cons, Bool.and_eq_true] at f
    rw [List.any_cons, List.any_cons, eqU_of r f.1, any_eqU t f.2]
theorem mem_eqAt {A : Around} {s : Shared} {x : V} {v : Value} (rx : RelV x v) (fx : flatV x = true) : ∀ {xs : List V} {us : List Value}, Vals xs us → xs.all flatV = true → ∀ u ∈ us, SeqAt.EqAt A s u v (eqU x u)
  | _, _, .nil, _ => fun u hu => by cases hu
  | y :: xs, u :: us, .cons r t, f => fun u' hu => by
    rw [List.all_cons, Bool.and_eq_true] at f
    rcases List.mem_cons.mp hu with rfl | hu
    · rw [eqU_of r f.1]; exact eqAt_V r rx f.1 fx
    · exact mem_eqAt rx fx t f.2 u' hu
def inV (x : V) (xs : List V) : Bool := xs.any fun y => eqV y x
/-- x in a list or tuple of flat items -/
def rIn (K : PySem.W.Frag) (neg : Bool) : R2 := fun x y H Q => ∃ p xs, y = .ref p ∧ (SqL K H p xs ∨ SqT K H p xs) ∧ flatV x = true ∧ xs.all flatV = true ∧ Q (.bl (if neg then !inV x xs else inV x xs)) H
theorem op_notIn_seq : OpR X (compareOp .NotIn) (rIn X.K true) := by
  intro pins s σ H x y v u Q I rx ry h
  obtain ⟨p, xs, rfl, hq, fx, fs, q⟩ := h
  cases ry
  rcases hq with hq | hq
  · obtain ⟨its, r, pl, hz⟩ := I.list hq
    refine SeqAt.notIn_listAt (eqU x) pl.isList (fun w hw => mem_eqAt rx fx r fs w (by simpa using hw)) ⟨.bl _, H, I, rfl, ?_⟩
    rw [show its.toArray.any (eqU x) = its.any (eqU x) by simp, any_eqU r fs]
    exact q
  · obtain ⟨its, r, pl, hz⟩ := I.tuple hq
    refine SeqAt.notIn_tupleAt (eqU x) pl (fun w hw => mem_eqAt rx fx r fs w (by simpa using hw)) ⟨.bl _, H, I, rfl, ?_⟩
    rw [show its.toArray.any (eqU x) = its.any (eqU x) by simp, any_eqU r fs]
    exact q
/-! ### len, list(x), tuple(x) of any list or tuple that is read -/
theorem call_len_seq : CallR X (.builtin "len") (fun xs H Q => ∃ p ys, xs = [.ref p] ∧ (SqL X.K H p ys ∨ SqT X.K H p ys) ∧ Q (.int ys.length) H) := by
  intro pins s σ H xs us Q I r h
  obtain ⟨p, ys, rfl, hq, q⟩ := h
  obtain ⟨u, rfl, rx⟩ := vals1 r
  cases rx
  have hn := line63
  rcases hq with hq | hq
  · obtain ⟨its, r', pl, hz⟩ := I.list hq
    have hlen := r'.length
    exact Calls.call_len_list pl.isList (by simp only [List.size_toArray] <;> omega) ⟨.int ys.length, H, I.tok _, ⟨s.toks + 1, by rw [List.size_toArray, hlen]⟩, q⟩
  · obtain ⟨its, r', pl, hz⟩ := I.tuple hq
    have hlen := r'.length
    exact len_tuple pl (by simp only [List.size_toArray] <;> omega) ⟨.int ys.length, H, I.tok _, ⟨s.toks + 1, by rw [List.size_toArray, hlen]⟩, q⟩
theorem call_len_str : CallR X (.builtin "len") (fun xs H Q => ∃ z, xs = [.str z] ∧ z.length ≤ sizeLine ∧ Q (.int z.length) H) := by
  intro pins s σ H xs us Q I r h
  obtain ⟨z, rfl, hz, q⟩ := h
  obtain ⟨u, rfl, t, rfl⟩ := vals1 r
  have hn := line63
  exact len_str (by omega) ⟨.int z.length, H, I.tok _, ⟨_, rfl⟩, q⟩
theorem call_tuple_of : CallR X (.type "tuple") (fun xs H Q => ∃ p ys, xs = [.ref p] ∧ ((SqL X.K H p ys ∧ ∀ l, H l = none → Q (.ref l) (upd H l (.tup ys))) ∨ (SqT X.K H p ys ∧ Q (.ref p) H))) := by
  intro pins s σ H xs us Q I r h
  obtain ⟨p, ys, rfl, h⟩ := h
  obtain ⟨u, rfl, rx⟩ := vals1 r
  cases rx
  rcases h with ⟨hq, q⟩ | ⟨hq, q⟩
  · obtain ⟨its, r', pl, hz⟩ := I.list hq
    have hlen := r'.length
    refine call_tuple_list pl.isList (fun h' kp => ?_) (by simp only [List.size_toArray] <;> omega)
    have I1 : Inv X pins σ H { s with heap := h' } := I.kept (t' := s.toks) kp
    have I2 : Inv X pins σ (upd H h'.objs.size (.tup ys)) { s with heap := h'.push { cls := .type "tuple", data := .seq its.toArray } } :=
      I1.laid (t' := s.toks) (fun b o e => Heap.get?_push_of_some _ e) (Nat.le_refl _) (show ObjOk X.prog X.w _ _ _ (.tup ys) from ⟨hz, its, r', IsTup.new _ _⟩)
    exact ⟨.ref h'.objs.size, _, I2, rfl, q _ (I1.hok.fresh (Nat.le_refl _))⟩
  · obtain ⟨its, r', pl, hz⟩ := I.tuple hq
    exact call_tuple_same pl ⟨.ref p, H, I, rfl, q⟩

/-! ### the call of a builtin's method: o.m(..) -/
/-- the value is of that builtin type -/
def tyV (K : PySem.W.Frag) (T : String) (x : V) (H : Hp) : Prop := match x with
  | .str _ => T = "str"
  | .int _ => T = "int"
  | .ref p => (T = "list" ∧ ∃ xs, SqL K H p xs) ∨ (T = "tuple" ∧ ∃ o, K.lookup p = some o ∧ o.cls = .type "tuple" ∧ o.dict = none) ∨
      (T = "dict" ∧ ((∃ kvs, H p = some (.dK kvs)) ∨ ∃ kvs, H p = some (.dT kvs))) ∨ (T = "set" ∧ ∃ S n, H p = some (.set S n))
  | _ => False
theorem tyV_is {pins : List (Addr × Obj)} {σ : St} {H : Hp} {s : Shared} {T : String} {x : V} {v : Value} (I : Inv X pins σ H s) (r : RelV x v) (ty : tyV X.K T x H) :
    s.TypeIs v T ∧ ∀ a, v = .ref a → ∃ ob, s.heap.get? a = some ob ∧ ob.dict = none := by
  cases x with
  | str z =>
    obtain ⟨t, rfl⟩ := r
    cases (show T = "str" from ty)
    exact ⟨typeIs_str s z t, fun _ e => nomatch e⟩
  | int i =>
    obtain ⟨t, rfl⟩ := r
    cases (show T = "int" from ty)
    exact ⟨typeIs_int s i t, fun _ e => nomatch e⟩
  | ref p =>
    cases r
    rcases ty with ⟨rfl, xs, hq⟩ | ⟨rfl, o, hk, hc, hd⟩ | ⟨rfl, hk⟩ | ⟨rfl, S, n, hk⟩
    · obtain ⟨its, _, pl, _⟩ := I.list hq
      refine ⟨pl.isList.typeIs, fun a e => ?_⟩
      cases e
      obtain ⟨o, n, e, c, hd, _⟩ := pl
      exact ⟨o, e, hd⟩
    · refine ⟨⟨o, I.kIn p o hk, hc⟩, fun a e => ?_⟩
      cases e
      exact ⟨o, I.kIn _ o hk, hd⟩
    · have z : ∃ o, s.heap.get? p = some o ∧ o.ExactDict := by
        rcases hk with ⟨kvs, hk⟩ | ⟨kvs, hk⟩
        · obtain ⟨_, _, _, _, o, _, _, e, ex, _⟩ := I.hok p _ hk
          exact ⟨o, e, ex⟩
        · obtain ⟨_, _, _, _, o, _, _, e, ex, _⟩ := I.hok p _ hk
          exact ⟨o, e, ex⟩
      obtain ⟨o, e, ex⟩ := z
      refine ⟨⟨o, e, ex.1⟩, fun a e2 => ?_⟩
      cases e2
      exact ⟨o, e, ex.2.1⟩
    · obtain ⟨o, _, _, _, e, ex, _⟩ := I.hok p _ hk
      refine ⟨⟨o, e, ex.1⟩, fun a e2 => ?_⟩
      cases e2
      exact ⟨o, e, ex.2.1⟩
  | _ => exact False.elim ty
def tBM0 (K : PySem.W.Frag) (T : String) (r : V → List V → Hp → VK → Prop) (to : TE) : TE := fun σ H Q => to σ H fun x H1 => tyV K T x H1 ∧ r x [] H1 Q
def tBM (K : PySem.W.Frag) (T : String) (r : V → List V → Hp → VK → Prop) (to : TE) (t : TA) : TE := fun σ H Q => to σ H fun x H1 => tyV K T x H1 ∧ t σ H1 fun xs H2 => r x xs H2 Q
variable {o e : Expr} {es : List Expr} {to : TE} {t : TA} {name : Str} {apos cpos : Pos} {T id : String} {r : V → List V → Hp → VK → Prop}
theorem pe_bm0 (pa : PlainAttrs T) (slot : Slot T name id) (hty : typeOf (.builtin id) = pure (.type "method_descriptor")) (hm : MtR X id r) (ho : PE X o to)
    (hbase : attributeBase o name X.env (eval o X.env) = eval o X.env := by rfl) (hline : (apos.endLine == cpos.line) = true := by rfl) : PE X (.Call (.Attribute o name apos) [] [] cpos) (tBM0 X.K T r to) := by
  intro pins s σ H Q I h
  refine wpAny_Call_method0_late hbase hline (thn (ho pins s σ H _ I h) fun v s1 ⟨x, H1, I1, r1, ty, q1⟩ => ?_)
  obtain ⟨h1, h2⟩ := tyV_is I1 r1 ty
  exact ⟨T, id, pa, slot, hty, h1, h2, Calls.callWith_builtin rfl (PySem.evalArgs_none (hm pins s1 σ H1 x [] v [] Q I1 r1 .nil q1))⟩
theorem pe_bm (pa : PlainAttrs T) (slot : Slot T name id) (hty : typeOf (.builtin id) = pure (.type "method_descriptor")) (hm : MtR X id r) (ho : PE X o to) (ha : PA X (e :: es) t)
    (hbase : attributeBase o name X.env (eval o X.env) = eval o X.env := by rfl)
    (hfew : ((backTo cpos (starEach (e :: es) X.env)).all (fun x => !x.1) && (backToKw cpos (keywordEach [] X.env)).all (fun x => x.1.isSome)
      && decide ((e :: es).length + ([] : List Keyword).length + (if ([] : List Keyword).isEmpty then 0 else 1) < 30)) = true := by rfl)
    (hline : (apos.endLine == cpos.line) = true := by rfl) (hs : starEach (e :: es) X.env = (false, eval e X.env) :: starEach es X.env := by rfl) (hplain : (backTo cpos (starEach es X.env)).any (·.1) = false := by rfl) :
    PE X (.Call (.Attribute o name apos) (e :: es) [] cpos) (tBM X.K T r to t) := by
  intro pins s σ H Q I h
  refine wpAny_Call_method_late hbase hfew hline rfl (thn (ho pins s σ H _ I h) fun v s1 ⟨x, H1, I1, r1, ty, q1⟩ => ?_)
  obtain ⟨h1, h2⟩ := tyV_is I1 r1 ty
  refine ⟨T, id, pa, slot, hty, h1, h2, ?_⟩
  have hA := ha cpos pins s1 σ H1 _ I1 q1
  rw [hs] at hA ⊢
  refine Calls.callWith_builtin (by show (false || (backTo cpos (starEach es X.env)).any (·.1)) = false; rw [hplain] <;> rfl) (Calls.evalArgs_plain ?_)
  exact thn hA fun us s2 ⟨vs, H2, I2, r2, q2⟩ => hm pins s2 σ H2 x vs v us Q I2 r1 r2 q2
/- xs.append(e), list.index on a module's tuple .. are MtR facts of 06m -/
end
end L2

namespace L2
open PySem PySem.Spec PyProof.Rows

def MtM (X : Cx) (id : String) (r : V → List V → Hp → VK → Prop) : Prop :=
  ∀ (pins : List (Addr × Obj)) (s : Shared) (σ : St) (H : Hp) (x : V) (xs : List V) (v : Value) (us : List Value) (Q : VK), Inv X pins σ H s → RelV x v → Vals xs us → r x xs H Q →
    wpAny (model X.prog X.w) X.A (call (.builtin id) (v :: us)) (EP X pins σ Q) X.xe s

/-! ### lists of values -/
theorem Vals.one : ∀ {x : V} {us : List Value}, Vals [x] us → ∃ u, us = [u] ∧ RelV x u
  | _, _, .cons r .nil => ⟨_, rfl, r⟩
theorem Vals.zero : ∀ {us : List Value}, Vals [] us → us = []
  | _, .nil => rfl
theorem Vals.dropLast {xs : List V} {us : List Value} (h : Vals xs us) : Vals xs.dropLast us.dropLast := by
  induction h with
  | nil => exact .nil
  | cons r t ih =>
    cases t with
    | nil => exact .nil
    | cons q t' => exact .cons r ih
theorem erase_last {α : Type} (l : List α) : l.eraseIdx (l.length - 1) = l.dropLast := by
  induction l with
  | nil => rfl
  | cons a r ih =>
    cases r with
    | nil => rfl
    | cons b r =>
      have e : (a :: b :: r).length - 1 = ((b :: r).length - 1) + 1 := by
        have h1 : (a :: b :: r).length = r.length + 2 := rfl
        have h2 : (b :: r).length = r.length + 1 := rfl
        omega
      rw [e, List.eraseIdx_cons_succ, ih]
      all_goals rfl
section
variable {X : Cx} {pins : List (Addr × Obj)} {σ : St} {H : Hp} {s : Shared} {l b : Addr} {xs ys zs : List V}

/-! ### the two steps: a tracked list is rewritten, a new list is laid -/
theorem Inv.lset {its its' : List Value} {n : Nat} {f : Array Value → Array Value} {t' : Nat} (I : Inv X pins σ H s) (hH : H l = some (.lst xs))
    (e : s.heap.get? l = some { cls := .type "list", data := .seq its.toArray n }) (hf : f its.toArray = its'.toArray) (hv : Vals ys its') (hz : ys.length ≤ sizeLine) :
    Inv X pins σ (upd H l (.lst ys)) { s with heap := s.heap.update l (Obj.mapSeq f), toks := t' } := by
  have q := PySem.IsL.update e f
  rw [hf] at q
  refine I.write (x := l) (e := l) (by rw [hH]; exact trivial) (.inl rfl) (fun b' u hb hu => (Heap.get?_update_other s.heap (Obj.mapSeq f) (Ne.symm hb)).trans hu) ⟨_, q⟩ ?_
  exact ⟨hz, its', _, hv, q⟩
theorem Inv.lnew {its : List Value} {t' : Nat} (I : Inv X pins σ H s) (hv : Vals ys its) (hz : ys.length ≤ sizeLine) :
    Inv X pins σ (upd H s.heap.objs.size (.lst ys)) { s with heap := s.heap.push { cls := .type "list", data := .seq its.toArray }, toks := t' } :=
  I.laid (fun _ _ q => Heap.get?_push_of_some _ q) (Nat.le_refl _) ⟨hz, its, 0, hv, Heap.get?_push_size _ rfl⟩
theorem Inv.fresh (I : Inv X pins σ H s) : H s.heap.objs.size = none := I.hok.fresh (Nat.le_refl _)
theorem Inv.lstM (I : Inv X pins σ H s) (hH : H l = some (.lst xs)) : xs.length ≤ sizeLine ∧ ∃ (its : List Value) (n : Nat), Vals xs its ∧ xs.length = its.length ∧ s.heap.get? l = some { cls := .type "list", data := .seq its.toArray n } := by
  obtain ⟨z, its, n, r, e⟩ := I.hok l _ hH
  exact ⟨z, its, n, r, r.length, e⟩

theorem notLongL {n : Nat} (h : n ≤ sizeLine) : Builtin.List.listTooLong n = false := by
  unfold Builtin.List.listTooLong
  exact decide_eq_false (by omega)
end

section
variable {X : Cx}

/-! ### methods -/
def rAppend : V → List V → Hp → VK → Prop := fun x vs H Q => ∃ l xs y, x = .ref l ∧ vs = [y] ∧ H l = some (.lst xs) ∧ xs.length < sizeLine ∧ Q .non (upd H l (.lst (xs ++ [y])))
theorem mt_append : MtM X "list.append" rAppend := by
  intro pins s σ H x vs v us Q I rx rv h
  obtain ⟨l, xs, y, rfl, rfl, hH, hz, q⟩ := h
  cases rx
  obtain ⟨u, rfl, ru⟩ := rv.one
  obtain ⟨z, its, n, r, hl, e⟩ := I.lstM hH
  refine call_meets F.slot_list_append ⟨_, e, rfl⟩ F.entry_list_append (F.args_list_append_2 _ _) (PySem.list_append l its.toArray n u (by rw [List.size_toArray]; omega)) ⟨e, ?_⟩
  refine ⟨.non, _, I.lset (its' := its ++ [u]) hH e (by simp) (r.append (.cons ru .nil)) ?_, rfl, q⟩
  rw [List.length_append, List.length_singleton]
  omega

def rExtend : V → List V → Hp → VK → Prop := fun x vs H Q => ∃ l b xs zs, x = .ref l ∧ vs = [.ref b] ∧ H l = some (.lst xs) ∧ H b = some (.lst zs) ∧ xs.length + zs.length ≤ sizeLine ∧ Q .non (upd H l (.lst (xs ++ zs)))
theorem mt_extend : MtM X "list.extend" rExtend := by
  intro pins s σ H x vs v us Q I rx rv h
  obtain ⟨l, b, xs, zs, rfl, rfl, hH, hB, hz, q⟩ := h
  cases rx
  obtain ⟨u, rfl, ru⟩ := rv.one
  cases ru
  obtain ⟨z, its, n, r, hl, e⟩ := I.lstM hH
  obtain ⟨z2, its2, n2, r2, hl2, e2⟩ := I.lstM hB
  have hsz : its.toArray.size + its2.toArray.size ≤ sizeLine := by rw [List.size_toArray, List.size_toArray]; omega
  have hlong : ¬ (!its.toArray.isEmpty && Builtin.List.listTooLong (its.toArray.size + its2.toArray.size)) = true := by
    rw [notLongL hsz, Bool.and_false]
    exact Bool.false_ne_true
  refine call_meets F.slot_list_extend ⟨_, e, rfl⟩ F.entry_list_extend (F.args_list_extend_2 _ _)
    (AutoSeq1.list_extend_list_list_0 l its.toArray n b its2.toArray n2 hlong (by rw [List.size_toArray]; omega) (by omega)) ⟨e, e2, ?_⟩
  refine ⟨.non, _, I.lset (its' := its ++ its2) hH e (by simp) (r.append r2) ?_, rfl, q⟩
  rw [List.length_append]
  omega

def rPop : V → List V → Hp → VK → Prop := fun x vs H Q => ∃ l xs y, x = .ref l ∧ vs = [] ∧ H l = some (.lst xs) ∧ xs[xs.length - 1]? = some y ∧ Q y (upd H l (.lst xs.dropLast))
theorem mt_pop : MtM X "list.pop" rPop := by
  intro pins s σ H x vs v us Q I rx rv h
  obtain ⟨l, xs, y, rfl, rfl, hH, hy, q⟩ := h
  cases rx
  have hus := rv.zero
  subst hus
  obtain ⟨z, its, n, r, hl, e⟩ := I.lstM hH
  obtain ⟨u, hu, ru⟩ := r.get hy
  have hy' : its.toArray[its.toArray.size - 1]? = some u := by
    show its.toArray[its.length - 1]? = some u
    rw [← Array.getElem?_toList, ← hl]
    exact hu
  refine call_meets F.slot_list_pop ⟨_, e, rfl⟩ F.entry_list_pop (F.args_list_pop_1 _) (MeetsSeq.list_pop_last l its.toArray n u hy' (by rw [List.size_toArray]; omega)) ⟨e, ?_⟩
  refine ⟨y, _, I.lset (its' := its.dropLast) hH e ?_ r.dropLast ?_, ru, q⟩
  · show its.toArray.eraseIdxIfInBounds (its.toArray.size - 1) = its.dropLast.toArray
    rw [List.size_toArray, List.eraseIdxIfInBounds_toArray, erase_last]
  · rw [List.length_dropLast]
    omega

def rPopAt : V → List V → Hp → VK → Prop := fun x vs H Q => ∃ l xs i k y, x = .ref l ∧ vs = [.int i] ∧ H l = some (.lst xs) ∧ -(2 ^ 63) ≤ i ∧ i < 2 ^ 63 ∧ seqIndex? i xs.length = some k ∧ xs[k]? = some y ∧ Q y (upd H l (.lst (xs.eraseIdx k)))
def rReverse : V → List V → Hp → VK → Prop := fun x vs H Q => ∃ l xs, x = .ref l ∧ vs = [] ∧ H l = some (.lst xs) ∧ Q .non (upd H l (.lst xs.reverse))
def rClear : V → List V → Hp → VK → Prop := fun x vs H Q => ∃ l xs, x = .ref l ∧ vs = [] ∧ H l = some (.lst xs) ∧ Q .non (upd H l (.lst []))
theorem mt_clear : MtM X "list.clear" rClear := by
  intro pins s σ H x vs v us Q I rx rv h
  obtain ⟨l, xs, rfl, rfl, hH, q⟩ := h
  cases rx
  have hus := rv.zero
  subst hus
  obtain ⟨z, its, n, r, hl, e⟩ := I.lstM hH
  refine call_meets F.slot_list_clear ⟨_, e, rfl⟩ F.entry_list_clear (F.args_list_clear_1 _) (AutoSeq1.list_clear_list_0 l its.toArray n (by rw [List.size_toArray]; omega)) ⟨e, ?_⟩
  exact ⟨.non, _, I.lset (its' := []) (ys := []) hH e rfl .nil (Nat.zero_le _), rfl, q⟩

/-! ### list + list, list += list, list * int -/
def rCat : R2 := fun x y H Q => ∃ l b xs zs, x = .ref l ∧ y = .ref b ∧ H l = some (.lst xs) ∧ H b = some (.lst zs) ∧ xs.length + zs.length ≤ sizeLine ∧ ∀ p, H p = none → Q (.ref p) (upd H p (.lst (xs ++ zs)))
theorem op_cat : OpR X (binaryOp .Add) rCat := by
  intro pins s σ H x y v u Q I rx ry h
  obtain ⟨l, b, xs, zs, rfl, rfl, hH, hB, hz, q⟩ := h
  cases rx
  cases ry
  obtain ⟨z, its, n, r, hl, e⟩ := I.lstM hH
  obtain ⟨z2, its2, n2, r2, hl2, e2⟩ := I.lstM hB
  refine PySem.P.add_list e e2 ?_ (by rw [List.size_toArray, List.size_toArray]; omega)
  have ea : its.toArray ++ its2.toArray = (its ++ its2).toArray := by simp
  rw [ea]
  exact ⟨.ref _, _, I.lnew (t' := s.toks) (r.append r2) (by rw [List.length_append]; omega), rfl, q _ I.fresh⟩
/-- a list times an int (a negative one is nothing) -/
def rRep : R2 := fun x y H Q => ∃ l k xs, x = .ref l ∧ y = .int k ∧ H l = some (.lst xs) ∧ -(2 ^ 63) ≤ k ∧ k < 2 ^ 63 ∧ xs.length * k.toNat ≤ sizeLine ∧
  ∀ p, H p = none → Q (.ref p) (upd H p (.lst (List.replicate k.toNat xs).flatten))
/-! ### del xs[i] -/
end

/-! ### xs[a:b] = ys -/
section
variable {prog : Program} {w : World} {A : Around} {E : Value → Shared → Prop} {s : Shared}
set_option maxRecDepth 100000 in
end

section
variable {X : Cx}
end
end L2

namespace L2
open PySem PySem.Spec PyProof.Rows

/-! ### lists of pairs as tables -/
section
variable {κ : Type} [DecidableEq κ]
def valV (kvs : List (κ × V)) (k : κ) : Option V := (kvs.find? fun kv => decide (kv.1 = k)).map (·.2)
/-- in its place, or at the end -/
def putK (kvs : List (κ × V)) (k : κ) (v : V) : List (κ × V) :=
  if (kvs.any fun kv => decide (kv.1 = k)) = true then kvs.map (fun kv => if kv.1 = k then (kv.1, v) else kv) else kvs ++ [(k, v)]
def dropK (kvs : List (κ × V)) (k : κ) : List (κ × V) := kvs.filter fun kv => decide (kv.1 ≠ k)

theorem valV_pos {p : κ × V} {r : List (κ × V)} {k : κ} (e : p.1 = k) : valV (p :: r) k = some p.2 := by simp [valV, List.find?_cons, e]
theorem valV_neg {p : κ × V} {r : List (κ × V)} {k : κ} (e : ¬ p.1 = k) : valV (p :: r) k = valV r k := by simp [valV, List.find?_cons, e]
theorem valV_any (k : κ) : ∀ kvs : List (κ × V), (kvs.any fun kv => decide (kv.1 = k)) = (valV kvs k).isSome
  | [] => rfl
  | p :: r => by
    rw [List.any_cons]
    by_cases e : p.1 = k
    · simp only [valV_pos e, decide_eq_true e, Bool.true_or, Option.isSome_some]
    · rw [valV_neg e, decide_eq_false e, Bool.false_or]; exact valV_any k r
theorem length_putK (kvs : List (κ × V)) (k : κ) (v : V) : (putK kvs k v).length ≤ kvs.length + 1 := by
  unfold putK
  split
  · rw [List.length_map]; omega
  · rw [List.length_append, List.length_cons, List.length_nil]; omega
theorem RelO.isSome_eq {o : Option V} {u : Option Value} (r : RelO o u) : o.isSome = u.isSome := by
  cases o with
  | none => cases u with
    | none => rfl
    | some _ => exact (show False from r).elim
  | some _ => cases u with
    | none => exact (show False from r).elim
    | some _ => rfl
/-- raw tables of the same keys -/
theorem KV.val {kvs : List (κ × V)} {vs : List (κ × Value)} (r : KV kvs vs) (k : κ) : RelO (valV kvs k) (valueAt vs k) := by
  unfold KV at r
  induction r with
  | nil => exact True.intro
  | @cons p q ps qs h t ih =>
    obtain ⟨h1, h2⟩ := h
    by_cases e : p.1 = k
    · have e' : q.1 = k := h1.symm.trans e
      have b : valueAt (q :: qs) k = some q.2 := by simp [valueAt, List.find?_cons, e']
      rw [valV_pos e, b]; exact h2
    · have e' : ¬ q.1 = k := fun z => e (h1.trans z)
      have b : valueAt (q :: qs) k = valueAt qs k := by simp [valueAt, List.find?_cons, e']
      rw [valV_neg e, b]; exact ih
theorem KV.any {kvs : List (κ × V)} {vs : List (κ × Value)} (r : KV kvs vs) (k : κ) : (kvs.any fun kv => decide (kv.1 = k)) = vs.any fun kv => decide (kv.1 = k) := by
  unfold KV at r
  induction r with
  | nil => rfl
  | cons h t ih => rw [List.any_cons, List.any_cons, ih, h.1]
theorem KV.repl {kvs : List (κ × V)} {vs : List (κ × Value)} (r : KV kvs vs) (k : κ) {y : V} {u : Value} (ry : RelV y u) :
    KV (kvs.map fun kv => if kv.1 = k then (kv.1, y) else kv) (vs.map fun kv => if kv.1 = k then (kv.1, u) else kv) := by
  unfold KV at r ⊢
  induction r with
  | nil => exact .nil
  | @cons p q ps qs h t ih =>
    rw [List.map_cons, List.map_cons]
    refine .cons ?_ ih
    obtain ⟨h1, h2⟩ := h
    by_cases e : p.1 = k
    · rw [if_pos e, if_pos (h1.symm.trans e)]; exact ⟨h1, ry⟩
    · rw [if_neg e, if_neg (fun z => e (h1.trans z))]; exact ⟨h1, h2⟩
theorem KV.put {kvs : List (κ × V)} {vs : List (κ × Value)} (r : KV kvs vs) (k : κ) {y : V} {u : Value} (ry : RelV y u) : KV (putK kvs k y) (stored vs k u) := by
  unfold putK stored
  rw [r.any k]
  by_cases e : (vs.any fun kv => decide (kv.1 = k)) = true
  · rw [if_pos e, if_pos e]; exact r.repl k ry
  · rw [if_neg e, if_neg e]; exact Paired.snoc r ⟨rfl, ry⟩
theorem KV.length {kvs : List (κ × V)} {vs : List (κ × Value)} (r : KV kvs vs) : kvs.length = vs.length := Paired.length r
end

/-! ### a tracked dict, its keys ints and texts or tuples of these -/
theorem kV_is {P : Program} {w : World} {k : Key} {u : Value} (r : RelV (kV k) u) : (mixKind P w).is k u = true := by
  cases k with
  | inl i => obtain ⟨t, e⟩ := (show ∃ t, u = Value.int i t from r); subst e; exact mixKind_int P w i t
  | inr x => obtain ⟨t, e⟩ := (show ∃ t, u = Value.str x t from r); subst e; exact mixKind_str P w x t
theorem items_are {P : Program} {w : World} : ∀ {ks : List Key} {us : List Value}, Vals (ks.map kV) us → ItemsAre (mixKind P w) ks us
  | [], _, r => by rw [List.map_nil] at r; cases r; exact .nil
  | k :: ks, _, r => by
    rw [List.map_cons] at r
    cases r with
    | cons h t => exact .cons (kV_is h) (items_are t)

/-- raw entries of a dict with tuple keys -/
abbrev KT (H : Hp) : List (List Key × V) → List (List Key × Addr × Value) → Prop := Paired fun p q => p.1 = q.1 ∧ H q.2.1 = some (.tup (p.1.map kV)) ∧ RelV p.2 q.2.2
theorem KT.val {H : Hp} {kvs : List (List Key × V)} {xs : List (List Key × Addr × Value)} (r : KT H kvs xs) (k : List Key) : RelO (valV kvs k) ((atKey xs k).map (·.2)) := by
  induction r with
  | nil => exact True.intro
  | @cons p q ps qs h t ih =>
    obtain ⟨h1, _, h2⟩ := h
    by_cases e : p.1 = k
    · have e' : q.1 = k := h1.symm.trans e
      have b : atKey (q :: qs) k = some q.2 := by simp [atKey, List.find?_cons, e']
      rw [valV_pos e, b]; exact h2
    · have e' : ¬ q.1 = k := fun z => e (h1.trans z)
      have b : atKey (q :: qs) k = atKey qs k := by simp [atKey, List.find?_cons, e']
      rw [valV_neg e, b]; exact ih
theorem KT.repl {H : Hp} {kvs : List (List Key × V)} {xs : List (List Key × Addr × Value)} (r : KT H kvs xs) (k : List Key) {y : V} {u : Value} (ry : RelV y u) :
    KT H (kvs.map fun kv => if kv.1 = k then (kv.1, y) else kv) (xs.map (putAt k u)) := by
  induction r with
  | nil => exact .nil
  | @cons p q ps qs h t ih =>
    rw [List.map_cons, List.map_cons]
    refine .cons ?_ ih
    obtain ⟨h1, h2, h3⟩ := h
    unfold putAt
    by_cases e : p.1 = k
    · rw [if_pos e, if_pos (h1.symm.trans e)]; exact ⟨h1, h2, ry⟩
    · rw [if_neg e, if_neg (fun z => e (h1.trans z))]; exact ⟨h1, h2, h3⟩
theorem KT.put {H : Hp} {kvs : List (List Key × V)} {xs : List (List Key × Addr × Value)} (r : KT H kvs xs) (k : List Key) {b : Addr} {y : V} {u : Value} (hb : H b = some (.tup (k.map kV))) (ry : RelV y u) :
    KT H (putK kvs k y) (storedH xs k b u) := by
  have e : (kvs.any fun kv => decide (kv.1 = k)) = (atKey xs k).isSome := by
    rw [valV_any, (r.val k).isSome_eq, Option.isSome_map]
  unfold putK storedH
  rw [e]
  by_cases q : (atKey xs k).isSome = true
  · rw [if_pos q, if_pos q]; exact r.repl k ry
  · rw [if_neg q, if_neg q]; exact Paired.snoc r ⟨rfl, hb, ry⟩
theorem KT.keeps {H H' : Hp} {kvs : List (List Key × V)} {xs : List (List Key × Addr × Value)} (r : KT H kvs xs) (ht : ∀ b ys, H b = some (.tup ys) → H' b = some (.tup ys)) : KT H' kvs xs :=
  Paired.mapP r fun _ _ z => ⟨z.1, ht _ _ z.2.1, z.2.2⟩

section
variable {P : Program} {w : World} {H : Hp} {h : Heap} {a : Addr}
theorem rd_of {u : HO} (ok : HOk P w H h) (e : Rd H a u) : ObjOk P w H h a u := e.ok ok
theorem dk_rd {kvs : List (Key × V)} (ok : HOk P w H h) (e : Rd H a (.dK kvs)) : kvs.length ≤ sizeLine ∧ (a == sysModules) = false ∧ ∃ vs, KV kvs vs ∧ h.DictOf (mixKind P w) a vs :=
  show ObjOk P w H h a (.dK kvs) from rd_of ok e
theorem dk_of {kvs : List (Key × V)} (ok : HOk P w H h) (e : H a = some (.dK kvs)) : kvs.length ≤ sizeLine ∧ (a == sysModules) = false ∧ ∃ vs, KV kvs vs ∧ h.DictOf (mixKind P w) a vs := dk_rd ok (.inl e)
/-- a tracked tuple of ints and texts is a key -/
theorem key_of {ks : List Key} (ok : HOk P w H h) (e : H a = some (.tup (ks.map kV))) : (tupleKind (mixKind P w)).is h ks a := by
  obtain ⟨_, its, r, o, h1, h2, n, h3⟩ := (show ObjOk P w H h a (.tup (ks.map kV)) from ok a _ e)
  exact ⟨o, its.toArray, n, h1, h2, h3, by simpa using items_are r⟩
theorem dt_rd {kvs : List (List Key × V)} (ok : HOk P w H h) (e : Rd H a (.dT kvs)) : kvs.length ≤ sizeLine ∧ (a == sysModules) = false ∧
    ∃ xs, KT H kvs xs ∧ h.DictOfH (tupleKind (mixKind P w)) a xs := by
  obtain ⟨z, y, xs, r, o, es, ep, h1, h2, h3, h4, h5⟩ := (show ObjOk P w H h a (.dT kvs) from rd_of ok e)
  refine ⟨z, y, xs, r, o, es, ep, h1, h2, h3, h4, fun x hx => ?_, h5⟩
  have all : ∀ {l : List (List Key × V)} {m : List (List Key × Addr × Value)}, KT H l m → ∀ x ∈ m, (tupleKind (mixKind P w)).is h x.1 x.2.1 := by
    intro l m q
    induction q with
    | nil => intro x hx; exact nomatch hx
    | @cons p q ps qs hq t ih =>
      intro x hx
      rcases List.mem_cons.mp hx with e | hx
      · subst e
        exact key_of ok (by rw [← hq.1]; exact hq.2.1)
      · exact ih x hx
  exact all r x hx
theorem dt_of {kvs : List (List Key × V)} (ok : HOk P w H h) (e : H a = some (.dT kvs)) : kvs.length ≤ sizeLine ∧ (a == sysModules) = false ∧
    ∃ xs, KT H kvs xs ∧ h.DictOfH (tupleKind (mixKind P w)) a xs := dt_rd ok (.inl e)
end

/-- what the dict at a holds at the key y -/
def DGet (H : Hp) (a : Addr) (y : V) (r : Option V) : Prop :=
  (∃ kvs k, Rd H a (.dK kvs) ∧ y = kV k ∧ r = valV kvs k) ∨ ∃ kvs k b, Rd H a (.dT kvs) ∧ y = .ref b ∧ H b = some (.tup (k.map kV)) ∧ r = valV kvs k
/-- the heap behind a[y] = v -/
def DPut (H : Hp) (a : Addr) (y v : V) (H' : Hp) : Prop :=
  (∃ kvs k, H a = some (.dK kvs) ∧ y = kV k ∧ kvs.length < sizeLine ∧ H' = upd H a (.dK (putK kvs k v))) ∨
  ∃ kvs k b, H a = some (.dT kvs) ∧ y = .ref b ∧ H b = some (.tup (k.map kV)) ∧ kvs.length < sizeLine ∧ H' = upd H a (.dT (putK kvs k v))
section
variable {X : Cx} {pins : List (Addr × Obj)} {σ : St} {H : Hp} {s : Shared} {a : Addr} {y v : V} {u r : Value} {o : Option V} {A : Around} {E : Value → Shared → Prop}

theorem Inv.big (I : Inv X pins σ H s) : sysModules < s.heap.objs.size := by
  have h : mainGlobals < s.heap.objs.size := (I.mod.glob.keeps I.bk).lt
  exact Nat.lt_trans (by decide) h

/-- d[y], there -/
theorem d_getItem {Q : Value → Shared → Prop} (hu : A.units + 1 < cLine) (I : Inv X pins σ H s) (g : DGet H a y (some v)) (ry : RelV y u) (h : ∀ w' s', Inv X pins σ H s' → RelV v w' → Q w' s') :
    wpAny (model X.prog X.w) A (getItem (.ref a) u) Q E s := by
  rcases g with ⟨kvs, k, e, ey, l⟩ | ⟨kvs, k, b, e, ey, eb, l⟩
  · subst ey
    obtain ⟨z, hd, vs, rel, dd⟩ := dk_rd I.hok e
    obtain ⟨w', hw, rw'⟩ := RelO.some_of (v := v) (o := valueAt vs k) (by rw [l]; exact rel.val k)
    exact wpAny_getItem_of (kV_is ry) dd.mapOf hw (h w' _ (I.tok _) rw')
  · subst ey
    cases (show u = Value.ref b from ry)
    obtain ⟨z, hd, xs, rel, dd⟩ := dt_rd I.hok e
    obtain ⟨w', hw, rw'⟩ := RelO.some_of (v := v) (o := (atKey xs k).map (·.2)) (by rw [l]; exact rel.val k)
    obtain ⟨p, hp, hp2⟩ := Option.map_eq_some_iff.mp hw
    refine wpAny_getItem_heap (tupleKind_room_in1 hu) (key_of I.hok eb) dd hp ?_
    rw [hp2]
    exact h w' _ (I.tok _) rw'
theorem d_notIn {Q : Value → Shared → Prop} (hu : A.units + 1 < cLine) (I : Inv X pins σ H s) (g : DGet H a y o) (ry : RelV y u) (h : ∀ s', Inv X pins σ H s' → Q (.bool (!o.isSome)) s') :
    wpAny (model X.prog X.w) A (compareOp .NotIn u (.ref a)) Q E s := by
  rcases g with ⟨kvs, k, e, ey, l⟩ | ⟨kvs, k, b, e, ey, eb, l⟩
  · subst ey
    obtain ⟨z, hd, vs, rel, dd⟩ := dk_rd I.hok e
    refine wpAny_notIn_of (kV_is ry) hd dd.mapOf ?_
    rw [← (rel.val k).isSome_eq, ← l]
    exact h _ (I.tok _)
  · subst ey
    cases (show u = Value.ref b from ry)
    obtain ⟨z, hd, xs, rel, dd⟩ := dt_rd I.hok e
    refine wpAny_notIn_heap (tupleKind_room_in1 hu) (key_of I.hok eb) hd dd ?_
    have q := (rel.val k).isSome_eq
    rw [Option.isSome_map] at q
    rw [← q, ← l]
    exact h _ (I.tok _)
/-- a dict's object is replaced -/
theorem d_write {h' : Heap} {t' : Nat} {ob : HO} (I : Inv X pins σ H s) (mu : Mut (H a)) (hs : Heap.SameBut a s.heap h') (he : ∃ q, h'.get? a = some q) (new : ObjOk X.prog X.w (upd H a ob) h' a ob) :
    Inv X pins σ (upd H a ob) { s with heap := h', toks := t' } :=
  I.write (x := a) (e := a) mu (.inl rfl) (fun b q hb z => (hs.2 b hb).trans z) he new
theorem dk_new {P : Program} {w : World} {H' : Hp} {h' : Heap} {kvs : List (Key × V)} {vs : List (Key × Value)} (z : kvs.length ≤ sizeLine) (hd : (a == sysModules) = false) (rel : KV kvs vs) (dd : h'.DictOf (mixKind P w) a vs) :
    ObjOk P w H' h' a (.dK kvs) := ⟨z, hd, vs, rel, dd⟩
/-- d[y] = v -/
theorem d_setItem {H' : Hp} {Q : Unit → Shared → Prop} (hu : A.units + 1 < cLine) (I : Inv X pins σ H s) (g : DPut H a y v H') (ry : RelV y u) (rv : RelV v r) (h : ∀ s', Inv X pins σ H' s' → Q () s') :
    wpAny (model X.prog X.w) A (setItem (.ref a) u r) Q E s := by
  rcases g with ⟨kvs, k, e, ey, l, eH⟩ | ⟨kvs, k, b, e, ey, eb, l, eH⟩
  · subst ey eH
    obtain ⟨z, hd, vs, rel, dd⟩ := dk_of I.hok e
    have hz : vs.length ≤ sizeLine := by rw [← rel.length]; exact z
    have hl : (putK kvs k v).length ≤ sizeLine := by have := length_putK kvs k v; omega
    refine wpAny_setItem_pairs (hsz := hz) (kV_is ry) dd fun h' dd' hs => h _ ?_
    have he : ∃ q, h'.get? a = some q := let ⟨q, _, _, hq, _⟩ := dd'; ⟨q, hq⟩
    exact d_write I (by rw [e]; exact True.intro) hs he (dk_new hl hd (rel.put k rv) dd')
  · subst ey eH
    cases (show u = Value.ref b from ry)
    obtain ⟨z, hd, xs, rel, dd⟩ := dt_of I.hok e
    have hz : xs.length ≤ sizeLine := by rw [← Paired.length rel]; exact z
    have hl : (putK kvs k v).length ≤ sizeLine := by have := length_putK kvs k v; omega
    refine wpAny_setItem_heap (hsz := hz) (tupleKind_room_in1 hu) (key_of I.hok eb) dd fun h' dd' hs => h _ ?_
    obtain ⟨q, es, ep, hq, h2, h3, h4, _, h5⟩ := dd'
    refine d_write I (by rw [e]; exact True.intro) hs ⟨q, hq⟩ ⟨hl, hd, _, (rel.put k eb rv).keeps fun c ys ec => ?_, q, es, ep, hq, h2, h3, h4, h5⟩
    rw [upd_ne (ne_of ec e (fun z => nomatch z))]
    exact ec
end

section
variable {X : Cx} {pins : List (Addr × Obj)} {σ : St} {H : Hp} {s : Shared} {a : Addr} {kvs : List (Key × V)} {k : Key} {u : Value} {A : Around} {E : Value → Shared → Prop}
/-- d.clear() -/
theorem d_clear {Q : Value → Shared → Prop} (I : Inv X pins σ H s) (e : H a = some (.dK kvs)) (h : ∀ s', Inv X pins σ (upd H a (.dK [])) s' → Q .none s') : wpAny (model X.prog X.w) A (call (.builtin "dict.clear") [.ref a]) Q E s := by
  obtain ⟨z, hd, vs, rel, dd⟩ := dk_of I.hok e
  refine call_meetsIn PySem.F.slot_dict_clear dd.typeIs PySem.F.entry_dict_clear (PySem.F.args_dict_clear_1 _) (meets_dict_clear (mixKind X.prog X.w) a) ⟨vs, dd, by rw [← rel.length]; exact z, fun h' dd' hs => h _ ?_⟩
  have he : ∃ q, h'.get? a = some q := let ⟨q, _, _, hq, _⟩ := dd'; ⟨q, hq⟩
  exact d_write (t' := s.toks) I (by rw [e]; exact True.intro) hs he (dk_new (Nat.zero_le _) hd .nil dd')
/-- len(d) -/
theorem d_len {Q : Value → Shared → Prop} (I : Inv X pins σ H s) (e : Rd H a (.dK kvs)) (h : ∀ t s', Inv X pins σ H s' → Q (.int kvs.length t) s') : wpAny (model X.prog X.w) A (call (.builtin "len") [.ref a]) Q E s := by
  obtain ⟨z, hd, vs, rel, dd⟩ := dk_rd I.hok e
  refine call_len_dict hd dd (by rw [← rel.length]; rw [sizeLine_eq] at z; omega) ?_
  rw [← rel.length]
  exact h _ _ (I.tok _)
end

/-! ### readings and rules -/
/-- the element of a subscription, not a slice -/
def NoSl (i : Expr) : Prop := ∀ ov iv, subscripted i false ov iv = operate [ov, iv] (getItem ov iv)
theorem subD_of {prog : Program} {w : World} {A : Around} {E : Value → Shared → Prop} {s : Shared} {env : Env} {value slice : Expr} {pos : Pos} {T id : String} {Q : Value → Shared → Prop}
    (hl : typeLookup (.type T) "__getitem__" = pure (some (.builtin id))) (hs : NoSl slice)
    (h : wpAny (model prog w) A (eval value env) (fun o s₁ => wpAny (model prog w) A (eval slice env) (fun i s₂ => s₂.TypeIs o T ∧ wpAny (model prog w) A (getItem o i) Q E s₂) E s₁) E s) :
    wpAny (model prog w) A (eval (.Subscript value slice pos) env) Q E s := by
  refine Subscript_ (wpAny_mono h (fun o s₁ h₁ => wpAny_mono h₁ (fun i s₂ h₂ => ?_) fun _ _ x => x) fun _ _ x => x)
  obtain ⟨hT, h₂⟩ := h₂
  unfold subscriptTail
  refine wpAny_bind ?_
  rw [getitemInPython_of_ne hT.not_modules]
  refine wpAny_bind (wpAny_specialOf hT hl ?_)
  have fin : wpAny (model prog w) A (subscripted slice false o i) (fun r s₃ => wpAny (model prog w) A (letTemporaryGo value o r >>= fun _ => pure r) Q E s₃) E s₂ := by
    rw [hs o i]
    exact wpAny_operating (wpAny_mono h₂ (fun r s₃ h₃ => wpAny_bind (wpAny_letTemporaryGo (wpAny_pure h₃))) fun _ _ x => x)
  first
    | exact wpAny_pure (wpAny_bind fin)
    | exact wpAny_bind (wpAny_pure (wpAny_bind fin))
    | exact wpAny_bind fin

theorem dict_typeIs {X : Cx} {pins : List (Addr × Obj)} {σ : St} {H : Hp} {s : Shared} {a : Addr} {y : V} {o : Option V} (I : Inv X pins σ H s) (g : DGet H a y o) : s.TypeIs (.ref a) "dict" := by
  rcases g with ⟨kvs, k, e, _, _⟩ | ⟨kvs, k, b, e, _, _, _⟩
  · obtain ⟨_, _, vs, _, dd⟩ := dk_rd I.hok e
    exact dd.typeIs
  · obtain ⟨_, _, xs, _, dd⟩ := dt_rd I.hok e
    exact dd.typeIs
/-- d[y] -/
def tDGet (td ty : TE) : TE := fun σ H Q => td σ H fun x H1 => ty σ H1 fun y H2 => ∃ a v, x = .ref a ∧ DGet H2 a y (some v) ∧ Q v H2
/-- y in d, y not in d -/
def tDIn (ty td : TE) : TE := fun σ H Q => ty σ H fun y H1 => td σ H1 fun x H2 => ∃ a o, x = .ref a ∧ DGet H2 a y o ∧ Q (.bl o.isSome) H2
def tDNotIn (ty td : TE) : TE := fun σ H Q => ty σ H fun y H1 => td σ H1 fun x H2 => ∃ a o, x = .ref a ∧ DGet H2 a y o ∧ Q (.bl (!o.isSome)) H2
/-- d[y] = v -/
def sDPut (td ty tv : TE) : TS := fun D σ H => tv σ H fun v H1 => td σ H1 fun x H2 => ty σ H2 fun y H3 => ∃ a H4, x = .ref a ∧ DPut H3 a y v H4 ∧ D.nx σ H4
/-- d[y] op= v -/
def sDAug (td ty tv : TE) (rd : V → V → Hp → VK → Prop) : TS := fun D σ H => td σ H fun x H1 => ty σ H1 fun y H2 => ∃ a v, x = .ref a ∧ DGet H2 a y (some v) ∧
  tv σ H2 fun y2 H3 => rd v y2 H3 fun z H4 => ∃ H5, DPut H4 a y z H5 ∧ D.nx σ H5
/-- del d[y] -/
def sDDel (td ty : TE) : TS := fun D σ H => td σ H fun x H1 => ty σ H1 fun y H2 => ∃ a kvs k, x = .ref a ∧ H2 a = some (.dK kvs) ∧ y = kV k ∧ (valV kvs k).isSome = true ∧ D.nx σ (upd H2 a (.dK (dropK kvs k)))

section
variable {X : Cx} {o i e value : Expr} {pos pos' tpos : Pos} {td ty tv : TE}
theorem pe_dget (hu : X.A.units + 1 < cLine) (ho : PE X o td) (hi : PE X i ty) (hs : NoSl i) : PE X (.Subscript o i pos) (tDGet td ty) := by
  intro pins s σ H Q I h
  refine subD_of PySem.F.slot_dict_getitem.lookup hs (thn (ho pins s σ H _ I h) fun u s1 ⟨x, H1, I1, rx, q1⟩ => thn (hi pins s1 σ H1 _ I1 q1) fun iv s2 ⟨y, H2, I2, ry, a, v, ex, g, q2⟩ => ?_)
  subst ex
  obtain rfl : u = Value.ref a := rx
  exact ⟨dict_typeIs I2 g, d_getItem hu I2 g ry fun w' s3 I3 rw' => ⟨v, H2, I3, rw', q2⟩⟩
theorem pc_dnotin (hu : X.A.units + 1 < cLine) (hi : PE X i ty) (ho : PE X o td) : PC X .NotIn i o (tDNotIn ty td) := by
  intro pins s σ H Q I h
  refine thn (hi pins s σ H _ I h) fun iv s1 ⟨y, H1, I1, ry, q1⟩ => thn (ho pins s1 σ H1 _ I1 q1) fun u s2 ⟨x, H2, I2, rx, a, ov, ex, g, q2⟩ => ?_
  subst ex
  obtain rfl : u = Value.ref a := rx
  exact d_notIn hu I2 g ry fun s3 I3 => ⟨.bl (!ov.isSome), H2, I3, rfl, q2⟩
theorem ps_dput (hu : X.A.units + 1 < cLine) (ho : PE X o td) (hi : PE X i ty) (hv : PE X value tv) (hs : swapsWith value (some (.Subscript o i pos')) pos.line X.env = pure false) :
    PS X (.Assign [.Subscript o i pos'] value pos) (sDPut td ty tv) := by
  intro pins s σ H D I h
  refine wpAny_Assign_Subscript (thn (hv pins s σ H _ I h) fun r s1 ⟨v, H1, I1, rv, q1⟩ => thn (ho pins s1 σ H1 _ I1 q1) fun u s2 ⟨x, H2, I2, rx, q2⟩ => thn (hi pins s2 σ H2 _ I2 q2) fun iv s3 ⟨y, H3, I3, ry, a, H4, ex, g, q3⟩ => ?_) hs
  subst ex
  obtain rfl : u = Value.ref a := rx
  exact d_setItem hu I3 g ry rv fun s4 I4 => ⟨σ, H4, I4, q3⟩
end

/-! ### displays -/
theorem dk_empty {P : Program} {w : World} {H : Hp} (h : Heap) (hb : sysModules < h.objs.size) : ObjOk P w H (h.push { cls := .type "dict", data := .dict #[] }) h.objs.size (.dK []) :=
  ⟨Nat.zero_le _, beq_eq_false_iff_ne.mpr (Ne.symm (Nat.ne_of_lt hb)), [], .nil, Heap.DictOf.new h⟩
/-- {}, to be a dict of the kind that is wanted -/
def tDNewK : TE := fun _ H Q => ∀ p, H p = none → Q (.ref p) (upd H p (.dK []))
def tDNewT : TE := fun _ H Q => ∀ p, H p = none → Q (.ref p) (upd H p (.dT []))
section
variable {X : Cx} {pos : Pos}
theorem pe_dnewK : PE X (.Dict [] [] pos) tDNewK := fun pins s σ H Q I h =>
  wpAny_Dict_empty ⟨.ref s.heap.objs.size, _, I.laid (a := s.heap.objs.size) (o := .dK []) (t' := s.toks) (fun _ _ q => Heap.get?_push_of_some _ q) (Nat.le_refl _) (dk_empty s.heap I.big), rfl, h _ (I.hok.fresh (Nat.le_refl _))⟩
end

/-- the pairs of a display, from the left -/
def tPairs : List (TE × TE) → St → Hp → (List (V × V) → Hp → Prop) → Prop
  | [], _, H, Q => Q [] H
  | (tk, tv) :: r, σ, H, Q => tk σ H fun x H1 => tv σ H1 fun y H2 => tPairs r σ H2 fun ps H3 => Q ((x, y) :: ps) H3
abbrev VV : List (V × V) → List (Value × Value) → Prop := Paired fun p q => RelV p.1 q.1 ∧ RelV p.2 q.2
def PPs (X : Cx) (pos : Pos) (keys : List (Option Expr)) (values : List Expr) (trs : List (TE × TE)) : Prop :=
  ∀ (pins : List (Addr × Obj)) (s : Shared) (σ : St) (H : Hp) (Q : List (V × V) → Hp → Prop), Inv X pins σ H s → tPairs trs σ H Q →
    wpAny (model X.prog X.w) X.A (evalPairs (pairTrees keys values X.env pos)) (fun vs s' => ∃ ps H', Inv X pins σ H' s' ∧ VV ps vs ∧ Q ps H') X.xe s
def mergeK (kvs more : List (Key × V)) : List (Key × V) := more.foldl (fun acc kv => putK acc kv.1 kv.2) kvs
/-- {k: v, ..} with keys ints and texts; the new dict stands empty while the pairs are made -/
def tDisp (trs : List (TE × TE)) : TE := fun σ H Q => ∀ p, H p = none → tPairs trs σ (upd H p (.dK [])) fun ps H2 => H2 p = some (.dK []) ∧ ∃ kvs : List (Key × V), ps = kvs.map (fun kv => (kV kv.1, kv.2)) ∧ kvs.length ≤ 15 ∧ Q (.ref p) (upd H2 p (.dK (mergeK [] kvs)))
/-! ### methods -/
/-- a method call o.m(e) of a built-in, with one argument: what must be seen of the text -/
structure M1 (X : Cx) (o : Expr) (m : Str) (apos : Pos) (e : Expr) (cpos : Pos) : Prop where
  base : attributeBase o m X.env (eval o X.env) = eval o X.env
  few : ((backTo cpos (starEach [e] X.env)).all (fun x => !x.1) && (backToKw cpos (keywordEach [] X.env)).all (fun x => x.1.isSome)
    && decide (([e] : List Expr).length + ([] : List Keyword).length + (if ([] : List Keyword).isEmpty then 0 else 1) < 30)) = true
  line : (apos.endLine == cpos.line) = true
  trees : backTo cpos (starEach [e] X.env) = [(false, eval e X.env)]
structure M2 (X : Cx) (o : Expr) (m : Str) (apos : Pos) (e f : Expr) (cpos : Pos) : Prop where
  base : attributeBase o m X.env (eval o X.env) = eval o X.env
  few : ((backTo cpos (starEach [e, f] X.env)).all (fun x => !x.1) && (backToKw cpos (keywordEach [] X.env)).all (fun x => x.1.isSome)
    && decide (([e, f] : List Expr).length + ([] : List Keyword).length + (if ([] : List Keyword).isEmpty then 0 else 1) < 30)) = true
  line : (apos.endLine == cpos.line) = true
  trees : backTo cpos (starEach [e, f] X.env) = [(false, eval e X.env), (false, eval f X.env)]

/-- a is a dict, whatever its keys -/
def IsD (H : Hp) (a : Addr) : Prop := (∃ kvs, Rd H a (.dK kvs)) ∨ ∃ kvs, Rd H a (.dT kvs)
section
variable {X : Cx} {pins : List (Addr × Obj)} {σ : St} {H : Hp} {s : Shared} {a : Addr} {y d : V} {u r : Value} {o : Option V} {A : Around} {E : Value → Shared → Prop}
end

def tDGet1 (td ty : TE) : TE := fun σ H Q => td σ H fun x H1 => ∃ a, x = .ref a ∧ IsD H1 a ∧ ty σ H1 fun y H2 => ∃ o, DGet H2 a y o ∧ Q (o.getD .non) H2
def tDGet2 (td ty tx : TE) : TE := fun σ H Q => td σ H fun x H1 => ∃ a, x = .ref a ∧ IsD H1 a ∧ ty σ H1 fun y H2 => tx σ H2 fun z H3 => ∃ o, DGet H3 a y o ∧ Q (o.getD z) H3
/-- d.pop(k): there; d.pop(k, x): there or not -/
def tDPop1 (td ty : TE) : TE := fun σ H Q => td σ H fun x H1 => ∃ a, x = .ref a ∧ IsD H1 a ∧ ty σ H1 fun y H2 => ∃ kvs k v, H2 a = some (.dK kvs) ∧ y = kV k ∧ valV kvs k = some v ∧ Q v (upd H2 a (.dK (dropK kvs k)))
def tDPop2 (td ty tx : TE) : TE := fun σ H Q => td σ H fun x H1 => ∃ a, x = .ref a ∧ IsD H1 a ∧ ty σ H1 fun y H2 => tx σ H2 fun z H3 => ∃ kvs k, H3 a = some (.dK kvs) ∧ y = kV k ∧
  (∀ v, valV kvs k = some v → Q v (upd H3 a (.dK (dropK kvs k)))) ∧ (valV kvs k = none → Q z H3)
section
variable {X : Cx} {o e f : Expr} {apos cpos : Pos} {td ty tx : TE}
end

/-! ### dict(d): a copy -/
section
variable {X : Cx} {pins : List (Addr × Obj)} {σ : St} {H : Hp} {s : Shared} {a : Addr} {kvs : List (Key × V)} {A : Around} {E : Value → Shared → Prop}
theorem d_copyOf {Q : Value → Shared → Prop} (I : Inv X pins σ H s) (e : Rd H a (.dK kvs)) (h : ∀ p s', H p = none → Inv X pins σ (upd H p (.dK kvs)) s' → Q (.ref p) s') : wpAny (model X.prog X.w) A (call (.type "dict") [.ref a]) Q E s := by
  obtain ⟨z, hd, vs, rel, dd⟩ := dk_rd I.hok e
  refine kt_call_dict hd dd (by rw [← rel.length]; exact z) fun h' dd' hs => ?_
  refine h _ _ (I.hok.fresh (Nat.le_refl _)) (I.laid (a := s.heap.objs.size) (o := .dK kvs) (t' := s.toks) (fun b q hq => ?_) (Nat.le_refl _) (dk_new z (beq_eq_false_iff_ne.mpr (Ne.symm (Nat.ne_of_lt I.big))) rel dd'))
  exact (hs.2 b (Nat.ne_of_lt (Heap.lt_size hq))).trans (Heap.get?_push_of_some _ hq)
end

section
variable {X : Cx} {pins : List (Addr × Obj)} {σ : St} {H : Hp} {s : Shared} {a : Addr} {y : V} {u : Value} {A : Around} {E : Value → Shared → Prop}
end
end L2

namespace Att
open PySem PySem.W PySem.Calls PyProof.Rows

/-! ### the script -/
theorem ints_of_wellAll {P : Params} {h : Heap} : ∀ (ns : List Int) (vs : List Value), WellAll P h vs (ns.map WData.int) → IntsAre vs ns := by
  intro ns
  induction ns with
  | nil =>
    intro vs w
    rw [List.map_nil] at w
    cases w
    exact .nil
  | cons n ns ih =>
    intro vs w
    rw [List.map_cons] at w
    cases w with
    | cons a b =>
      cases a
      exact .cons _ _ (ih _ b)

theorem script_of {l : OpenLaw} {n : Nat} (hn : l.most = some n) {P : Params} {h : Heap} {args : List WData} {vals : List Value}
    (hpre : l.row.toRowW.claim.pre args = true) (hwl : WellAll P h vals args) :
    ∃ a vs ns, vals = [Value.ref a] ∧ args = [WData.list (ns.map WData.int)] ∧ h.get? a = some { cls := .type "list", data := .seq vs.toArray } ∧ IntsAre vs ns ∧ ns.length ≤ n := by
  have hsh : WShape.hasAll [] args [.list .int] = true := (pre_splitW hpre).1
  have hc : l.pre.holds [] { args := args } = true := (pre_splitW hpre).2
  obtain ⟨d, r, rfl, h1, h2⟩ := hasAllW_cons hsh
  obtain rfl := hasAllW_nil h2
  obtain ⟨xs, rfl, h3⟩ := hasW_list h1
  obtain ⟨ns, rfl⟩ := items_int h3
  have hlen : ns.length ≤ n := by
    unfold OpenLaw.pre at hc
    have h4 : (WTm.not (.lt (.lit (.int (n : Int))) (.len (.arg 0)))).holds [] { args := [.list (ns.map .int)] } = true := by
      have h4 := (holds_andW hc).1
      rw [hn] at h4
      exact h4
    have h5 := condW_of h4 (w_not (w_lt w_lit (w_len_list (w_arg rfl))))
    rw [List.length_map] at h5
    refine Nat.le_of_not_lt fun q => ?_
    have q' : (n : Int) < ((ns.length : Nat) : Int) := by omega
    first
      | (rw [decide_eq_true q'] at h5; exact absurd h5 (by decide))
      | (simp at h5; omega)
  cases hwl with
  | cons w1 w2 =>
    cases w2
    cases w1 with
    | list ho hall => exact ⟨_, _, ns, rfl, rfl, ho, ints_of_wellAll ns _ hall, hlen⟩

theorem post_true (l : OpenLaw) (args : List WData) : l.row.toRowW.claim.post args (.bool true) args = true :=
  postW_of (r := l.row.toRowW) (X := (true == true))
    (show WShape.has [] (.bool true) .bool = true by first | rfl | decide | simp [WShape.has, WShape.arms, WShape.armsAll])
    (show (WTm.eq .res (.lit (.bool true))).value [] { args := args, res := some (.bool true), after := args } = some (.bool (true == true)) from w_eq_bool (w_res rfl) w_lit) rfl

/-! ### the attachment: holds_open's last premise (the goal 'hc' behind k_head) from a wpAny of the law's body -/
/-- the same from a codeAny of the CALL (for a layer whose function contracts speak of calls) -/
theorem attach_call {l : OpenLaw} {n : Nat} {q : Program} {loose : List Str} {XP : (Str → Option Value) → Heap → Prop} {YP : World → Heap → Prop} {d : DefRec}
    (hn : l.most = some n) (hdf : d.params.defaults = [])
    (call : ∀ (w : World) (s₀ s₁ : Shared) (mg mb : Str → Option Value) (fa : Addr) (o : Obj) (pm cd doc : Value) (a : Addr) (vs : List Value) (ns : List Int),
      Ground q loose [] XP w s₀ mg mb s₁.heap → YP w s₁.heap →
      s₁.heap.get? fa = some o → o.data = .func (docDef d.name d.params d.body d.scope pm cd doc) → s₁.heap.CodeRec cd d.name → mg d.name = some (.ref fa) →
      s₁.heap.get? a = some { cls := .type "list", data := .seq vs.toArray } → IntsAre vs ns → ns.length ≤ n → s₁.gens = #[] →
      codeAny (model l.prog w) callerA (.call (.ref fa) ⟨[.ref a], []⟩) (fun r s' => r = .ok (.ret (.bool true)) ∧ OldK s₁.heap s'.heap ∧ s'.os = s₁.os ∧ AllBare s'.gens) s₁) :
    WalkO q loose XP YP l.row.toRowW d [] (fun f vs => PySem.call f vs) := by
  intro w s₀ s₁ mg mb G Y fa o pm cd doc dV kV ho hd hcd hD hmg hg args vals as hpre hlay hrd hwl hlo
  obtain rfl : dV = .none := Dflts.none hD hdf
  obtain rfl : kV = .none := Dflts.noKw hD
  obtain ⟨a, vs, ns, rfl, rfl, hobj, hints, hlen⟩ := script_of hn hpre hwl
  refine enter_call (codeAny_mono (call w s₀ s₁ mg mb fa o pm cd doc a vs ns G Y ho (fd_plain hd) hcd hmg hobj hints hlen hg) fun r s' hq => ?_)
  obtain ⟨rfl, h2, h3, h4⟩ := hq
  exact ⟨.inl ⟨.bool true, .bool true, [], rfl, fun _ => rfl, .bool true, post_true l _, fun _ => ⟨List.Pairwise.nil, fun _ hm => (nomatch hm)⟩⟩, h2, h3, h4⟩

/-! ### rules over ANY heap (no ledger) from facts about the written part K: the library's own take a ledger (News) for what they write -/
section
variable {prog : Program} {w : World} {A : Around} {E : Value → Shared → Prop} {s : Shared} {K : Frag}

/-! the whole heap as the ledger: makes every rule that writes through a ledger a rule over any heap -/
def noObjs (h : Heap) : Heap := { h with objs := #[] }
def ledger (h : Heap) (L d : Addr) : List (Addr × Obj) := (List.range h.objs.size).filterMap fun a => if a = L ∨ a = d then none else (h.get? a).map fun o => (a, o)
end
end Att

namespace L2
open PySem PySem.Spec PyProof.Rows

theorem vals_ints : ∀ {vs : List Value} {ns : List Int}, IntsAre vs ns → Vals (ns.map V.int) vs
  | _, _, .nil => .nil
  | _, _, .cons n t h => .cons ⟨t, rfl⟩ (vals_ints h)

/-- nothing is tracked but the script, known to the object (or it is an object of the module) -/
def Only (H : Hp) : Prop := ∀ b, H b = none ∨ ∃ o xs, H b = some (.frz o (.lst xs))

end L2

namespace L2
open PySem PySem.Spec PyProof.Rows

abbrev KOf {K : PySem.W.Frag} {h : Heap} (_ : K.In h) : PySem.W.Frag := K

end L2

/- THE LAST THEOREM (shape; LID, My.* are yours):
   My.Adr: a structure of the addresses that your layer names (classes, functions); My.Txt K t: a structure (Prop) of the equations over K;
   My.txt_mk : {K} {implicit addresses ..} (e1 : nsIn K mainGlobals "law" = some (some (.ref f))) (e2 : K.lookup f = some ⟨oc, od, .func (fnOf "law" "law" params body scope dV kV doc pm an cdv ct), sl⟩) (e3 : codeIn K cdv "law" = true) .. : ∃ t, My.Txt K t

set_option maxRecDepth 100000 in
set_option maxHeartbeats 0 in
theorem PySem.Challenge.cw_LID_holds : PySem.Challenge.rw_LID.Holds := by
  w_on; o_law; k_head; (case hw => w_witness2)
  k_fill
  refine L2.walk_of (l := PySem.Challenge.rw_LID) (n := 63) (k := 40) (x := "script") (CX := fun w => ..) (sp := fun _ => My.sp_law) rfl (by decide) rfl ⟨rfl, by decide, by decide⟩ (fun w h Y => PySem.W.kIn_of Y) ?F ?S ?C
  case F =>
    intro w mg fa h KX G hmg
    have T : ∃ t, My.Txt (L2.KOf KX) t := by
      dsimp only [L2.KOf]                          -- K must stand as «<heap const> w.params» for k_is
      refine' My.txt_mk ?e1 ?e2 ?e3 ..
      (case e1 => PySem.W.k_is)                    -- in the order: a name -> its address -> its object -> its parts
      (case e2 => PySem.W.k_is)
      ..
    obtain ⟨t, T⟩ := T
    have e0 := hmg.symm.trans (PySem.W.mg_of KX G T.law)
    cases e0                                       -- fa is the law's own address
    exact ⟨_, fun s u => .of_eq rfl, fun base kb nb => My.law_fn T kb nb⟩     -- if «.of_eq rfl» comes too early: refine' ⟨_, ?b, fun base kb nb => My.law_fn T kb nb⟩; exact fun s u => .of_eq rfl
  case S => exact fun w H a ns hl hO hS => ..
  case C => exact ..
(the tactic k_is has no namespace: write k_is) -/

/-! SHORT WORDS over the layer: a def of the text, its body, what a loop and a test want. -/
namespace L2
open PySem PySem.Spec PyProof.Rows

/-! ### the text by places -/
/-- the j-th statement of a class's body -/
def inClass (s : Stmt) (j : Nat) : Stmt := match s with
  | .ClassDef _ _ _ body _ _ _ _ _ _ _ => body.getD j (.Pass ⟨0, 0, 0, 0⟩)
  | _ => .Pass ⟨0, 0, 0, 0⟩
def defArgs (s : Stmt) : Arguments := match s with
  | .FunctionDef _ a _ _ _ _ _ _ _ _ => a
  | _ => { posonlyargs := [], args := [], vararg := none, kwonlyargs := [], kw_defaults := [], kwarg := none, defaults := [] }
def defBody (s : Stmt) : List Stmt := match s with
  | .FunctionDef _ _ b _ _ _ _ _ _ _ => b
  | _ => []
def defScope (s : Stmt) : Scope := match s with
  | .FunctionDef _ _ _ _ _ _ sc _ _ _ => sc
  | _ => { kind := .function, names := [], isGenerator := false, isCoroutine := false }

/-! ### no exception leaves a def -/
abbrev CX0 : CXT := fun _ _ _ _ _ _ => False
abbrev E0 : XK := fun _ _ _ => False
theorem pass0 {X : Cx} : Passes CX0 X E0 := fun _ _ _ _ _ _ _ h => h.elim

/-! ### a def (or method) of the text as it stands behind the top -/
structure Fun (K : PySem.W.Frag) (x qual : Str) (st : Stmt) (f : Addr) (fd : FuncData) : Prop where
  ex : ∃ (oc : Value) (od : Option Addr) (kV doc pm : Value) (an : Option Addr) (cdv ct : Value) (osl : Array (Option Value)),
    fd = PySem.W.fnOf x qual (defArgs st) (defBody st) (defScope st) .none kV doc pm an cdv ct ∧ K.lookup f = some ⟨oc, od, .func fd, osl⟩ ∧ PySem.W.codeIn K cdv qual = true
  kp : PySem.W.keepIn K (.ref f) = true
section
variable {P : Program} {w : World} {K : PySem.W.Frag} {mg : Str → Option Value} {base : Heap}
/-- THE RULE for a def: its body as a term of rules, and the reading of that term -/
theorem Fun.ok {x qual : Str} {st : Stmt} {f : Addr} {fd : FuncData} {N ps : List Str} {k : Nat} {sp : Sp} (F : Fun K x qual st f fd) (S : FnScope N ps (defScope st)) (len : ∀ vs H Q E, sp vs H Q E → vs.length = ps.length)
    (hbody : ∀ (cdv : Value) (A : Around) (outer : List Env) (s : Shared) (H : Hp) (vs : List V) (Q : VK) (E : XK), Room k (A.deeper (envOfC qual (defScope st) s.heap.objs.size f cdv)) → sp vs H Q E →
      ∃ t, PSs (cxOf CX0 P w K mg base N qual (defScope st) f cdv A outer s H E).nox (defBody st) t ∧ t { nx := fun _ H' => Q .non H', rt := Q } (start N vs) H) : FnOk P w K mg base CX0 (k + 1) f fd ps sp := by
  obtain ⟨oc, od, kV, doc, pm, an, cdv, ct, osl, rfl, lk, hcd⟩ := F.ex
  refine fn_of lk hcd S len fun A outer s H vs Q E hr hsp => ?_
  obtain ⟨t, h, q⟩ := hbody cdv A outer s H vs Q E hr hsp
  exact ⟨t, h.nox, q⟩
/-- how its arguments bind (no defaults): h is «fun _ _ _ _ _ _ us hl => by obtain ⟨v0, v1, rfl⟩ := L2.ln2 hl; rfl», one _ a parameter -/
theorem Fun.binds {x qual : Str} {st : Stmt} {f : Addr} {fd : FuncData} {ps : List Str} (F : Fun K x qual st f fd)
    (h : ∀ (kV doc pm : Value) (an : Option Addr) (cdv ct : Value) (us : List Value), us.length = ps.length → bindArgs (PySem.W.fnOf x qual (defArgs st) (defBody st) (defScope st) .none kV doc pm an cdv ct) ⟨us, []⟩ = pure (ps.zip us)) : Binds K fd ps [] := by
  obtain ⟨oc, od, kV, doc, pm, an, cdv, ct, osl, rfl, lk, hcd⟩ := F.ex
  exact .all (h kV doc pm an cdv ct)
theorem fun_mk {x qual : Str} {st : Stmt} {f : Addr} {oc : Value} {od an : Option Addr} {osl : Array (Option Value)} {kV doc pm cdv ct : Value} (l : K.lookup f = some ⟨oc, od, .func (PySem.W.fnOf x qual (defArgs st) (defBody st) (defScope st) .none kV doc pm an cdv ct), osl⟩)
    (c : PySem.W.codeIn K cdv qual = true) (k : PySem.W.keepIn K (.ref f) = true) : Fun K x qual st f (PySem.W.fnOf x qual (defArgs st) (defBody st) (defScope st) .none kV doc pm an cdv ct) := ⟨⟨oc, od, kV, doc, pm, an, cdv, ct, osl, rfl, l, c⟩, k⟩
end
theorem hu_of {A : Around} {k : Nat} (hr : Room k A) : A.units + 1 < cLine := Nat.lt_of_le_of_lt (Nat.add_le_add_left (by decide : 1 ≤ 64) _) hr.units
/-! ### expressions in short: the name that stands in the i-th slot -/
section
variable {X : Cx}
theorem pv (i : Nat) {x : Str} {pos : Pos} (hN : X.N[i]? = some x := by rfl) (hv : Vis X.env.scope x := by first | exact Or.inl rfl | exact Or.inr (Or.inl rfl) | exact Or.inr (Or.inr rfl)) (hd : (x == ("__debug__" : Str)) = false := by decide)
    (hcd : (x == ("__classdict__" : Str)) = false := by decide) : PE X (.Name x pos) (tVar i) := pe_var hN hv hd hcd
end

/-! ### tests -/
theorem iteF {A B : Prop} (h : B) : if false = true then A else B := by
  rw [if_neg Bool.false_ne_true]
  exact h
theorem iteT {A B : Prop} (h : A) : if true = true then A else B := by
  rw [if_pos rfl]
  exact h
theorem ite2 {c A B : Prop} [Decidable c] (h1 : c → A) (h2 : ¬ c → B) : if c then A else B := by
  by_cases h : c
  · rw [if_pos h]
    exact h1 h
  · rw [if_neg h]
    exact h2 h
theorem iteNS {c A B : Prop} [Decidable c] (hc : c) (h : B) : if (!decide c) = true then A else B := by
  rw [decide_eq_true hc]
  exact iteF h

/-! ### heaps -/
/-- all that was tracked is as it was -/
def Same (H H' : Hp) : Prop := ∀ b o, H b = some o → H' b = some o
theorem Same.refl (H : Hp) : Same H H := fun _ _ h => h
theorem Same.trans {H H1 H2 : Hp} (a : Same H H1) (b : Same H1 H2) : Same H H2 := fun c o h => b c o (a c o h)
theorem Same.seq {K : PySem.W.Frag} {H H' : Hp} {a : Addr} {xs : List V} (e : Same H H') (h : SqL K H a xs) : SqL K H' a xs := by
  rcases h with (h | ⟨o, h⟩) | h
  · exact .inl (.inl (e _ _ h))
  · exact .inl (.inr ⟨o, e _ _ h⟩)
  · exact .inr h

section
variable {X : Cx}
/-- len of a dict -/
theorem call_lenD : CallR X (.builtin "len") (fun xs H Q => ∃ a kvs, xs = [V.ref a] ∧ H a = some (.dK kvs) ∧ Q (.int kvs.length) H) := by
  intro pins s σ H xs us Q I r h
  obtain ⟨a, kvs, rfl, ha, q⟩ := h
  obtain ⟨u, rfl, ru⟩ := vals1 r
  cases ru
  exact d_len I (.inl ha) fun t s' I' => ⟨.int kvs.length, H, I', ⟨t, rfl⟩, q⟩
end
/-! ### a dict's pairs: keys that differ -/
section
variable {κ : Type} [DecidableEq κ]
end
end L2

/-! MORE OF THE HAND LAYER (own work): comprehensions, texts walked and sliced, all, any, isinstance. -/
namespace L2
open PySem PySem.Spec PyProof.Rows

/-! ### the cells that a comprehension's block takes over -/
def closF (env : Env) (cs : List (Str × Addr)) (y : Str × NameKind) : List (Str × Addr) :=
  if (y.2 == NameKind.free) = true then (y.1, (env.cells.lookup y.1).getD 0) :: cs else cs
def closL (env : Env) (names : List (Str × NameKind)) : List (Str × Addr) := names.foldl (closF env) []
theorem clos_from {env : Env} : ∀ (names : List (Str × NameKind)) (cs : List (Str × Addr)), (∀ y ∈ names, y.2 = .free → ∃ c, env.cells.lookup y.1 = some c) →
    (forIn names cs fun y r => (if (y.2 == NameKind.free) = true then do let a ← cellOf env y.1; pure (ForInStep.yield ((y.1, a) :: r)) else pure (ForInStep.yield r) : Sem (ForInStep (List (Str × Addr))))) = pure (names.foldl (closF env) cs)
  | [], cs, _ => rfl
  | y :: r, cs, h => by
    rw [List.forIn_cons, List.foldl_cons]
    by_cases hy : (y.2 == NameKind.free) = true
    · obtain ⟨c, hc⟩ := h y List.mem_cons_self (eq_of_beq hy)
      have e : cellOf env y.1 = pure c := by unfold cellOf; rw [hc]
      rw [if_pos hy, e, pure_bind, pure_bind]
      have e2 : closF env cs y = (y.1, c) :: cs := by unfold closF; rw [if_pos hy, hc]; rfl
      rw [e2]
      exact clos_from r _ fun z hz => h z (List.mem_cons_of_mem _ hz)
    · rw [if_neg hy, pure_bind]
      have e2 : closF env cs y = cs := by unfold closF; rw [if_neg hy]
      rw [e2]
      exact clos_from r _ fun z hz => h z (List.mem_cons_of_mem _ hz)
theorem clos_ok {env : Env} {scope : Scope} (h : ∀ y ∈ scope.names, y.2 = .free → ∃ c, env.cells.lookup y.1 = some c) : closureFor scope env = pure (closL env scope.names) := by
  have e := clos_from (env := env) scope.names [] h
  unfold closL
  rw [← e]
  simp only [closureFor, bind_pure_comp, map_pure, bind_pure]
theorem clos_sub {env : Env} : ∀ (names : List (Str × NameKind)) (cs : List (Str × Addr)), (∀ y ∈ names, y.2 = .free → ∃ c, env.cells.lookup y.1 = some c) → (∀ x c, cs.lookup x = some c → env.cells.lookup x = some c) →
    ∀ x c, (names.foldl (closF env) cs).lookup x = some c → env.cells.lookup x = some c
  | [], cs, _, hc, x, c, e => hc x c e
  | y :: r, cs, h, hc, x, c, e => by
    rw [List.foldl_cons] at e
    refine clos_sub r _ (fun z hz => h z (List.mem_cons_of_mem _ hz)) (fun z d q => ?_) x c e
    unfold closF at q
    by_cases hy : (y.2 == NameKind.free) = true
    · obtain ⟨c', hc'⟩ := h y List.mem_cons_self (eq_of_beq hy)
      rw [if_pos hy, List.lookup_cons, hc'] at q
      cases hz : z == y.1 with
      | true =>
        rw [hz] at q
        have q' : c' = d := Option.some.inj q
        rw [eq_of_beq hz, hc', q']
      | false =>
        rw [hz] at q
        exact hc z d q
    · rw [if_neg hy] at q
      exact hc z d q
theorem clos_has {env : Env} : ∀ (names : List (Str × NameKind)) (cs : List (Str × Addr)) (x : Str), ((x, NameKind.free) ∈ names ∨ ∃ c, cs.lookup x = some c) → ∃ c, (names.foldl (closF env) cs).lookup x = some c
  | [], cs, x, h => by
    rcases h with h | h
    · cases h
    · exact h
  | y :: r, cs, x, h => by
    rw [List.foldl_cons]
    refine clos_has r _ x ?_
    rcases h with h | ⟨c, h⟩
    · rcases List.mem_cons.mp h with e | e
      · subst e
        refine .inr ⟨(env.cells.lookup x).getD 0, ?_⟩
        unfold closF
        rw [if_pos (show ((x, NameKind.free).2 == NameKind.free) = true from rfl), List.lookup_cons, beq_self_eq_true]
      · exact .inl e
    · refine .inr ?_
      unfold closF
      by_cases hy : (y.2 == NameKind.free) = true
      · rw [if_pos hy, List.lookup_cons]
        cases hz : x == y.1 with
        | true => exact ⟨_, rfl⟩
        | false => exact ⟨c, h⟩
      · rw [if_neg hy]
        exact ⟨c, h⟩

/-! ### a comprehension's block -/
/-- the context in which its element and its tests run -/
abbrev cxComp (X : Cx) (scope : Scope) (N : List Str) (s : Shared) (H : Hp) (fp : List Addr) : Cx where
  prog := X.prog
  w := X.w
  K := X.K
  mg := X.mg
  base := X.base
  A := X.A
  N := N
  s₀ := s
  H₀ := H
  env := compEnvC scope (closL X.env scope.names) s.heap.objs.size X.env
  outer := X.stack
  stack := X.stack
  ex := fp
  fn := fun _ => false
  calm := X.calm
  pn := []
  xe := fun _ _ => False

/-- what of the text of a comprehension must be seen: xs its own names, fr the places of the names that it reads from around -/
structure CompTx (osc scope : Scope) (N0 : List Str) (xs : List Str) (fr : List Nat) : Prop where
  kind : scope.kind = .function
  nocell : ∀ y ∈ scope.names, y.2 ≠ .cell
  names : ∀ y ∈ scope.names, y.2 = .local → scope.names.lookup y.1 = some .local
  free : ∀ y ∈ scope.names, y.2 = .free → osc.names.lookup y.1 = some .cell ∨ osc.names.lookup y.1 = some .free
  fro : ∀ j ∈ fr, ∃ x, N0[j]? = some x ∧ scope.names.lookup x = some .free
  nd : (xs ++ fr.map fun j => N0.getD j "").Nodup

def compN (N0 : List Str) (xs : List Str) (fr : List Nat) : List Str := xs ++ fr.map fun j => N0.getD j ""
def compSt (xs : List Str) (fr : List Nat) (σ : St) : St := xs.map (fun _ => none) ++ fr.map fun j => (σ[j]?).join

theorem mem_of_lookup' {κ : Type} : ∀ {l : List (Str × κ)} {x : Str} {k : κ}, l.lookup x = some k → (x, k) ∈ l
  | [], _, _, h => by cases h
  | (n, k') :: r, x, k, h => by
    rw [List.lookup_cons] at h
    cases hx : x == n with
    | true =>
      rw [hx] at h
      have h' : k' = k := Option.some.inj h
      rw [eq_of_beq hx, h']
      exact List.mem_cons_self
    | false =>
      rw [hx] at h
      exact List.mem_cons_of_mem _ (mem_of_lookup' h)
/-- what a name of the block is -/
theorem relabel_look {env : Env} : ∀ {names : List (Str × NameKind)} {x : Str} {k : NameKind},
    (names.map fun (n, k) => if (k == NameKind.free && env.scope.kind == .function && env.kindOf n == some .cell) then (n, NameKind.cell) else (n, k)).lookup x = some k →
    names.lookup x = some k ∨ (k = .cell ∧ names.lookup x = some .free)
  | [], _, _, h => by cases h
  | (n, k') :: r, x, k, h => by
    have ih := @relabel_look env r x k
    rw [List.map_cons] at h
    rw [List.lookup_cons]
    by_cases hc : (k' == NameKind.free && env.scope.kind == .function && env.kindOf n == some .cell) = true
    · have h' : List.lookup x ((n, NameKind.cell) :: (r.map fun (n, k) => if (k == NameKind.free && env.scope.kind == .function && env.kindOf n == some .cell) then (n, NameKind.cell) else (n, k))) = some k := by
        rw [← h]; simp only [hc, if_true]
      rw [List.lookup_cons] at h'
      cases hx : x == n with
      | true =>
        rw [hx] at h'
        have h2 : NameKind.cell = k := Option.some.inj h'
        rw [Bool.and_eq_true, Bool.and_eq_true] at hc
        exact .inr ⟨h2.symm, congrArg some (eq_of_beq hc.1.1)⟩
      | false =>
        rw [hx] at h'
        exact ih h'
    · have h' : List.lookup x ((n, k') :: (r.map fun (n, k) => if (k == NameKind.free && env.scope.kind == .function && env.kindOf n == some .cell) then (n, NameKind.cell) else (n, k))) = some k := by
        rw [← h]; simp only [hc]; rfl
      rw [List.lookup_cons] at h'
      cases hx : x == n with
      | true =>
        rw [hx] at h'
        exact .inl h'
      | false =>
        rw [hx] at h'
        exact ih h'
theorem relabel_free {env : Env} : ∀ {names : List (Str × NameKind)} {x : Str}, names.lookup x = some .free →
    (names.map fun (n, k) => if (k == NameKind.free && env.scope.kind == .function && env.kindOf n == some .cell) then (n, NameKind.cell) else (n, k)).lookup x = some .cell ∨
    (names.map fun (n, k) => if (k == NameKind.free && env.scope.kind == .function && env.kindOf n == some .cell) then (n, NameKind.cell) else (n, k)).lookup x = some .free
  | [], _, h => by cases h
  | (n, k') :: r, x, h => by
    have ih := @relabel_free env r x
    rw [List.lookup_cons] at h
    rw [List.map_cons]
    by_cases hc : (k' == NameKind.free && env.scope.kind == .function && env.kindOf n == some .cell) = true
    · have e : (match (n, k') with | (n, k) => if (k == NameKind.free && env.scope.kind == .function && env.kindOf n == some .cell) then (n, NameKind.cell) else (n, k)) = (n, NameKind.cell) := by
        simp only [hc, if_true]
      rw [e, List.lookup_cons]
      cases hx : x == n with
      | true => exact .inl rfl
      | false => rw [hx] at h; exact ih h
    · have e : (match (n, k') with | (n, k) => if (k == NameKind.free && env.scope.kind == .function && env.kindOf n == some .cell) then (n, NameKind.cell) else (n, k)) = (n, k') := by
        simp only [hc]; rfl
      rw [e, List.lookup_cons]
      cases hx : x == n with
      | true =>
        rw [hx] at h
        exact .inr h
      | false => rw [hx] at h; exact ih h

section
variable {X : Cx}
theorem comp_free {osc scope : Scope} {N0 xs : List Str} {fr : List Nat} {pins : List (Addr × Obj)} {σ : St} {H : Hp} {s : Shared} (C : CompTx osc scope N0 xs fr) (ho : X.env.scope = osc) (I : Inv X pins σ H s) :
    ∀ y ∈ scope.names, y.2 = .free → ∃ c, X.env.cells.lookup y.1 = some c := fun y hy e => by
  refine I.ok.has y.1 ?_
  rw [← ho] at C
  exact C.free y hy e

/-- the block's entry -/
theorem comp_start {osc scope : Scope} {N0 xs : List Str} {fr : List Nat} {pins : List (Addr × Obj)} {σ : St} {H : Hp} {s : Shared} {fp : List Addr} {h₁ : Heap} {tk : Nat} (C : CompTx osc scope N0 xs fr) (ho : X.env.scope = osc) (hN0 : X.N = N0) (I : Inv X pins σ H s)
    (hf : ∀ b ∈ fp, FpOk X pins H b) (hlt : ∀ b ∈ fp, b < s.heap.objs.size) (hn : h₁.Ns s.heap.objs.size fun _ => none) (hk : ∀ b o, s.heap.get? b = some o → h₁.get? b = some o) :
    Inv (cxComp X scope (compN N0 xs fr) s H fp) [] (compSt xs fr σ) H { s with heap := h₁, toks := tk } := by
  subst hN0
  have hfree := comp_free C ho I
  have sub := clos_sub (env := X.env) scope.names [] hfree (fun x c e => by cases e)
  have nC : ∀ x c, X.env.cells.lookup x = some c → c ≠ s.heap.objs.size := fun x c e z => by
    obtain ⟨v, q⟩ := I.cell x c e
    exact absurd q.lt (by rw [z]; exact Nat.lt_irrefl _)
  refine ⟨⟨I.ok.mod, C.kind, I.ok.glob, I.ok.blt, Nat.le_refl _, fun x y c h1 h2 => I.ok.inj x y c (sub x c h1) (sub y c h2), fun x hx => ?_, fun x c h _ => (Bool.false_ne_true h).elim, I.ok.hd, I.ok.frames, .inl rfl, fun b hb => ?_, I.bs, Nat.le_trans I.ok.bsz I.sz, fun b o e hb => ?_, fun b hb hz => ?_, I.stack, I.stkFree⟩,
    rfl, I.bare, Un.kept hk, ⟨_, hn, fun i x v h1 h2 h3 => ?_⟩, fun x c h => ?_, I.hok.fresh (Nat.le_refl _), fun x c h => I.freeC x c (sub x c h), fun p hp => absurd (show p ∈ ([] : List (Addr × Obj)) from hp) (by simp), I.hok.kept hk, ?_⟩
  · have hx' : (relabel scope X.env).names.lookup x = some .cell ∨ (relabel scope X.env).names.lookup x = some .free := hx
    refine clos_has (env := X.env) scope.names [] x (.inl ?_)
    rcases hx' with q | q
    · rcases relabel_look q with z | ⟨_, z⟩
      · exact absurd rfl (C.nocell _ (mem_of_lookup' z))
      · exact mem_of_lookup' z
    · rcases relabel_look q with z | ⟨z, _⟩
      · exact mem_of_lookup' z
      · cases z
  · exact ⟨Nat.ne_of_lt (hlt b hb), fun x c h => (hf b hb).2.2.2.2.1 x c (sub x c h)⟩
  · rcases (hf b hb).2.2.2.1 with z | z
    · exact I.ok.noex b o e z
    · exact absurd (Nat.lt_of_lt_of_le (Heap.lt_size e) (Nat.le_trans I.ok.bsz z)) (Nat.lt_irrefl _)
  · rcases List.mem_cons.mp (I.stkSub b hz) with z | z
    · exact (hf b hb).2.1 z
    · exact (hf b hb).2.2.1 z
  · -- a name that is set stands behind the block's own ones
    have hi : ¬ i < xs.length := fun hi => by
      unfold compSt at h2
      rw [List.getElem?_append_left (by rw [List.length_map]; exact hi), List.getElem?_map] at h2
      cases q : xs[i]? with
      | none => rw [q] at h2; cases h2
      | some y => rw [q] at h2; cases h2
    have hi' : xs.length ≤ i := Nat.le_of_not_lt hi
    have e2 : (fr.map fun j => (σ[j]?).join)[i - xs.length]? = some (some v) := by
      have := h2
      unfold compSt at this
      rw [List.getElem?_append_right (by rw [List.length_map]; exact hi'), List.length_map] at this
      exact this
    rw [List.getElem?_map] at e2
    cases q : fr[i - xs.length]? with
    | none => rw [q] at e2; cases e2
    | some j =>
      rw [q] at e2
      have e3 : (σ[j]?).join = some v := Option.some.inj e2
      have e4 : σ[j]? = some (some v) := by
        cases z : σ[j]? with
        | none => rw [z] at e3; cases e3
        | some u => rw [z] at e3; rw [show u = some v from e3]
      obtain ⟨y, hy, hyf⟩ := C.fro j (List.mem_of_getElem? q)
      have ex : x = y := by
        have h1' : (compN X.N xs fr)[i]? = some x := h1
        unfold compN at h1'
        rw [List.getElem?_append_right hi', List.getElem?_map, q] at h1'
        have h5 : X.N.getD j "" = x := Option.some.inj h1'
        rw [← h5, List.getD_eq_getElem?_getD, hy]
        rfl
      subst ex
      obtain ⟨m, _, hl⟩ := I.loc
      have kf := C.free _ (mem_of_lookup' hyf) rfl
      rw [← ho] at kf
      have vis : Vis X.env.scope x := by
        rcases kf with z | z
        · exact .inr (.inl z)
        · exact .inr (.inr z)
      obtain ⟨u, r, l⟩ := hl j x v hy e4 vis
      refine ⟨u, r, .inr ⟨relabel_free hyf, ?_⟩⟩
      rcases l with ⟨z, _⟩ | ⟨_, c, hc, hcell⟩
      · have z' : X.env.scope.names.lookup x = some .local := z
        rcases kf with w | w
        · rw [z'] at w; cases w
        · rw [z'] at w; cases w
      · obtain ⟨c', hc'⟩ := clos_has (env := X.env) scope.names [] x (.inl (mem_of_lookup' hyf))
        have e5 := sub x c' hc'
        rw [hc] at e5
        cases e5
        refine ⟨c, hc', ?_⟩
        obtain ⟨o, ho', hd⟩ := hcell
        exact ⟨o, hk _ _ ho', hd⟩
  · obtain ⟨v, o, ho', hd⟩ := I.cell x c (sub x c h)
    exact ⟨v, o, hk _ _ ho', hd⟩
  · show (compSt xs fr σ).length = (compN X.N xs fr).length
    unfold compSt compN
    simp
end
end L2

namespace L2
open PySem PySem.Spec PyProof.Rows

/-! ### the tests of a comprehension: none, or one -/
def PIf (X : Cx) (ifs : List Expr) (t : TT) : Prop :=
  ∀ (pins : List (Addr × Obj)) (s : Shared) (σ : St) (H : Hp) (Q : Bool → Hp → Prop), Inv X pins σ H s → t σ H Q →
    wpAny (model X.prog X.w) X.A (forIn ifs true fun c r => if r = true then do let ok ← isTrue c X.env (eval c X.env); pure (ForInStep.yield ok) else pure (ForInStep.yield r)) (TP X pins σ Q) X.xe s
def tYes : TT := fun _ H Q => Q true H
theorem pif_nil {X : Cx} : PIf X [] tYes := fun _ _ σ H Q I h => wpAny_tests_nil ⟨H, I, h⟩
/-- what is wanted of a comprehension's walk over J: W by the turn, a measure, the block's names, the heap; D the list; N behind an element that is kept, M behind one that is left out -/
def CompW (J : It) (g : TG) (tt : TT) (te : TE) (R : Addr → Hp → Prop) (D : Addr) (σ0 : St) (H0 : Hp) : Prop :=
  ∃ W : Nat → Nat → St → Hp → Prop, (∃ m, W 0 m σ0 H0) ∧ ∀ i m σ H, W i m σ H →
    (J.stop i H ∧ R D H) ∨
    (J.go i H ∧ ∃ (N : St → V → Hp → Prop) (M : St → Hp → Prop), (∀ σ2 y H4, N σ2 y H4 → ∃ ys, H4 D = some (.lst ys) ∧ ys.length < sizeLine ∧ ∃ m', m' < m ∧ W (i + 1) m' σ2 (upd H4 D (.lst (ys ++ [y])))) ∧
      (∀ σ2 H3, M σ2 H3 → ∃ m', m' < m ∧ W (i + 1) m' σ2 H3) ∧
      ∀ x H', J.yld i H x H' → g x σ H' fun σ2 H2 => tt σ2 H2 fun b H3 => if b = true then te σ2 H3 (N σ2) else M σ2 H3)
/-- [elt for tg in iter if ..] -/
def tComp (xs : List Str) (fr : List Nat) (wi : TI) (g : TG) (tt : TT) (te : TE) : TE := fun σ H Q => wi σ H fun J H1 => ∀ D, H1 D = none → CompW J g tt te (fun D H2 => Q (.ref D) H2) D (compSt xs fr σ) (upd H1 D (.lst []))
/-- x = [elt for tg in iter if ..], x in the i-th slot -/
def sComp (i : Nat) (xs : List Str) (fr : List Nat) (wi : TI) (g : TG) (tt : TT) (te : TE) : TS := fun E σ H => wi σ H fun J H1 => ∀ D, H1 D = none → CompW J g tt te (fun D H2 => E.nx (σ.set i (some (.ref D))) H2) D (compSt xs fr σ) (upd H1 D (.lst []))

section
variable {X : Cx}
theorem comp_block {osc scope : Scope} {N0 xs : List Str} {fr : List Nat} {pins : List (Addr × Obj)} {σ : St} {H2 : Hp} {s2 : Shared} {fp : List Addr} {it : Addr} {tn : Nat → Heap → Prop} {J : It} {elt tg iter : Expr} {ifs : List Expr} {pos : Pos}
    {g : TG} {tt : TT} {te : TE} {E : Value → Shared → Prop} {R : Addr → Hp → Prop} {RR : Value → Addr → Result → Shared → Prop} (C : CompTx osc scope N0 xs fr) (ho : X.env.scope = osc) (hN0 : X.N = N0) (hc : X.calm = true)
    (hg : ∀ s H fp, PG (cxComp X scope (compN N0 xs fr) s H fp) tg g) (ht : ∀ s H fp, PIf (cxComp X scope (compN N0 xs fr) s H fp) ifs tt) (he : ∀ s H fp, PE (cxComp X scope (compN N0 xs fr) s H fp) elt te)
    (I2 : Inv X pins σ H2 s2) (T : Turn X.prog X.w X.K tg J fp it tn) (st2 : tn 0 s2.heap) (f2 : ∀ b ∈ fp, FpOk X pins H2 b)
    (hR : ∀ D, H2 D = none → CompW J g tt te R D (compSt xs fr σ) (upd H2 D (.lst [])))
    (hRR : ∀ (D C : Addr) (s' : Shared) (H' : Hp) (m : Str → Option Value), Inv X pins σ H' s' → s'.heap.Ns C m → FpOk X pins H' C → R D H' → RR (.ref D) C (.ok .next) s') :
    wpAny (model X.prog X.w) X.A (newList []) (fun acc s₃ => wpAny (model X.prog X.w) X.A (newFunctionEnv scope X.env.globals (closL X.env scope.names) [] X.env.qual none .none (some X.env)) (fun cenv s₄ =>
      codeAny (model X.prog X.w) X.A (.compStart (.ListComp elt [⟨tg, iter, ifs, 0⟩] scope pos) 0 (.ref it) acc { cenv with scope := relabel scope X.env }) (RR acc cenv.locals) s₄) E s₃) E s2 := by
  refine wpAny_newObj_type (wpAny_newFunctionEnv C.nocell (by intro y hy; simp at hy) (fun h₁ hns₁ hsb₁ => ?_) C.kind)
  dsimp only at hns₁ hsb₁ ⊢
  have I3 : Inv X pins σ (upd H2 s2.heap.objs.size (.lst [])) { s2 with heap := s2.heap.push { cls := .type "list", data := .seq ([] : List Value).toArray } } := I2.lnew (its := []) (t' := s2.toks) .nil (by simp)
  have flt : ∀ b ∈ fp, b < s2.heap.objs.size := fun b hb => by
    obtain ⟨o, e, _⟩ := T.obj 0 _ st2 b hb
    exact Heap.lt_size e
  have f3 : ∀ b ∈ fp, FpOk X pins (upd H2 s2.heap.objs.size (.lst [])) b := fun b hb => ⟨by rw [upd_ne (Nat.ne_of_lt (flt b hb))]; exact (f2 b hb).1, (f2 b hb).2⟩
  have flt3 : ∀ b ∈ fp, b < (s2.heap.push { cls := .type "list", data := .seq ([] : List Value).toArray }).objs.size := fun b hb => by
    rw [Heap.size_push]
    exact Nat.lt_succ_of_lt (flt b hb)
  obtain ⟨W, ⟨m0, w0⟩, turn⟩ := hR s2.heap.objs.size I2.fresh
  generalize hD : s2.heap.objs.size = D at *
  generalize hs3 : s2.heap.push { cls := .type "list", data := .seq ([] : List Value).toArray } = h3 at *
  have up2 : ∀ b o, s2.heap.get? b = some o → h3.get? b = some o := fun b o e => by rw [← hs3]; exact Heap.get?_push_of_some _ e
  have old : ∀ b o, h3.get? b = some o → h₁.get? b = some o := fun b o e => hsb₁.extBut b o (Nat.ne_of_lt (Heap.lt_size e)) (Heap.get?_push_of_some _ e)
  have Ic := comp_start (tk := s2.toks + ([] : List (Str × Value)).length) C ho hN0 I3 f3 flt3 hns₁ old
  have st4 : tn 0 h₁ := T.keep 0 _ _ st2 fun b hb o e => old b o (up2 b o e)
  have stat : ∀ {H' : Hp}, (∀ b ∈ fp, H' b = none) → ∀ b ∈ fp, FpOk (cxComp X scope (compN N0 xs fr) { s2 with heap := h3 } (upd H2 D (.lst [])) fp) [] H' b := fun hn b hb =>
    ⟨hn b hb, Nat.ne_of_lt (flt3 b hb), fun z => by
      rcases List.mem_cons.mp (I3.stkSub b z) with q | q
      · exact (f3 b hb).2.1 q
      · exact (f3 b hb).2.2.1 q, .inl hb, fun x c h => (Ic.ok.exf b hb).2 x c h, fun p hp => absurd (show p ∈ ([] : List (Addr × Obj)) from hp) (by simp)⟩
  have fin : ∀ {σ' : St} {H' : Hp} {s' : Shared}, Inv (cxComp X scope (compN N0 xs fr) { s2 with heap := h3 } (upd H2 D (.lst [])) fp) [] σ' H' s' → R D H' → RR (.ref D) h3.objs.size (.ok .next) s' := fun {σ' H' s'} I' q => by
    obtain ⟨m, hm, _⟩ := I'.loc
    refine hRR D h3.objs.size s' H' m (I3.call' I'.os I'.base I'.hok I'.bare fun b hb => ?_) hm (I3.fpOk (Nat.le_refl _) I'.free) q
    exact ⟨(f3 b hb).2.2.2.1, (f3 b hb).2.1, (f3 b hb).2.2.2.2.1, (f3 b hb).2.2.2.2.2⟩
  have loop : codeAny (model X.prog X.w) X.A (.compLoop (.ListComp elt [⟨tg, iter, ifs, 0⟩] scope pos) 0 (.ref it) (.ref D) (compEnvC scope (closL X.env scope.names) h3.objs.size X.env)) (RR (.ref D) h3.objs.size) { s2 with heap := h₁, toks := s2.toks + ([] : List (Str × Value)).length } := by
    refine codeAny_loop rfl (fun n s' => ∃ i σ' H', Inv (cxComp X scope (compN N0 xs fr) { s2 with heap := h3 } (upd H2 D (.lst [])) fp) [] σ' H' s' ∧ tn i s'.heap ∧ (∀ b ∈ fp, H' b = none) ∧ W i n σ' H') (fun n s' hI => ?_) m0 ⟨0, _, _, Ic, st4, fun b hb => (f3 b hb).1, w0⟩
    show wpAny _ X.A ((compTurn (.ListComp elt [⟨tg, iter, ifs, 0⟩] scope pos) 0 (.ref it) (.ref D) (compEnvC scope (closL X.env scope.names) h3.objs.size X.env)).onRaise (fun x => do noteFrame x (compEnvC scope (closL X.env scope.names) h3.objs.size X.env); theTreesLotGoes x)) _ _ s'
    refine wpAny_noted ?_
    rw [compTurn_list]
    obtain ⟨i, σ', H', I', st', fr', w'⟩ := hI
    refine wpAny_bind (wpAny_standAt (wpAny_bind ?_))
    rcases turn i n σ' H' w' with ⟨stop, q⟩ | ⟨go, N, M, hN, hM, step⟩
    · refine thn (T.done (cxComp X scope (compN N0 xs fr) { s2 with heap := h3 } (upd H2 D (.lst [])) fp) rfl rfl rfl hc i [] s' σ' H' _ I' (stat fr') st' stop) fun r s4 ⟨hr, I4⟩ => ?_
      subst hr
      exact wpAny_pure (fin I4 q)
    · refine thn (T.item (cxComp X scope (compN N0 xs fr) { s2 with heap := h3 } (upd H2 D (.lst [])) fp) rfl rfl rfl hc i [] s' σ' H' _ I' (stat fr') st' go) fun r s4 ⟨u, hr, h4⟩ => ?_
      subst hr
      refine wpAny_bind (thn h4 fun _ s5 ⟨x, H5, I5, r5, y5, st5, fr5⟩ => ?_)
      have I5' := I5.pinned (stat fr5) (T.obj _ _ st5)
      have again : ∀ {σ7 : St} {H7 : Hp} {s7 : Shared}, Inv (cxComp X scope (compN N0 xs fr) { s2 with heap := h3 } (upd H2 D (.lst [])) fp) ([] ++ pinsAt fp s5.heap) σ7 H7 s7 → (∃ m', m' < n ∧ W (i + 1) m' σ7 H7) →
          ∃ m, m < n ∧ ∃ i σ' H', Inv (cxComp X scope (compN N0 xs fr) { s2 with heap := h3 } (upd H2 D (.lst [])) fp) [] σ' H' s7 ∧ tn i s7.heap ∧ (∀ b ∈ fp, H' b = none) ∧ W i m σ' H' := fun {σ7 H7 s7} I7 n7 => by
        obtain ⟨m', hm, w7⟩ := n7
        refine ⟨m', hm, i + 1, σ7, H7, I7.unpinned, T.keep _ _ _ st5 fun b hb o e => (I7.pin (b, o) (List.mem_append_right _ (List.mem_append_right _ (mem_pinsAt hb e)))).1, fun b hb => ?_, w7⟩
        obtain ⟨o, e, d⟩ := T.obj _ _ st5 b hb
        exact (I7.pin (b, o) (List.mem_append_right _ (List.mem_append_right _ (mem_pinsAt hb e)))).2.1
      refine wpAny_bind (wpAny_mono (hg _ _ _ _ s5 σ' H5 x u _ I5' r5 (step x H5 y5)) (fun _ s6 ⟨σ6, H6, I6, q6⟩ => ?_) fun _ _ z => False.elim z)
      refine wpAny_bind (wpAny_mono (ht _ _ _ _ s6 σ6 H6 _ I6 q6) (fun ok s7 ⟨H7, I7, q7⟩ => ?_) fun _ _ z => False.elim z)
      cases ok with
      | false =>
        rw [if_neg Bool.false_ne_true] at q7
        exact wpAny_pure ⟨rfl, again I7 (hM _ _ q7)⟩
      | true =>
        rw [if_pos rfl] at q7
        refine wpAny_bind (wpAny_bind (wpAny_mono (he _ _ _ _ s7 σ6 H7 _ I7 q7) (fun y s8 ⟨v, H8, I8, r8, q8⟩ => ?_) fun _ _ z => False.elim z))
        obtain ⟨ys, eD, hz, q8⟩ := hN _ _ _ q8
        refine wpAny_bind (wpAny_mono (mt_append (X := cxComp X scope (compN N0 xs fr) { s2 with heap := h3 } (upd H2 D (.lst [])) fp) _ s8 σ6 H8 (.ref D) [v] (.ref D) [y] (fun _ H9 => ∃ m', m' < n ∧ W (i + 1) m' σ6 H9) I8 rfl (.cons r8 .nil) ⟨D, ys, v, rfl, rfl, eD, hz, q8⟩) (fun _ s9 ⟨_, H9, I9, _, q9⟩ => ?_) fun _ _ z => False.elim z)
        exact wpAny_pure (wpAny_pure ⟨rfl, again I9 q9⟩)
  exact codeAny_compStart_list loop (T.self X.A 0 _ _ _ st4 loop)

variable {osc scope : Scope} {N0 xs : List Str} {fr : List Nat} {elt tg iter : Expr} {ifs : List Expr} {pos : Pos} {wi : TI} {g : TG} {tt : TT} {te : TE}
theorem pe_comp (C : CompTx osc scope N0 xs fr) (ho : X.env.scope = osc) (hN0 : X.N = N0) (hc : X.calm = true) (hi : PI X tg iter wi)
    (hg : ∀ s H fp, PG (cxComp X scope (compN N0 xs fr) s H fp) tg g) (ht : ∀ s H fp, PIf (cxComp X scope (compN N0 xs fr) s H fp) ifs tt) (he : ∀ s H fp, PE (cxComp X scope (compN N0 xs fr) s H fp) elt te)
    (hs : ∀ x, foldedSetIterable iter X.env x = pure x := by intro _; rfl) : PE X (.ListComp elt [⟨tg, iter, ifs, 0⟩] scope pos) (tComp xs fr wi g tt te) := by
  intro pins s σ H Q I h
  rw [eval_ListComp]
  refine wpAny_comprehension_free (use := none) rfl hs (clos_ok (comp_free C ho I)) C.kind C.names (thn (hi pins s σ H _ I h) fun v s1 h1 => thn h1 fun itv s2 h2 => ?_)
  obtain ⟨it, fp, tn, J, H2, e, I2, T, st2, f2, hR⟩ := h2
  subst e
  refine comp_block C ho hN0 hc hg ht he I2 T st2 f2 hR fun D C s' H' m I' hm fC q => ?_
  refine ⟨m, hm, fun h' sb => ⟨.ref D, H', ?_, rfl, q⟩⟩
  exact I'.turned (t' := s'.toks) (fun b o hb e => (sb.2 b hb).trans e) fC.1 fC.2.1 fC.2.2.2.1 fC.2.2.2.2.1 fC.2.2.2.2.2
theorem ps_comp {i : Nat} {y : Str} {py spos : Pos} (C : CompTx osc scope N0 xs fr) (ho : X.env.scope = osc) (hN0 : X.N = N0) (hc : X.calm = true) (hi : PI X tg iter wi)
    (hg : ∀ s H fp, PG (cxComp X scope (compN N0 xs fr) s H fp) tg g) (ht : ∀ s H fp, PIf (cxComp X scope (compN N0 xs fr) s H fp) ifs tt) (he : ∀ s H fp, PE (cxComp X scope (compN N0 xs fr) s H fp) elt te)
    (hN : X.N.Nodup) (hy : X.N[i]? = some y) (hx : Loc X.env.scope y)
    (hsw : swapsWith (.ListComp elt [⟨tg, iter, ifs, 0⟩] scope pos) (some (.Name y py)) spos.line X.env = pure true := by rfl)
    (hf : X.fn y = true ∨ X.env.scope.names.lookup y = some .local := by first | exact .inl rfl | exact .inr rfl | assumption)
    (hs : ∀ x, foldedSetIterable iter X.env x = pure x := by intro _; rfl) : PS X (.Assign [.Name y py] (.ListComp elt [⟨tg, iter, ifs, 0⟩] scope pos) spos) (sComp i xs fr wi g tt te) := by
  intro pins s σ H D I h
  rw [exec_Assign_Name_used _ _ _ _ hsw]
  refine wpAny_bind (wpAny_standAt (wpAny_bind ?_))
  show wpAny _ X.A (do let _ ← comprehension (.ListComp elt [⟨tg, iter, ifs, 0⟩] scope pos) scope X.env _ (newList []) false (eval iter X.env) (some (assign (.Name y py) X.env))) _ _ s
  refine wpAny_bind (wpAny_mono (wpAny_comprehension_free (use := some (assign (.Name y py) X.env)) (Q := fun _ s' => SP X pins D .next s') rfl hs (clos_ok (comp_free C ho I)) C.kind C.names
    (thn (hi pins s σ H _ I h) fun v s1 h1 => thn h1 fun itv s2 h2 => ?_)) (fun _ s' hq => wpAny_pure (wpAny_pure hq)) fun _ _ e => e)
  obtain ⟨it, fp, tn, J, H2, e, I2, T, st2, f2, hR⟩ := h2
  subst e
  refine comp_block C ho hN0 hc hg ht he I2 T st2 f2 hR fun Dl C s' H' m I' hm fC q => ?_
  refine wpAny_assign_Name (store_ok2 I' hN hy hx (show RelV (.ref Dl) (.ref Dl) from rfl) (fun s3 I3 hsb => ?_) hf)
  obtain ⟨a, sb, ha⟩ := hsb
  have hCa : C ≠ a := by
    rcases ha with z | z
    · rw [z]; exact fC.2.1
    · exact fun w => fC.2.2.2.2.1 y a z w.symm
  refine ⟨m, hm.sameBut sb hCa, fun h' sb' => ⟨_, H', ?_, q⟩⟩
  exact I3.turned (t' := s3.toks) (fun b o hb e => (sb'.2 b hb).trans e) fC.1 fC.2.1 fC.2.2.2.1 fC.2.2.2.2.1 fC.2.2.2.2.2
end

/-! ### a text, walked sign by sign -/
def Its (x : Str) : It := ⟨fun i _ => i < x.cps.size, fun i H v H' => H' = H ∧ ∃ c, x.cps[i]? = some c ∧ v = .str ⟨#[c]⟩, fun i _ => x.cps.size ≤ i⟩
theorem strIter_ty (x : Str) : strIterType x = "str_ascii_iterator" ∨ strIterType x = "str_iterator" := by
  unfold strIterType
  split
  · exact .inl rfl
  · exact .inr rfl
theorem turn_str {P : Program} {w : World} {K : PySem.W.Frag} {tg : Expr} (x : Str) (t : Tok) (it : Addr) : Turn P w K tg (Its x) [it] it (fun i h => h.IsStrIter it (strIterType x) x t i) where
  mem := by simp
  obj := fun i h st b hb => by
    have e : b = it := by simpa using hb
    subst e
    obtain ⟨o, e, c, d⟩ := st
    exact ⟨o, e, fun v z => by rw [d] at z; cases z⟩
  keep := fun i h h' st k => by
    obtain ⟨o, e, r⟩ := st
    exact ⟨o, k it (by simp) o e, r⟩
  item := by
    intro X hP hw hK hc i pins s σ H E I hf st hg
    subst hP hw hK
    have hg' : i < x.cps.size := hg
    obtain ⟨f0, f1, f2, f3, f4, f5⟩ := hf it (by simp)
    have key : ∀ h', h'.IsStrIter it (strIterType x) x t (i + 1) → Heap.SameBut it s.heap h' → ∃ u, some (Value.str ⟨#[x.cps[i]]⟩ s.toks) = some u ∧
      wpAny (model X.prog X.w) X.A (letOwnedTupleGo tg (.ref it) u) (fun _ s2 => ∃ v H', Inv X pins σ H' s2 ∧ RelV v u ∧ (Its x).yld i H v H' ∧ s2.heap.IsStrIter it (strIterType x) x t (i + 1) ∧ ∀ b ∈ [it], H' b = none) E { s with heap := h', toks := s.toks + 1 } := fun h' st' sb => by
      have I1 : Inv X pins σ H { s with heap := h', toks := s.toks + 1 } := I.turned (t' := s.toks + 1) (fun b o hb e => (sb.2 b hb).trans e) f0 f1 f3 f4 f5
      obtain ⟨o, e, c, d⟩ := id st'
      refine ⟨_, rfl, go_of (s := { s with heap := h', toks := s.toks + 1 }) e c d ?_ ⟨.str ⟨#[x.cps[i]]⟩, H, I1, ⟨_, rfl⟩, ⟨rfl, _, by simp [hg'], rfl⟩, st', fun b hb => (hf b hb).1⟩⟩
      rcases strIter_ty x with z | z <;> rw [z] <;> decide
    rcases strIter_ty x with z | z
    · rw [z] at st key
      rw [z]
      exact wpAny_pyNext_ascii_item st (c := x.cps[i]) (by simp [hg']) fun h' a b => key h' a b
    · rw [z] at st key
      rw [z]
      exact wpAny_pyNext_wide_item st (c := x.cps[i]) (by simp [hg']) fun h' a b => key h' a b
  done := by
    intro X hP hw hK hc i pins s σ H E I hf st hg
    subst hP hw hK
    have hg' : x.cps.size ≤ i := hg
    obtain ⟨f0, f1, f2, f3, f4, f5⟩ := hf it (by simp)
    have hx : x.cps[i]? = none := by simp [hg']
    rcases strIter_ty x with z | z
    · rw [z] at st
      exact wpAny_pyNext_ascii_end (I.ok.hd hc) st hx fun h' eb => ⟨rfl, I.turned (t' := s.toks) (fun b o hb e => eb b o hb e) f0 f1 f3 f4 f5⟩
    · rw [z] at st
      exact wpAny_pyNext_wide_end (I.ok.hd hc) st hx fun h' eb => ⟨rfl, I.turned (t' := s.toks) (fun b o hb e => eb b o hb e) f0 f1 f3 f4 f5⟩
  self := fun A i s Q E st h => by
    rcases strIter_ty x with z | z
    · rw [z] at st
      exact wpAny_pyIter_striter_ascii st h
    · rw [z] at st
      exact wpAny_pyIter_striter_wide st h
section
variable {X : Cx} {tg : Expr}
def iStr (tl : TE) : TI := fun σ H R => tl σ H fun x H1 => ∃ z, x = .str z ∧ R (Its z) H1
theorem pi_str {l : Expr} {tl : TE} (hl : PE X l tl) : PI X tg l (iStr tl) := by
  intro pins s σ H R I h
  refine thn (hl pins s σ H _ I h) fun v s1 ⟨x, H1, I1, r1, q1⟩ => ?_
  obtain ⟨z, e, q⟩ := q1
  subst e
  obtain ⟨t, rfl⟩ := r1
  refine wpAny_pyIter_strU ?_
  refine ⟨s1.heap.objs.size, [s1.heap.objs.size], _, _, H1, rfl, I1.kept (t' := s1.toks) fun b o e => Heap.get?_push_of_some _ e, turn_str z t _, ⟨_, Heap.get?_push_size _ rfl, rfl, rfl⟩, fun b hb => ?_, q⟩
  have e : b = s1.heap.objs.size := by simpa using hb
  subst e
  exact I1.fpOk (Nat.le_refl _) (I1.hok.fresh (Nat.le_refl _))

/-! ### all, any of a list of truths -/
theorem bools_of : ∀ {bs : List Bool} {us : List Value}, Vals (bs.map V.bl) us → LSm.BoolsAre us bs
  | [], _, r => by rw [List.map_nil] at r; cases r; exact .nil
  | b :: bs, _, r => by
    rw [List.map_cons] at r
    cases r with
    | cons h t =>
      cases h
      exact .cons b (bools_of t)
theorem call_all (hc : X.calm = true) : CallR X (.builtin "all") (fun xs H Q => ∃ (p : Addr) (bs : List Bool), xs = [.ref p] ∧ SqL X.K H p (bs.map V.bl) ∧ Q (.bl (bs.all id)) H) := by
  intro pins s σ H xs us Q I r h
  obtain ⟨l, bs, rfl, hq, q⟩ := h
  obtain ⟨u, rfl, rx⟩ := vals1 r
  cases rx
  obtain ⟨vs, r', pl, hz⟩ := I.list hq
  have hb : LSm.BoolsAre vs bs := bools_of r'
  have hl := pl.isList
  have hlt : l < s.heap.objs.size := by obtain ⟨_, e, _⟩ := hl; exact Heap.lt_size e
  refine call_all_walk (wpAny_pyIter_list hl ?_)
  refine ⟨s.heap.objs.size, [s.heap.objs.size, l], [s.heap.objs.size], vs.toArray.size, _, _, fun i => (bs[i]?).getD true, rfl, Walks.list (A := X.A.in1) (I.ok.hd hc) _ l (Nat.ne_of_lt hlt) vs.toArray,
    ⟨⟨_, Heap.get?_push_size _ rfl, rfl, rfl⟩, hl.push _⟩, fun i v s' Q' E' hP hQ => ?_, fun h' tk hk => ?_⟩
  · obtain ⟨b, e, rfl⟩ := hb.get i v (by simpa using hP)
    simp only [e, Option.getD_some] at hQ
    exact wpAny_truthy_bool hQ
  · have e : ((List.range vs.toArray.size).all fun i => (bs[i]?).getD true) = bs.all id := by
      rw [List.size_toArray, hb.length]; exact LSm.range_all bs
    rw [e]
    exact ⟨.bl (bs.all id), H, I.kept (LSm.kept_iter hk), rfl, q⟩
/-! ### isinstance(x, T), T a built-in type -/
theorem call_isi : CallR X (.builtin "isinstance") (fun xs H Q => ∃ x n t b, xs = [x, .ty n] ∧ TyOf X.K H x t ∧ PySem.W.kitOne X.K t (.type n) = some b ∧ Q (.bl b) H) := by
  intro pins s σ H xs us Q I r h
  obtain ⟨x, n, t, b, rfl, ty, e, q⟩ := h
  obtain ⟨u, w', rfl, rx, rc⟩ := vals2 r
  cases (show w' = Value.type n from rc)
  exact isinst_ok I rx ty e fun tk => ⟨.bl b, H, I.tok tk, rfl, q⟩

/-! ### products of any two ints that the model multiplies -/
end

/-! ### slices of a text -/
section
variable {X : Cx}
theorem sl_str : SlR X (fun x lo hi H Q => ∃ z, x = .str z ∧ z.length ≤ sizeLine ∧ Q (.str (Txt.slice z lo hi)) H) := by
  intro pins s σ H x v vl vu lo hi sl Q I rx hs pl pu h
  obtain ⟨z, rfl, hz, q⟩ := h
  obtain ⟨t, rfl⟩ := rx
  refine ⟨"str", _, F.slot_str_getitem.lookup, typeIs_str _ _ _, ?_⟩
  obtain ⟨o, e1, e2, e3⟩ := hs
  have fin : ∀ (l u : Option (Int × Tok)), vl = partValue l → vu = partValue u → l.map (·.1) = lo → u.map (·.1) = hi → wpAny (model X.prog X.w) X.A (getItem (.str z t) (.ref sl)) (EP X pins σ Q) X.xe s := by
    intro l u h1 h2 h3 h4
    subst h1 h2 h3 h4
    refine wpAny_getItem_str_slice (l := l) (u := u) (st := none) ⟨o, e1, e2, e3⟩ rfl (post_val_or_str ⟨Nat.le_trans (Txt.slice_le z (l.map (·.1)) (u.map (·.1))) hz, fun t' k => ?_⟩)
    exact ⟨.str (Txt.slice z (l.map (·.1)) (u.map (·.1))), H, I.tok k, ⟨t', rfl⟩, q⟩
  cases pl with
  | none =>
    cases pu with
    | none => exact fin none none rfl rfl rfl rfl
    | int j tj => exact fin none (some (j, tj)) rfl rfl rfl rfl
  | int i ti =>
    cases pu with
    | none => exact fin (some (i, ti)) none rfl rfl rfl rfl
    | int j tj => exact fin (some (i, ti)) (some (j, tj)) rfl rfl rfl rfl
end
theorem slice_to (x : Str) {k : Int} (h0 : 0 ≤ k) (h1 : k ≤ x.length) : (Txt.slice x none (some k)).cps.toList = x.cps.toList.take k.toNat := by
  have e : Txt.slice x none (some k) = StrLaws.sliceText x none (some k) := rfl
  rw [e, StrLaws.sliceText_to ⟨h0, by simpa [Str.length] using h1⟩]
  simp
/-! ### a comprehension without tests whose i-th item is ev i -/
theorem compW_map {J : It} {g : TG} {te : TE} {R : Addr → Hp → Prop} {D : Addr} {σ0 : St} {H0 : Hp} (n : Nat) (ev : Nat → V) (Pv : Nat → St → Hp → Prop) (hn : n ≤ sizeLine) (h0 : Pv 0 σ0 H0) (hD0 : H0 D = some (.lst []))
    (hs : ∀ i σ H, i < n → Pv i σ H → H D = some (.lst ((List.range i).map ev)) → J.go i H ∧ ∀ x H', J.yld i H x H' → g x σ H' fun σ2 H2 => te σ2 H2 fun y H4 => y = ev i ∧ H4 D = some (.lst ((List.range i).map ev)) ∧ Pv (i + 1) σ2 (upd H4 D (.lst ((List.range (i + 1)).map ev))))
    (hd : ∀ σ H, Pv n σ H → H D = some (.lst ((List.range n).map ev)) → J.stop n H ∧ R D H) : CompW J g tYes te R D σ0 H0 := by
  refine ⟨fun i m σ H => m = n - i ∧ i ≤ n ∧ Pv i σ H ∧ H D = some (.lst ((List.range i).map ev)), ⟨n, by omega, Nat.zero_le _, h0, hD0⟩, ?_⟩
  rintro i m σ H ⟨rfl, hi, p, hD⟩
  by_cases hlt : i < n
  · obtain ⟨go, st⟩ := hs i σ H hlt p hD
    refine .inr ⟨go, fun σ2 y H4 => y = ev i ∧ H4 D = some (.lst ((List.range i).map ev)) ∧ Pv (i + 1) σ2 (upd H4 D (.lst ((List.range (i + 1)).map ev))), fun _ _ => False, ?_, fun _ _ z => z.elim, st⟩
    rintro σ2 y H4 ⟨rfl, e, p'⟩
    refine ⟨_, e, by simp; omega, n - (i + 1), by omega, rfl, hlt, ?_, ?_⟩
    · rw [List.range_succ, List.map_append] at p'
      exact p'
    · rw [upd_same, List.range_succ, List.map_append]
      rfl
  · have e : i = n := by omega
    subst e
    exact .inl (hd σ H p hD)
theorem range_map_getD {α β : Type} (l : List α) (d : α) (f : α → β) : ((List.range l.length).map fun i => f (l.getD i d)) = l.map f := by
  apply List.ext_getElem?
  intro i
  rw [List.getElem?_map, List.getElem?_map]
  by_cases h : i < l.length
  · rw [List.getElem?_range h, List.getElem?_eq_getElem h]
    simp [List.getD_eq_getElem?_getD, List.getElem?_eq_getElem h]
  · rw [List.getElem?_eq_none (by simpa using h), List.getElem?_eq_none (by simpa using h)]
    rfl

/-! ### types under a grown heap -/
theorem Same.upd {H : Hp} {D : Addr} {o : HO} (h : H D = none) : Same H (L2.upd H D o) := fun b u e => by
  rw [upd_ne (ne_of_none e h)]
  exact e
/-! ### a block in two parts -/
end L2

namespace L2
open PySem PySem.Spec PyProof.Rows
/-! ### isinstance by two built-in types -/
def kitTy (a b : String) : Option Bool := if (Value.type a == Value.type b) = true then some true else if PySem.W.kitMeta b = true then (fastBuiltinMro a).map (·.contains (.type b)) else none
theorem kit_eq {K : PySem.W.Frag} {a b : String} : PySem.W.kitOne K (.type a) (.type b) = kitTy a b := rfl
/-- the kinds of values that the laws hand in -/
def tyNames : List String := ["NoneType", "bool", "int", "str", "list", "tuple", "dict"]
theorem kit_int : ∀ n ∈ tyNames, kitTy n "int" = some (n == "int" || n == "bool") := by decide +kernel
theorem kit_bool : ∀ n ∈ tyNames, kitTy n "bool" = some (n == "bool") := by decide +kernel
theorem kit_str : ∀ n ∈ tyNames, kitTy n "str" = some (n == "str") := by decide +kernel
theorem kit_tuple : ∀ n ∈ tyNames, kitTy n "tuple" = some (n == "tuple") := by decide +kernel
/-- v is of the built-in type n, one of those -/
def Is (K : PySem.W.Frag) (H : Hp) (v : V) (n : String) : Prop := TyOf K H v (.type n) ∧ n ∈ tyNames
theorem Is.non {K : PySem.W.Frag} {H : Hp} : Is K H .non "NoneType" := ⟨.non, by decide⟩
theorem Is.bl {K : PySem.W.Frag} {H : Hp} {b : Bool} : Is K H (.bl b) "bool" := ⟨.bl b, by decide⟩
theorem Is.int {K : PySem.W.Frag} {H : Hp} {i : Int} : Is K H (.int i) "int" := ⟨.int i, by decide⟩
theorem Is.str {K : PySem.W.Frag} {H : Hp} {x : Str} : Is K H (.str x) "str" := ⟨.str x, by decide⟩
theorem Is.lst {K : PySem.W.Frag} {H : Hp} {a : Addr} {xs : List V} (h : H a = some (.lst xs)) : Is K H (.ref a) "list" := ⟨.lst h, by decide⟩
theorem Is.tup {K : PySem.W.Frag} {H : Hp} {a : Addr} {xs : List V} (h : H a = some (.tup xs)) : Is K H (.ref a) "tuple" := ⟨.tup h, by decide⟩
theorem Is.dK {K : PySem.W.Frag} {H : Hp} {a : Addr} {kvs : List (Key × V)} (h : H a = some (.dK kvs)) : Is K H (.ref a) "dict" := ⟨.dK h, by decide⟩
theorem Is.str_of {K : PySem.W.Frag} {H : Hp} {v : V} (h : Is K H v "str") : ∃ x, v = .str x := by
  obtain ⟨t, _⟩ := h
  generalize e : Value.type "str" = u at t
  cases t <;> first | exact ⟨_, rfl⟩ | exact absurd (Value.type.inj e) (by decide) | cases e
/-! ### a def of the top -/
def DefIn (K : PySem.W.Frag) (x : Str) (st : Stmt) : Prop := ∃ (f : Addr) (oc : Value) (od : Option Addr) (kV doc pm : Value) (an : Option Addr) (cdv ct : Value) (osl : Array (Option Value)),
  PySem.W.nsIn K mainGlobals x = some (some (.ref f)) ∧ K.lookup f = some ⟨oc, od, .func (PySem.W.fnOf x x (defArgs st) (defBody st) (defScope st) .none kV doc pm an cdv ct), osl⟩ ∧ PySem.W.codeIn K cdv x = true ∧ PySem.W.keepIn K (.ref f) = true
theorem defIn_mk {K : PySem.W.Frag} {x : Str} {st : Stmt} {f : Addr} {oc : Value} {od an : Option Addr} {osl : Array (Option Value)} {kV doc pm cdv ct : Value} (a : PySem.W.nsIn K mainGlobals x = some (some (.ref f)))
    (l : K.lookup f = some ⟨oc, od, .func (PySem.W.fnOf x x (defArgs st) (defBody st) (defScope st) .none kV doc pm an cdv ct), osl⟩) (c : PySem.W.codeIn K cdv x = true) (k : PySem.W.keepIn K (.ref f) = true) : DefIn K x st :=
  ⟨f, oc, od, kV, doc, pm, an, cdv, ct, osl, a, l, c, k⟩
/-- .. as a body that calls it sees it -/
structure Df (K : PySem.W.Frag) (mg : Str → Option Value) (x : Str) (st : Stmt) (f : Addr) (fd : FuncData) : Prop where
  fn : Fun K x x st f fd
  mg : mg x = some (.ref f)
theorem DefIn.df {K : PySem.W.Frag} {h : Heap} {mg : Str → Option Value} {x : Str} {st : Stmt} (d : DefIn K x st) (X : K.In h) (G : h.Ns mainGlobals mg) : ∃ f fd, Df K mg x st f fd := by
  obtain ⟨f, oc, od, kV, doc, pm, an, cdv, ct, osl, a, l, c, k⟩ := d
  exact ⟨f, _, fun_mk l c k, PySem.W.mg_of X G a⟩
end L2

namespace PySem.SeqAt
open MeetsSeq
open AutoSeq1 (wpAny_loadPart')
/-! ### a dict and a text are never equal -/
theorem dict_eq_declines_str (l : Addr) (es : Array DictEntry) (ep : Nat) (dd : Option Addr) (sl : Array (Option Value)) (b : Str) (u : Tok) :
    Meets (Builtin.«dict.__eq__» ⟨[.ref l, .str b u], []⟩) (fun _ R s => s.heap.get? l = some { cls := .type "dict", dict := dd, data := .dict es ep, slots := sl } ∧ R (.ok (.ret .notImplemented)) s) :=
  .of_wp fun prog w A R s h => by obtain ⟨hp, g, d, tk, os⟩ := s; obtain ⟨hl, h⟩ := h; have f1 := F.sub_str_dict; wp_walk using wpAny_loadPart' hl; exact ⟨_, rfl, h⟩
theorem str_eq_declines_dict (b : Str) (u : Tok) (l : Addr) (c : Value) (es : Array DictEntry) (ep : Nat) (dd : Option Addr) (sl : Array (Option Value)) :
    Meets (Builtin.«str.__eq__» ⟨[.str b u, .ref l], []⟩) (fun _ R s => s.heap.get? l = some { cls := c, dict := dd, data := .dict es ep, slots := sl } ∧ R (.ok (.ret .notImplemented)) s) :=
  .of_wp fun prog w A R s h => by obtain ⟨hp, g, d, tk, os⟩ := s; obtain ⟨hl, h⟩ := h; wp_walk using wpAny_loadPart' hl, wpAny_load hl; exact ⟨_, rfl, h⟩
section
variable {A : Around} {s : Shared}
theorem RcAt.dict_str {l : Addr} {o : Obj} {es : Array DictEntry} {ep : Nat} (b : Str) (u : Tok) (ho : s.heap.get? l = some o) (hc : o.cls = .type "dict") (hd : o.data = .dict es ep) (hu : A.units < cLine) : RcAt A s (.ref l) (.str b u) false := fun prog w E Q h => by
  obtain ⟨cls, dd, data, sl⟩ := o
  simp only at hc hd
  subst hc hd
  exact rc_eq_decline_or (k := false) ⟨_, ho, rfl⟩ (typeIs_str s b u) (by decide) F.sub_str_dict F.slot_dict_eq F.slot_str_eq_refl
    (fun _ hq => call_meets F.slot_dict_eq ⟨_, ho, rfl⟩ F.entry_dict_eq (F.args_dict_eq_2 _ _) (dict_eq_declines_str l es ep dd sl b u) ⟨ho, hq⟩)
    (fun _ hq => call_meets F.slot_str_eq_refl (typeIs_str s b u) F.entry_str_eq (F.args_str_eq_2 _ _) (str_eq_declines_dict b u l (.type "dict") es ep dd sl) ⟨ho, hq⟩)
    (fun _ hq => wpAny_of_eq (rfl : isSame (.ref l) (.str b u) = pure false) hq) (.inr hu) h
theorem EqAt.str_dict {l : Addr} {o : Obj} {es : Array DictEntry} {ep : Nat} (b : Str) (u : Tok) (ho : s.heap.get? l = some o) (hc : o.cls = .type "dict") (hd : o.data = .dict es ep) (hu : A.units < cLine) : EqAt A s (.str b u) (.ref l) false := fun prog w E Q h => by
  obtain ⟨cls, dd, data, sl⟩ := o
  simp only at hc hd
  subst hc hd
  unfold eqBool
  refine wpAny_holding ?_
  refine wpAny_ite_split (fun hab => absurd (eq_of_beq hab) nofun) (fun _ => ?_)
  refine wpAny_bind (rc_eq_decline_or (k := false) (typeIs_str s b u) ⟨_, ho, rfl⟩ (by decide) F.sub_dict_str F.slot_str_eq F.slot_dict_eq_refl
    (fun _ hq => call_meets F.slot_str_eq (typeIs_str s b u) F.entry_str_eq (F.args_str_eq_2 _ _) (str_eq_declines_dict b u l (.type "dict") es ep dd sl) ⟨ho, hq⟩)
    (fun _ hq => call_meets F.slot_dict_eq_refl ⟨_, ho, rfl⟩ F.entry_dict_eq (F.args_dict_eq_2 _ _) (dict_eq_declines_str l es ep dd sl b u) ⟨ho, hq⟩)
    (fun _ hq => wpAny_of_eq (rfl : isSame (.str b u) (.ref l) = pure false) hq) (.inr hu) (wpAny_truthy_bool h))
end
end PySem.SeqAt

namespace L2
open PySem PySem.Spec PyProof.Rows
/-! ### things, without the heap -/
inductive Dt where
  | non | bl (b : Bool) | int (i : Int) | str (z : Str) | tup (ds : List Dt) | lst (ds : List Dt) | dct
mutual
/-- the value v is the thing d -/
def Rep (H : Hp) : Dt → V → Prop
  | .non, v => v = .non
  | .bl b, v => v = .bl b
  | .int i, v => v = .int i
  | .str z, v => v = .str z ∧ z.length ≤ 1000
  | .tup ds, v => ∃ a xs, v = .ref a ∧ H a = some (.tup xs) ∧ Reps H ds xs
  | .lst ds, v => ∃ a xs, v = .ref a ∧ H a = some (.lst xs) ∧ Reps H ds xs
  | .dct, v => ∃ a kvs, v = .ref a ∧ H a = some (.dK kvs)
def Reps (H : Hp) : List Dt → List V → Prop
  | [], xs => xs = []
  | d :: ds, xs => ∃ v vs, xs = v :: vs ∧ Rep H d v ∧ Reps H ds vs
end
mutual
theorem Rep.same {H H' : Hp} (e : Same H H') : ∀ {d : Dt} {v : V}, Rep H d v → Rep H' d v
  | .non, v, h => by unfold Rep at h ⊢; exact h
  | .bl b, v, h => by unfold Rep at h ⊢; exact h
  | .int i, v, h => by unfold Rep at h ⊢; exact h
  | .str z, v, h => by unfold Rep at h ⊢; exact h
  | .tup ds, v, h => by
    unfold Rep at h ⊢
    obtain ⟨a, xs, h1, h2, h3⟩ := h
    exact ⟨a, xs, h1, e _ _ h2, Reps.same e h3⟩
  | .lst ds, v, h => by
    unfold Rep at h ⊢
    obtain ⟨a, xs, h1, h2, h3⟩ := h
    exact ⟨a, xs, h1, e _ _ h2, Reps.same e h3⟩
  | .dct, v, h => by
    unfold Rep at h ⊢
    obtain ⟨a, xs, h1, h2⟩ := h
    exact ⟨a, xs, h1, e _ _ h2⟩
theorem Reps.same {H H' : Hp} (e : Same H H') : ∀ {ds : List Dt} {vs : List V}, Reps H ds vs → Reps H' ds vs
  | [], vs, h => by unfold Reps at h ⊢; exact h
  | d :: ds, vs, h => by
    unfold Reps at h ⊢
    obtain ⟨v, ws, h1, h2, h3⟩ := h
    exact ⟨v, ws, h1, Rep.same e h2, Reps.same e h3⟩
end
def tyD : Dt → String
  | .non => "NoneType" | .bl _ => "bool" | .int _ => "int" | .str _ => "str" | .tup _ => "tuple" | .lst _ => "list" | .dct => "dict"
theorem Rep.is {K : PySem.W.Frag} {H : Hp} : ∀ {d : Dt} {v : V}, Rep H d v → Is K H v (tyD d)
  | .non, v, h => by unfold Rep at h; subst h; exact .non
  | .bl b, v, h => by unfold Rep at h; subst h; exact .bl
  | .int i, v, h => by unfold Rep at h; subst h; exact .int
  | .str z, v, h => by unfold Rep at h; obtain ⟨rfl, _⟩ := h; exact .str
  | .tup ds, v, h => by unfold Rep at h; obtain ⟨a, xs, rfl, h2, _⟩ := h; exact .tup h2
  | .lst ds, v, h => by unfold Rep at h; obtain ⟨a, xs, rfl, h2, _⟩ := h; exact .lst h2
  | .dct, v, h => by unfold Rep at h; obtain ⟨a, xs, rfl, h2⟩ := h; exact .dK h2
theorem Reps.length {H : Hp} : ∀ {ds : List Dt} {vs : List V}, Reps H ds vs → vs.length = ds.length
  | [], vs, h => by unfold Reps at h; subst h; rfl
  | d :: ds, vs, h => by
    unfold Reps at h
    obtain ⟨v, ws, rfl, _, h3⟩ := h
    rw [List.length_cons, List.length_cons, Reps.length h3]
/-- the thing is this text -/
def strIs : Dt → Str → Bool
  | .str y, z => y == z
  | _, _ => false
section
variable {X : Cx} {pins : List (Addr × Obj)} {σ : St} {H : Hp} {s : Shared}
/-- any thing == a text -/
theorem op_eqD (hu : X.A.units < cLine) : OpR X (compareOp .Eq) (fun x y H Q => ∃ d z, Rep H d x ∧ y = .str z ∧ Q (.bl (strIs d z)) H) := by
  intro pins s σ H x y v u Q I rx ry h
  obtain ⟨d, z, hd, rfl, q⟩ := h
  obtain ⟨t, rfl⟩ := ry
  cases d with
  | non =>
    unfold Rep at hd
    subst hd
    exact op_eq pins s σ H .non (.str z) v _ Q I rx ⟨t, rfl⟩ ⟨rfl, by simpa [strIs] using q⟩
  | bl b =>
    unfold Rep at hd
    subst hd
    exact op_eq pins s σ H (.bl b) (.str z) v _ Q I rx ⟨t, rfl⟩ ⟨rfl, by simpa [strIs] using q⟩
  | int i =>
    unfold Rep at hd
    subst hd
    exact op_eq pins s σ H (.int i) (.str z) v _ Q I rx ⟨t, rfl⟩ ⟨rfl, by simpa [strIs] using q⟩
  | str y =>
    unfold Rep at hd
    obtain ⟨rfl, _⟩ := hd
    exact op_eq pins s σ H (.str y) (.str z) v _ Q I rx ⟨t, rfl⟩ ⟨rfl, by rw [dec_str]; exact q⟩
  | tup ds =>
    unfold Rep at hd
    obtain ⟨a, xs, rfl, ha, _⟩ := hd
    cases rx
    obtain ⟨its, _, p, _⟩ := I.tuple (SqT.of ha)
    exact SeqAt.RcAt.tuple_str z t p hu X.prog X.w X.xe _ ⟨.bl false, H, I, rfl, q⟩
  | lst ds =>
    unfold Rep at hd
    obtain ⟨a, xs, rfl, ha, _⟩ := hd
    cases rx
    obtain ⟨its, _, p, _⟩ := I.list (SqL.of ha)
    exact SeqAt.RcAt.list_str z t p.isList hu X.prog X.w X.xe _ ⟨.bl false, H, I, rfl, q⟩
  | dct =>
    unfold Rep at hd
    obtain ⟨a, kvs, rfl, ha⟩ := hd
    cases rx
    obtain ⟨_, _, vs, _, o, es, ep, h1, h2, h3, _⟩ := dk_of I.hok ha
    exact SeqAt.RcAt.dict_str z t h1 h2.1 h3 hu X.prog X.w X.xe _ ⟨.bl false, H, I, rfl, q⟩
theorem eqAt_D {A : Around} {d : Dt} {x : V} {v : Value} (hu : A.units < cLine) (I : Inv X pins σ H s) (hd : Rep H d x) (rx : RelV x v) (z : Str) (t : Tok) : SeqAt.EqAt A s (.str z t) v (strIs d z) := by
  cases d with
  | non =>
    unfold Rep at hd
    subst hd
    cases rx
    exact SeqAt.EqAt.str_none z t
  | bl b =>
    unfold Rep at hd
    subst hd
    cases rx
    exact SeqAt.EqAt.str_bool z t b
  | int i =>
    unfold Rep at hd
    subst hd
    obtain ⟨t', rfl⟩ := rx
    exact SeqAt.EqAt.str_int z t i t'
  | str y =>
    unfold Rep at hd
    obtain ⟨rfl, _⟩ := hd
    obtain ⟨t', rfl⟩ := rx
    have e : strIs (.str y) z = (z == y) := by
      show (y == z) = (z == y)
      rw [Bool.eq_iff_iff, beq_iff_eq, beq_iff_eq]
      exact ⟨Eq.symm, Eq.symm⟩
    rw [e]
    exact SeqAt.EqAt.str_str z t y t'
  | tup ds =>
    unfold Rep at hd
    obtain ⟨a, xs, rfl, ha, _⟩ := hd
    cases rx
    obtain ⟨its, _, p, _⟩ := I.tuple (SqT.of ha)
    exact SeqAt.EqAt.str_tuple z t p hu
  | lst ds =>
    unfold Rep at hd
    obtain ⟨a, xs, rfl, ha, _⟩ := hd
    cases rx
    obtain ⟨its, _, p, _⟩ := I.list (SqL.of ha)
    exact SeqAt.EqAt.str_list z t p.isList hu
  | dct =>
    unfold Rep at hd
    obtain ⟨a, kvs, rfl, ha⟩ := hd
    cases rx
    obtain ⟨_, _, vs, _, o, es, ep, h1, h2, h3, _⟩ := dk_of I.hok ha
    exact SeqAt.EqAt.str_dict z t h1 h2.1 h3 hu
/-- what of the values of texts is this thing -/
def strU (d : Dt) : Value → Bool
  | .str z _ => strIs d z
  | _ => false
theorem any_strU {d : Dt} : ∀ {zs : List Str} {us : List Value}, Vals (zs.map V.str) us → us.any (strU d) = zs.any (strIs d)
  | [], _, r => by rw [List.map_nil] at r; cases r; rfl
  | z :: zs, _, r => by
    rw [List.map_cons] at r
    cases r with
    | cons h t =>
      obtain ⟨t', rfl⟩ := h
      rw [List.any_cons, List.any_cons, any_strU t]
      rfl
theorem mem_strU {zs : List Str} {us : List Value} (r : Vals (zs.map V.str) us) : ∀ u ∈ us, ∃ z t, u = .str z t := by
  intro u hu
  obtain ⟨i, hi, e⟩ := List.getElem_of_mem hu
  have hl := r.length
  have : (zs.map V.str)[i]? = some (.str (zs[i]'(by rw [List.length_map] at hl; omega))) := by
    rw [List.getElem?_map, List.getElem?_eq_getElem (by rw [List.length_map] at hl; omega)]
    rfl
  obtain ⟨w, hw, rw'⟩ := r.get this
  rw [List.getElem?_eq_getElem hi, e] at hw
  cases hw
  obtain ⟨t, rfl⟩ := rw'
  exact ⟨_, t, rfl⟩
/-- any thing in a tuple of texts -/
theorem op_inD (hu : X.A.units + 1 < cLine) : OpR X (compareOp .In) (fun x y H Q => ∃ (d : Dt) (p : Addr) (zs : List Str), Rep H d x ∧ y = .ref p ∧ H p = some (.tup (zs.map V.str)) ∧ Q (.bl (zs.any (strIs d))) H) := by
  intro pins s σ H x y v u Q I rx ry h
  obtain ⟨d, p, zs, hd, rfl, hp, q⟩ := h
  cases ry
  obtain ⟨its, r, pl, _⟩ := I.tuple (SqT.of hp)
  refine SeqAt.in_tupleAt (strU d) pl (fun w' hw => ?_) ⟨.bl _, H, I, rfl, ?_⟩
  · obtain ⟨z, t, rfl⟩ := mem_strU r w' (by simpa using hw)
    exact eqAt_D (A := X.A.in1) hu I hd rx z t
  · rw [show its.toArray.any (strU d) = its.any (strU d) by simp, any_strU r]
    exact q
/-- x <= y of texts -/
theorem op_le_str : OpR X (compareOp .LtE) (fun x y H Q => ∃ i j, x = .str i ∧ y = .str j ∧ Q (.bl (!decide (j.cps.toList < i.cps.toList))) H) := by
  intro pins s σ H x y v u Q I rx ry h
  obtain ⟨i, j, rfl, rfl, q⟩ := h
  obtain ⟨t, rfl⟩ := rx
  obtain ⟨t', rfl⟩ := ry
  exact PySem.P.le_str ⟨.bl _, H, I, rfl, q⟩
end
end L2

namespace My
open PySem L2 PyProof.Rows
theorem pos {j : Int} (h : decide ((0 : Int) < j) = true) : 0 < j := of_decide_eq_true h
/-! ### the law's cells -/
def cellF (ns : List Int) (k : Int) : Int :=
  if k < ns.length then ns.getD k.toNat 0 else (k * 7919 + 5 + (if 0 < ns.length then ns.getD (k % ns.length).toNat 0 % 2147483647 * 48271 else 0)) % 2147483647
def spCell (K : PySem.W.Frag) : Sp := fun vs H Q _ => ∃ (a : Addr) (ns : List Int) (k : Int), vs = [.ref a, .int k] ∧ SqL K H a (ns.map V.int) ∧ 0 ≤ k ∧ k ≤ 1000000 ∧ ns.length ≤ 63 ∧ Q (.int (cellF ns k)) H
def spTold : Sp := fun vs H Q _ => ∃ (f d : Bool), vs = [.bl f, .bl d] ∧ Q (.bl (decide (f = d))) H
def spWhole (K : PySem.W.Frag) : Sp := fun vs H Q _ => ∃ (v : V) (n : String), vs = [v] ∧ Is K H v n ∧ Q (.bl (n == "int")) H
theorem item_ints {ns : List Int} {k : Int} (h0 : 0 ≤ k) (h1 : k < ns.length) : atI (ns.map V.int) k = some (.int (ns.getD k.toNat 0)) := by
  obtain ⟨j, rfl⟩ := Int.eq_ofNat_of_zero_le h0
  refine atI_nat ?_
  have hj : j < ns.length := by omega
  rw [List.getElem?_map, List.getElem?_eq_getElem hj]
  simp [List.getD_eq_getElem?_getD, List.getElem?_eq_getElem hj]

theorem boot_isi : bootBuiltins "isinstance" = some (.builtin "isinstance") := by decide +kernel
theorem boot_int : bootBuiltins "int" = some (.type "int") := by decide +kernel
theorem boot_bool : bootBuiltins "bool" = some (.type "bool") := by decide +kernel
theorem boot_str : bootBuiltins "str" = some (.type "str") := by decide +kernel
theorem boot_list : bootBuiltins "list" = some (.type "list") := by decide +kernel
theorem boot_tuple : bootBuiltins "tuple" = some (.type "tuple") := by decide +kernel
theorem boot_dict : bootBuiltins "dict" = some (.type "dict") := by decide +kernel
theorem boot_ord : bootBuiltins "ord" = some (.builtin "ord") := by decide +kernel
/-- the built-ins are not the text's own -/
structure Bl (mg : Str → Option Value) : Prop where
  len : mg "len" = none
  isi : mg "isinstance" = none
  int : mg "int" = none
  bool : mg "bool" = none
  str : mg "str" = none
  all : mg "all" = none
  range : mg "range" = none
  abs : mg "abs" = none
  ord : mg "ord" = none
  list : mg "list" = none
  tuple : mg "tuple" = none
  dict : mg "dict" = none
  any : mg "any" = none
  sorted : mg "sorted" = none
  set : mg "set" = none
  enum : mg "enumerate" = none

/-- .. as the top has left them -/
structure BlK (K : PySem.W.Frag) : Prop where
  len : PySem.W.nsIn K mainGlobals "len" = some none
  isi : PySem.W.nsIn K mainGlobals "isinstance" = some none
  int : PySem.W.nsIn K mainGlobals "int" = some none
  bool : PySem.W.nsIn K mainGlobals "bool" = some none
  str : PySem.W.nsIn K mainGlobals "str" = some none
  all : PySem.W.nsIn K mainGlobals "all" = some none
  range : PySem.W.nsIn K mainGlobals "range" = some none
  abs : PySem.W.nsIn K mainGlobals "abs" = some none
  ord : PySem.W.nsIn K mainGlobals "ord" = some none
  list : PySem.W.nsIn K mainGlobals "list" = some none
  tuple : PySem.W.nsIn K mainGlobals "tuple" = some none
  dict : PySem.W.nsIn K mainGlobals "dict" = some none
  any : PySem.W.nsIn K mainGlobals "any" = some none
  sorted : PySem.W.nsIn K mainGlobals "sorted" = some none
  set : PySem.W.nsIn K mainGlobals "set" = some none
  enum : PySem.W.nsIn K mainGlobals "enumerate" = some none

theorem BlK.bl {K : PySem.W.Frag} {h : Heap} {mg : Str → Option Value} (b : BlK K) (X : K.In h) (G : h.Ns mainGlobals mg) : Bl mg :=
  ⟨PySem.W.mg_none_of X G b.len, PySem.W.mg_none_of X G b.isi, PySem.W.mg_none_of X G b.int, PySem.W.mg_none_of X G b.bool, PySem.W.mg_none_of X G b.str, PySem.W.mg_none_of X G b.all, PySem.W.mg_none_of X G b.range, PySem.W.mg_none_of X G b.abs, PySem.W.mg_none_of X G b.ord, PySem.W.mg_none_of X G b.list, PySem.W.mg_none_of X G b.tuple, PySem.W.mg_none_of X G b.dict, PySem.W.mg_none_of X G b.any, PySem.W.mg_none_of X G b.sorted, PySem.W.mg_none_of X G b.set, PySem.W.mg_none_of X G b.enum⟩
/-- an item of a list at a place within it -/
theorem at_mem {l : List V} {i : Int} (h0 : 0 ≤ i) (h1 : i < l.length) : ∃ v, atI l i = some v ∧ v ∈ l := by
  obtain ⟨j, rfl⟩ := Int.eq_ofNat_of_zero_le h0
  have hj : j < l.length := by omega
  exact ⟨l[j], atI_nat (List.getElem?_eq_getElem hj), List.getElem_mem hj⟩
theorem iteB {b : Bool} {A B : Prop} (h : b = true) (a : A) : if b = true then A else B := by rw [if_pos h]; exact a
theorem iteC {b : Bool} {A B : Prop} (h : b = false) (a : B) : if b = true then A else B := by rw [h, if_neg Bool.false_ne_true]; exact a
theorem lenEq {n k : Nat} : decide (V.int (n : Int) = V.int (k : Int)) = decide (n = k) := by
  rw [Bool.eq_iff_iff, decide_eq_true_iff, decide_eq_true_iff]
  constructor
  · intro e; injection e with e; omega
  · intro e; rw [e]
def spLaw (K : PySem.W.Frag) : Sp := fun vs H Q _ => ∃ (a : Addr) (ns : List Int), vs = [.ref a] ∧ SqL K H a (ns.map V.int) ∧ ns.length ≤ 63 ∧ ∀ H', Q (.bl true) H'
end My

namespace L2
open PySem PySem.Spec PyProof.Rows
section
variable {X : Cx}
end
end L2

namespace Nm
open PySem PySem.NumText PySem.W PyProof.Rows
/-- the figures of a number -/
def figs (m : Nat) : List Nat := (Nat.toDigits 10 m).map Char.toNat
/-- a number as it is written -/
def tx (i : Int) : Str := Str.ofString (toString i)
end Nm

/-! TOKENS (own work): rules that know that the count of tokens has reached n, and calls that show the value itself. -/
namespace L2
open PySem PySem.Spec PyProof.Rows

def PEk (n : Nat) (X : Cx) (e : Expr) (t : TE) : Prop :=
  ∀ (pins : List (Addr × Obj)) (s : Shared) (σ : St) (H : Hp) (Q : VK), n ≤ s.toks → Inv X pins σ H s → t σ H Q → wpAny (model X.prog X.w) X.A (eval e X.env) (EP X pins σ Q) X.xe s
def PSk (n : Nat) (X : Cx) (st : Stmt) (t : TS) : Prop :=
  ∀ (pins : List (Addr × Obj)) (s : Shared) (σ : St) (H : Hp) (D : Ends), n ≤ s.toks → Inv X pins σ H s → t D σ H → wpAny (model X.prog X.w) X.A (exec st X.env) (SP X pins D) X.xe s
def PSsk (n : Nat) (X : Cx) (st : List Stmt) (t : TS) : Prop :=
  ∀ (pins : List (Addr × Obj)) (s : Shared) (σ : St) (H : Hp) (D : Ends), n ≤ s.toks → Inv X pins σ H s → t D σ H → wpAny (model X.prog X.w) X.A (execs st X.env) (SP X pins D) X.xe s
section
variable {n : Nat} {X : Cx} {st : Stmt} {rest : List Stmt} {t u : TS} {e a b : Expr} {te ta tb : TE} {pos : Pos}
end

/-! ### defs -/
/-- what is wanted behind a call: the value, the count of tokens, the value as it is seen, the heap -/
abbrev WK := Value → Nat → V → Hp → Prop
abbrev SpW := List V → Hp → WK → Prop
def CRW (outer : List Env) (P : Program) (w : World) (H : Hp) (s : Shared) (Q : WK) (r : Result) (s' : Shared) : Prop :=
  match r with
  | .ok (.ret u) => ∃ v H', s'.os = s.os ∧ AllBare s'.gens ∧ Un (frs outer) [] H H' s.heap s'.heap ∧ HOk P w H' s'.heap ∧ RelV v u ∧ Q u s'.toks v H'
  | _ => False
structure FnOkW (n : Nat) (P : Program) (w : World) (K : PySem.W.Frag) (mg : Str → Option Value) (base : Heap) (k : Nat) (f : Addr) (fd : FuncData) (ps : List Str) (sp : SpW) : Prop where
  len : ∀ vs H Q, sp vs H Q → vs.length = ps.length
  run : ∀ (A : Around) (outer : List Env) (s : Shared) (H : Hp) (args : Args) (us : List Value) (vs : List V) (Q : WK), n ≤ s.toks → Room k A → Env0 P w K mg base A outer s H → BindsTo s fd args (ps.zip us) → Vals vs us → sp vs H Q →
    codeAny (model P w) A (.call (.ref f) args) (CRW outer P w H s Q) s
/-- what is wanted behind a body -/
def SPW (X : Cx) (pins : List (Addr × Obj)) (Q : WK) (f : Flow) (s' : Shared) : Prop :=
  match f with
  | .ret u => ∃ v σ' H', Inv X pins σ' H' s' ∧ RelV v u ∧ Q u s'.toks v H'
  | _ => False
section
variable {P : Program} {w : World} {K : PySem.W.Frag} {mg : Str → Option Value} {base : Heap}
end

/-- behind an expression: the value itself too -/
def EW (X : Cx) (pins : List (Addr × Obj)) (σ : St) (Q : WK) (u : Value) (s' : Shared) : Prop := ∃ v H', Inv X pins σ H' s' ∧ RelV v u ∧ Q u s'.toks v H'
section
variable {n : Nat} {X : Cx} {k : Nat} {f : Addr} {fd : FuncData} {ps : List Str} {sp : SpW} {x : Str} {p pos : Pos} {e : Expr} {es : List Expr} {t : TA}
def tCallW (sp : SpW) (t : TA) : TE := fun σ H Q => t σ H fun vs H1 => sp vs H1 fun _ _ v H2 => Q v H2
end
end L2

namespace L2
open PySem PySem.Spec PyProof.Rows
/-! ### a comprehension whose element asks the count of tokens -/
section
variable {n : Nat} {X : Cx}
variable {osc scope : Scope} {N0 xs : List Str} {fr : List Nat} {elt tg iter : Expr} {ifs : List Expr} {pos : Pos} {wi : TI} {g : TG} {tt : TT} {te : TE}
end

end L2

namespace L2
open PySem PySem.Spec PyProof.Rows
section
variable {n : Nat} {X : Cx} {pins : List (Addr × Obj)} {s : Shared} {σ : St} {H : Hp}
/-! ### texts with known tokens -/
/-- a pair ("..", text) whose second text's token is known -/
def TokPair (H : Hp) (a : Addr) (y z : Str) (u : Tok) : Prop := ∃ o u0 m, H a = some (.frz o (.tup [.str y, .str z])) ∧ o.data = .seq #[u0, .str z u] m
/-- o.replace(pair[1], "") -/
def tStrike (p : Addr) (z : Str) (to : TE) : TE := fun σ H Q => to σ H fun x H1 => H1 = H ∧ ∃ w, x = .str w ∧ w.length ≤ 1048576 ∧ Q (.str (Txt.replace w z ⟨#[]⟩)) H1
end
end L2

namespace L2
open PySem PySem.Spec PyProof.Rows
section
variable {P : Program} {w : World} {K : PySem.W.Frag} {mg : Str → Option Value} {base : Heap}
abbrev SpK := List V → Hp → VK → Prop
def toW (sp : SpK) : SpW := fun vs H Q => sp vs H fun v H' => ∀ u tk, Q u tk v H'
end
end L2

namespace L2
open PySem PySem.Spec PyProof.Rows
end L2

/-! EXCEPTIONS WITH A DICT OF THEIR OWN (own work): what a frame that is left writes. -/
namespace L2
open PySem
/-- the head of a traceback: none, or a record of ours -/
def Tb (h : Heap) (P : Addr → Prop) (x : Addr) (fl v : Value) : Prop :=
  (v = .none ∧ fl = .none) ∨ ∃ T oT ts, v = .ref T ∧ P T ∧ T ≠ x ∧ h.get? T = some oT ∧ oT.data = .fields ts ∧ ts[3]? = some fl
/-- an exception: its class, its own dict, its traceback's mark of flight -/
def XAt (h : Heap) (P : Addr → Prop) (x : Addr) (C : Value) (od : Option Addr) (fl : Value) : Prop :=
  ∃ vs sl v1, h.get? x = some ⟨C, od, .fields vs, sl⟩ ∧ vs[1]? = some v1 ∧ Tb h P x fl v1
/-- what noting a frame may change: the exception, its records, the slots of frames -/
structure Nt (P : Addr → Prop) (fr : List Addr) (x : Addr) (h h' : Heap) : Prop where
  chg : ∃ ch : List Addr, (∀ b ∈ ch, b = x ∨ P b ∧ ∃ o vs, h.get? b = some o ∧ o.data = .fields vs) ∧ ∀ b o, h.get? b = some o → b ∉ fr → b ∉ ch → h'.get? b = some o
  frm : ∀ b o, h.get? b = some o → b ∈ fr → ∃ sl, h'.get? b = some { o with slots := sl }
  thr : ∀ b o, h.get? b = some o → ∃ o', h'.get? b = some o'
section
variable {M : Model} {A : Around} {E : Value → Shared → Prop} {s : Shared} {base : Heap} {env : Env} {outer : List Env} {L x : Addr} {P : Addr → Prop} {C : Value} {od : Option Addr}
end
end L2

/-! EXCEPTIONS IN THE LAYER (own work): how one lies behind a call, how it passes, raise, try. -/
namespace L2
open PySem PySem.Spec PyProof.Rows
/-- an address of ours: new since the entry, no name's, no pin's, untracked -/
structure Our (X : Cx) (pins : List (Addr × Obj)) (H : Hp) (b : Addr) : Prop where
  new : X.s₀.heap.objs.size ≤ b
  loc : b ≠ X.env.locals
  cel : ∀ y c, X.env.cells.lookup y = some c → c ≠ b
  pin : ∀ p ∈ X.pn ++ pins, p.1 ≠ b
  unt : H b = none
section
variable {X : Cx} {pins : List (Addr × Obj)} {σ : St} {H H' : Hp} {s s' : Shared} {x b : Addr} {C : Value} {od : Option Addr}
theorem Inv.our' (I : Inv X pins σ H s) (h : s.heap.objs.size ≤ b) (hn : H' b = none) : Our X pins H' b := by
  have lt : ∀ c o, s.heap.get? c = some o → c ≠ b := fun c o e z => by
    subst z
    exact absurd (Nat.lt_of_lt_of_le (Heap.lt_size e) h) (Nat.lt_irrefl _)
  refine ⟨Nat.le_trans I.sz h, fun z => ?_, fun y c e => ?_, fun p hp => ?_, hn⟩
  · obtain ⟨m, ⟨o, _, _, ho, _⟩, _⟩ := I.loc
    exact lt _ o ho z.symm
  · obtain ⟨v, o, ho, _⟩ := I.cell y c e
    exact lt c o ho
  · exact lt p.1 _ (I.pin p hp).1
theorem Inv.our (I : Inv X pins σ H s) (h : s.heap.objs.size ≤ b) : Our X pins H b := I.our' h (I.hok.fresh h)
end
/-- how an exception lies behind a call -/
def CX1 (P : Program) (w : World) : CXT := fun outer H s E e s' => ∃ x C od H', e = .ref x ∧ s'.os = s.os ∧ AllBare s'.gens ∧ Un (frs outer) [] H H' s.heap s'.heap ∧ HOk P w H' s'.heap ∧ s.heap.objs.size ≤ x ∧ H' x = none ∧
  XAt s'.heap (fun T => s.heap.objs.size ≤ T ∧ H' T = none) x C od .none ∧ E C od H'
/-- what is wanted where an exception of a class, with its own dict, is raised: also of the names -/
abbrev XS := Value → Option Addr → St → Hp → Prop
/-- an exception of which E holds is what the context wants -/
def Lands (X : Cx) (E : XS) : Prop := ∀ (pins : List (Addr × Obj)) (σ : St) (H : Hp) (s : Shared) (x : Addr) (C : Value) (od : Option Addr), Inv X pins σ H s → Our X pins H x → XAt s.heap (Our X pins H) x C od .none → E C od σ H → X.xe (.ref x) s
section
variable {X : Cx} {k : Nat} {f C : Addr} {fd : FuncData} {ps : List Str} {sp : Sp} {dvs : List V} {ds : List Value} {E : XS} {x m : Str} {p pos apos : Pos} {e o : Expr} {es : List Expr} {ta : TE} {t : TA}
def tCallX (sp : Sp) (dvs : List V) (E : XS) (t : TA) : TE := fun σ H Q => t σ H fun vs H1 => sp (vs ++ dvs) H1 Q (fun C od H' => E C od σ H')
def tMethX (C : Addr) (m : Str) (sp : Sp) (dvs : List V) (E : XS) (ta : TE) (t : TA) : TE := fun σ H Q => ta σ H fun x H1 => ∃ a dx fs, x = .ref a ∧ H1 a = some (.ins C dx fs) ∧ fs.lookup m = none ∧
  t σ H1 fun vs H2 => sp (x :: (vs ++ dvs)) H2 Q (fun C od H' => E C od σ H')
end
end L2

/-! OWN EXCEPTIONS OVER ValueError (own work): made with an __init__ of the text's, with fields. -/
namespace L2
open PySem PySem.Spec PyProof.Rows Builtin Builtin.ObjectAttr
abbrev bmV : List Value := [.type "ValueError", .type "Exception", .type "BaseException", .type "object"]
/-- own classes ahead of ValueError's line -/
def tailV : List Value → Bool
  | [] => false
  | v :: r => (v :: r) == bmV || match v with | .ref _ => tailV r | _ => false
/-- what of the text an exception's class must have -/
structure XCl (K : PySem.W.Frag) (C : Addr) : Prop where
  at_ : ∃ (nm q : Str) (N : Addr) (bs bm : List Value) (sn : List Str) (sub : List Value) (ab : Bool) (col : Option Bool) (dd : Option Addr) (k0 k1 k2 k3 k5 : Option Value), K.lookup C = some (excClassObj nm q C N bs bm true sn sub ab col dd k0 k1 k2 k3 k5 "ValueError.__new__") ∧ tailV bm = true
  ga : PySem.W.findIn K (.ref C) "__getattribute__" = some (some (.builtin "BaseException.__getattribute__"))
  gx : PySem.W.findIn K (.ref C) "__getattr__" = some none
  sa : PySem.W.findIn K (.ref C) "__setattr__" = some (some (.builtin "object.__setattr__"))
  kp : PySem.W.keepIn K (.ref C) = true
section
variable {prog : Program} {w : World} {A : Around} {E : Value → Shared → Prop} {h : Heap} {g : Array GenState} {d : Drawn} {t : Nat} {os : OsState}
variable {nm q : Str} {C N : Addr} {bs bm : List Value} {sn : List Str} {sub : List Value} {ab : Bool} {col : Option Bool} {dd : Option Addr} {k0 k1 k2 k3 k5 : Option Value}
abbrev xTup (rest : List Value) : Obj := { cls := .type "tuple", data := .seq rest.toArray }
abbrev xObj (C : Addr) (od : Option Addr) (t : Addr) : Obj := ⟨.ref C, od, .fields #[.ref t, .none, .none, .none, .bool false, .none], #[]⟩
end
section
variable {prog : Program} {w : World} {A : Around} {E : Value → Shared → Prop} {s : Shared} {K : PySem.W.Frag} {x C dx t0 : Addr} {name : Str} {v : Value}
end
end L2

/-! RAISE, TRY, FIELDS OF EXCEPTIONS (own work). -/
namespace L2
open PySem PySem.Spec PyProof.Rows Builtin Builtin.ObjectAttr
/-- a new exception; a caught one; its own dict -/
def excP (x C : Addr) (od : Option Addr) (h : Heap) : Prop := ∃ t, h.get? x = some (xObj C od t)
def gotP (x C : Addr) (od : Option Addr) (h : Heap) : Prop := ∃ vs sl, h.get? x = some ⟨.ref C, od, .fields vs, sl⟩
def dctP (dx : Addr) (fs : List (Str × V)) (h : Heap) : Prop := ∃ mA, h.Ns1 dx mA ∧ (∀ f, RelO (fs.lookup f) (mA f)) ∧ Within mA (fs.map (·.1))
section
variable {P : Program} {w : World} {H : Hp} {h : Heap} {x C dx t : Addr} {od : Option Addr}
end
def dropH (H : Hp) (x : Addr) : Hp := fun b => if b = x then none else H b
section
variable {X : Cx} {pins : List (Addr × Obj)} {σ : St} {H : Hp} {s : Shared} {x dx C : Addr} {φ : Heap → Prop} {od : Option Addr}
/-- something of ours is looked after from now on -/
theorem Inv.track {o : HO} (I : Inv X pins σ H s) (hx : Our X pins H x) (new : ObjOk X.prog X.w (upd H x o) s.heap x o) : Inv X pins σ (upd H x o) s := by
  have ne : ∀ b u, H b = some u → b ≠ x := fun b u q z => by rw [z, hx.unt] at q; cases q
  refine I.step (h' := s.heap) (g' := s.gens) (d' := s.drawn) (t' := s.toks) (ch := [x]) (fun b hb => ?_) (fun b o _ _ _ e _ => e) (fun b o _ _ _ e _ => ⟨o.slots, e⟩) (fun b o hc e n => ?_) (fun b o _ e => ⟨o, e⟩) (fun b xs e => ?_) (fun b u xs e => ?_) (fun b ps e => ⟨#[], ?_⟩) (fun m hm => hm) (fun b u q => ?_) I.bare
  · rw [List.mem_singleton.mp hb]
    exact ⟨.inr hx.new, hx.loc, hx.cel, hx.pin⟩
  · rw [upd_ne fun z => hc (by rw [z]; exact List.mem_singleton.mpr rfl)]
    exact n
  · rw [upd_ne (ne b _ e)]; exact e
  · rw [upd_ne (ne b _ e)]; exact e
  · rw [upd_ne (ne b _ e), e]; simp
  · by_cases hb : b = x
    · subst hb
      rw [upd_same] at q
      cases q
      exact new
    · rw [upd_ne hb] at q
      exact (I.hok b u q).stay (fun _ _ _ r => r) (fun c r => by rw [upd_ne (ne c _ r)]; exact r) fun c xs r => by rw [upd_ne (ne c _ r)]; exact r
end
/-- what of the text is asked to make one -/
structure XMk (K : PySem.W.Frag) (C f : Addr) : Prop where
  cl : XCl K C
  init : PySem.W.findIn K (.ref C) "__init__" = some (some (.ref f))
  fn : PySem.W.isFn K (.ref f) = true
/-- C(..), C an own exception: the wanted sees an address that is new since the entry -/
def tXMake (n : Nat) (C : Addr) (sp : Sp) (dvs : List V) (t : TA) : TE := fun σ H Q => t σ H fun vs H1 => vs.length ≤ sizeLine ∧ ∀ x, n ≤ x → H1 x = none → sp (.ref x :: (vs ++ dvs)) (upd H1 x (.ext (excP x C none))) (fun v H2 => v = .non ∧ Q (.ref x) H2) E0
def tRaise (n : Nat) (K : PySem.W.Frag) (E : XS) (te : TE) : TS := fun _ σ H => te σ H fun v H1 => ∃ x C od, v = .ref x ∧ H1 x = some (.ext (excP x C od)) ∧ n ≤ x ∧ XCl K C ∧ E (.ref C) od σ (dropH H1 x)
section
variable {X : Cx} {k : Nat} {f C : Addr} {fd : FuncData} {ps : List Str} {sp : Sp} {dvs : List V} {ds : List Value} {E : XS} {x m : Str} {p pos apos : Pos} {e o : Expr} {es : List Expr} {ta te : TE} {t : TA}
end
end L2

/-! FIELDS OF EXCEPTIONS, THEIR BASE'S __init__, TRY (own work). -/
namespace L2
open PySem PySem.Spec PyProof.Rows Builtin Builtin.ObjectAttr
/-- self.f = value: the first field, a further one -/
def sX1 (K : PySem.W.Frag) (ta tv : TE) (f : Str) : TS := fun D σ H => tv σ H fun y H1 => ta σ H1 fun x H2 => ∃ a C, x = .ref a ∧ H2 a = some (.ext (excP a C none)) ∧ XCl K C ∧ NoAttr K C f ∧
  ∀ dx, H2 dx = none → dx ≠ a → D.nx σ (upd (upd H2 dx (.ext (dctP dx [(f, y)]))) a (.ext (excP a C (some dx))))
def sX2 (K : PySem.W.Frag) (ta tv : TE) (f : Str) : TS := fun D σ H => tv σ H fun y H1 => ta σ H1 fun x H2 => ∃ a C dx fs, x = .ref a ∧ H2 a = some (.ext (excP a C (some dx))) ∧ H2 dx = some (.ext (dctP dx fs)) ∧ dx ≠ a ∧ XCl K C ∧ NoAttr K C f ∧ fs.length < 1000 ∧
  D.nx σ (upd H2 dx (.ext (dctP dx (putF f y fs))))
/-- e.f of a caught exception -/
def tXFld (K : PySem.W.Frag) (ta : TE) (f : Str) : TE := fun σ H Q => ta σ H fun x H1 => ∃ a C dx fs v, x = .ref a ∧ H1 a = some (.ext (gotP a C (some dx))) ∧ H1 dx = some (.ext (dctP dx fs)) ∧ XCl K C ∧ NoAttr K C f ∧ fs.lookup f = some v ∧ Q v H1
section
variable {X : Cx} {o e value : Expr} {f : Str} {pos pos' tpos : Pos} {ta tv : TE}
end
/-! ### B.__init__(self, ..), B an own class whose __init__ is ValueError's -/
structure BIn (K : PySem.W.Frag) (B : Addr) : Prop where
  sp : PySem.W.specialIn K (.ref B) "__getattribute__" = some (some (.builtin "type.__getattribute__"))
  rd : PySem.W.readsIn K B (.type "type") = true
  fc : PySem.W.findCls K (.ref B) (.type "type") "__init__" = some (.val (.builtin "ValueError.__init__"))
section
variable {prog : Program} {w : World} {A : Around} {E : Value → Shared → Prop} {h : Heap} {g : Array GenState} {d : Drawn} {t : Nat} {os : OsState}
variable {nm q : Str} {C N x t0 : Addr} {bs bm : List Value} {sn : List Str} {sub : List Value} {ab : Bool} {col : Option Bool} {dd : Option Addr} {k0 k1 k2 k3 k5 : Option Value}
end
def tBIn (K : PySem.W.Frag) (t : TA) : TE := fun σ H Q => t σ H fun vs H1 => ∃ x C od rest, vs = .ref x :: rest ∧ H1 x = some (.ext (excP x C od)) ∧ XCl K C ∧ rest.length ≤ sizeLine ∧ Q .non H1
section
variable {X : Cx} {B : Addr} {y : Str} {p pos apos : Pos} {e : Expr} {es : List Expr} {t : TA}
end
/-! ### try .. except C as n -/
abbrev Cx.caught (X : Cx) (x : Addr) : Cx := { X with A := X.A.mark (some (.ref x)), calm := false, xe := fun _ _ => False }
abbrev Cx.within (X : Cx) (pn : List (Addr × Obj)) (E : Value → Shared → Prop) : Cx := { X with pn := pn, xe := E }
section
variable {X : Cx} {pins : List (Addr × Obj)} {σ : St} {H : Hp} {s : Shared} {x : Addr} {E : Value → Shared → Prop}
end
def offName (i : Nat) (D : Ends) : Ends := { nx := fun σ' H' => D.nx (σ'.set i none) H', rt := D.rt, bk := fun σ' H' => D.bk (σ'.set i none) H', ct := fun σ' H' => D.ct (σ'.set i none) H' }
/-- what the body of a try must see to where it raises: the class, and the suite's reading -/
def EXh (CN : Addr) (i : Nat) (ts : Addr → TS) (D : Ends) : XS := fun C od σ H => C = .ref CN ∧ ∀ x, H x = none → ts x (offName i D) (σ.set i (some (.ref x))) (upd H x (.ext (gotP x CN od)))
def tTry (tb : Ends → TS) : TS := fun D σ H => tb D D σ H
section
variable {X : Cx} {body : List Stmt} {cx n : Str} {b₀ : Stmt} {suite : List Stmt} {np hp pos : Pos} {CN : Addr} {i : Nat} {tb : Ends → TS} {ts : Addr → TS}
end
end L2

/-! OWN EXCEPTIONS WITHOUT AN __init__ OF THEIR OWN (own work). -/
namespace L2
open PySem PySem.Spec PyProof.Rows Builtin Builtin.ObjectAttr
section
variable {prog : Program} {w : World} {A : Around} {E : Value → Shared → Prop} {h : Heap} {g : Array GenState} {d : Drawn} {t : Nat} {os : OsState}
variable {nm q : Str} {C N : Addr} {bs bm : List Value} {sn : List Str} {sub : List Value} {ab : Bool} {col : Option Bool} {dd : Option Addr} {k0 k1 k2 k3 k5 : Option Value}
end
/-- what of the text is asked to make one -/
structure XMkB (K : PySem.W.Frag) (C : Addr) : Prop where
  cl : XCl K C
  init : PySem.W.findIn K (.ref C) "__init__" = some (some (.builtin "ValueError.__init__"))
def tXMakeB (n : Nat) (C : Addr) (t : TA) : TE := fun σ H Q => t σ H fun vs H1 => vs.length ≤ sizeLine ∧ ∀ x, n ≤ x → H1 x = none → Q (.ref x) (upd H1 x (.ext (excP x C none)))
section
variable {X : Cx} {C : Addr} {x : Str} {p pos : Pos} {e : Expr} {es : List Expr} {t : TA}
end
end L2

/-! isinstance OF EXCEPTIONS, except OF A CLASS ABOVE (own work). -/
namespace L2
open PySem PySem.Spec PyProof.Rows Builtin Builtin.ObjectAttr
/-- what of the text isinstance asks of an exception's class -/
structure XIs (K : PySem.W.Frag) (C : Addr) : Prop where
  cl : XCl K C
  ha : PySem.W.findIn K (.ref C) "__class__" = some (some (.builtin "object.__class__"))
  hn : PySem.W.specialIn K (.builtin "object.__class__") "__get__" = some (some (.builtin "getset_descriptor.__get__"))
  htk : PySem.W.takesIn K (.builtin "object.__class__") = some true
section
variable {prog : Program} {w : World} {A : Around} {E : Value → Shared → Prop} {s : Shared} {K : PySem.W.Frag} {x C : Addr} {ox : Obj} {od : Option Obj}
end
section
variable {X : Cx} {pins : List (Addr × Obj)} {σ : St} {H : Hp} {s : Shared} {a C : Addr} {od : Option Addr}
end
/-! ### except of a class above -/
section
variable {M : Model} {A : Around} {E : Value → Shared → Prop} {h : Heap} {g : Array GenState} {d : Drawn} {t : Nat} {os : OsState}
variable {nm q : Str} {C N : Addr} {bs bm : List Value} {sn : List Str} {sub : List Value} {ab : Bool} {col : Option Bool} {dd : Option Addr} {k0 k1 k2 k3 k5 : Option Value}
variable {nm' q' : Str} {D N' : Addr} {bs' bm' : List Value} {sn' : List Str} {sub' : List Value} {ab' : Bool} {col' : Option Bool} {dd' : Option Addr} {j0 j1 j2 j3 j5 : Option Value}
end
/-- C stands under D -/
def Under (K : PySem.W.Frag) (C D : Addr) : Prop := XCl K C ∧ PySem.W.mroIn K C (.ref D) = some true
/-- what the body of a try must see to where it raises a class under CN: named, nameless -/
def EXu (K : PySem.W.Frag) (CN : Addr) (i : Nat) (ts : Addr → Addr → TS) (D : Ends) : XS := fun C od σ H => ∃ Cx, C = .ref Cx ∧ Under K Cx CN ∧ ∀ x, H x = none → ts x Cx (offName i D) (σ.set i (some (.ref x))) (upd H x (.ext (gotP x Cx od)))
def EXn (K : PySem.W.Frag) (CN : Addr) (ts : Addr → TS) (D : Ends) : XS := fun C od σ H => ∃ Cx, C = .ref Cx ∧ Under K Cx CN ∧ ∀ x, H x = none → ts x D σ (upd H x (.ext (gotP x Cx od)))
section
variable {X : Cx} {body : List Stmt} {cx n : Str} {b₀ : Stmt} {suite : List Stmt} {np hp pos : Pos} {CN : Addr} {i : Nat} {tb : Ends → TS} {tc : Addr → Addr → TS} {ts : Addr → TS}
end
end L2

namespace L2
open PySem PySem.Spec PyProof.Rows
section
variable {X : Cx}
/-! ### a module's table of texts -/
def KTab (K : PySem.W.Frag) (a : Addr) (D : List (Str × KTD.Dat)) : Prop := KTD.tabLook (KTD.datLooks fun a => List.lookup a K) (fun a => List.lookup a K) a D = true
/-! ### replace of written texts -/
variable {n : Nat}
def tRep (y z : Str) (to : TE) : TE := fun σ H Q => to σ H fun x H1 => ∃ w, x = .str w ∧ w.length ≤ 1048576 ∧ Q (.str (Txt.replace w y z)) H1
/-! ### a test that spends a token -/
def PT1 (X : Cx) (e : Expr) (t : TT) : Prop :=
  ∀ (pins : List (Addr × Obj)) (s : Shared) (σ : St) (H : Hp) (Q : Bool → Hp → Prop), Inv X pins σ H s → t σ H Q → wpAny (model X.prog X.w) X.A (isTrue e X.env (eval e X.env)) (fun b s' => 1 ≤ s'.toks ∧ TP X pins σ Q b s') X.xe s
end
end L2

/-! zip OF TWO TUPLES (own work, on the pattern of the library's zip of two lists). -/
namespace L2
open PySem
section
variable {prog : Program} {w : World} {A : Around} {E : Value → Shared → Prop} {s : Shared}
theorem nextT_item {it t : Addr} {i : Nat} {xs : Array Value} {x : Value} {Q : Value → Shared → Prop} (hi : s.heap.IsTupleIter it t i) (ht : s.heap.IsTuple t xs) (hx : xs[i]? = some x)
    (hQ : ∀ h', h'.IsTupleIter it t (i + 1) → Heap.SameBut it s.heap h' → Q x { s with heap := h' }) : wpAny (model prog w) A (Builtin.SmallTypes.nextOf (.ref it)) Q E s := by
  obtain ⟨o, ho, hc, hd⟩ := id hi
  obtain ⟨ot, hot, _, nt, hdt⟩ := ht
  unfold Builtin.SmallTypes.nextOf
  refine wpAny_bind (wpAny_callSpecial?_slot (name := Str.ofString "__next__") hi.typeIs F.slot_tuple_iterator_next (wpAny_call_entry F.slot_tuple_iterator_next hi.typeIs F.entry_tuple_iterator_next ?_ (F.args_tuple_iterator_next_1 _)))
  show wpAny _ _ (field (.ref it) 0 >>= _) _ _ s
  refine wpAny_bind (wpAny_field ho hd (x := .ref t) rfl ?_)
  show wpAny _ _ (if (Value.ref t == Value.none) = true then _ else _) _ _ s
  rw [if_neg (show ¬ ((Value.ref t == Value.none) = true) from Bool.false_ne_true)]
  show wpAny _ _ (field (.ref it) 1 >>= _) _ _ s
  refine wpAny_bind (wpAny_field ho hd (x := .int i 0) rfl ?_)
  show wpAny _ _ (seqItems? (.ref t) >>= _) _ _ s
  refine wpAny_bind (wpAny_seqItems hot hdt ?_)
  simp only [Int.toNat_natCast, hx]
  refine wpAny_bind (wpAny_setField ho hd (by simp) (wpAny_pure ⟨x, rfl, wpAny_pure (hQ _ ⟨_, Heap.get?_update_self _ ho (Obj.isFreed_of_fields (Obj.data_mapFields hd _)), (Obj.cls_mapFields ..).trans hc, ?_⟩ (Heap.SameBut.update ..))⟩))
  rw [Obj.data_mapFields hd]
  simp [rawInt]
theorem nextT_end {it t : Addr} {i : Nat} {xs : Array Value} {Q : Value → Shared → Prop} (hh : A.handled = none) (hi : s.heap.IsTupleIter it t i) (ht : s.heap.IsTuple t xs) (hx : xs[i]? = none)
    (hE : ∀ h' e, Heap.ExtBut it s.heap h' → (∃ o, h'.get? e = some o ∧ o.cls = .type "StopIteration") → E (.ref e) { s with heap := h' }) : wpAny (model prog w) A (Builtin.SmallTypes.nextOf (.ref it)) Q E s := by
  obtain ⟨o, ho, hc, hd⟩ := id hi
  obtain ⟨ot, hot, _, nt, hdt⟩ := ht
  unfold Builtin.SmallTypes.nextOf
  refine wpAny_bind (wpAny_callSpecial?_slot (name := Str.ofString "__next__") hi.typeIs F.slot_tuple_iterator_next (wpAny_call_entry F.slot_tuple_iterator_next hi.typeIs F.entry_tuple_iterator_next ?_ (F.args_tuple_iterator_next_1 _)))
  show wpAny _ _ (field (.ref it) 0 >>= _) _ _ s
  refine wpAny_bind (wpAny_field ho hd (x := .ref t) rfl ?_)
  show wpAny _ _ (if (Value.ref t == Value.none) = true then _ else _) _ _ s
  rw [if_neg (show ¬ ((Value.ref t == Value.none) = true) from Bool.false_ne_true)]
  show wpAny _ _ (field (.ref it) 1 >>= _) _ _ s
  refine wpAny_bind (wpAny_field ho hd (x := .int i 0) rfl ?_)
  show wpAny _ _ (seqItems? (.ref t) >>= _) _ _ s
  refine wpAny_bind (wpAny_seqItems hot hdt ?_)
  simp only [Int.toNat_natCast, hx]
  refine wpAny_bind (wpAny_rule (wpAny_bind (wpAny_setField ho hd (by simp) ?_)))
  show wpAny _ _ (newExc (.type "StopIteration") [] >>= _) _ _ _
  refine wpAny_bind ?_
  simp only [newExc, newTuple]
  refine wpAny_bind (wpAny_newObj_type ?_ (by size_fits))
  refine wpAny_bind (m := firstArgMember _ _) (wpAny_of_eq (a := Value.none) (by first | rfl | (simp only [firstArgMember]; rfl)) ?_)
  refine wpAny_newObj_type ?_ (by size_fits)
  simp only [raiseNew]
  refine wpAny_bind (wpAny_handled ?_)
  first | rw [show A.in1.handled = none from hh] | rw [hh]
  refine wpAny_bind (wpAny_pure (wpAny_throw ?_))
  exact hE _ _ (((Heap.SameBut.update ..).extBut.push _).push _) ⟨_, Heap.get?_push_size _ rfl, rfl⟩
/-- the state of a zip of the tuples t1, t2 at place k -/
structure ZT (h : Heap) (z TI TO i1 i2 t1 t2 : Addr) (k : Nat) (xs ys : Array Value) (f0 : Value) : Prop where
  zp : IsZip h z TI TO f0
  ti : IsPair h TI (.ref i1) (.ref i2)
  to : ∃ a b, IsPair h TO a b
  j1 : h.IsTupleIter i1 t1 k
  j2 : h.IsTupleIter i2 t2 k
  l1 : h.IsTuple t1 xs
  l2 : h.IsTuple t2 ys
theorem zipT_item {z TI TO i1 i2 t1 t2 : Addr} {k : Nat} {xs ys : Array Value} {x y : Value} {Q : Value → Shared → Prop} (D : ZipApart z TI TO i1 i2 t1 t2) (Z : ZT s.heap z TI TO i1 i2 t1 t2 k xs ys .none) (hx : xs[k]? = some x) (hy : ys[k]? = some y)
    (hQ : ∀ h', ZT h' z TI TO i1 i2 t1 t2 (k + 1) xs ys (rawInt s.heap.objs.size) → IsPair h' s.heap.objs.size x y → h'.objs.size = s.heap.objs.size + 1 → (∀ c o, c ≠ z → c ≠ TO → c ≠ i1 → c ≠ i2 → s.heap.get? c = some o → h'.get? c = some o) → Q (.ref s.heap.objs.size) { s with heap := h' }) :
    wpAny (model prog w) A (Builtin.«zip.__next__» ⟨[.ref z], []⟩) (fun fin s' => ∃ v, fin = .done (.ret v) ∧ Q v s') E s := by
  obtain ⟨hz, hTI, ⟨a, b, hTO⟩, h1, h2, hl1, hl2⟩ := Z
  show wpAny _ _ (field (.ref z) 2 >>= _) _ _ _
  refine wpAny_bind (wpAny_field hz rfl (x := .bool false) rfl ?_)
  show wpAny _ _ (field (.ref z) 3 >>= _) _ _ _
  refine wpAny_bind (wpAny_field hz rfl (x := .ref TI) rfl ?_)
  refine wpAny_bind (wpAny_seqItems hTI rfl ?_)
  show wpAny _ _ (Builtin.SmallTypes.ownedTupleIsFree (.ref z) >>= _) _ _ _
  refine wpAny_bind ?_
  unfold Builtin.SmallTypes.ownedTupleIsFree
  refine wpAny_bind (wpAny_field hz rfl (x := .none) rfl (wpAny_pure ?_))
  simp only [if_true]
  refine wpAny_bind (wpAny_rule ?_)
  refine wpAny_bind (wpAny_field hz rfl (x := .ref TO) rfl ?_)
  refine wpAny_bind (wpAny_setField_rec hz (by simp) fun g1 z1 b1 => ?_)
  replace z1 : IsZip g1 z TI TO .ellipsis := z1
  refine wpAny_bind ?_
  simp only [List.zipIdx_cons, List.zipIdx_nil, List.forIn_cons, List.forIn_nil]
  refine wpAny_bind (wpAny_bind (wpAny_onRaise ?_))
  show wpAny _ _ (Builtin.SmallTypes.nextOf (.ref i1) >>= _) _ _ _
  refine wpAny_bind (nextT_item (s := { s with heap := g1 }) (h1.extBut b1.extBut D.i1z) (hl1.extBut b1.extBut D.l1z) hx fun g2 j2 b2 => wpAny_pure ?_)
  have o2 : IsPair g2 TO a b := b2.extBut _ _ D.TOi1 (b1.extBut _ _ D.TOz hTO)
  refine wpAny_bind (wpAny_seqItems o2 rfl ?_)
  refine wpAny_bind (wpAny_updateSeq_pair o2 fun g3 o3 b3 => ?_)
  replace o3 : IsPair g3 TO x b := o3
  refine wpAny_bind (wpAny_letGo (wpAny_pure ?_))
  refine wpAny_bind (wpAny_bind (wpAny_onRaise ?_))
  show wpAny _ _ (Builtin.SmallTypes.nextOf (.ref i2) >>= _) _ _ _
  refine wpAny_bind (nextT_item (s := { s with heap := g3 }) (((h2.extBut b1.extBut D.i2z).extBut b2.extBut D.i12.symm).extBut b3.extBut D.TOi2.symm) (((hl2.extBut b1.extBut D.l2z).extBut b2.extBut D.l2i1).extBut b3.extBut D.l2TO) hy fun g4 j4 b4 => wpAny_pure ?_)
  have o4 : IsPair g4 TO x b := b4.extBut _ _ D.TOi2 o3
  refine wpAny_bind (wpAny_seqItems o4 rfl ?_)
  refine wpAny_bind (wpAny_updateSeq_pair o4 fun g5 o5 b5 => ?_)
  replace o5 : IsPair g5 TO x y := o5
  refine wpAny_bind (wpAny_letGo (wpAny_pure (wpAny_pure ?_)))
  refine wpAny_bind (wpAny_seqItems o5 rfl ?_)
  refine wpAny_bind (wpAny_newTuple ?_)
  have sz : g5.objs.size = s.heap.objs.size := by rw [b5.1, b4.1, b3.1, b2.1, b1.1]
  have z5 : IsZip g5 z TI TO .ellipsis := b5.extBut _ _ D.TOz.symm (b4.extBut _ _ D.i2z.symm (b3.extBut _ _ D.TOz.symm (b2.extBut _ _ D.i1z.symm z1)))
  have k5 : ∀ c o, c ≠ z → c ≠ TO → c ≠ i1 → c ≠ i2 → s.heap.get? c = some o → g5.get? c = some o := fun c o c1 c2 c3 c4 e => b5.extBut _ _ c2 (b4.extBut _ _ c4 (b3.extBut _ _ c2 (b2.extBut _ _ c3 (b1.extBut _ _ c1 e))))
  have p1 : g5.IsTupleIter i1 t1 (k + 1) := ((j2.extBut b3.extBut D.TOi1.symm).extBut b4.extBut D.i12).extBut b5.extBut D.TOi1.symm
  have p2 : g5.IsTupleIter i2 t2 (k + 1) := j4.extBut b5.extBut D.TOi2.symm
  have zlt : z < g5.objs.size := Heap.lt_size z5
  show wpAny _ _ (Builtin.SmallTypes.ownedTupleHandOut (.ref z) (.ref g5.objs.size) >>= _) _ _ _
  refine wpAny_bind ?_
  unfold Builtin.SmallTypes.ownedTupleHandOut
  have z6 : IsZip (g5.push { cls := .type "tuple", data := .seq #[x, y] }) z TI TO .ellipsis := Heap.get?_push_of_some _ z5
  refine wpAny_bind (wpAny_setField_rec z6 (by simp) fun g7 z7 b7 => ?_)
  replace z7 : IsZip g7 z TI TO (rawInt g5.objs.size) := z7
  refine wpAny_setField_rec z7 (by simp) fun g8 z8 b8 => ?_
  replace z8 : IsZip g8 z TI TO (rawInt g5.objs.size) := z8
  have up : ∀ c o, c ≠ z → g5.get? c = some o → g8.get? c = some o := fun c o c1 e => b8.extBut _ _ c1 (b7.extBut _ _ c1 (Heap.get?_push_of_some _ e))
  have T8 : IsPair g8 g5.objs.size x y := b8.extBut _ _ (Nat.ne_of_gt zlt) (b7.extBut _ _ (Nat.ne_of_gt zlt) (Heap.get?_push_size _ rfl))
  have s8 : g8.objs.size = g5.objs.size + 1 := by rw [b8.1, b7.1, Heap.size_push]
  rw [sz] at z8 T8 s8
  refine wpAny_pure ⟨_, rfl, ?_⟩
  show Q (.ref g5.objs.size) _
  rw [sz]
  have kk : ∀ c o, c ≠ z → c ≠ TO → c ≠ i1 → c ≠ i2 → s.heap.get? c = some o → g8.get? c = some o := fun c o c1 c2 c3 c4 e => up c o c1 (k5 c o c1 c2 c3 c4 e)
  refine hQ g8 ⟨z8, kk _ _ D.TIz D.TITO D.TIi1 D.TIi2 hTI, ⟨x, y, up _ _ D.TOz o5⟩, ?_, ?_, ?_, ?_⟩ T8 s8 kk
  · obtain ⟨o, e, r⟩ := p1; exact ⟨o, up _ o D.i1z e, r⟩
  · obtain ⟨o, e, r⟩ := p2; exact ⟨o, up _ o D.i2z e, r⟩
  · obtain ⟨o, e, r⟩ := hl1; exact ⟨o, kk _ o D.l1z D.l1TO D.l1i1 D.l1i2 e, r⟩
  · obtain ⟨o, e, r⟩ := hl2; exact ⟨o, kk _ o D.l2z D.l2TO D.l2i1 D.l2i2 e, r⟩
theorem zipT_end {z TI TO i1 i2 t1 t2 : Addr} {k : Nat} {xs ys : Array Value} {Q : Fin → Shared → Prop} (hh : A.handled = none) (D : ZipApart z TI TO i1 i2 t1 t2) (Z : ZT s.heap z TI TO i1 i2 t1 t2 k xs ys .none) (hx : xs[k]? = none)
    (hE : ∀ h' e, (∀ c o, c ≠ z → c ≠ TO → c ≠ i1 → c ≠ i2 → s.heap.get? c = some o → h'.get? c = some o) → (∃ o, h'.get? e = some o ∧ o.cls = .type "StopIteration") → E (.ref e) { s with heap := h' }) :
    wpAny (model prog w) A (Builtin.«zip.__next__» ⟨[.ref z], []⟩) Q E s := by
  obtain ⟨hz, hTI, ⟨a, b, hTO⟩, h1, h2, hl1, hl2⟩ := Z
  show wpAny _ _ (field (.ref z) 2 >>= _) _ _ _
  refine wpAny_bind (wpAny_field hz rfl (x := .bool false) rfl ?_)
  show wpAny _ _ (field (.ref z) 3 >>= _) _ _ _
  refine wpAny_bind (wpAny_field hz rfl (x := .ref TI) rfl ?_)
  refine wpAny_bind (wpAny_seqItems hTI rfl ?_)
  show wpAny _ _ (Builtin.SmallTypes.ownedTupleIsFree (.ref z) >>= _) _ _ _
  refine wpAny_bind ?_
  unfold Builtin.SmallTypes.ownedTupleIsFree
  refine wpAny_bind (wpAny_field hz rfl (x := .none) rfl (wpAny_pure ?_))
  simp only [if_true]
  refine wpAny_bind (wpAny_rule ?_)
  refine wpAny_bind (wpAny_field hz rfl (x := .ref TO) rfl ?_)
  refine wpAny_bind (wpAny_setField_rec hz (by simp) fun g1 z1 b1 => ?_)
  replace z1 : IsZip g1 z TI TO .ellipsis := z1
  refine wpAny_bind ?_
  simp only [List.zipIdx_cons, List.zipIdx_nil, List.forIn_cons, List.forIn_nil]
  refine wpAny_bind (wpAny_bind (wpAny_onRaise ?_))
  show wpAny _ _ (Builtin.SmallTypes.nextOf (.ref i1) >>= _) _ _ _
  refine wpAny_bind (nextT_end (s := { s with heap := g1 }) hh (h1.extBut b1.extBut D.i1z) (hl1.extBut b1.extBut D.l1z) hx fun g2 e b2 he => ?_)
  obtain ⟨oe, hoe, hce⟩ := he
  have z2 : IsZip g2 z TI TO .ellipsis := b2 _ _ D.i1z.symm z1
  have hez : e ≠ z := fun q => by subst q; rw [z2] at hoe; cases hoe; simp at hce
  exact wpAny_setField_rec z2 (by simp) fun g3 _ b3 => hE g3 e (fun c o c1 _ c3 _ q => b3.extBut _ _ c1 (b2 _ _ c3 (b1.extBut _ _ c1 q))) ⟨oe, b3.extBut _ _ hez hoe, hce⟩
theorem zipT_next {z TI TO i1 i2 t1 t2 : Addr} {k : Nat} {xs ys : Array Value} {x y : Value} {Q : Option Value → Shared → Prop} (D : ZipApart z TI TO i1 i2 t1 t2) (Z : ZT s.heap z TI TO i1 i2 t1 t2 k xs ys .none) (hx : xs[k]? = some x) (hy : ys[k]? = some y)
    (hQ : ∀ h', ZT h' z TI TO i1 i2 t1 t2 (k + 1) xs ys (rawInt s.heap.objs.size) → IsPair h' s.heap.objs.size x y → h'.objs.size = s.heap.objs.size + 1 → (∀ c o, c ≠ z → c ≠ TO → c ≠ i1 → c ≠ i2 → s.heap.get? c = some o → h'.get? c = some o) → Q (some (.ref s.heap.objs.size)) { s with heap := h' }) :
    wpAny (model prog w) A (pyNext (.ref z)) Q E s := by
  have hT : s.TypeIs (.ref z) "zip" := ⟨_, Z.zp, rfl⟩
  unfold pyNext
  exact wpAny_bind (wpAny_attempt (wpAny_callSpecial?_slot (name := Str.ofString "__next__") hT F.slot_zip_next (wpAny_call_entry F.slot_zip_next hT F.entry_zip_next (zipT_item D Z hx hy fun h' a1 a2 a3 a4 => wpAny_pure (hQ h' a1 a2 a3 a4)) (F.args_zip_next_1 _))))
theorem zipT_stop {z TI TO i1 i2 t1 t2 : Addr} {k : Nat} {xs ys : Array Value} {Q : Option Value → Shared → Prop} (hh : A.handled = none) (D : ZipApart z TI TO i1 i2 t1 t2) (Z : ZT s.heap z TI TO i1 i2 t1 t2 k xs ys .none) (hx : xs[k]? = none)
    (hQ : ∀ h', (∀ c o, c ≠ z → c ≠ TO → c ≠ i1 → c ≠ i2 → s.heap.get? c = some o → h'.get? c = some o) → Q none { s with heap := h' }) : wpAny (model prog w) A (pyNext (.ref z)) Q E s := by
  have hT : s.TypeIs (.ref z) "zip" := ⟨_, Z.zp, rfl⟩
  unfold pyNext
  refine wpAny_bind (wpAny_attempt (wpAny_callSpecial?_slot (name := Str.ofString "__next__") hT F.slot_zip_next (wpAny_call_entry F.slot_zip_next hT F.entry_zip_next (zipT_end hh D Z hx fun h' e hk he => ?_) (F.args_zip_next_1 _))))
  obtain ⟨o, ho, hc⟩ := he
  refine wpAny_bind (wpAny_isInstance (T := "StopIteration") (b := true) ⟨o, ho, hc⟩ isSubtype_stop ?_)
  exact wpAny_pure (hQ _ hk)
end
abbrev zT1 (h : Heap) (l1 : Addr) : Heap := h.push { cls := .type "tuple_iterator", data := .fields #[.ref l1, .int 0 0] }
abbrev zT2 (h : Heap) (l1 l2 : Addr) : Heap := (zT1 h l1).push { cls := .type "tuple_iterator", data := .fields #[.ref l2, .int 0 0] }
abbrev zT3 (h : Heap) (l1 l2 : Addr) : Heap := (zT2 h l1 l2).push { cls := .type "tuple", data := .seq #[.ref h.objs.size, .ref (zT1 h l1).objs.size] }
abbrev zT4 (h : Heap) (l1 l2 : Addr) : Heap := (zT3 h l1 l2).push { cls := .type "tuple", data := .seq #[.none, .none] }
abbrev zT5 (h : Heap) (l1 l2 : Addr) : Heap := (zT4 h l1 l2).push { cls := .type "zip", data := .fields #[.none, .bool false, .bool false, .ref (zT2 h l1 l2).objs.size, .ref (zT3 h l1 l2).objs.size] }
theorem meets_zipT (l1 l2 : Addr) (xs ys : Array Value) :
    Meets (Builtin.«zip.__new__» ⟨[.type "zip", .ref l1, .ref l2], []⟩) (fun _ R s => s.heap.IsTuple l1 xs ∧ s.heap.IsTuple l2 ys ∧ R (.ok (.ret (.ref (zT4 s.heap l1 l2).objs.size))) { s with heap := zT5 s.heap l1 l2 }) :=
  .of_wp fun prog w A R s h => by
    obtain ⟨hp, g, d, tk, os⟩ := s; obtain ⟨hl1, hl2, h⟩ := h
    have hsub := sub_zip
    have m1 : Heap.IsTuple (Shared.heap ⟨hp, g, d, tk, os⟩) l1 xs := hl1
    have m2 : Heap.IsTuple (Shared.heap ⟨hp.push { cls := .type "tuple_iterator", data := .fields #[.ref l1, .int 0 0] }, g, d, tk, os⟩) l2 ys := Heap.IsTuple.push hl2 _
    wp_walk using wpAny_pyIter_tuple m1, wpAny_pyIter_tuple m2
    exact ⟨_, rfl, h⟩
theorem call_zipT {prog : Program} {w : World} {A : Around} {E : Value → Shared → Prop} {s : Shared} {l1 l2 : Addr} {xs ys : Array Value} {Q : Value → Shared → Prop} (hl1 : s.heap.IsTuple l1 xs) (hl2 : s.heap.IsTuple l2 ys)
    (h : ∀ h', ZT h' (s.heap.objs.size + 4) (s.heap.objs.size + 2) (s.heap.objs.size + 3) s.heap.objs.size (s.heap.objs.size + 1) l1 l2 0 xs ys .none → h'.objs.size = s.heap.objs.size + 5 → (∀ c o, s.heap.get? c = some o → h'.get? c = some o) → Q (.ref (s.heap.objs.size + 4)) { s with heap := h' }) :
    wpAny (model prog w) A (call (.type "zip") [.ref l1, .ref l2]) Q E s := by
  refine callType_new F.called_zip (by decide) (F.typeCall_zip_2 _ _) (F.newCall_zip_2 _ _) (fun obj => F.args_object_init_3 obj _ _) F.entry_zip_new (meets_zipT l1 l2 xs ys) ⟨hl1, hl2, ?_⟩
  have z1 : (zT1 s.heap l1).objs.size = s.heap.objs.size + 1 := Heap.size_push ..
  have z2 : (zT2 s.heap l1 l2).objs.size = s.heap.objs.size + 2 := by rw [Heap.size_push, z1]
  have z3 : (zT3 s.heap l1 l2).objs.size = s.heap.objs.size + 3 := by rw [Heap.size_push, z2]
  have z4 : (zT4 s.heap l1 l2).objs.size = s.heap.objs.size + 4 := by rw [Heap.size_push, z3]
  have z5 : (zT5 s.heap l1 l2).objs.size = s.heap.objs.size + 5 := by rw [Heap.size_push, z4]
  have kp : ∀ c o, s.heap.get? c = some o → (zT5 s.heap l1 l2).get? c = some o := fun c o x => Heap.get?_push_of_some _ (Heap.get?_push_of_some _ (Heap.get?_push_of_some _ (Heap.get?_push_of_some _ (Heap.get?_push_of_some _ x))))
  have g5 : (zT5 s.heap l1 l2).get? (zT4 s.heap l1 l2).objs.size = some _ := Heap.get?_push_size _ rfl
  have g4 : (zT5 s.heap l1 l2).get? (zT3 s.heap l1 l2).objs.size = some _ := Heap.get?_push_of_some _ (Heap.get?_push_size _ rfl)
  have g3 : (zT5 s.heap l1 l2).get? (zT2 s.heap l1 l2).objs.size = some _ := Heap.get?_push_of_some _ (Heap.get?_push_of_some _ (Heap.get?_push_size _ rfl))
  have g2 : (zT5 s.heap l1 l2).get? (zT1 s.heap l1).objs.size = some _ := Heap.get?_push_of_some _ (Heap.get?_push_of_some _ (Heap.get?_push_of_some _ (Heap.get?_push_size _ rfl)))
  have g1 : (zT5 s.heap l1 l2).get? s.heap.objs.size = some _ := Heap.get?_push_of_some _ (Heap.get?_push_of_some _ (Heap.get?_push_of_some _ (Heap.get?_push_of_some _ (Heap.get?_push_size _ rfl))))
  show _ ∧ _
  rw [z2, z3, z4] at g5
  rw [z1, z2] at g3
  rw [z3] at g4
  rw [z1] at g2
  rw [z4]
  refine ⟨⟨_, g5, rfl⟩, h _ ⟨g5, g3, ⟨_, _, g4⟩, ⟨_, g1, rfl, rfl⟩, ⟨_, g2, rfl, rfl⟩, ?_, ?_⟩ z5 kp⟩
  · obtain ⟨o, e, r⟩ := hl1; exact ⟨o, kp _ o e, r⟩
  · obtain ⟨o, e, r⟩ := hl2; exact ⟨o, kp _ o e, r⟩
end L2

/-! for (x, y) in zip(t, u), t and u tuples (own work). -/
namespace L2
open PySem PySem.Spec PyProof.Rows
section
variable {X : Cx} {pins : List (Addr × Obj)} {σ : St} {H : Hp} {s : Shared} {h' : Heap}
/-- several records of ours have turned -/
theorem Inv.turnedL {t' : Nat} {ch : List Addr} (I : Inv X pins σ H s) (k : ∀ b o, b ∉ ch → s.heap.get? b = some o → h'.get? b = some o) (f : ∀ b ∈ ch, FpOk X pins H b) : Inv X pins σ H { s with heap := h', toks := t' } := by
  have nit : ∀ b u, H b = some u → b ∉ ch := fun b u e z => by rw [(f b z).1] at e; cases e
  refine I.step (g' := s.gens) (d' := s.drawn) (ch := ch) (fun b hb => ?_) (fun b o _ _ hc e _ => k b o hc e) (fun b o _ _ hc e _ => ⟨o.slots, k b o hc e⟩) (fun _ _ _ _ n => n) (fun b o hc e => ⟨o, k b o hc e⟩) (fun _ _ e => e) (fun _ _ _ e => e) (fun b ps e => ⟨#[], by rw [e]; simp⟩) (fun m hm => ?_) (fun b u e => ?_) I.bare
  · obtain ⟨f0, f1, f2, f3, f4, f5⟩ := f b hb
    exact ⟨f3, f1, f4, f5⟩
  · obtain ⟨o, es, ep, ho, r⟩ := hm
    refine ⟨o, es, ep, k _ o (fun z => ?_) ho, r⟩
    obtain ⟨f0, f1, _⟩ := f _ z
    exact f1 rfl
  · refine (I.hok b u e).stay (fun c v hc q => k c v ?_ q) (fun _ q => q) fun _ _ q => q
    rcases hc with z | z
    · rw [z]; exact nit b u e
    · exact nit c _ z
end
/-- the records of a zip at place k -/
structure ZM (h : Heap) (z TI TO i1 i2 a b : Addr) (k : Nat) : Prop where
  zp : IsZip h z TI TO .none
  ti : IsPair h TI (.ref i1) (.ref i2)
  to : ∃ u v, IsPair h TO u v
  j1 : h.IsTupleIter i1 a k
  j2 : h.IsTupleIter i2 b k
def ItZ (K : PySem.W.Frag) (a b : Addr) : It :=
  ⟨fun i H => ∃ xs ys x y, SqT K H a xs ∧ SqT K H b ys ∧ xs[i]? = some x ∧ ys[i]? = some y, fun i H x H' => ∃ u v p, (∀ xs ys, SqT K H a xs → SqT K H b ys → xs[i]? = some u ∧ ys[i]? = some v) ∧ x = .ref p ∧ H p = none ∧ H' = upd H p (.tup [u, v]), fun i H => ∃ xs ys, SqT K H a xs ∧ SqT K H b ys ∧ xs.length ≤ i⟩
theorem turn_zipT {P : Program} {w : World} {K : PySem.W.Frag} {es : List Expr} {x1 : Nat} {tp : Pos} (a b z TI TO i1 i2 : Addr) (D : ZipApart z TI TO i1 i2 a b) : Turn P w K (.Tuple es x1 tp) (ItZ K a b) [z, TI, TO, i1, i2] z (fun i h => ZM h z TI TO i1 i2 a b i) where
  mem := by simp
  obj := fun i h st c hc => by
    obtain ⟨s1, s2, ⟨u, v, s3⟩, s4, s5⟩ := st
    simp only [List.mem_cons, List.not_mem_nil, or_false] at hc
    rcases hc with q | q | q | q | q
    · subst q; exact ⟨_, s1, fun v z => by cases z⟩
    · subst q; exact ⟨_, s2, fun v z => by cases z⟩
    · subst q; exact ⟨_, s3, fun v z => by cases z⟩
    · subst q; obtain ⟨o, e, _, d⟩ := s4; exact ⟨o, e, fun v z => by rw [d] at z; cases z⟩
    · subst q; obtain ⟨o, e, _, d⟩ := s5; exact ⟨o, e, fun v z => by rw [d] at z; cases z⟩
  keep := fun i h h' st k => by
    obtain ⟨s1, s2, ⟨u, v, s3⟩, ⟨o4, e4, r4⟩, ⟨o5, e5, r5⟩⟩ := st
    exact ⟨k z (by simp) _ s1, k TI (by simp) _ s2, ⟨u, v, k TO (by simp) _ s3⟩, ⟨o4, k i1 (by simp) _ e4, r4⟩, ⟨o5, k i2 (by simp) _ e5, r5⟩⟩
  item := by
    intro X hP hw hK hc i pins s σ H E I hf st hg
    subst hP hw hK
    obtain ⟨s1, s2, s3, s4, s5⟩ := st
    obtain ⟨xs, ys, x, y, hq1, hq2, hx, hy⟩ := hg
    obtain ⟨its, rv, p, hz⟩ := I.tuple hq1
    obtain ⟨jts, rw', p', hz'⟩ := I.tuple hq2
    obtain ⟨u, hu, ru⟩ := rv.get hx
    obtain ⟨v, hv, rv'⟩ := rw'.get hy
    have Z : ZT s.heap z TI TO i1 i2 a b i its.toArray jts.toArray .none := ⟨s1, s2, s3, s4, s5, p, p'⟩
    refine zipT_next D Z (x := u) (y := v) (by simpa using hu) (by simpa using hv) fun h' Z' ht hsz kp => ?_
    refine ⟨_, rfl, ?_⟩
    refine wpAny_letOwnedTupleGo_zip (s := { s with heap := h' }) Z'.zp fun h'' zp'' sb => ?_
    have zlt : z < s.heap.objs.size := Heap.lt_size s1
    have kp2 : ∀ c o, c ∉ [z, TI, TO, i1, i2] → s.heap.get? c = some o → h''.get? c = some o := fun c o hc e => by
      simp only [List.mem_cons, List.not_mem_nil, or_false, not_or] at hc
      exact (sb.2 c hc.1).trans (kp c o hc.1 hc.2.2.1 hc.2.2.2.1 hc.2.2.2.2 e)
    have I1 : Inv X pins σ H { s with heap := h'' } := I.turnedL (t' := s.toks) kp2 hf
    have hp : H s.heap.objs.size = none := I.hok.fresh (Nat.le_refl _)
    have e2 : h''.get? s.heap.objs.size = some { cls := .type "tuple", data := .seq #[u, v] } := (sb.2 _ (Nat.ne_of_gt zlt)).trans ht
    have I2 : Inv X pins σ (upd H s.heap.objs.size (.tup [x, y])) { s with heap := h'' } := I1.track (I.our (Nat.le_refl _)) ⟨(show 2 ≤ sizeLine by decide), [u, v], .cons ru (.cons rv' .nil), ⟨_, e2, rfl, _, rfl⟩⟩
    refine ⟨.ref s.heap.objs.size, _, I2, rfl, ⟨x, y, _, fun ws us h1 h2 => ?_, rfl, hp, rfl⟩, ?_, fun c hc => ?_⟩
    · rw [I.tuple_inj h1 hq1, I.tuple_inj h2 hq2]
      exact ⟨hx, hy⟩
    · have up : ∀ c o, c ≠ z → h'.get? c = some o → h''.get? c = some o := fun c o hc e => (sb.2 c hc).trans e
      obtain ⟨_, q2, ⟨q3a, q3b, q3⟩, ⟨o4, e4, r4⟩, ⟨o5, e5, r5⟩, _, _⟩ := Z'
      exact ⟨zp'', up _ _ D.TIz q2, ⟨q3a, q3b, up _ _ D.TOz q3⟩, ⟨o4, up _ _ D.i1z e4, r4⟩, ⟨o5, up _ _ D.i2z e5, r5⟩⟩
    · obtain ⟨f0, _⟩ := hf c hc
      rw [upd_ne fun q => ?_]
      · exact f0
      · have lt : ∀ c o, s.heap.get? c = some o → c ≠ s.heap.objs.size := fun c o e => Nat.ne_of_lt (Heap.lt_size e)
        obtain ⟨q3a, q3b, q3⟩ := s3
        obtain ⟨o4, e4, _⟩ := s4
        obtain ⟨o5, e5, _⟩ := s5
        simp only [List.mem_cons, List.not_mem_nil, or_false] at hc
        rcases hc with r | r | r | r | r
        · exact lt z _ s1 (r ▸ q)
        · exact lt TI _ s2 (r ▸ q)
        · exact lt TO _ q3 (r ▸ q)
        · exact lt i1 _ e4 (r ▸ q)
        · exact lt i2 _ e5 (r ▸ q)
  done := by
    intro X hP hw hK hc i pins s σ H E I hf st hg
    subst hP hw hK
    obtain ⟨s1, s2, s3, s4, s5⟩ := st
    obtain ⟨xs, ys, hq1, hq2, hx⟩ := hg
    obtain ⟨its, rv, p, hz⟩ := I.tuple hq1
    obtain ⟨jts, rw', p', hz'⟩ := I.tuple hq2
    have hl := rv.length
    have Z : ZT s.heap z TI TO i1 i2 a b i its.toArray jts.toArray .none := ⟨s1, s2, s3, s4, s5, p, p'⟩
    refine zipT_stop (I.ok.hd hc) D Z (by simp; omega) fun h' kp => ⟨rfl, I.turnedL (t' := s.toks) (fun c o hc e => ?_) hf⟩
    simp only [List.mem_cons, List.not_mem_nil, or_false, not_or] at hc
    exact kp c o hc.1 hc.2.2.1 hc.2.2.2.1 hc.2.2.2.2 e
  self := fun A i s Q E st h => wpAny_pyIter_zip st.zp h
section
variable {X : Cx}
theorem boot_zip : bootBuiltins "zip" = some (.type "zip") := by decide +kernel
def iZipT (K : PySem.W.Frag) (ta : TA) : TI := fun σ H R => ta σ H fun vs H1 => ∃ a b, vs = [.ref a, .ref b] ∧ (∃ xs, SqT K H1 a xs) ∧ (∃ ys, SqT K H1 b ys) ∧ R (ItZ K a b) H1
theorem pi_zipT {es : List Expr} {x1 : Nat} {tp : Pos} {l m : Expr} {ta : TA} {p pos : Pos} (hg : Gl X "zip") (hm : X.mg "zip" = none) (ha : PA X [l, m] ta) (hs : starEach [l, m] X.env = (false, eval l X.env) :: starEach [m] X.env := by rfl) (hpl : (backTo pos (starEach [m] X.env)).any (·.1) = false := by rfl) :
    PI X (.Tuple es x1 tp) (.Call (.Name "zip" p) [l, m] [] pos) (iZipT X.K ta) := by
  intro pins s σ H R I h
  refine Call_ (ld_blt I hg hm boot_zip (PyProof.Rows.callWith_type1 (thn (ha pos pins s σ H _ I h) fun us s1 ⟨vs, H1, I1, r1, q1⟩ => ?_) hs hpl))
  obtain ⟨a, b, e, ⟨xs, hq1⟩, ⟨ys, hq2⟩, q⟩ := q1
  subst e
  obtain ⟨u, v, rfl, rx, ry⟩ := vals2 r1
  cases rx
  cases ry
  obtain ⟨its, rv, p1, hz⟩ := I1.tuple hq1
  obtain ⟨jts, rw', p2, hz'⟩ := I1.tuple hq2
  have la : a < s1.heap.objs.size := by obtain ⟨o, e, _⟩ := p1; exact Heap.lt_size e
  have lb : b < s1.heap.objs.size := by obtain ⟨o, e, _⟩ := p2; exact Heap.lt_size e
  have D : ZipApart (s1.heap.objs.size + 4) (s1.heap.objs.size + 2) (s1.heap.objs.size + 3) s1.heap.objs.size (s1.heap.objs.size + 1) a b := by
    generalize s1.heap.objs.size = n at la lb
    constructor <;> (intro z; simp only [Addr] at *; omega)
  refine call_zipT p1 p2 fun h' Z hsz hk => ?_
  have I2 : Inv X pins σ H1 { s1 with heap := h' } := I1.kept (t' := s1.toks) hk
  refine wpAny_pyIter_zip (s := { s1 with heap := h' }) Z.zp ?_
  refine ⟨s1.heap.objs.size + 4, [s1.heap.objs.size + 4, s1.heap.objs.size + 2, s1.heap.objs.size + 3, s1.heap.objs.size, s1.heap.objs.size + 1], _, _, H1, rfl, I2, turn_zipT a b _ _ _ _ _ D, ⟨Z.zp, Z.ti, Z.to, Z.j1, Z.j2⟩, fun c hc => ?_, q⟩
  have nb : s1.heap.objs.size ≤ c := by
    simp only [List.mem_cons, List.not_mem_nil, or_false] at hc
    rcases hc with r | r | r | r | r <;> (rw [r]; first | exact Nat.le_refl _ | exact Nat.le_add_right _ _)
  exact I1.fpOk nb (I1.hok.fresh nb)
/-- the loop -/
theorem for_zipT {K : PySem.W.Frag} {a b : Addr} {xs ys : List V} {g : TG} {tb : TS} {D : Ends} {σ : St} {H : Hp} (Pv : Nat → St → Hp → Prop) (hlen : xs.length = ys.length) (h0 : Pv 0 σ H) (hl : ∀ i σ H, i ≤ xs.length → Pv i σ H → SqT K H a xs ∧ SqT K H b ys)
    (hs : ∀ i x y p σ H, xs[i]? = some x → ys[i]? = some y → Pv i σ H → H p = none → g (.ref p) σ (upd H p (.tup [x, y])) fun σ2 H2 => tb { D with nx := Pv (i + 1), ct := Pv (i + 1), bk := D.nx } σ2 H2) (hd : ∀ σ H, Pv xs.length σ H → D.nx σ H) :
    ∃ W : Nat → Nat → St → Hp → Prop, (∃ m, W 0 m σ H) ∧ ∀ i m σ H, W i m σ H →
      ((ItZ K a b).stop i H ∧ D.nx σ H) ∨ ((ItZ K a b).go i H ∧ ∃ N : St → Hp → Prop, (∀ σ' H', N σ' H' → ∃ m', m' < m ∧ W (i + 1) m' σ' H') ∧ ∀ x H', (ItZ K a b).yld i H x H' → g x σ H' fun σ2 H2 => tb { D with nx := N, ct := N, bk := D.nx } σ2 H2) := by
  refine ⟨fun i m σ H => m = xs.length - i ∧ i ≤ xs.length ∧ Pv i σ H, ⟨xs.length, by simp, Nat.zero_le _, h0⟩, ?_⟩
  rintro i m σ H ⟨rfl, hi, p⟩
  obtain ⟨q1, q2⟩ := hl i σ H hi p
  by_cases hlt : i < xs.length
  · have hlt2 : i < ys.length := by omega
    refine .inr ⟨⟨xs, ys, xs[i], ys[i], q1, q2, by simp [hlt], by simp [hlt2]⟩, Pv (i + 1), fun σ' H' p' => ⟨xs.length - (i + 1), by omega, rfl, hlt, p'⟩, fun x H' y => ?_⟩
    obtain ⟨u, v, pa, hk, ex, hn, e⟩ := y
    subst e ex
    exact hs i u v pa σ H (hk xs ys q1 q2).1 (hk xs ys q1 q2).2 p hn
  · have e : i = xs.length := by omega
    subst e
    exact .inl ⟨⟨xs, ys, q1, q2, Nat.le_refl _⟩, hd σ H p⟩
end
end L2

namespace My
open PySem L2 PyProof.Rows
def top (i : Nat) : Stmt := PySem.Challenge.pw_halfmoved_k05_a_form_is_made.main.body.getD i (.Pass ⟨0, 0, 0, 0⟩)
section
variable {P : Program} {w : World} {K : PySem.W.Frag} {mg : Str → Option Value} {base : Heap}
theorem ok_cell {f : Addr} {fd : FuncData} (F : Fun K "_law_cell" "_law_cell" (top 27) f fd) (B : Bl mg) : FnOk P w K mg base CX0 1 f fd ["_law_script", "_law_k"] (spCell K) := by
  have sc : FnScope ["_law_script", "_law_k", "_law_number"] ["_law_script", "_law_k"] (defScope (top 27)) := ⟨rfl, rfl, rfl, by decide +kernel, rfl, by decide +kernel, by decide +kernel⟩
  refine F.ok sc (fun vs H Q E h => ?_) (fun cdv A outer s H vs Q E hr h => ?_)
  · obtain ⟨a, ns, k, rfl, _⟩ := h
    rfl
  · obtain ⟨a, ns, k, rfl, hS, h0, h1, h63, q⟩ := h
    have hl : (ns.map V.int).length = ns.length := List.length_map ..
    refine ⟨_, pss_cons (ps_if (pt_cmpR op_lt (pv 1) (pe_callB call_len_seq (by rfl) B.len PySem.boot_len (pa_cons (pv 0) pa_nil)) (nomark _)) (pss_one (ps_ret (pe_ix ix_list (pv 0) (pv 1) (fun _ _ => rfl)))) pss_nil)
      (pss_cons (ps_set (i := 2) sc.nd rfl (Or.inl rfl) (pe_op op_add (pe_op op_mul (pv 1) pe_int) pe_int))
      (pss_cons (ps_if (pt_cmpR op_gt (pe_callB call_len_seq (by rfl) B.len PySem.boot_len (pa_cons (pv 0) pa_nil)) pe_int (nomark _))
        (pss_one (ps_set (i := 2) sc.nd rfl (Or.inl rfl) (pe_op op_add (pv 2) (pe_op op_mul (pe_op op_mod (pe_ix ix_list (pv 0) (pe_op op_mod (pv 1) (pe_callB call_len_seq (by rfl) B.len PySem.boot_len (pa_cons (pv 0) pa_nil))) (fun _ _ => rfl)) pe_int) pe_int)))) pss_nil)
      (pss_one (ps_ret (pe_op op_mod (pv 2) pe_int))))), ?_⟩
    refine ⟨_, rfl, _, rfl, _, _, rfl, .inl hS, _, _, rfl, rfl, _, rfl, ?_⟩
    refine ite2 (fun c => ?_) (fun c => ?_)
    · have c' : k < ns.length := by rw [← hl]; exact of_decide_eq_true c
      refine ⟨_, rfl, _, rfl, _, _, _, _, rfl, rfl, hS, item_ints h0 c', ?_⟩
      have e : cellF ns k = ns.getD k.toNat 0 := by unfold cellF; rw [if_pos c']
      rw [e] at q
      exact q
    · have c' : ¬ k < ns.length := fun z => c (decide_eq_true (by rw [hl]; exact z))
      refine ⟨_, rfl, _, _, rfl, rfl, .inr ⟨by decide, by decide⟩, _, _, rfl, rfl, ?_⟩
      refine ⟨_, rfl, _, _, rfl, .inl hS, _, _, rfl, rfl, _, rfl, ?_⟩
      refine ite2 (fun c2 => ?_) (fun c2 => ?_)
      · have c3 : (0 : Int) < ns.length := by rw [← hl]; exact of_decide_eq_true c2
        have m0 : 0 ≤ k % (ns.length : Int) := Int.emod_nonneg _ (by omega)
        have m1 : k % (ns.length : Int) < ns.length := Int.emod_lt_of_pos _ c3
        refine ⟨_, rfl, _, rfl, _, rfl, _, rfl, _, _, rfl, .inl hS, _, _, rfl, rfl, (by rw [hl]; exact c3), _, _, _, _, rfl, rfl, hS, (by rw [hl]; exact item_ints m0 m1), _, _, rfl, rfl, (pos rfl), _, _, rfl, rfl, .inr ⟨by decide, by decide⟩, _, _, rfl, rfl, ?_⟩
        refine ⟨_, rfl, _, _, rfl, rfl, (pos rfl), ?_⟩
        have e : cellF ns k = (k * 7919 + 5 + ns.getD (k % ns.length).toNat 0 % 2147483647 * 48271) % 2147483647 := by
          unfold cellF
          rw [if_neg c', if_pos (by omega)]
        rw [e] at q
        exact q
      · have c3 : ¬ 0 < ns.length := fun z => c2 (decide_eq_true (by rw [hl]; omega))
        refine ⟨_, rfl, _, _, rfl, rfl, (pos rfl), ?_⟩
        have e : cellF ns k = (k * 7919 + 5) % 2147483647 := by
          unfold cellF
          rw [if_neg c', if_neg c3, Int.add_zero]
        rw [e] at q
        exact q

theorem ok_whole {f : Addr} {fd : FuncData} (F : Fun K "is_whole" "is_whole" (top 9) f fd) (B : Bl mg) : FnOk P w K mg base CX0 1 f fd ["thing"] (spWhole K) := by
  have sc : FnScope ["thing"] ["thing"] (defScope (top 9)) := ⟨rfl, rfl, rfl, by decide +kernel, rfl, by decide +kernel, by decide +kernel⟩
  refine F.ok sc (fun vs H Q E h => ?_) (fun cdv A outer s H vs Q E hr h => ?_)
  · obtain ⟨v, n, rfl, _⟩ := h
    rfl
  · obtain ⟨v, n, rfl, ⟨ty, hn⟩, q⟩ := h
    refine ⟨_, pss_one (ps_ret (pe_and (pe_callB call_isi (by rfl) B.isi boot_isi (pa_cons (pv 0) (pa_cons (pe_bltn (v := .ty "int") (by rfl) B.int boot_int rfl) pa_nil)))
      (pe_one (pe_not (pe_callB call_isi (by rfl) B.isi boot_isi (pa_cons (pv 0) (pa_cons (pe_bltn (v := .ty "bool") (by rfl) B.bool boot_bool rfl) pa_nil))))))), ?_⟩
    refine ⟨_, rfl, _, _, _, _, rfl, ty, kit_eq.trans (kit_int n hn), _, rfl, ?_⟩
    refine ite2 (fun c => ?_) (fun c => ?_)
    · refine ⟨_, rfl, _, _, _, _, rfl, ty, kit_eq.trans (kit_bool n hn), _, rfl, ?_⟩
      have e : (!(n == "bool")) = (n == "int") := by
        revert c hn
        clear ty q
        revert n
        decide +kernel
      rw [e]
      exact q
    · have e : (n == "int") = false := by
        cases z : n == "int" with
        | false => rfl
        | true => rw [z] at c; exact (c rfl).elim
      rw [e] at q
      exact q

/-! ### kinds, without the heap -/
def wholeD : Dt → Bool
  | .int _ => true
  | _ => false
def sign1 (l : List Nat) : Bool := match l with
  | [c] => decide (32 ≤ c) && (decide (c ≤ 126) && !decide (c = 37))
  | _ => false
def signD : Dt → Bool
  | .str z => sign1 z.cps.toList
  | _ => false
def geD : Dt → Bool
  | .int i => decide (1 ≤ i)
  | _ => false
def pairD (s b : Dt) : Bool := if strIs s "below" = true then geD b else if strIs s "upto" = true then wholeD b else strIs s "without" && signD b
def w2 : List Str := ["whole", "word"]
def w3 : List Str := ["list", "some", "once"]
def plainD : Dt → Bool
  | .tup [s] => w2.any (strIs s)
  | .tup [s, b] => pairD s b
  | _ => false
def moreD : Dt → Bool
  | .tup [s] => strIs s "key"
  | .tup [s, b] => w3.any (strIs s) && plainD b
  | _ => false
def kindD (d : Dt) : Bool := plainD d || moreD d
theorem wholeD_ty (d : Dt) : (tyD d == "int") = wholeD d := by cases d <;> simp [tyD, wholeD]

theorem ok_sign {f : Addr} {fd : FuncData} (F : Fun K "is_sign" "is_sign" (top 11) f fd) (B : Bl mg) {uP : Value} (hP : mg "PERCENT" = some uP) (rP : RelV (.int 37) uP) :
    FnOk P w K mg base CX0 1 f fd ["thing"] (fun vs H Q _ => ∃ (v : V) (d : Dt), vs = [v] ∧ Rep H d v ∧ Q (.bl (signD d)) H) := by
  have sc : FnScope ["thing"] ["thing"] (defScope (top 11)) := ⟨rfl, rfl, rfl, by decide +kernel, rfl, by decide +kernel, by decide +kernel⟩
  refine F.ok sc (fun vs H Q E h => ?_) (fun cdv A outer s H vs Q E hr h => ?_)
  · obtain ⟨v, d, rfl, _⟩ := h
    rfl
  · obtain ⟨v, d, rfl, hd, q⟩ := h
    refine ⟨_, pss_cons (ps_if (PW.pt (pw_or (pt_not (pt_val (pe_callB call_isi (by rfl) B.isi boot_isi (pa_cons (pv 0) (pa_cons (pe_bltn (v := .ty "str") (by rfl) B.str boot_str rfl) pa_nil)))))
        (pw_or1 (pt_cmpR op_ne (pe_callB call_len_str (by rfl) B.len PySem.boot_len (pa_cons (pv 0) pa_nil)) pe_int (nomark _))))) (pss_one (ps_ret pe_bl)) pss_nil)
      (pss_one (ps_ret (pe_and (pe_chain op_le_str op_le_str pe_str (pv 0) pe_str) (pe_one (pe_cmpR op_ne (pe_callB call_ord (by rfl) B.ord boot_ord (pa_cons (pv 0) pa_nil)) (pe_glob (by rfl) hP rP) (nomark _)))))), ?_⟩
    by_cases hs : tyD d = "str"
    · obtain ⟨z, rfl⟩ : ∃ z, d = .str z := by
        cases d <;> first | exact ⟨_, rfl⟩ | (simp [tyD] at hs)
      unfold Rep at hd
      obtain ⟨rfl, hz⟩ := hd
      have hzs : z.length ≤ sizeLine := by rw [sizeLine_eq]; omega
      refine ⟨_, rfl, _, _, _, _, rfl, .str z, kit_eq.trans (show kitTy "str" "str" = some true by decide +kernel), _, rfl, ?_⟩
      refine iteF ?_
      refine ⟨_, rfl, _, rfl, hzs, rfl, _, rfl, ?_⟩
      have hl : z.cps.toList.length = z.length := by simp [Str.length]
      by_cases h1 : z.length = 1
      · obtain ⟨c, hc⟩ : ∃ c, z.cps.toList = [c] := by
          rw [h1] at hl
          match h : z.cps.toList, hl with
          | [c], _ => exact ⟨c, rfl⟩
        have hg : z.cps.getD 0 0 = c := by
          have : z.cps = #[c] := by rw [← Array.toArray_toList (xs := z.cps), hc]
          rw [this]
          rfl
        refine iteC (by rw [h1]; rfl) ?_
        have hq : signD (.str z) = (decide (32 ≤ c) && (decide (c ≤ 126) && !decide (c = 37))) := by
          show sign1 z.cps.toList = _
          rw [hc]
          rfl
        rw [hq] at q
        have e32 : (" " : Str).cps.toList = [32] := by decide +kernel
        have e126 : ("~" : Str).cps.toList = [126] := by decide +kernel
        have l1 : (!decide (z.cps.toList < (" " : Str).cps.toList)) = decide (32 ≤ c) := by
          rw [hc, e32, StrLaws.lt_cons_cons, StrLaws.lt_nil_nil, Bool.and_false, Bool.or_false]
          by_cases h : 32 ≤ c
          · rw [decide_eq_true h, decide_eq_false (by omega)]; rfl
          · rw [decide_eq_false h, decide_eq_true (by omega)]; rfl
        have l2 : (!decide (("~" : Str).cps.toList < z.cps.toList)) = decide (c ≤ 126) := by
          rw [hc, e126, StrLaws.lt_cons_cons, StrLaws.lt_nil_nil, Bool.and_false, Bool.or_false]
          by_cases h : c ≤ 126
          · rw [decide_eq_true h, decide_eq_false (by omega)]; rfl
          · rw [decide_eq_false h, decide_eq_true (by omega)]; rfl
        refine ⟨_, rfl, _, _, rfl, rfl, _, rfl, ?_⟩
        by_cases h32 : 32 ≤ c
        · refine iteB (l1.trans (decide_eq_true h32)) ?_
          refine ⟨_, _, rfl, rfl, _, rfl, ?_⟩
          rw [decide_eq_true h32, Bool.true_and] at q
          by_cases h126 : c ≤ 126
          · refine iteB (l2.trans (decide_eq_true h126)) ?_
            rw [decide_eq_true h126, Bool.true_and] at q
            refine ⟨_, rfl, _, rfl, h1, rfl, ?_⟩
            have e : decide (V.int (z.cps.getD 0 0 : Nat) = V.int 37) = decide (c = 37) := by
              rw [hg]
              exact lenEq (k := 37)
            rw [e]
            exact q
          · refine iteC (l2.trans (decide_eq_false h126)) ?_
            rw [decide_eq_false h126, Bool.false_and] at q
            exact q
        · refine iteC (l1.trans (decide_eq_false h32)) ?_
          rw [decide_eq_false h32, Bool.false_and] at q
          exact ⟨_, rfl, iteF q⟩
      · refine iteB ?_ ?_
        · have e : decide (V.int (z.length : Int) = V.int 1) = decide (z.length = 1) := lenEq (k := 1)
          rw [e, decide_eq_false h1]
          rfl
        · have hq : signD (.str z) = false := by
            show sign1 z.cps.toList = _
            rw [← hl] at h1
            match h : z.cps.toList, h1 with
            | [], _ => rfl
            | [c], h1 => exact (h1 rfl).elim
            | _ :: _ :: _, _ => rfl
          rw [hq] at q
          exact q
    · have e : (tyD d == "str") = false := beq_eq_false_iff_ne.mpr hs
      have hi := hd.is (K := K)
      refine ⟨_, rfl, _, _, _, _, rfl, hi.1, kit_eq.trans ((kit_str _ hi.2).trans (congrArg some e)), _, rfl, ?_⟩
      refine iteT ?_
      have hq : signD d = false := by
        cases d <;> first | rfl | exact (hs rfl).elim
      rw [hq] at q
      exact q

theorem ok_pair {f fW fS : Addr} {fd fdW fdS : FuncData} (F : Fun K "is_plain_pair" "is_plain_pair" (top 13) f fd) (B : Bl mg) (DW : Df K mg "is_whole" (top 9) fW fdW) (DS : Df K mg "is_sign" (top 11) fS fdS) {uP : Value} (hP : mg "PERCENT" = some uP) (rP : RelV (.int 37) uP) :
    FnOk P w K mg base CX0 2 f fd ["sort", "bound"] (fun vs H Q _ => ∃ (u v : V) (s b : Dt), vs = [u, v] ∧ Rep H s u ∧ Rep H b v ∧ Q (.bl (pairD s b)) H) := by
  have sc : FnScope ["sort", "bound"] ["sort", "bound"] (defScope (top 13)) := ⟨rfl, rfl, rfl, by decide +kernel, rfl, by decide +kernel, by decide +kernel⟩
  have GW : FnOk P w K mg base CX0 1 fW fdW ["thing"] (spWhole K) := ok_whole DW.fn B
  have GS := ok_sign (P := P) (w := w) (base := base) DS.fn B hP rP
  have bW := DW.fn.binds (ps := ["thing"]) fun _ _ _ _ _ _ us hl => by obtain ⟨v0, rfl⟩ := L2.ln1 hl; rfl
  have bS := DS.fn.binds (ps := ["thing"]) fun _ _ _ _ _ _ us hl => by obtain ⟨v0, rfl⟩ := L2.ln1 hl; rfl
  refine F.ok sc (fun vs H Q E h => ?_) (fun cdv A outer s H vs Q E hr h => ?_)
  · obtain ⟨u, v, s, b, rfl, _⟩ := h
    rfl
  · obtain ⟨u, v, ds, db, rfl, hds, hdb, q⟩ := h
    have hu : (A.deeper (envOfC "is_plain_pair" (defScope (top 13)) s.heap.objs.size f cdv)).units < cLine := hr.units0
    refine ⟨_, pss_cons (ps_if (pt_cmpR (op_eqD hu) (pv 0) pe_str (nomark _)) (pss_one (ps_ret (pe_and (pe_call GW hr (by rfl) DW.mg DW.fn.kp bW .nil pass0 (pa_cons (pv 1) pa_nil)) (pe_one (pe_cmpR op_ge (pv 1) pe_int (nomark _)))))) pss_nil)
      (pss_cons (ps_if (pt_cmpR (op_eqD hu) (pv 0) pe_str (nomark _)) (pss_one (ps_ret (pe_call GW hr (by rfl) DW.mg DW.fn.kp bW .nil pass0 (pa_cons (pv 1) pa_nil)))) pss_nil)
      (pss_one (ps_ret (pe_and (pe_cmpR (op_eqD hu) (pv 0) pe_str (nomark _)) (pe_one (pe_call GS hr (by rfl) DS.mg DS.fn.kp bS .nil pass0 (pa_cons (pv 1) pa_nil))))))), ?_⟩
    refine ⟨_, rfl, ds, _, hds, rfl, _, rfl, ?_⟩
    by_cases c1 : strIs ds "below" = true
    · refine iteB c1 ?_
      have e : pairD ds db = geD db := by unfold pairD; rw [if_pos c1]
      rw [e] at q
      refine ⟨_, rfl, _, _, rfl, hdb.is, _, rfl, ?_⟩
      by_cases hw : wholeD db = true
      · refine iteB ((wholeD_ty db).trans hw) ?_
        obtain ⟨i, rfl⟩ : ∃ i, db = .int i := by
          cases db <;> first | exact ⟨_, rfl⟩ | (simp [wholeD] at hw)
        unfold Rep at hdb
        subst hdb
        exact ⟨_, rfl, _, _, rfl, rfl, q⟩
      · refine iteC ((wholeD_ty db).trans (by simpa using hw)) ?_
        have e2 : geD db = false := by
          cases db <;> first | rfl | exact (hw rfl).elim
        rw [e2] at q
        exact q
    · refine iteC (by simpa using c1) ?_
      refine ⟨_, rfl, ds, _, hds, rfl, _, rfl, ?_⟩
      by_cases c2 : strIs ds "upto" = true
      · refine iteB c2 ?_
        have e : pairD ds db = wholeD db := by unfold pairD; rw [if_neg c1, if_pos c2]
        rw [e, ← wholeD_ty db] at q
        exact ⟨_, rfl, _, _, rfl, hdb.is, q⟩
      · refine iteC (by simpa using c2) ?_
        have e : pairD ds db = (strIs ds "without" && signD db) := by unfold pairD; rw [if_neg c1, if_neg c2]
        rw [e] at q
        refine ⟨_, rfl, ds, _, hds, rfl, _, rfl, ?_⟩
        by_cases c3 : strIs ds "without" = true
        · refine iteB c3 ?_
          rw [c3, Bool.true_and] at q
          exact ⟨_, rfl, _, _, rfl, hdb, q⟩
        · refine iteC (by simpa using c3) ?_
          rw [(by simpa using c3 : strIs ds "without" = false), Bool.false_and] at q
          exact q

def spPlain : Sp := fun vs H Q _ => ∃ (v : V) (d : Dt), vs = [v] ∧ Rep H d v ∧ ∀ H', Same H H' → Q (.bl (plainD d)) H'
theorem ok_plain {f fW fS fR : Addr} {fd fdW fdS fdR : FuncData} (F : Fun K "is_plain" "is_plain" (top 12) f fd) (B : Bl mg) (DW : Df K mg "is_whole" (top 9) fW fdW) (DS : Df K mg "is_sign" (top 11) fS fdS) (DR : Df K mg "is_plain_pair" (top 13) fR fdR)
    {uP : Value} (hP : mg "PERCENT" = some uP) (rP : RelV (.int 37) uP) : FnOk P w K mg base CX0 3 f fd ["thing"] spPlain := by
  have sc : FnScope ["thing"] ["thing"] (defScope (top 12)) := ⟨rfl, rfl, rfl, by decide +kernel, rfl, by decide +kernel, by decide +kernel⟩
  have GR := ok_pair (P := P) (w := w) (base := base) DR.fn B DW DS hP rP
  have bR := DR.fn.binds (ps := ["sort", "bound"]) fun _ _ _ _ _ _ us hl => by obtain ⟨v0, v1, rfl⟩ := L2.ln2 hl; rfl
  refine F.ok sc (fun vs H Q E h => ?_) (fun cdv A outer s H vs Q E hr h => ?_)
  · obtain ⟨v, d, rfl, _⟩ := h
    rfl
  · obtain ⟨v, d, rfl, hd, q⟩ := h
    have hu : (A.deeper (envOfC "is_plain" (defScope (top 12)) s.heap.objs.size f cdv)).units + 1 < cLine := hu_of hr
    refine ⟨_, pss_cons (ps_if (pt_not (pt_val (pe_callB call_isi (by rfl) B.isi boot_isi (pa_cons (pv 0) (pa_cons (pe_bltn (v := .ty "tuple") (by rfl) B.tuple boot_tuple rfl) pa_nil))))) (pss_one (ps_ret pe_bl)) pss_nil)
      (pss_cons (ps_if (pt_cmpR op_eq (pe_callB call_len_seq (by rfl) B.len PySem.boot_len (pa_cons (pv 0) pa_nil)) pe_int (nomark _)) (pss_one (ps_ret (pe_cmpR (op_inD hu) (pe_ix ix_tup (pv 0) pe_int (fun _ _ => rfl)) (pe_tup (pa_cons pe_str (pa_cons pe_str pa_nil))) (by with_unfolding_all rfl)))) pss_nil)
      (pss_one (ps_ret (pe_and (pe_cmpR op_eq (pe_callB call_len_seq (by rfl) B.len PySem.boot_len (pa_cons (pv 0) pa_nil)) pe_int (nomark _))
        (pe_one (pe_call GR hr (by rfl) DR.mg DR.fn.kp bR .nil pass0 (pa_cons (pe_ix ix_tup (pv 0) pe_int (fun _ _ => rfl)) (pa_cons (pe_ix ix_tup (pv 0) pe_int (fun _ _ => rfl)) pa_nil)))))))), ?_⟩
    have hi := hd.is (K := K)
    by_cases ht : tyD d = "tuple"
    · obtain ⟨ds, rfl⟩ : ∃ ds, d = .tup ds := by
        cases d <;> first | exact ⟨_, rfl⟩ | (simp [tyD] at ht)
      have hd' := hd
      unfold Rep at hd'
      obtain ⟨a, xs, rfl, ha, hr2⟩ := hd'
      have hl := hr2.length
      refine ⟨_, rfl, _, _, _, _, rfl, hi.1, kit_eq.trans (show kitTy "tuple" "tuple" = some true by decide +kernel), _, rfl, ?_⟩
      refine iteF ?_
      refine ⟨_, rfl, _, _, rfl, .inr (SqT.of ha), rfl, _, rfl, ?_⟩
      have e1 : decide (V.int (xs.length : Int) = V.int 1) = decide (xs.length = 1) := lenEq (k := 1)
      have e2 : decide (V.int (xs.length : Int) = V.int 2) = decide (xs.length = 2) := lenEq (k := 2)
      match ds, hr2, hl, q with
      | [], hr2, hl, q =>
        refine iteC (e1.trans (decide_eq_false (by rw [hl]; simp))) ?_
        refine ⟨_, rfl, _, _, rfl, .inr (SqT.of ha), rfl, _, rfl, ?_⟩
        refine iteC (e2.trans (decide_eq_false (by rw [hl]; simp))) ?_
        exact q H (Same.refl H)
      | [d0], hr2, hl, q =>
        refine iteB (e1.trans (decide_eq_true hl)) ?_
        unfold Reps at hr2
        obtain ⟨v0, r0, rfl, h0, hn⟩ := hr2
        unfold Reps at hn
        subst hn
        refine ⟨_, rfl, _, _, _, v0, rfl, rfl, SqT.of ha, rfl, ?_⟩
        refine ⟨(by decide), fun p hp => ?_⟩
        have sm := Same.upd (o := .tup [.str "whole", .str "word"]) hp
        exact ⟨d0, p, w2, h0.same sm, rfl, upd_same, q _ sm⟩
      | [d0, d1], hr2, hl, q =>
        refine iteC (e1.trans (decide_eq_false (by rw [hl]; simp))) ?_
        unfold Reps at hr2
        obtain ⟨v0, r0, rfl, h0, hn⟩ := hr2
        unfold Reps at hn
        obtain ⟨v1, r1, rfl, h1, hn⟩ := hn
        unfold Reps at hn
        subst hn
        refine ⟨_, rfl, _, _, rfl, .inr (SqT.of ha), rfl, _, rfl, ?_⟩
        refine iteB (e2.trans (decide_eq_true hl)) ?_
        refine ⟨_, rfl, _, _, _, v0, rfl, rfl, SqT.of ha, rfl, _, rfl, _, _, _, v1, rfl, rfl, SqT.of ha, rfl, ?_⟩
        exact ⟨v0, v1, d0, d1, rfl, h0, h1, q H (Same.refl H)⟩
      | d0 :: d1 :: d2 :: r, hr2, hl, q =>
        refine iteC (e1.trans (decide_eq_false (by rw [hl]; simp))) ?_
        refine ⟨_, rfl, _, _, rfl, .inr (SqT.of ha), rfl, _, rfl, ?_⟩
        refine iteC (e2.trans (decide_eq_false (by rw [hl]; simp))) ?_
        exact q H (Same.refl H)
    · have e : (tyD d == "tuple") = false := beq_eq_false_iff_ne.mpr ht
      refine ⟨_, rfl, _, _, _, _, rfl, hi.1, kit_eq.trans ((kit_tuple _ hi.2).trans (congrArg some e)), _, rfl, ?_⟩
      refine iteT ?_
      have hq : plainD d = false := by
        cases d <;> first | rfl | exact (ht rfl).elim
      have := q H (Same.refl H)
      rw [hq] at this
      exact this

def spKind : Sp := fun vs H Q _ => ∃ (v : V) (d : Dt), vs = [v] ∧ Rep H d v ∧ ∀ H', Same H H' → Q (.bl (kindD d)) H'
theorem ok_kind {f fP : Addr} {fd fdP : FuncData} (F : Fun K "is_kind" "is_kind" (top 14) f fd) (B : Bl mg) (DP : Df K mg "is_plain" (top 12) fP fdP) (GP : FnOk P w K mg base CX0 3 fP fdP ["thing"] spPlain) : FnOk P w K mg base CX0 4 f fd ["thing"] spKind := by
  have sc : FnScope ["thing"] ["thing"] (defScope (top 14)) := ⟨rfl, rfl, rfl, by decide +kernel, rfl, by decide +kernel, by decide +kernel⟩
  have bP := DP.fn.binds (ps := ["thing"]) fun _ _ _ _ _ _ us hl => by obtain ⟨v0, rfl⟩ := L2.ln1 hl; rfl
  refine F.ok sc (fun vs H Q E h => ?_) (fun cdv A outer s H vs Q E hr h => ?_)
  · obtain ⟨v, d, rfl, _⟩ := h
    rfl
  · obtain ⟨v, d, rfl, hd, q⟩ := h
    have hu : (A.deeper (envOfC "is_kind" (defScope (top 14)) s.heap.objs.size f cdv)).units + 1 < cLine := hu_of hr
    refine ⟨_, pss_cons (ps_if (pt_val (pe_call GP hr (by rfl) DP.mg DP.fn.kp bP .nil pass0 (pa_cons (pv 0) pa_nil))) (pss_one (ps_ret pe_bl)) pss_nil)
      (pss_cons (ps_if (pt_not (pt_val (pe_callB call_isi (by rfl) B.isi boot_isi (pa_cons (pv 0) (pa_cons (pe_bltn (v := .ty "tuple") (by rfl) B.tuple boot_tuple rfl) pa_nil))))) (pss_one (ps_ret pe_bl)) pss_nil)
      (pss_cons (ps_if (pt_cmpR op_eq (pe_callB call_len_seq (by rfl) B.len PySem.boot_len (pa_cons (pv 0) pa_nil)) pe_int (nomark _)) (pss_one (ps_ret (pe_cmpR (op_eqD (Nat.lt_of_succ_lt hu)) (pe_ix ix_tup (pv 0) pe_int (fun _ _ => rfl)) pe_str (nomark _)))) pss_nil)
      (pss_one (ps_ret (pe_and (pe_cmpR op_eq (pe_callB call_len_seq (by rfl) B.len PySem.boot_len (pa_cons (pv 0) pa_nil)) pe_int (nomark _))
        (pe_and (pe_cmpR (op_inD hu) (pe_ix ix_tup (pv 0) pe_int (fun _ _ => rfl)) (pe_tup (pa_cons pe_str (pa_cons pe_str (pa_cons pe_str pa_nil)))) (by with_unfolding_all rfl))
        (pe_one (pe_call GP hr (by rfl) DP.mg DP.fn.kp bP .nil pass0 (pa_cons (pe_ix ix_tup (pv 0) pe_int (fun _ _ => rfl)) pa_nil))))))))), ?_⟩
    refine ⟨_, rfl, v, d, rfl, hd, fun H1 s1 => ?_⟩
    refine ⟨_, rfl, ?_⟩
    by_cases hp : plainD d = true
    · refine iteB hp ?_
      have e : kindD d = true := by unfold kindD; rw [hp]; rfl
      have := q H1 s1
      rw [e] at this
      exact this
    · refine iteC (by simpa using hp) ?_
      have ek : kindD d = moreD d := by unfold kindD; rw [(by simpa using hp : plainD d = false)]; rfl
      rw [ek] at q
      have hd1 := hd.same s1
      have hi := hd1.is (K := K)
      by_cases ht : tyD d = "tuple"
      · obtain ⟨ds, rfl⟩ : ∃ ds, d = .tup ds := by
          cases d <;> first | exact ⟨_, rfl⟩ | (simp [tyD] at ht)
        have hd' := hd1
        unfold Rep at hd'
        obtain ⟨a, xs, rfl, ha, hr2⟩ := hd'
        have hl := hr2.length
        refine ⟨_, rfl, _, _, _, _, rfl, hi.1, kit_eq.trans (show kitTy "tuple" "tuple" = some true by decide +kernel), _, rfl, ?_⟩
        refine iteF ?_
        refine ⟨_, rfl, _, _, rfl, .inr (SqT.of ha), rfl, _, rfl, ?_⟩
        have e1 : decide (V.int (xs.length : Int) = V.int 1) = decide (xs.length = 1) := lenEq (k := 1)
        have e2 : decide (V.int (xs.length : Int) = V.int 2) = decide (xs.length = 2) := lenEq (k := 2)
        match ds, hr2, hl, q with
        | [], hr2, hl, q =>
          refine iteC (e1.trans (decide_eq_false (by rw [hl]; simp))) ?_
          refine ⟨_, rfl, _, _, rfl, .inr (SqT.of ha), rfl, _, rfl, ?_⟩
          refine iteC (e2.trans (decide_eq_false (by rw [hl]; simp))) ?_
          exact q H1 s1
        | [d0], hr2, hl, q =>
          refine iteB (e1.trans (decide_eq_true hl)) ?_
          unfold Reps at hr2
          obtain ⟨v0, r0, rfl, h0, hn⟩ := hr2
          unfold Reps at hn
          subst hn
          refine ⟨_, rfl, _, _, _, v0, rfl, rfl, SqT.of ha, rfl, ?_⟩
          exact ⟨d0, _, h0, rfl, q H1 s1⟩
        | [d0, d1], hr2, hl, q =>
          refine iteC (e1.trans (decide_eq_false (by rw [hl]; simp))) ?_
          unfold Reps at hr2
          obtain ⟨v0, r0, rfl, h0, hn⟩ := hr2
          unfold Reps at hn
          obtain ⟨v1, r1, rfl, h1, hn⟩ := hn
          unfold Reps at hn
          subst hn
          refine ⟨_, rfl, _, _, rfl, .inr (SqT.of ha), rfl, _, rfl, ?_⟩
          refine iteB (e2.trans (decide_eq_true hl)) ?_
          refine ⟨_, rfl, _, _, _, v0, rfl, rfl, SqT.of ha, rfl, ?_⟩
          refine ⟨(by decide), fun p hp' => ?_⟩
          have sm := Same.upd (o := .tup [.str "list", .str "some", .str "once"]) hp'
          have s2 := s1.trans sm
          refine ⟨d0, p, w3, h0.same sm, rfl, upd_same, _, rfl, ?_⟩
          have em : moreD (.tup [d0, d1]) = (w3.any (strIs d0) && plainD d1) := rfl
          rw [em] at q
          by_cases c : w3.any (strIs d0) = true
          · refine iteB c ?_
            rw [c, Bool.true_and] at q
            refine ⟨_, rfl, _, _, _, v1, rfl, rfl, SqT.of (sm _ _ ha), rfl, ?_⟩
            exact ⟨v1, d1, rfl, h1.same sm, fun H3 s3 => q H3 (s2.trans s3)⟩
          · refine iteC (by simpa using c) ?_
            rw [(by simpa using c : w3.any (strIs d0) = false), Bool.false_and] at q
            exact q _ s2
        | d0 :: d1 :: d2 :: r, hr2, hl, q =>
          refine iteC (e1.trans (decide_eq_false (by rw [hl]; simp))) ?_
          refine ⟨_, rfl, _, _, rfl, .inr (SqT.of ha), rfl, _, rfl, ?_⟩
          refine iteC (e2.trans (decide_eq_false (by rw [hl]; simp))) ?_
          exact q H1 s1
      · have e : (tyD d == "tuple") = false := beq_eq_false_iff_ne.mpr ht
        refine ⟨_, rfl, _, _, _, _, rfl, hi.1, kit_eq.trans ((kit_tuple _ hi.2).trans (congrArg some e)), _, rfl, ?_⟩
        refine iteT ?_
        have hq : moreD d = false := by
          cases d <;> first | rfl | exact (ht rfl).elim
        have := q H1 s1
        rw [hq] at this
        exact this
end
end My

/-! DICTS WALKED (own work): a dict stands frozen while it is walked. -/
namespace L2
open PySem PySem.Spec PyProof.Rows
section
variable {X : Cx} {pins : List (Addr × Obj)} {σ : St} {H : Hp} {s : Shared} {a : Addr} {kvs : List (Key × V)} {o : Obj}
theorem Inv.freeze (I : Inv X pins σ H s) (e : H a = some (.dK kvs)) (ho : s.heap.get? a = some o) : Inv X pins σ (upd H a (.frz o (.dK kvs))) s := by
  have ne : ∀ b u, H b = some u → u ≠ .dK kvs → b ≠ a := fun b u q n z => by
    subst z
    rw [e] at q
    exact n (Option.some.inj q).symm
  have nn : ∀ b, H b = none → b ≠ a := fun b q z => by subst z; rw [e] at q; cases q
  refine ⟨I.ok, I.os, I.bare, ⟨I.base.keep, I.base.slot, fun b ob q n hx => ?_, I.base.there, fun b xs q => ?_, fun b ob u q => ?_, fun b ps q => ?_⟩, I.loc, I.cell, ?_, fun x c q => ?_, fun p hp => ?_, fun b u q => ?_, I.len⟩
  · have h := I.base.free b ob q n hx
    rw [upd_ne (nn b h)]
    exact h
  · have h := I.base.tups b xs q
    rw [upd_ne (ne b _ h (by simp))]
    exact h
  · have h := I.base.frzs b ob u q
    rw [upd_ne (ne b _ h (by simp))]
    exact h
  · obtain ⟨m, h⟩ := I.base.tbls b ps q
    exact ⟨m, by rw [upd_ne (ne b _ h (by simp))]; exact h⟩
  · rw [upd_ne (nn _ I.free)]
    exact I.free
  · rw [upd_ne (nn _ (I.freeC x c q))]
    exact I.freeC x c q
  · obtain ⟨h1, h2, h3⟩ := I.pin p hp
    exact ⟨h1, by rw [upd_ne (nn _ h2)]; exact h2, h3⟩
  · by_cases hb : b = a
    · subst hb
      rw [upd_same] at q
      cases q
      exact ⟨ho, I.hok b _ e⟩
    · rw [upd_ne hb] at q
      exact (I.hok b u q).stay (fun c v _ r => r) (fun c r => by rw [upd_ne (ne c _ r (by simp))]; exact r) fun c xs r => by rw [upd_ne (ne c _ r (by simp))]; exact r
theorem Inv.thaw (I : Inv X pins σ H s) (n0 : ∀ ob u, X.H₀ a ≠ some (.frz ob u)) (e : H a = some (.frz o (.dK kvs))) : Inv X pins σ (upd H a (.dK kvs)) s := by
  have ne : ∀ b u, H b = some u → u ≠ .frz o (.dK kvs) → b ≠ a := fun b u q n z => by
    subst z
    rw [e] at q
    exact n (Option.some.inj q).symm
  have nn : ∀ b, H b = none → b ≠ a := fun b q z => by subst z; rw [e] at q; cases q
  refine ⟨I.ok, I.os, I.bare, ⟨I.base.keep, I.base.slot, fun b ob q n hx => ?_, I.base.there, fun b xs q => ?_, fun b ob u q => ?_, fun b ps q => ?_⟩, I.loc, I.cell, ?_, fun x c q => ?_, fun p hp => ?_, fun b u q => ?_, I.len⟩
  · have h := I.base.free b ob q n hx
    rw [upd_ne (nn b h)]
    exact h
  · have h := I.base.tups b xs q
    rw [upd_ne (ne b _ h (by simp))]
    exact h
  · have h := I.base.frzs b ob u q
    rw [upd_ne (fun z => by subst z; exact n0 _ _ q)]
    exact h
  · obtain ⟨m, h⟩ := I.base.tbls b ps q
    exact ⟨m, by rw [upd_ne (ne b _ h (by simp))]; exact h⟩
  · rw [upd_ne (nn _ I.free)]
    exact I.free
  · rw [upd_ne (nn _ (I.freeC x c q))]
    exact I.freeC x c q
  · obtain ⟨h1, h2, h3⟩ := I.pin p hp
    exact ⟨h1, by rw [upd_ne (nn _ h2)]; exact h2, h3⟩
  · by_cases hb : b = a
    · subst hb
      rw [upd_same] at q
      cases q
      exact (I.hok b _ e).2
    · rw [upd_ne hb] at q
      exact (I.hok b u q).stay (fun c v _ r => r) (fun c r => by rw [upd_ne (ne c _ r (by simp))]; exact r) fun c xs r => by rw [upd_ne (ne c _ r (by simp))]; exact r
theorem Inv.dk_obj (I : Inv X pins σ H s) (e : H a = some (.dK kvs)) : ∃ o, s.heap.get? a = some o := by
  obtain ⟨_, _, _, _, o, _, _, g, _⟩ := I.hok a _ e
  exact ⟨o, g⟩
theorem Inv.not_frz (I : Inv X pins σ H s) (e : H a = some (.dK kvs)) : ∀ ob u, X.H₀ a ≠ some (.frz ob u) := fun ob u q => by
  have := I.base.frzs a ob u q
  rw [e] at this
  cases this
/-- a statement, an expression, while a dict stands frozen -/
def frzE (a : Addr) (o : Obj) (kvs : List (Key × V)) (D : Ends) : Ends where
  nx := fun σ' H' => H' a = some (.frz o (.dK kvs)) ∧ D.nx σ' (upd H' a (.dK kvs))
  rt := fun v H' => H' a = some (.frz o (.dK kvs)) ∧ D.rt v (upd H' a (.dK kvs))
  bk := fun σ' H' => H' a = some (.frz o (.dK kvs)) ∧ D.bk σ' (upd H' a (.dK kvs))
  ct := fun σ' H' => H' a = some (.frz o (.dK kvs)) ∧ D.ct σ' (upd H' a (.dK kvs))
def sFrz (t : TS) : TS := fun D σ H => ∃ a kvs, H a = some (.dK kvs) ∧ ∀ o, t (frzE a o kvs D) σ (upd H a (.frz o (.dK kvs)))
def tFrz (t : TE) : TE := fun σ H Q => ∃ a kvs, H a = some (.dK kvs) ∧ ∀ o, t σ (upd H a (.frz o (.dK kvs))) fun v H' => H' a = some (.frz o (.dK kvs)) ∧ Q v (upd H' a (.dK kvs))
theorem ps_frz {st : Stmt} {t : TS} (h : PS X st t) : PS X st (sFrz t) := by
  intro pins s σ H D I hq
  obtain ⟨a, kvs, e, q⟩ := hq
  obtain ⟨o, ho⟩ := I.dk_obj e
  have n0 := I.not_frz e
  refine thn (h pins s σ _ _ (I.freeze e ho) (q o)) fun f s' hs => ?_
  cases f with
  | next => obtain ⟨σ', H', I', e', z⟩ := hs; exact ⟨σ', _, I'.thaw n0 e', z⟩
  | brk => obtain ⟨σ', H', I', e', z⟩ := hs; exact ⟨σ', _, I'.thaw n0 e', z⟩
  | cont => obtain ⟨σ', H', I', e', z⟩ := hs; exact ⟨σ', _, I'.thaw n0 e', z⟩
  | ret u => obtain ⟨v, σ', H', I', r, e', z⟩ := hs; exact ⟨v, σ', _, I'.thaw n0 e', r, z⟩
end

/-! ### the keys of a frozen dict, one by one -/
def epOf (o : Obj) : Nat := match o.data with
  | .dict _ ep => ep
  | _ => 0
theorem is_kV {P : Program} {w : World} : ∀ {k : Key} {u : Value}, (mixKind P w).is k u = true → RelV (kV k) u := by
  intro k u h
  rcases keyIs_shape (k := k) (v := u) h with ⟨i, t, rfl, rfl⟩ | ⟨x, t, rfl, rfl⟩
  · exact ⟨t, rfl⟩
  · exact ⟨t, rfl⟩
def Itd (a : Addr) (o : Obj) (kvs : List (Key × V)) : It :=
  ⟨fun i H => i < kvs.length ∧ H a = some (.frz o (.dK kvs)), fun i H x H' => H' = H ∧ ∃ k v, kvs[i]? = some (k, v) ∧ x = kV k, fun i H => kvs.length ≤ i ∧ H a = some (.frz o (.dK kvs))⟩
section
variable {X : Cx}
theorem kv_get : ∀ {kvs : List (Key × V)} {vs : List (Key × Value)} {i : Nat} {p : Key × V}, KV kvs vs → kvs[i]? = some p → ∃ u, vs[i]? = some (p.1, u) ∧ RelV p.2 u
  | _, _, _, _, .nil, e => by simp at e
  | _, _, 0, _, .cons (b := q) r _, e => by
    simp at e
    subst e
    obtain ⟨q1, q2⟩ := q
    obtain ⟨r1, r2⟩ := r
    exact ⟨q2, by rw [List.getElem?_cons_zero]; exact congrArg (fun z => some (z, q2)) r1.symm, r2⟩
  | _, _, i + 1, p, .cons _ t, e => by
    obtain ⟨u, h1, h2⟩ := kv_get (i := i) (p := p) t (by simpa using e)
    exact ⟨u, by simpa using h1, h2⟩
theorem Inv.dictAt {pins : List (Addr × Obj)} {σ : St} {H : Hp} {s : Shared} {a : Addr} {o : Obj} {kvs : List (Key × V)} (I : Inv X pins σ H s) (e : H a = some (.frz o (.dK kvs))) :
    ∃ vs, KV kvs vs ∧ s.heap.DictAt (mixKind X.prog X.w) a vs (epOf o) ∧ (a == sysModules) = false := by
  obtain ⟨g, _, hs, vs, kv, o', es, ep, g', ex, hd, hk, hp, hn⟩ := I.hok a _ e
  rw [g] at g'
  cases g'
  have he : epOf o = ep := by unfold epOf; rw [hd]
  exact ⟨vs, kv, ⟨o, es, g, ex, by rw [he]; exact hd, hk, hp, hn⟩, hs⟩
theorem KV.len {kvs : List (Key × V)} {vs : List (Key × Value)} (r : KV kvs vs) : kvs.length = vs.length := Paired.length r
theorem turn_dict {P : Program} {w : World} {K : PySem.W.Frag} {tg : Expr} (a it : Addr) (o : Obj) (kvs : List (Key × V)) : Turn P w K tg (Itd a o kvs) [it] it (fun i h => h.IsKeyIter it a i kvs.length (epOf o)) where
  mem := by simp
  obj := fun i h st b hb => by
    have e : b = it := by simpa using hb
    subst e
    obtain ⟨o, e, c, d⟩ := st
    exact ⟨o, e, fun v z => by rw [d] at z; cases z⟩
  keep := fun i h h' st k => st.at fun o e => k it (by simp) o e
  item := by
    intro X hP hw hK hc i pins s σ H E I hf st hg
    subst hP hw hK
    obtain ⟨hi, hq⟩ := hg
    obtain ⟨vs, kv, da, _⟩ := I.dictAt hq
    have hl := kv.len
    obtain ⟨u, hu, ru⟩ := kv_get kv (show kvs[i]? = some (kvs[i].1, kvs[i].2) by simp [hi])
    obtain ⟨f0, f1, f2, f3, f4, f5⟩ := hf it (by simp)
    rw [hl] at st
    refine wpAny_pyNext_dict_item st da hu fun key h' hkey st' sb => ?_
    rw [← hl] at st'
    have I1 : Inv X pins σ H { s with heap := h' } := I.turned (t' := s.toks) (fun b o hb e => (sb.2 b hb).trans e) f0 f1 f3 f4 f5
    obtain ⟨oi, e, c, d⟩ := id st'
    exact ⟨key, rfl, go_of (s := { s with heap := h' }) e c d (by decide) ⟨kV kvs[i].1, H, I1, is_kV hkey, ⟨rfl, kvs[i].1, kvs[i].2, by simp [hi], rfl⟩, st', fun b hb => (hf b hb).1⟩⟩
  done := by
    intro X hP hw hK hc i pins s σ H E I hf st hg
    subst hP hw hK
    obtain ⟨hi, hq⟩ := hg
    obtain ⟨vs, kv, da, _⟩ := I.dictAt hq
    have hl := kv.len
    obtain ⟨f0, f1, f2, f3, f4, f5⟩ := hf it (by simp)
    rw [hl] at st
    exact wpAny_pyNext_dict_end (I.ok.hd hc) st da (by simp; omega) fun h' eb => ⟨rfl, I.turned (t' := s.toks) (fun b o hb e => eb b o hb e) f0 f1 f3 f4 f5⟩
  self := fun _ _ _ _ _ st h => wpAny_pyIter_keyiter st h
def iDict (tl : TE) : TI := fun σ H R => tl σ H fun x H1 => ∃ a o kvs, x = .ref a ∧ H1 a = some (.frz o (.dK kvs)) ∧ R (Itd a o kvs) H1
theorem pi_dict {tg l : Expr} {tl : TE} (hl : PE X l tl) : PI X tg l (iDict tl) := by
  intro pins s σ H R I h
  refine thn (hl pins s σ H _ I h) fun v s1 ⟨x, H1, I1, r1, q1⟩ => ?_
  obtain ⟨a, o, kvs, e, hq, q⟩ := q1
  subst e
  cases r1
  obtain ⟨vs, kv, da, hs⟩ := I1.dictAt hq
  refine wpAny_pyIter_dict hs da ?_
  refine ⟨s1.heap.objs.size, [s1.heap.objs.size], _, _, H1, rfl, I1.kept (t' := s1.toks) fun b o e => Heap.get?_push_of_some _ e, turn_dict a _ o kvs, ⟨_, Heap.get?_push_size _ rfl, rfl, by rw [kv.len]; rfl⟩, fun b hb => ?_, q⟩
  have e : b = s1.heap.objs.size := by simpa using hb
  subst e
  exact I1.fpOk (Nat.le_refl _) (I1.hok.fresh (Nat.le_refl _))
/-- the loop over a frozen dict's keys -/
theorem for_dict {a : Addr} {o : Obj} {kvs : List (Key × V)} {g : TG} {tb : TS} {D : Ends} {σ : St} {H : Hp} (Pv : Nat → St → Hp → Prop) (h0 : Pv 0 σ H) (hl : ∀ i σ H, i ≤ kvs.length → Pv i σ H → H a = some (.frz o (.dK kvs)))
    (hs : ∀ i k v σ H, kvs[i]? = some (k, v) → Pv i σ H → g (kV k) σ H fun σ2 H2 => tb { D with nx := Pv (i + 1), ct := Pv (i + 1), bk := D.nx } σ2 H2) (hd : ∀ σ H, Pv kvs.length σ H → D.nx σ H) :
    ∃ W : Nat → Nat → St → Hp → Prop, (∃ m, W 0 m σ H) ∧ ∀ i m σ H, W i m σ H →
      ((Itd a o kvs).stop i H ∧ D.nx σ H) ∨ ((Itd a o kvs).go i H ∧ ∃ N : St → Hp → Prop, (∀ σ' H', N σ' H' → ∃ m', m' < m ∧ W (i + 1) m' σ' H') ∧ ∀ x H', (Itd a o kvs).yld i H x H' → g x σ H' fun σ2 H2 => tb { D with nx := N, ct := N, bk := D.nx } σ2 H2) := by
  refine ⟨fun i m σ H => m = kvs.length - i ∧ i ≤ kvs.length ∧ Pv i σ H, ⟨kvs.length, by simp, Nat.zero_le _, h0⟩, ?_⟩
  rintro i m σ H ⟨rfl, hi, p⟩
  have q := hl i σ H hi p
  by_cases hlt : i < kvs.length
  · refine .inr ⟨⟨hlt, q⟩, Pv (i + 1), fun σ' H' p' => ⟨kvs.length - (i + 1), by omega, rfl, hlt, p'⟩, fun x H' y => ?_⟩
    obtain ⟨e, k, v, hk, ex⟩ := y
    subst e ex
    exact hs i k v σ _ hk p
  · have e : i = kvs.length := by omega
    subst e
    exact .inl ⟨⟨Nat.le_refl _, q⟩, hd σ H p⟩
end
end L2

namespace L2
open PySem PySem.Spec PyProof.Rows
theorem strs_of : ∀ {zs : List Str} {us : List Value}, Vals (zs.map V.str) us → StrsAre us zs
  | [], _, r => by rw [List.map_nil] at r; cases r; exact .nil
  | z :: zs, _, r => by
    rw [List.map_cons] at r
    cases r with
    | cons h t =>
      obtain ⟨k, rfl⟩ := h
      exact .cons _ _ (strs_of t)
theorem vals_strs : ∀ {us : List Value} {zs : List Str}, StrsAre us zs → Vals (zs.map V.str) us
  | _, _, .nil => .nil
  | _, _, .cons _ k t => .cons ⟨_, rfl⟩ (vals_strs t)
section
variable {X : Cx}
/-- sorted(a list of texts) -/
theorem call_sorted : CallR X (.builtin "sorted") (fun xs H Q => ∃ p zs, xs = [.ref p] ∧ SqL X.K H p (zs.map V.str) ∧ zs.length < 64 ∧ ∀ l ys, H l = none → ys.Perm zs → sortedS ys = true → Q (.ref l) (upd H l (.lst (ys.map V.str)))) := by
  intro pins s σ H xs us Q I r h
  obtain ⟨p, zs, rfl, hq, h64, q⟩ := h
  obtain ⟨u, rfl, rx⟩ := vals1 r
  cases rx
  obtain ⟨its, r', pl, hz⟩ := I.list hq
  have hl := r'.length
  rw [List.length_map] at hl
  refine sorted_strs pl.isList (strs_of r') (by omega) fun out ss' h1 h2 h3 => ?_
  obtain ⟨e, he⟩ := sortedAll_at s.heap its out
  have hlen : ss'.length = zs.length := h2.length_eq
  have hv := vals_strs h1
  refine ⟨.ref (s.heap.objs.size + 1), _, I.laid (t' := s.toks) (o := .lst (ss'.map V.str)) (fun b ob e' => sortedAll_old e') (Nat.le_succ _) ?_, rfl, q _ ss' (I.hok.fresh (Nat.le_succ _)) h2 h3⟩
  exact ⟨by rw [List.length_map, hlen]; rw [List.length_map] at hz; exact hz, out.toList, e, hv, he⟩
end
end L2

namespace L2
open PySem PySem.Spec PyProof.Rows
/-! ### for (k, v) in d.items(): a frozen dict's pairs, each as a new tuple -/
theorem entry_itemiter_iter : entryFor table "dict_itemiterator.__iter__" = some Builtin.«dict_keyiterator.__iter__» :=
  entryFor_alias (id' := "dict_keyiterator.__iter__") (by kernel_rfl) rfl (by decide +kernel) (by kernel_rfl)
theorem iter_itemiter {prog : Program} {w : World} {A : Around} {E : Value → Shared → Prop} {s : Shared} {it d : Addr} {i n ep : Nat} {ok ov : Value} {Q : Value → Shared → Prop} (hit : IsItemIter s.heap it d i n ep ok ov) (h : Q (.ref it) s) : wpAny (model prog w) A (pyIter (.ref it)) Q E s := by
  have hT : s.TypeIs (.ref it) "dict_itemiterator" := ⟨_, hit, rfl⟩
  refine wpAny_pyIter_slot hT F.slot_dict_itemiterator_iter (wpAny_call_entry F.slot_dict_itemiterator_iter hT entry_itemiter_iter ?_ (F.args_dict_itemiterator_iter_1 _))
  show wpAny _ _ (ret (.ref it)) _ _ s
  exact wpAny_pure ⟨_, rfl, "dict_itemiterator", _, hT, F.slot_dict_itemiterator_next.lookup, h⟩
def Itm (a : Addr) (o : Obj) (kvs : List (Key × V)) : It :=
  ⟨fun i H => i < kvs.length ∧ H a = some (.frz o (.dK kvs)), fun i H x H' => ∃ k v p, kvs[i]? = some (k, v) ∧ x = .ref p ∧ H p = none ∧ H' = upd H p (.tup [kV k, v]), fun i H => kvs.length ≤ i ∧ H a = some (.frz o (.dK kvs))⟩
section
variable {X : Cx}
theorem turn_items {P : Program} {w : World} {K : PySem.W.Frag} {es : List Expr} {x1 : Nat} {tp : Pos} (a it : Addr) (o : Obj) (kvs : List (Key × V)) : Turn P w K (.Tuple es x1 tp) (Itm a o kvs) [it] it (fun i h => ∃ ok ov, IsItemIter h it a i kvs.length (epOf o) ok ov) where
  mem := by simp
  obj := fun i h st b hb => by
    have e : b = it := by simpa using hb
    subst e
    obtain ⟨ok, ov, st⟩ := st
    exact ⟨_, st, fun v z => by cases z⟩
  keep := fun i h h' st k => by
    obtain ⟨ok, ov, st⟩ := st
    exact ⟨ok, ov, k it (by simp) _ st⟩
  item := by
    intro X hP hw hK hc i pins s σ H E I hf st hg
    subst hP hw hK
    obtain ⟨hi, hq⟩ := hg
    obtain ⟨ok, ov, st⟩ := st
    obtain ⟨vs, kv, da, _⟩ := I.dictAt hq
    have hl := kv.len
    obtain ⟨u, hu, ru⟩ := kv_get kv (show kvs[i]? = some (kvs[i].1, kvs[i].2) by simp [hi])
    obtain ⟨f0, f1, f2, f3, f4, f5⟩ := hf it (by simp)
    have hit : it < s.heap.objs.size := Heap.lt_size st
    rw [hl] at st
    refine wpAny_pyNext_items_item st da hu fun key h' hkey st' ht hsz kp => ?_
    refine ⟨_, rfl, ?_⟩
    refine wpAny_letOwnedTupleGo_items (s := { s with heap := h' }) st' fun h'' st'' sb => ?_
    rw [← hl] at st''
    have I0 : Inv X pins σ H { s with heap := s.heap.update it fun _ => { cls := .type "dict_itemiterator", dict := none, data := .fields #[.none, .bool false, .ref a, .int (i + 1 : Nat) 0, .int kvs.length 0, .int (epOf o) 0, key, u], slots := #[] } } :=
      I.turned (t' := s.toks) (fun b ob hb e => by rw [Heap.get?_update_ne _ _ _ _ hb]; exact e) f0 f1 f3 f4 f5
    have hp : H s.heap.objs.size = none := I.hok.fresh (Nat.le_refl _)
    refine ⟨.ref s.heap.objs.size, upd H s.heap.objs.size (.tup [kV kvs[i].1, kvs[i].2]), I0.laid (t' := s.toks) (h' := h'') (fun b ob e => ?_) (by rw [Heap.size_update]; exact Nat.le_refl _) ?_, rfl, ⟨_, _, _, by simp [hi], rfl, hp, rfl⟩, ⟨key, u, st''⟩, fun b hb => ?_⟩
    · by_cases hb : b = it
      · subst hb
        rw [Heap.get?_update_self _ st rfl] at e
        rw [← e]
        exact st''
      · rw [Heap.get?_update_ne _ _ _ _ hb] at e
        exact (sb.2 b hb).trans (kp b ob hb e)
    · refine ⟨(show 2 ≤ sizeLine by decide), [key, u], .cons (is_kV hkey) (.cons ru .nil), ⟨_, (sb.2 _ (Nat.ne_of_gt hit)).trans ht, rfl, _, rfl⟩⟩
    · have e : b = it := by simpa using hb
      subst e
      rw [upd_ne (Nat.ne_of_lt hit)]
      exact f0
  done := by
    intro X hP hw hK hc i pins s σ H E I hf st hg
    subst hP hw hK
    obtain ⟨hi, hq⟩ := hg
    obtain ⟨ok, ov, st⟩ := st
    obtain ⟨vs, kv, da, _⟩ := I.dictAt hq
    have hl := kv.len
    obtain ⟨f0, f1, f2, f3, f4, f5⟩ := hf it (by simp)
    rw [hl] at st
    exact wpAny_pyNext_items_end (I.ok.hd hc) st da (by simp; omega) fun h' eb => ⟨rfl, I.turned (t' := s.toks) (fun b o hb e => eb b o hb e) f0 f1 f3 f4 f5⟩
  self := fun A i s Q E st h => by
    obtain ⟨ok, ov, st⟩ := st
    exact iter_itemiter st h
/-- d.items(), d frozen -/
def iItems (tl : TE) : TI := fun σ H R => tl σ H fun x H1 => ∃ a o kvs, x = .ref a ∧ H1 a = some (.frz o (.dK kvs)) ∧ R (Itm a o kvs) H1
theorem pi_items {es : List Expr} {x1 : Nat} {tp : Pos} {l : Expr} {tl : TE} {apos cpos : Pos} (hl : PE X l tl) (hbase : attributeBase l "items" X.env (eval l X.env) = eval l X.env := by rfl) (hline : (apos.endLine == cpos.line) = true := by rfl) :
    PI X (.Tuple es x1 tp) (.Call (.Attribute l "items" apos) [] [] cpos) (iItems tl) := by
  intro pins s σ H R I h
  refine wpAny_Call_method0_late hbase hline (thn (hl pins s σ H _ I h) fun v s1 ⟨x, H1, I1, r1, q1⟩ => ?_)
  obtain ⟨a, o, kvs, e, hq, q⟩ := q1
  subst e
  cases r1
  obtain ⟨vs, kv, da, hs⟩ := I1.dictAt hq
  obtain ⟨g, _⟩ := I1.hok a _ hq
  have ex : o.ExactDict := by
    obtain ⟨o', es', g', x', _⟩ := id da
    rw [g] at g'
    cases g'
    exact x'
  refine ⟨"dict", "dict.items", F.plainAttrs_dict, F.slot_dict_items, F.type_dict_items, da.dictOf.typeIs, (fun b e => by cases e; exact ⟨o, g, ex.2.1⟩), Calls.callWith_builtin rfl (PySem.evalArgs_none ?_)⟩
  refine call_meetsIn F.slot_dict_items da.dictOf.typeIs F.entry_dict_items (F.args_dict_items_1 _) (meets_dict_items (mixKind X.prog X.w) a hs) ⟨⟨vs, da.dictOf⟩, ?_⟩
  have I2 : Inv X pins σ H1 { s1 with heap := s1.heap.push { cls := .type "dict_items", data := .fields #[.ref a] } } := I1.kept (t' := s1.toks) fun b o e => Heap.get?_push_of_some _ e
  refine wpAny_pyIter_items (s := { s1 with heap := s1.heap.push { cls := .type "dict_items", data := .fields #[.ref a] } }) (knd := mixKind X.prog X.w) (kvs := vs) (ep := epOf o) ⟨_, Heap.get?_push_size _ rfl, rfl, rfl⟩ (da.push _) ?_
  refine ⟨_, [_], _, _, H1, rfl, I2.kept (t' := s1.toks) fun b o e => Heap.get?_push_of_some _ e, turn_items a _ o kvs, ⟨.none, .none, by rw [kv.len]; exact Heap.get?_push_size _ rfl⟩, fun b hb => ?_, q⟩
  have e := List.mem_singleton.mp hb
  subst e
  exact I2.fpOk (Nat.le_refl _) (I2.hok.fresh (Nat.le_refl _))
/-- the loop -/
theorem for_items {a : Addr} {o : Obj} {kvs : List (Key × V)} {g : TG} {tb : TS} {D : Ends} {σ : St} {H : Hp} (Pv : Nat → St → Hp → Prop) (h0 : Pv 0 σ H) (hl : ∀ i σ H, i ≤ kvs.length → Pv i σ H → H a = some (.frz o (.dK kvs)))
    (hs : ∀ i k v p σ H, kvs[i]? = some (k, v) → Pv i σ H → H p = none → g (.ref p) σ (upd H p (.tup [kV k, v])) fun σ2 H2 => tb { D with nx := Pv (i + 1), ct := Pv (i + 1), bk := D.nx } σ2 H2) (hd : ∀ σ H, Pv kvs.length σ H → D.nx σ H) :
    ∃ W : Nat → Nat → St → Hp → Prop, (∃ m, W 0 m σ H) ∧ ∀ i m σ H, W i m σ H →
      ((Itm a o kvs).stop i H ∧ D.nx σ H) ∨ ((Itm a o kvs).go i H ∧ ∃ N : St → Hp → Prop, (∀ σ' H', N σ' H' → ∃ m', m' < m ∧ W (i + 1) m' σ' H') ∧ ∀ x H', (Itm a o kvs).yld i H x H' → g x σ H' fun σ2 H2 => tb { D with nx := N, ct := N, bk := D.nx } σ2 H2) := by
  refine ⟨fun i m σ H => m = kvs.length - i ∧ i ≤ kvs.length ∧ Pv i σ H, ⟨kvs.length, by simp, Nat.zero_le _, h0⟩, ?_⟩
  rintro i m σ H ⟨rfl, hi, p⟩
  have q := hl i σ H hi p
  by_cases hlt : i < kvs.length
  · refine .inr ⟨⟨hlt, q⟩, Pv (i + 1), fun σ' H' p' => ⟨kvs.length - (i + 1), by omega, rfl, hlt, p'⟩, fun x H' y => ?_⟩
    obtain ⟨k, v, pa, hk, ex, hn, e⟩ := y
    subst e ex
    exact hs i k v pa σ H hk p hn
  · have e : i = kvs.length := by omega
    subst e
    exact .inl ⟨⟨Nat.le_refl _, q⟩, hd σ H p⟩
/-- d.clear(), dict(d) -/
theorem mt_dclear : MtR X "dict.clear" (fun x xs H Q => ∃ a kvs, x = .ref a ∧ xs = [] ∧ H a = some (.dK kvs) ∧ Q .non (upd H a (.dK []))) := by
  intro pins s σ H x xs v us Q I rx r h
  obtain ⟨a, kvs, rfl, rfl, e, q⟩ := h
  cases rx
  cases r
  exact d_clear I e fun s' I' => ⟨.non, _, I', rfl, q⟩
theorem call_dict_of : CallR X (.type "dict") (fun xs H Q => ∃ a kvs, xs = [.ref a] ∧ Rd H a (.dK kvs) ∧ ∀ p, H p = none → Q (.ref p) (upd H p (.dK kvs))) := by
  intro pins s σ H xs us Q I r h
  obtain ⟨a, kvs, rfl, e, q⟩ := h
  obtain ⟨u, rfl, rx⟩ := vals1 r
  cases rx
  exact d_copyOf I e fun p s' hp I' => ⟨.ref p, _, I', rfl, q p hp⟩
end
end L2

namespace L2
open PySem PySem.Spec PyProof.Rows
theorem ObjOk.there {P : Program} {w : World} {H : Hp} {h : Heap} {a : Addr} {o : HO} (x : ObjOk P w H h a o) : ∃ ob, h.get? a = some ob := by
  cases o with
  | lst xs => obtain ⟨_, _, _, _, e⟩ := x; exact ⟨_, e⟩
  | tup xs => obtain ⟨_, _, _, o, e, _⟩ := x; exact ⟨_, e⟩
  | dK kvs => obtain ⟨_, _, _, _, o, _, _, e, _⟩ := x; exact ⟨_, e⟩
  | dT kvs => obtain ⟨_, _, _, _, o, _, _, e, _⟩ := x; exact ⟨_, e⟩
  | set S n => obtain ⟨o, _, _, _, e, _⟩ := x; exact ⟨_, e⟩
  | ins C dx fs => obtain ⟨_, _, _, e, _⟩ := x; exact ⟨_, e⟩
  | own y => exact x
  | xd fs => obtain ⟨_, ⟨_, _, _, e, _⟩, _⟩ := x; exact ⟨_, e⟩
  | met f y => exact ⟨_, x⟩
  | rng lo hi => obtain ⟨_, _, _, e⟩ := x; exact ⟨_, e⟩
  | frz ob u => exact ⟨_, x.1⟩
  | tbl ps => exact ⟨_, x⟩
  | ext φ => exact x.2.1
section
variable {X : Cx} {pins : List (Addr × Obj)} {σ : St} {H : Hp} {s : Shared} {h' : Heap} {a : Addr} {o : HO}
theorem Inv.none_at (I : Inv X pins σ H s) (hn : s.heap.get? a = none) : H a = none := by
  cases e : H a with
  | none => rfl
  | some u =>
    obtain ⟨ob, q⟩ := (I.hok a u e).there
    rw [hn] at q
    cases q
/-- a new object at an address where nothing stood -/
theorem Inv.laidAt {t' : Nat} (I : Inv X pins σ H s) (k : ∀ b u, s.heap.get? b = some u → h'.get? b = some u) (hn : s.heap.get? a = none) (new : ObjOk X.prog X.w (upd H a o) h' a o) : Inv X pins σ (upd H a o) { s with heap := h', toks := t' } := by
  have hH := I.none_at hn
  have ne : ∀ b u, s.heap.get? b = some u → b ≠ a := fun b u q z => by subst z; rw [hn] at q; cases q
  refine I.un ⟨fun b u q _ _ _ => k b u q, fun b u q _ _ _ => ⟨u.slots, k b u q⟩, fun b u q n _ => by rw [upd_ne (ne b u q)]; exact n, fun b u q _ => ⟨u, k b u q⟩,
    fun b xs q => by rw [upd_ne (ne_of_none q hH)]; exact q, fun b u xs q => by rw [upd_ne (ne_of_none q hH)]; exact q, fun b ps q => ⟨#[], by rw [upd_ne (ne_of_none q hH), q]; simp⟩⟩ fun b u q => ?_
  by_cases hb : b = a
  · subst hb
    rw [upd_same] at q
    cases q
    exact new
  · rw [upd_ne hb] at q
    exact (I.hok b u q).stay (fun c v _ r => k c v r) (fun c r => by rw [upd_ne (ne_of_none r hH)]; exact r) fun c xs r => by rw [upd_ne (ne_of_none r hH)]; exact r
end
theorem strs_at : ∀ (us : List Value) (zs : List Str), us.length = zs.length → (∀ (j : Nat) (v : Value) (z : Str), us[j]? = some v → zs[j]? = some z → ∃ t, v = Value.str z t) → StrsAre us zs
  | [], [], _, _ => .nil
  | [], _ :: _, h, _ => by simp at h
  | _ :: _, [], h, _ => by simp at h
  | u :: us, z :: zs, h, f => by
    obtain ⟨t, rfl⟩ := f 0 u z rfl rfl
    exact .cons _ _ (strs_at us zs (by simpa using h) fun j v y h1 h2 => f (j + 1) v y (by simpa using h1) (by simpa using h2))
theorem kv_key : ∀ {kvs : List (Key × V)} {vs : List (Key × Value)} {i : Nat} {q : Key × Value}, KV kvs vs → vs[i]? = some q → (kvs.map (·.1))[i]? = some q.1
  | _, _, _, _, .nil, e => by simp at e
  | _, _, 0, _, .cons r _, e => by
    simp at e
    subst e
    simp [r.1]
  | _, _, i + 1, q, .cons _ t, e => by
    have h := kv_key (i := i) (q := q) t (by simpa using e)
    simpa using h
section
variable {X : Cx}
/-- sorted(a dict whose keys are texts) -/
theorem call_sortedD (hc : X.calm = true) : CallR X (.builtin "sorted") (fun xs H Q => ∃ p kvs zs, xs = [.ref p] ∧ Rd H p (.dK kvs) ∧ kvs.map (·.1) = zs.map Sum.inr ∧ zs.length < 64 ∧ ∀ l ys, H l = none → ys.Perm zs → sortedS ys = true → Q (.ref l) (upd H l (.lst (ys.map V.str)))) := by
  intro pins s σ H xs us Q I r h
  obtain ⟨p, kvs, zs, rfl, hq, hz, h64, q⟩ := h
  obtain ⟨u, rfl, rx⟩ := vals1 r
  cases rx
  obtain ⟨hlen, lo, vs, kv, dd⟩ := hq.ok I.hok
  obtain ⟨ep, da⟩ := dd.dictAt
  have hl := kv.len
  have hl2 : kvs.length = zs.length := by simpa using congrArg List.length hz
  refine Calls.call_function_entry kind_sorted plain_sorted entry_sorted (args_sorted1 _) ?_
  unfold Builtin.«sorted»
  refine wpAny_bind (m := checkCount "sorted" 1 1 _) (wpAny_pure ?_)
  refine wpAny_bind (PySem.W.kdu_collect (PySem.W.kdl_dict (knd := mixKind X.prog X.w) (kvs := vs) (ep := ep) lo) (I.ok.hd hc) da (by rw [← hl]; exact hlen) fun h' tk acc hk hacc => ?_)
  have hS : StrsAre acc.toList zs := by
    refine strs_at _ _ (by rw [Array.length_toList, hacc.1, ← hl, hl2]) fun j v z h1 h2 => ?_
    obtain ⟨k, x, hx, hkv⟩ := hacc.2 j v (by rw [← Array.getElem?_toList]; exact h1)
    have hk' := kv_key kv hx
    rw [hz, List.getElem?_map, h2] at hk'
    have e : Sum.inr z = k := by simpa using hk'
    subst e
    exact is_kV hkv
  have hal : acc.toList.length = zs.length := by
    rw [Array.length_toList, hacc.1, ← hl, hl2]
  refine wpAny_bind (wpAny_newList ?_ (by rw [hal, ← hl2]; exact hlen))
  have hoL : (h'.push (seqObj "list" acc.toList.toArray 0)).get? h'.objs.size = some (seqObj "list" acc.toList.toArray 0) := Heap.get?_push_size _ rfl
  refine wpAny_bind (wpAny_holding (wpAny_call_entry slot_list_sort ⟨_, hoL, rfl⟩ entry_list_sort (list_sort_treeK (s := { s with heap := h'.push (seqObj "list" acc.toList.toArray 0), toks := tk }) strKind_oneLt hoL hS.keysOf (fun v₁ v₂ rest e => keyKind_strs (by rw [← e]; exact hS)) (by rw [hal]; exact h64) fun st' hp hs => ⟨_, rfl, ?_⟩) (args_list_sort _)))
  obtain ⟨ss', h1, h2, h3⟩ := sorted_out_str hS hp hs
  obtain ⟨e, he⟩ := sortedHeap_at (out := (arrOf st').map (·.2)) hoL
  have hn : s.heap.get? h'.objs.size = none := by
    cases q : s.heap.get? h'.objs.size with
    | none => rfl
    | some ob => exact absurd (Heap.lt_size (hk _ _ q)) (Nat.lt_irrefl _)
  refine wpAny_pure ⟨_, rfl, .ref h'.objs.size, _, I.laidAt (t' := tk) (o := .lst (ss'.map V.str)) (fun b ob q => ?_) hn ?_, rfl, q _ ss' (I.none_at hn) h2 h3⟩
  · have q' := hk b ob q
    have hlt := Heap.lt_size q'
    rw [sortedHeap_old (Nat.ne_of_lt hlt) (by rw [size_push']; exact Nat.lt_succ_of_lt hlt)]
    exact Heap.get?_push_of_some _ q'
  · exact ⟨by rw [List.length_map, h2.length_eq, ← hl2]; exact hlen, _, e, vals_strs h1, he⟩
end
end L2

namespace L2
open PySem PySem.Spec PyProof.Rows
/-! ### for (i, x) in enumerate(a list) -/
def Ite (K : PySem.W.Frag) (a : Addr) : It :=
  ⟨fun i H => ∃ xs x, SqL K H a xs ∧ xs[i]? = some x, fun i H x H' => ∃ y p, (∀ xs, SqL K H a xs → xs[i]? = some y) ∧ x = .ref p ∧ H p = none ∧ H' = upd H p (.tup [.int i, y]), fun i H => ∃ xs, SqL K H a xs ∧ xs.length ≤ i⟩
theorem turn_enum {P : Program} {w : World} {K : PySem.W.Frag} {es : List Expr} {x1 : Nat} {tp : Pos} (a e it : Addr) (ne : e ≠ it) : Turn P w K (.Tuple es x1 tp) (Ite K a) [e, it] e (fun i h => (∃ old, IsEnum h e it i old) ∧ h.IsListIter it a i) where
  mem := by simp
  obj := fun i h st b hb => by
    obtain ⟨⟨old, s1⟩, s2⟩ := st
    rcases List.mem_cons.mp hb with z | z
    · subst z
      exact ⟨_, s1, fun v z => by cases z⟩
    · have z := List.mem_singleton.mp z
      subst z
      obtain ⟨o, e, c, d⟩ := s2
      exact ⟨o, e, fun v z => by rw [d] at z; cases z⟩
  keep := fun i h h' st k => by
    obtain ⟨⟨old, s1⟩, s2⟩ := st
    exact ⟨⟨old, k e (by simp) _ s1⟩, s2.at fun o e => k it (by simp) o e⟩
  item := by
    intro X hP hw hK hc i pins s σ H E I hf st hg
    subst hP hw hK
    obtain ⟨⟨old, s1⟩, s2⟩ := st
    obtain ⟨xs, x, hq, hx⟩ := hg
    obtain ⟨its, rv, p, hz⟩ := I.list hq
    obtain ⟨u, hu, ru⟩ := rv.get hx
    obtain ⟨f0, f1, f2, f3, f4, f5⟩ := hf e (by simp)
    obtain ⟨g0, g1, g2, g3, g4, g5⟩ := hf it (by simp)
    have le : e < s.heap.objs.size := Heap.lt_size s1
    have li : it < s.heap.objs.size := by obtain ⟨o, e, _⟩ := s2; exact Heap.lt_size e
    refine wpAny_pyNext_enum_item s1 s2 p.isList (x := u) (by simpa using hu) ne fun h' st' si' ht hsz kp => ?_
    refine ⟨_, rfl, ?_⟩
    refine wpAny_letOwnedTupleGo_enum (s := { s with heap := h', toks := s.toks + 1 }) st' fun h'' st'' sb => ?_
    have si'' : h''.IsListIter it a (i + 1) := si'.at fun o q => (sb.2 it (Ne.symm ne)).trans q
    obtain ⟨oi, ei, ci, di⟩ := id si''
    obtain ⟨oi0, ei0, _⟩ := id s2
    have I0 : Inv X pins σ H { s with heap := s.heap.update e fun _ => { cls := .type "enumerate", dict := none, data := .fields #[.none, .bool false, .ref it, rawInt ((i : Int) + 1), .none, u], slots := #[] } } :=
      I.turned (t' := s.toks) (fun b ob hb q => by rw [Heap.get?_update_ne _ _ _ _ hb]; exact q) f0 f1 f3 f4 f5
    have I1 : Inv X pins σ H { s with heap := (s.heap.update e fun _ => { cls := .type "enumerate", dict := none, data := .fields #[.none, .bool false, .ref it, rawInt ((i : Int) + 1), .none, u], slots := #[] }).update it fun _ => oi } :=
      I0.turned (t' := s.toks) (fun b ob hb q => by rw [Heap.get?_update_ne _ _ _ _ hb]; exact q) g0 g1 g3 g4 g5
    have hp : H s.heap.objs.size = none := I.hok.fresh (Nat.le_refl _)
    have foi : oi.isFreed = false := (Heap.get?_some_iff.mp ei).2
    refine ⟨.ref s.heap.objs.size, upd H s.heap.objs.size (.tup [.int i, x]), I1.laid (t' := s.toks + 1) (h' := h'') (fun b ob q => ?_) (by rw [Heap.size_update, Heap.size_update]; exact Nat.le_refl _) ?_, rfl, ⟨x, _, fun ys hy => by rw [I.list_inj hy hq]; exact hx, rfl, hp, rfl⟩, ⟨⟨u, ?_⟩, si''⟩, fun b hb => ?_⟩
    · by_cases hb : b = it
      · subst hb
        rw [Heap.get?_update_self _ (show (s.heap.update e _).get? b = some oi0 by rw [Heap.get?_update_ne _ _ _ _ (Ne.symm ne)]; exact ei0) foi] at q
        rw [← q]
        exact ei
      · rw [Heap.get?_update_ne _ _ _ _ hb] at q
        by_cases hb2 : b = e
        · subst hb2
          rw [Heap.get?_update_self _ s1 rfl] at q
          rw [← q]
          exact st''
        · rw [Heap.get?_update_ne _ _ _ _ hb2] at q
          exact (sb.2 b hb2).trans (kp b ob hb2 hb q)
    · exact ⟨(show 2 ≤ sizeLine by decide), [.int i s.toks, u], .cons ⟨_, rfl⟩ (.cons ru .nil), ⟨_, (sb.2 _ (Nat.ne_of_gt le)).trans ht, rfl, _, rfl⟩⟩
    · exact st''
    · rcases List.mem_cons.mp hb with z | z
      · subst z
        rw [upd_ne (Nat.ne_of_lt le)]
        exact f0
      · have z := List.mem_singleton.mp z
        subst z
        rw [upd_ne (Nat.ne_of_lt li)]
        exact g0
  done := by
    intro X hP hw hK hc i pins s σ H E I hf st hg
    subst hP hw hK
    obtain ⟨⟨old, s1⟩, s2⟩ := st
    obtain ⟨xs, hq, hx⟩ := hg
    obtain ⟨its, rv, p, hz⟩ := I.list hq
    obtain ⟨g0, g1, g2, g3, g4, g5⟩ := hf it (by simp)
    have hl := rv.length
    exact wpAny_pyNext_enum_end (I.ok.hd hc) s1 s2 p.isList (by simp; omega) fun h' eb => ⟨rfl, I.turned (t' := s.toks) (fun b o hb e => eb b o hb e) g0 g1 g3 g4 g5⟩
  self := fun A i s Q E st h => by
    obtain ⟨⟨old, s1⟩, _⟩ := st
    exact wpAny_pyIter_enum s1 h
section
variable {X : Cx}
theorem boot_enum : bootBuiltins "enumerate" = some (.type "enumerate") := by decide +kernel
def iEnum (K : PySem.W.Frag) (ta : TA) : TI := fun σ H R => ta σ H fun vs H1 => ∃ a, vs = [.ref a] ∧ (∃ xs, SqL K H1 a xs) ∧ R (Ite K a) H1
theorem pi_enum {es : List Expr} {x1 : Nat} {tp : Pos} {l : Expr} {ta : TA} {p pos : Pos} (hg : Gl X "enumerate") (hm : X.mg "enumerate" = none) (ha : PA X [l] ta) (hs : starEach [l] X.env = [(false, eval l X.env)] := by rfl) :
    PI X (.Tuple es x1 tp) (.Call (.Name "enumerate" p) [l] [] pos) (iEnum X.K ta) := by
  intro pins s σ H R I h
  refine Call_ (ld_blt I hg hm boot_enum (PyProof.Rows.callWith_type1 (thn (ha pos pins s σ H _ I h) fun us s1 ⟨vs, H1, I1, r1, q1⟩ => ?_) hs rfl))
  obtain ⟨a, e, ⟨xs, hq⟩, q⟩ := q1
  subst e
  obtain ⟨u, rfl, rx⟩ := vals1 r1
  cases rx
  obtain ⟨its, rv, pl, hz⟩ := I1.list hq
  refine call_enumerate_list pl.isList fun h' he hi hsz hk => ?_
  have I2 : Inv X pins σ H1 { s1 with heap := h' } := I1.kept (t' := s1.toks) hk
  refine wpAny_pyIter_enum (s := { s1 with heap := h' }) he ?_
  refine ⟨s1.heap.objs.size + 1, [s1.heap.objs.size + 1, s1.heap.objs.size], _, _, H1, rfl, I2, turn_enum a _ _ (Nat.succ_ne_self _), ⟨⟨_, he⟩, hi⟩, fun b hb => ?_, q⟩
  have nb : s1.heap.objs.size ≤ b := by
    rcases List.mem_cons.mp hb with z | z
    · rw [z]; exact Nat.le_succ _
    · rw [List.mem_singleton.mp z]; exact Nat.le_refl _
  exact I1.fpOk nb (I1.hok.fresh nb)
/-- the loop -/
theorem for_enum {K : PySem.W.Frag} {a : Addr} {xs : List V} {g : TG} {tb : TS} {D : Ends} {σ : St} {H : Hp} (Pv : Nat → St → Hp → Prop) (h0 : Pv 0 σ H) (hl : ∀ i σ H, i ≤ xs.length → Pv i σ H → SqL K H a xs)
    (hs : ∀ i x p σ H, xs[i]? = some x → Pv i σ H → H p = none → g (.ref p) σ (upd H p (.tup [.int i, x])) fun σ2 H2 => tb { D with nx := Pv (i + 1), ct := Pv (i + 1), bk := D.nx } σ2 H2) (hd : ∀ σ H, Pv xs.length σ H → D.nx σ H) :
    ∃ W : Nat → Nat → St → Hp → Prop, (∃ m, W 0 m σ H) ∧ ∀ i m σ H, W i m σ H →
      ((Ite K a).stop i H ∧ D.nx σ H) ∨ ((Ite K a).go i H ∧ ∃ N : St → Hp → Prop, (∀ σ' H', N σ' H' → ∃ m', m' < m ∧ W (i + 1) m' σ' H') ∧ ∀ x H', (Ite K a).yld i H x H' → g x σ H' fun σ2 H2 => tb { D with nx := N, ct := N, bk := D.nx } σ2 H2) := by
  refine ⟨fun i m σ H => m = xs.length - i ∧ i ≤ xs.length ∧ Pv i σ H, ⟨xs.length, by simp, Nat.zero_le _, h0⟩, ?_⟩
  rintro i m σ H ⟨rfl, hi, p⟩
  have q := hl i σ H hi p
  by_cases hlt : i < xs.length
  · refine .inr ⟨⟨xs, xs[i], q, by simp [hlt]⟩, Pv (i + 1), fun σ' H' p' => ⟨xs.length - (i + 1), by omega, rfl, hlt, p'⟩, fun x H' y => ?_⟩
    obtain ⟨z, pa, hk, ex, hn, e⟩ := y
    subst e ex
    exact hs i z pa σ H (hk xs q) p hn
  · have e : i = xs.length := by omega
    subst e
    exact .inl ⟨⟨xs, q, Nat.le_refl _⟩, hd σ H p⟩
end
end L2

namespace L2
open PySem PySem.Spec PyProof.Rows
def isTx (z : Str) : Value → Bool
  | .str a _ => a == z
  | _ => false
theorem count_tx {z : Str} : ∀ {us : List Value} {zs : List Str}, StrsAre us zs → us.countP (isTx z) = zs.count z
  | _, _, .nil => rfl
  | _, _, .cons y t r => by
    rw [List.countP_cons, count_tx r, List.count_cons]
    rfl
section
variable {X : Cx}
/-- a list of texts: .count(a text) -/
theorem mt_count : MtR X "list.count" (fun x xs H Q => ∃ (p : Addr) (zs : List Str) (z : Str), x = .ref p ∧ xs = [.str z] ∧ SqL X.K H p (zs.map V.str) ∧ Q (.int (zs.count z : Nat)) H) := by
  intro pins s σ H x xs v us Q I rx r h
  obtain ⟨p, zs, z, rfl, rfl, hq, q⟩ := h
  cases rx
  obtain ⟨u, rfl, t, rfl⟩ := vals1 r
  obtain ⟨its, r', pl, hz⟩ := I.list hq
  have hS := strs_of r'
  obtain ⟨⟨c, dd, dt, sl⟩, e, hc, n, hd⟩ := pl.isList
  simp only at hc hd
  subst hc hd
  refine call_meets F.slot_list_count ⟨_, e, rfl⟩ F.entry_list_count (F.args_list_count_2 _ _) (SeqAt.list_countAt p its.toArray n dd sl (.str z t) (isTx z)) ⟨e, fun y hy => ?_, ?_⟩
  · obtain ⟨a, ta, rfl⟩ := hS.all y (by simpa using hy)
    exact SeqAt.EqAt.str_str a ta z t
  · refine ⟨.int (zs.count z : Nat), H, I.tok _, ⟨s.toks, ?_⟩, q⟩
    show Value.int (its.toArray.toList.countP (isTx z) : Nat) s.toks = Value.int (zs.count z : Nat) s.toks
    rw [List.toList_toArray, count_tx hS]
theorem strs_get : ∀ {us : List Value} {zs : List Str} {j : Nat}, StrsAre us zs → (h : j < us.length) → ∃ a t, us[j] = .str a t ∧ zs[j]? = some a
  | _, _, _, .nil, h => by simp at h
  | _, _, 0, .cons y t _, _ => ⟨y, t, rfl, rfl⟩
  | _, _, j + 1, .cons y t r, h => by
    obtain ⟨a, t', h1, h2⟩ := strs_get (j := j) r (by simpa using h)
    exact ⟨a, t', by simpa using h1, by simpa using h2⟩
end
end L2

/-! SORTING BY KEYS THAT DIFFER (own work): what the asking sort does, whoever answers. -/
namespace Srt
open PySem PySem.W PyProof.Rows
structure Ord (N : Nat) (r : Nat → Nat → Bool) : Prop where
  asym : ∀ a b, a < N → b < N → r a b = true → r b a = false
  trans : ∀ a b c, a < N → b < N → c < N → r b a = false → r c b = false → r c a = false
  dist : ∀ a b, a < N → b < N → a ≠ b → r a b = true ∨ r b a = true
def Cmp (N : Nat) (r : Nat → Nat → Bool) (cmp : Nat → Nat → (Bool → Shared → Prop) → Shared → Prop) (P : Shared → Prop) : Prop :=
  ∀ (i j : Nat) (C : Bool → Shared → Prop) (s : Shared), i < N → j < N → i ≠ j → P s → (∀ s', P s' → C (r i j) s') → cmp i j C s
def PN (N : Nat) (p : Array Nat) : Prop := p.toList.Perm (List.range N)
def Up (r : Nat → Nat → Bool) (p : Array Nat) (k : Nat) : Prop := ∀ i j, i ≤ j → j < k → r (p.getD j 0) (p.getD i 0) = false
def Dn (r : Nat → Nat → Bool) (p : Array Nat) (k : Nat) : Prop := ∀ i j, i ≤ j → j < k → r (p.getD i 0) (p.getD j 0) = false
section
variable {N : Nat} {r : Nat → Nat → Bool} {cmp : Nat → Nat → (Bool → Shared → Prop) → Shared → Prop} {P : Shared → Prop} {p : Array Nat}
theorem Ord.refl (O : Ord N r) {a : Nat} (h : a < N) : r a a = false := by
  cases e : r a a with
  | false => rfl
  | true => exact (O.asym a a h h e).symm.trans e |>.symm
theorem PN.size (h : PN N p) : p.size = N := by
  have := h.length_eq
  simpa using this
theorem getD_get {i : Nat} (hi : i < p.size) : p.getD i 0 = p[i] := by simp [Array.getD, hi]
theorem PN.lt (h : PN N p) {i : Nat} (hi : i < N) : p.getD i 0 < N := by
  have hs := h.size
  rw [getD_get (by omega)]
  have : p[i]'(by omega) ∈ p.toList := by simp
  exact List.mem_range.mp (h.mem_iff.mp this)
theorem PN.inj (h : PN N p) {i j : Nat} (hi : i < N) (hj : j < N) (e : p.getD i 0 = p.getD j 0) : i = j := by
  have hs := h.size
  rw [getD_get (by omega), getD_get (by omega)] at e
  have nd : p.toList.Nodup := h.nodup_iff.mpr List.nodup_range
  rcases Nat.lt_trichotomy i j with h1 | h1 | h1
  · exact absurd (show p.toList[i]'(by simp; omega) = p.toList[j]'(by simp; omega) by rw [Array.getElem_toList, Array.getElem_toList]; exact e) (List.pairwise_iff_getElem.mp nd i j (by simp; omega) (by simp; omega) h1)
  · exact h1
  · exact absurd (show p.toList[j]'(by simp; omega) = p.toList[i]'(by simp; omega) by rw [Array.getElem_toList, Array.getElem_toList]; exact e.symm) (List.pairwise_iff_getElem.mp nd j i (by simp; omega) (by simp; omega) h1)
theorem asc (O : Ord N r) (hc : Cmp N r cmp P) (hp : PN N p) : ∀ (f n : Nat) (s : Shared) (Q : Nat → Shared → Prop), 1 ≤ n → n + f ≤ N → Up r p n → P s →
    (∀ m s', n ≤ m → m ≤ n + f → (m = n + f ∨ r (p.getD m 0) (p.getD (m - 1) 0) = true) → Up r p m → P s' → Q m s') → (kas_asc p f n).kasWp cmp Q s
  | 0, n, s, Q, h1, hn, hu, hP, hq => hq n s (Nat.le_refl _) (Nat.le_refl _) (.inl rfl) hu hP
  | f + 1, n, s, Q, h1, hn, hu, hP, hq => by
    show cmp _ _ _ s
    refine hc _ _ _ s (hp.lt (by omega)) (hp.lt (by omega)) (fun z => by have := hp.inj (by omega) (by omega) z; omega) hP fun s' hs' => ?_
    cases e : r (p.getD n 0) (p.getD (n - 1) 0) with
    | true =>
      dsimp only
      rw [if_pos rfl]
      exact hq n s' (Nat.le_refl _) (by omega) (.inr e) hu hs'
    | false =>
      dsimp only
      rw [if_neg (by decide)]
      refine asc O hc hp f (n + 1) s' Q (by omega) (by omega) (fun i j hij hj => ?_) hs' fun m s'' h2 h3 h4 h5 h6 => hq m s'' (by omega) (by omega) (h4.imp (fun z => by omega) id) h5 h6
      by_cases hjn : j < n
      · exact hu i j hij hjn
      · have ej : j = n := by omega
        subst ej
        by_cases hi : i = j
        · subst hi
          exact O.refl (hp.lt (by omega))
        · exact O.trans _ _ _ (hp.lt (by omega)) (hp.lt (by omega)) (hp.lt (by omega)) (hu i (j - 1) (by omega) (by omega)) e
theorem desc (O : Ord N r) (hc : Cmp N r cmp P) (hp : PN N p) : ∀ (f n : Nat) (s : Shared) (Q : Array Nat × Nat × Nat → Shared → Prop), 1 ≤ n → n + f ≤ N → Dn r p n → P s →
    (∀ m s', n ≤ m → m ≤ n + f → Dn r p m → P s' → Q (p, m, 0) s') → (kas_desc f p n 0).kasWp cmp Q s
  | 0, n, s, Q, h1, hn, hu, hP, hq => hq n s (Nat.le_refl _) (Nat.le_refl _) hu hP
  | f + 1, n, s, Q, h1, hn, hu, hP, hq => by
    show cmp _ _ _ s
    refine hc _ _ _ s (hp.lt (by omega)) (hp.lt (by omega)) (fun z => by have := hp.inj (by omega) (by omega) z; omega) hP fun s' hs' => ?_
    cases e : r (p.getD n 0) (p.getD (n - 1) 0) with
    | true =>
      dsimp only
      rw [if_pos rfl, if_neg (by omega)]
      refine desc O hc hp f (n + 1) s' Q (by omega) (by omega) (fun i j hij hj => ?_) hs' fun m s'' h2 h3 h5 h6 => hq m s'' (by omega) (by omega) h5 h6
      by_cases hjn : j < n
      · exact hu i j hij hjn
      · have ej : j = n := by omega
        subst ej
        by_cases hi : i = j
        · subst hi
          exact O.refl (hp.lt (by omega))
        · exact O.trans _ _ _ (hp.lt (by omega)) (hp.lt (by omega)) (hp.lt (by omega)) (O.asym _ _ (hp.lt (by omega)) (hp.lt (by omega)) e) (hu i (j - 1) (by omega) (by omega))
    | false =>
      dsimp only
      rw [if_neg (by decide)]
      show cmp _ _ _ s'
      refine hc _ _ _ s' (hp.lt (by omega)) (hp.lt (by omega)) (fun z => by have := hp.inj (by omega) (by omega) z; omega) hs' fun s'' hs'' => ?_
      have hd : r (p.getD (n - 1) 0) (p.getD n 0) = true := by
        rcases O.dist _ _ (hp.lt (i := n - 1) (by omega)) (hp.lt (i := n) (by omega)) (fun z => by have := hp.inj (by omega) (by omega) z; omega) with h | h
        · exact h
        · rw [e] at h; cases h
      dsimp only
      rw [hd, if_pos rfl]
      exact hq n s'' (Nat.le_refl _) (by omega) hu hs''
theorem rev_at {i j : Nat} (hj : j ≤ p.size) (k : Nat) : (kas_rev p i j).getD k 0 = if i ≤ k ∧ k < j then p.getD (i + j - 1 - k) 0 else p.getD k 0 := by
  have h := getElem?_mirror_all (xs := p) (i := i) (j := j) hj k
  unfold kas_rev
  rw [Array.getD_eq_getD_getElem?, h]
  split <;> rw [Array.getD_eq_getD_getElem?]
theorem rev_pn {i j : Nat} (h : PN N p) : PN N (kas_rev p i j) := (Array.perm_iff_toList_perm.mp (mirror_perm p i j _)).trans h
theorem tail3 (O : Ord N r) (hc : Cmp N r cmp P) (hp : PN N p) {n : Nat} {s : Shared} {Q : Nat × Array Nat → Shared → Prop} (h1 : 1 ≤ n) (hn : n ≤ N) (hd : Dn r p n) (hP : P s)
    (hq : ∀ m p' s', n ≤ m → m ≤ N → PN N p' → Up r p' m → P s' → Q (m, p') s') : (kas_tail3 n N p).kasWp cmp Q s := by
  unfold kas_tail3
  rw [KasT.kasWp_bind]
  have hs := hp.size
  refine asc O hc (rev_pn hp) (N - n) n s _ h1 (by omega) (fun i j hij hj => ?_) hP fun m s' h2 h3 _ h5 h6 => hq m _ s' h2 (by omega) (rev_pn hp) h5 h6
  rw [rev_at (by omega), rev_at (by omega), if_pos (by omega), if_pos (by omega)]
  exact hd _ _ (by omega) (by omega)
theorem count (O : Ord N r) (hc : Cmp N r cmp P) (hp : PN N p) {s : Shared} {Q : Nat × Array Nat → Shared → Prop} (h1 : 1 ≤ N) (hP : P s)
    (hq : ∀ m p' s', 1 ≤ m → m ≤ N → PN N p' → Up r p' m → P s' → Q (m, p') s') : (kas_count N p).kasWp cmp Q s := by
  unfold kas_count
  rw [KasT.kasWp_bind]
  refine asc O hc hp (N - 1) 1 s _ (Nat.le_refl _) (by omega) (fun i j hij hj => ?_) hP fun m s' h2 h3 h4 h5 h6 => ?_
  · have ei : i = 0 := by omega
    have ej : j = 0 := by omega
    subst ei ej
    exact O.refl (hp.lt (by omega))
  · by_cases hm : m = N
    · rw [if_pos (by rw [hm]; exact beq_self_eq_true N)]
      exact hq m p s' h2 (by omega) hp h5 h6
    · rw [if_neg (by rw [beq_iff_eq]; exact hm)]
      have hr : r (p.getD m 0) (p.getD (m - 1) 0) = true := h4.resolve_left (by omega)
      by_cases hm1 : m > 1
      · rw [if_pos hm1]
        show cmp _ _ _ s'
        refine hc _ _ _ s' (hp.lt (by omega)) (hp.lt (by omega)) (fun z => by have := hp.inj (by omega) (by omega) z; omega) h6 fun s'' hs'' => ?_
        have hd : r (p.getD 0 0) (p.getD (m - 1) 0) = true := by
          rcases O.dist _ _ (hp.lt (i := 0) (by omega)) (hp.lt (i := m - 1) (by omega)) (fun z => by have := hp.inj (by omega) (by omega) z; omega) with h | h
          · exact h
          · rw [h5 0 (m - 1) (by omega) (by omega)] at h; cases h
        dsimp only
        rw [hd, if_pos rfl]
        exact hq m p s'' h2 (by omega) hp h5 hs''
      · rw [if_neg hm1]
        have em : m = 1 := by omega
        subst em
        unfold kas_descPart
        rw [KasT.kasWp_bind]
        refine desc O hc hp (N - (1 + 1)) (1 + 1) s' _ (by omega) (by omega) (fun i j hij hj => ?_) h6 fun m s'' g2 g3 g5 g6 => ?_
        · by_cases hi : i = j
          · subst hi
            exact O.refl (hp.lt (by omega))
          · have ei : i = 0 := by omega
            have ej : j = 1 := by omega
            subst ei ej
            exact O.asym _ _ (hp.lt (by omega)) (hp.lt (by omega)) hr
        · rw [if_neg (by show ¬ (0 > 0); omega)]
          exact tail3 O hc hp (by show 1 ≤ m; omega) (by show m ≤ N; omega) g5 g6 fun m' p' s3 a1 a2 a3 a4 a5 => hq m' p' s3 (by have : m ≤ m' := a1; omega) a2 a3 a4 a5
theorem place (O : Ord N r) (hc : Cmp N r cmp P) (hp : PN N p) {k : Nat} (hk : k < N) (hu : Up r p k) : ∀ (f l q : Nat) (s : Shared) (Q : Nat → Shared → Prop), l ≤ q → q ≤ k → q - l ≤ f → (∀ i, i < l → r (p.getD k 0) (p.getD i 0) = false) →
    (∀ i, q ≤ i → i < k → r (p.getD k 0) (p.getD i 0) = true) → P s →
    (∀ m s', m ≤ k → (∀ i, i < m → r (p.getD k 0) (p.getD i 0) = false) → (∀ i, m ≤ i → i < k → r (p.getD k 0) (p.getD i 0) = true) → P s' → Q m s') → (kas_place p k f l q).kasWp cmp Q s
  | 0, l, q, s, Q, hl, hq, hf, lo, hi, hP, h => h l s (by omega) lo (fun i h1 h2 => hi i (by omega) h2) hP
  | f + 1, l, q, s, Q, hl, hq, hf, lo, hi, hP, h => by
    unfold kas_place
    by_cases e : l ≥ q
    · rw [if_pos e]
      exact h l s (by omega) lo (fun i h1 h2 => hi i (by omega) h2) hP
    · rw [if_neg e]
      show cmp _ _ _ s
      have hm : (l + q) / 2 < q := by omega
      have hm2 : l ≤ (l + q) / 2 := by omega
      refine hc _ _ _ s (hp.lt (by omega)) (hp.lt (by omega)) (fun z => by have := hp.inj (by omega) (by omega) z; omega) hP fun s' hs' => ?_
      cases c : r (p.getD k 0) (p.getD ((l + q) / 2) 0) with
      | true =>
        dsimp only
        rw [if_pos rfl]
        refine place O hc hp hk hu f l ((l + q) / 2) s' Q (by omega) (by omega) (by omega) lo (fun i h1 h2 => ?_) hs' h
        cases d : r (p.getD k 0) (p.getD i 0) with
        | true => rfl
        | false =>
          have := O.trans _ _ _ (hp.lt (i := (l + q) / 2) (by omega)) (hp.lt (i := i) (by omega)) (hp.lt (i := k) (by omega)) (hu _ i h1 h2) d
          rw [this] at c
          cases c
      | false =>
        dsimp only
        rw [if_neg (by decide)]
        refine place O hc hp hk hu f ((l + q) / 2 + 1) q s' Q (by omega) (by omega) (by omega) (fun i h1 => ?_) hi hs' h
        exact O.trans _ _ _ (hp.lt (by omega)) (hp.lt (by omega)) (hp.lt (by omega)) (hu i ((l + q) / 2) (by omega) (by omega)) c
theorem bub_at {src d : Nat} (hs : src < p.size) (hd : d ≤ src) (k : Nat) : (bubble p src d).getD k 0 = if k = src - d then p.getD src 0 else if src - d < k ∧ k ≤ src then p.getD (k - 1) 0 else p.getD k 0 := by
  have h := getElem?_bubble hs d hd k
  rw [Array.getD_eq_getD_getElem?, h, Array.getD_eq_getD_getElem?, Array.getD_eq_getD_getElem?, Array.getD_eq_getD_getElem?]
  by_cases e1 : k = src - d
  · rw [if_pos e1, if_pos e1]
  · rw [if_neg e1, if_neg e1]
    by_cases e2 : src - d < k ∧ k ≤ src
    · rw [if_pos e2, if_pos e2]
    · rw [if_neg e2, if_neg e2]
theorem bin (O : Ord N r) (hc : Cmp N r cmp P) : ∀ (f : Nat) (p : Array Nat) (k : Nat) (s : Shared) (Q : Array Nat → Shared → Prop), PN N p → k + f = N → Up r p k → P s →
    (∀ p' s', PN N p' → Up r p' N → P s' → Q p' s') → (kas_bin f p k).kasWp cmp Q s
  | 0, p, k, s, Q, hp, hk, hu, hP, h => h p s hp ((show k = N from hk) ▸ hu) hP
  | f + 1, p, k, s, Q, hp, hk, hu, hP, h => by
    unfold kas_bin
    rw [KasT.kasWp_bind]
    have hs := hp.size
    refine place O hc hp (k := k) (by omega) hu k 0 k s _ (Nat.zero_le _) (Nat.le_refl _) (by omega) (fun i hi => absurd hi (Nat.not_lt_zero _)) (fun i h1 h2 => absurd h2 (by omega)) hP fun m s' h1 lo hi hs' => ?_
    refine bin O hc f _ (k + 1) s' Q ((Array.perm_iff_toList_perm.mp (bubble_perm p k _)).trans hp) (by omega) (fun i j hij hj => ?_) hs' h
    rw [bub_at (by omega) (by omega), bub_at (by omega) (by omega)]
    have e : k - (k - m) = m := by omega
    rw [e]
    have hi' : ∀ i, m ≤ i → i < k → r (p.getD i 0) (p.getD k 0) = false := fun i a b => O.asym _ _ (hp.lt (by omega)) (hp.lt (by omega)) (hi i a b)
    by_cases ej : j = m
    · rw [if_pos ej]
      by_cases ei : i = m
      · rw [if_pos ei]
        exact O.refl (hp.lt (by omega))
      · rw [if_neg ei, if_neg (by omega)]
        exact lo i (by omega)
    · rw [if_neg ej]
      by_cases ei : i = m
      · rw [if_pos ei, if_pos (by omega)]
        exact hi' (j - 1) (by omega) (by omega)
      · rw [if_neg ei]
        by_cases bj : m < j ∧ j ≤ k
        · rw [if_pos bj]
          by_cases bi : m < i ∧ i ≤ k
          · rw [if_pos bi]
            exact hu _ _ (by omega) (by omega)
          · rw [if_neg bi]
            exact hu _ _ (by omega) (by omega)
        · rw [if_neg bj, if_neg (by omega)]
          exact hu _ _ hij (by omega)
/-- the asking sort, by an order in which no two are alike -/
theorem sort (O : Ord N r) (hc : Cmp N r cmp P) {s : Shared} {Q : Array Nat → Shared → Prop} (h1 : 1 ≤ N) (hP : P s) (h : ∀ p' s', PN N p' → Up r p' N → P s' → Q p' s') : (kas_sort N).kasWp cmp Q s := by
  unfold kas_sort
  rw [KasT.kasWp_bind]
  refine count O hc (by unfold PN; simp) h1 hP fun m p' s' a1 a2 a3 a4 a5 => ?_
  show (if m < N then kas_bin (N - max m 1) p' (max m 1) else .ret p').kasWp cmp Q s'
  have em : max m 1 = m := by omega
  rw [em]
  by_cases hm : m < N
  · rw [if_pos hm]
    exact bin O hc _ p' m s' Q a3 (by omega) a4 a5 h
  · rw [if_neg hm]
    have : m = N := by omega
    subst this
    exact h p' s' a3 a4 a5
end
end Srt

/-! sorted OF A LIST OF TUPLES WHOSE FIRST THINGS ARE TEXTS THAT DIFFER (own work). -/
namespace Srt
open PySem PySem.W PyProof.Rows
/-- tuples with these texts ahead -/
def TA1 (h : Heap) (vs : List Value) (zs : List Str) : Prop := vs.length = zs.length ∧ ∀ (i : Nat) (z : Str), zs[i]? = some z → ∃ a o t rest n, vs[i]? = some (.ref a) ∧ h.get? a = some o ∧ o.cls = .type "tuple" ∧ o.data = .seq (Value.str z t :: rest).toArray n
def rz (zs : List Str) (i j : Nat) : Bool := decide ((zs.getD i "").cps.toList < (zs.getD j "").cps.toList)
theorem str_ext {a b : Str} (h : a.cps.toList = b.cps.toList) : a = b := by
  cases a
  cases b
  simp at h
  rw [h]
theorem ord_z {zs : List Str} (nd : zs.Nodup) : Ord zs.length (rz zs) where
  asym := fun a b _ _ h => by
    unfold rz at h ⊢
    rw [decide_eq_true_iff] at h
    rw [decide_eq_false_iff_not]
    exact List.lt_asymm h
  trans := fun a b c _ _ _ h1 h2 => by
    unfold rz at h1 h2 ⊢
    rw [decide_eq_false_iff_not] at h1 h2 ⊢
    rw [List.not_lt] at h1 h2 ⊢
    exact List.le_trans h1 h2
  dist := fun a b ha hb n => by
    unfold rz
    rw [decide_eq_true_iff, decide_eq_true_iff]
    apply Classical.byContradiction
    intro h
    rw [not_or, List.not_lt, List.not_lt] at h
    have e := str_ext (List.le_antisymm h.2 h.1)
    simp only [List.getD_eq_getElem?_getD, List.getElem?_eq_getElem ha, List.getElem?_eq_getElem hb, Option.getD_some] at e
    rcases Nat.lt_trichotomy a b with q | q | q
    · exact List.pairwise_iff_getElem.mp nd a b ha hb q e
    · exact n q
    · exact List.pairwise_iff_getElem.mp nd b a hb ha q e.symm
section
variable {prog : Program} {w : World} {A : Around} {E : Value → Shared → Prop} {s : Shared}
end
end Srt
namespace L2
open PySem PySem.Spec PyProof.Rows
theorem perm_getD {α : Type} (d : α) (l : List α) {q : List Nat} (h : q.Perm (List.range l.length)) : (q.map fun i => l.getD i d).Perm l := by
  have h1 := h.map fun i => l.getD i d
  have e : (List.range l.length).map (fun i => l.getD i d) = l := by
    apply List.ext_getElem
    · simp
    · intro i a b
      rw [List.getElem_map, List.getElem_range, List.getD_eq_getElem?_getD, List.getElem?_eq_getElem b, Option.getD_some]
  rw [e] at h1
  exact h1
theorem vals_map {xs : List V} {us : List Value} (r : Vals xs us) : ∀ (q : List Nat), (∀ i ∈ q, i < xs.length) → Vals (q.map fun i => xs.getD i .non) (q.map fun i => us.getD i Value.none)
  | [], _ => .nil
  | i :: q, h => by
    refine .cons ?_ (vals_map r q fun j hj => h j (List.mem_cons_of_mem _ hj))
    have hi := h i List.mem_cons_self
    have hu : i < us.length := by rw [← r.length]; exact hi
    obtain ⟨u, e, ru⟩ := r.get (i := i) (x := xs[i]) (by simp [hi])
    simp only [List.getD_eq_getElem?_getD, List.getElem?_eq_getElem hi, e, Option.getD_some]
    exact ru
/-- these texts rise -/
def Rise (zs : List Str) : Prop := zs.Pairwise fun a b => ¬ b.cps.toList < a.cps.toList
section
variable {X : Cx}
end
end L2

/-! == OF TWO DICTS, where they are alike (own work). -/
namespace L2
open PySem PySem.Spec PyProof.Rows PySem.Builtin PySem.Builtin.Dict
theorem dict_eq_tree (a b : Value) : Builtin.«dict.__eq__» ⟨[a, b], []⟩ = (do
    let (self, other) ← dictSlotArgs "__eq__" ⟨[a, b], []⟩
    if !(← isInstance other (.type "dict")) then rule s!"dict.{("__eq__" : String)}.not-a-dict"; return ← ret .notImplemented
    ret (.bool ((← Dict.samePairs s!"dict.{("__eq__" : String)}" (← addrOf self) (← addrOf other)) == true))) := rfl
theorem sub_dict_dict : isSubtype (.type "dict") (.type "dict") = pure true := by rw [isSubtype_type]; kernel_rfl
section
variable {prog : Program} {w : World} {A : Around} {E : Value → Shared → Prop} {s : Shared} {a b : Addr} {oa ob : Obj} {es fs : Array DictEntry} {ep fp : Nat}
theorem same_pairs {id : String} {Q : Bool → Shared → Prop} (ha : s.heap.get? a = some oa) (da : oa.data = .dict es ep) (hb : s.heap.get? b = some ob) (db : ob.data = .dict fs fp) (na : (a == sysModules) = false) (nb : (b == sysModules) = false) (hsz : es.size = fs.size)
    (hf : ∀ (i : Nat) (e : DictEntry), es[i]? = some e → ∃ (j : Nat) (f : DictEntry), fs[j]? = some f ∧ (∀ (R : Option Nat → Shared → Prop), R (some j) s → wpAny (model prog w) A (dictFind b e.key e.hash) R E s) ∧ ∀ (R : Bool → Shared → Prop), R true s → wpAny (model prog w) A (eqBool e.val f.val) R E s)
    (hq : Q true s) : wpAny (model prog w) A (Dict.samePairs id a b) Q E s := by
  unfold Dict.samePairs Dict.showsAll
  simp only [na, nb, Bool.false_eq_true, if_false]
  refine wpAny_bind (wpAny_pure (wpAny_bind (wpAny_pure ?_)))
  refine wpAny_bind (wpAny_dictEntries ha da ?_)
  refine wpAny_bind (wpAny_dictEntries hb db ?_)
  rw [if_neg (by rw [hsz]; simp)]
  refine wpAny_bind (wpAny_dictEpoch ha da ?_)
  rw [Std.Legacy.Range.forIn_eq_forIn_range']
  refine wpAny_bind (wpAny_forIn_list _ (fun rest b s' => b = (none, ()) ∧ s' = s ∧ ∀ x ∈ rest, x < es.size) _ (fun i rest b s' hI => ?_) (fun b s' hI => ?_) _ _ ⟨rfl, rfl, fun x hx => ?_⟩)
  · obtain ⟨rfl, rfl, hl⟩ := hI
    have hi := hl i List.mem_cons_self
    obtain ⟨j, f, hj, h1, h2⟩ := hf i es[i] (by simp [hi])
    refine wpAny_bind (wpAny_dictEntries ha da ?_)
    have ei : es[i]? = some es[i] := by simp [hi]
    rw [ei]
    dsimp only
    refine wpAny_bind (wpAny_holding (wpAny_bind (h1 _ ?_)))
    dsimp only
    refine wpAny_bind (wpAny_dictEntries hb db ?_)
    rw [hj]
    dsimp only
    refine wpAny_holding (h2 _ ?_)
    rw [if_neg (by decide)]
    refine wpAny_bind (wpAny_dictEpoch ha da ?_)
    rw [if_neg (by simp)]
    exact wpAny_pure ⟨rfl, rfl, fun x hx => hl x (List.mem_cons_of_mem _ hx)⟩
  · obtain ⟨rfl, rfl, _⟩ := hI
    exact wpAny_pure hq
  · have := List.mem_range'.mp hx
    obtain ⟨k, hk, rfl⟩ := this
    simp [Std.Legacy.Range.size] at hk ⊢
    omega
end
end L2

namespace L2
open PySem PySem.Spec PyProof.Rows PySem.Builtin PySem.Builtin.Dict
theorem pairs_len {P : Program} {w : World} : ∀ {es : List DictEntry} {kvs : List (Key × Value)}, Pairs (mixKind P w) es kvs → es.length = kvs.length
  | _, _, .nil => rfl
  | _, _, .cons _ _ r => by simp [pairs_len r]
theorem find_str {prog : Program} {w : World} {A : Around} {E : Value → Shared → Prop} {s : Shared} {d : Addr} {o : Obj} {es : Array DictEntry} {ep j : Nat} {x : Str} {t : Tok} {hs : Int} {Q : Option Nat → Shared → Prop} (ho : s.heap.get? d = some o) (hd : o.data = .dict es ep)
    (hall : ∀ e ∈ es, ∃ z t, e.key = Value.str z t) (hj : es.findIdx? (fun e => e.key.isStr x) = some j) (h : Q (some j) s) : wpAny (model prog w) A (dictFind d (.str x t) hs) Q E s := by
  obtain ⟨hjs, hjt, _⟩ := Array.findIdx?_eq_some_iff_getElem.mp hj
  have ha : (es.all fun e => isExactStrKey e.key) = true := by
    rw [Array.all_eq_true']
    intro e he
    obtain ⟨z, t, q⟩ := hall e he
    rw [q]
    rfl
  obtain ⟨z, tz, ez⟩ := hall es[j] (Array.getElem_mem hjs)
  have zx : z = x := by
    rw [ez] at hjt
    exact eq_of_beq hjt
  subst zx
  unfold dictFind
  refine wpAny_holding ?_
  refine wpAny_bind (wpAny_dictEntries ho hd ?_)
  dsimp only
  rw [if_pos ha]
  unfold foundByValue
  rw [hj]
  dsimp only
  rw [Array.getElem?_eq_getElem hjs]
  dsimp only
  rw [ez]
  refine wpAny_bind (wpAny_dictEpoch ho hd (wpAny_bind (wpAny_eqBool_str (wpAny_bind (wpAny_dictEpoch ho hd ?_)))))
  rw [if_neg (by simp), if_pos (by simp)]
  exact wpAny_bind (wpAny_rule (wpAny_pure h))
section
variable {A : Around} {s : Shared} {P : Program} {w : World}
/-- two dicts, each key of the one in the other, the values equal -/
theorem eqAt_dicts {a b : Addr} {kvs kws : List (Key × Value)} (da : s.heap.DictOf (mixKind P w) a kvs) (db : s.heap.DictOf (mixKind P w) b kws) (na : (a == sysModules) = false) (nb : (b == sysModules) = false) (hl : kvs.length = kws.length) (tx : ∀ (k : Key) (v : Value), (k, v) ∈ kws → ∃ x, k = .inr x)
    (he : ∀ (k : Key) (v : Value), (k, v) ∈ kvs → ∃ v', (k, v') ∈ kws ∧ SeqAt.EqAt A.in1 s v v' true) (hu : A.units < cLine) : SeqAt.EqAt A s (.ref a) (.ref b) true := by
  by_cases hab : a = b
  · rw [hab]
    exact SeqAt.EqAt.same _
  refine SeqAt.EqAt.of_refs hab fun prog w' E Q hq => ?_
  obtain ⟨oa, es, ep, ha, xa, dda, ka, pa, nda⟩ := da
  obtain ⟨ob, fs, fp, hb, xb, ddb, kb, pb, ndb⟩ := db
  have Ta : s.TypeIs (.ref a) "dict" := ⟨oa, ha, xa.1⟩
  have Tb : s.TypeIs (.ref b) "dict" := ⟨ob, hb, xb.1⟩
  have la : es.size = kvs.length := by have := pairs_len pa; simpa using this
  have lb : fs.size = kws.length := by have := pairs_len pb; simpa using this
  have kb' : ∀ e ∈ fs, ∃ z t, e.key = Value.str z t := fun e he' => by
    obtain ⟨m, hm, rfl⟩ := Array.mem_iff_getElem.mp he'
    obtain ⟨⟨k, v⟩, hk⟩ : ∃ kv, kws[m]? = some kv := ⟨_, List.getElem?_eq_getElem (by omega)⟩
    obtain ⟨g1, _⟩ := pb.get? (i := m) (e := fs[m]) (by simp [hm]) hk
    obtain ⟨x, rfl⟩ := tx k v (List.mem_of_getElem? hk)
    rcases keyIs_shape (k := .inr x) (v := fs[m].key) g1 with ⟨i, t, q, _⟩ | ⟨z, t, q, q2⟩
    · cases q
    · exact ⟨z, t, q2⟩
  refine wpAny_richCompare_same_room Ta Tb F.slot_dict_eq (wpAny_call_entry F.slot_dict_eq Ta F.entry_dict_eq ?_ (F.args_dict_eq_2 _ _)) hu
  rw [dict_eq_tree]
  refine wpAny_bind ?_
  show wpAny _ _ (pure (Value.ref a, Value.ref b)) _ _ _
  refine wpAny_pure ?_
  dsimp only
  refine wpAny_bind (wpAny_isInstance (T := "dict") (b := true) Tb sub_dict_dict ?_)
  simp only [Bool.not_true, Bool.false_eq_true, if_false]
  refine wpAny_bind (wpAny_pure (wpAny_bind (wpAny_pure (wpAny_bind (same_pairs ha dda hb ddb na nb (by omega) (fun i e ei => ?_) ?_)))))
  · have hi : i < es.size := (Array.getElem?_eq_some_iff.mp ei).1
    obtain ⟨⟨k, v⟩, hk⟩ : ∃ kv, kvs[i]? = some kv := ⟨_, List.getElem?_eq_getElem (by omega)⟩
    obtain ⟨g1, g2⟩ := pa.get? (i := i) (e := e) (by simpa using ei) hk
    obtain ⟨k2, g3, g4⟩ := ka e (Array.mem_of_getElem? ei)
    have ek : k2 = k := (mixKind P w).inj _ _ _ g3 g1
    subst ek
    obtain ⟨v', hv', eq⟩ := he k2 v (List.mem_of_getElem? hk)
    obtain ⟨x, rfl⟩ := tx k2 v' hv'
    obtain ⟨t0, ek0⟩ : ∃ t, e.key = Value.str x t := by
      rcases keyIs_shape (k := .inr x) (v := e.key) g1 with ⟨i, t, q, _⟩ | ⟨z, t, q, q2⟩
      · cases q
      · cases q
        exact ⟨t, q2⟩
    obtain ⟨m, hm⟩ := List.getElem?_of_mem hv'
    have hm' : m < fs.size := by have := (List.getElem?_eq_some_iff.mp hm).1; omega
    have em : fs.toList[m]? = some fs[m] := by simp [hm']
    obtain ⟨q1, q2⟩ := pb.get? em hm
    obtain ⟨j, hj⟩ : ∃ j, fs.findIdx? (fun e => e.key.isStr x) = some j := by
      cases z : fs.findIdx? (fun e => e.key.isStr x) with
      | some j => exact ⟨j, rfl⟩
      | none =>
        have := Array.findIdx?_eq_none_iff.mp z fs[m] (Array.getElem_mem hm')
        have q1' : fs[m].key.isStr x = true := by
          rcases keyIs_shape (k := .inr x) (v := fs[m].key) q1 with ⟨i, t, q, _⟩ | ⟨z, t, q, q2⟩
          · cases q
          · cases q
            rw [q2]
            exact beq_self_eq_true x
        rw [q1'] at this
        cases this
    obtain ⟨hjs, hjt, _⟩ := Array.findIdx?_eq_some_iff_getElem.mp hj
    obtain ⟨⟨k3, v3⟩, hk3⟩ : ∃ kv, kws[j]? = some kv := ⟨_, List.getElem?_eq_getElem (by omega)⟩
    obtain ⟨r1, r2⟩ := pb.get? (i := j) (e := fs[j]) (by simp [hjs]) hk3
    have hjk : (mixKind P w).is (.inr x) fs[j].key = true := by
      obtain ⟨z, t, q⟩ := kb' fs[j] (Array.getElem_mem hjs)
      rw [q] at hjt ⊢
      have zx : z = x := eq_of_beq hjt
      rw [zx]
      rw [(mixKind P w).strs (.inr x) x t0 _ (by rw [← ek0]; exact g1)]
      exact beq_self_eq_true x
    have e3 : k3 = .inr x := (mixKind P w).inj _ _ _ r1 hjk
    subst e3
    have jm : j = m := by
      have hj1 : (kws.map (·.1))[j]? = some (Sum.inr x) := by rw [List.getElem?_map, hk3]; rfl
      have hm1 : (kws.map (·.1))[m]? = some (Sum.inr x) := by rw [List.getElem?_map, hm]; rfl
      obtain ⟨x1, y1⟩ := List.getElem?_eq_some_iff.mp hj1
      obtain ⟨x2, y2⟩ := List.getElem?_eq_some_iff.mp hm1
      rcases Nat.lt_trichotomy j m with z | z | z
      · exact absurd (y1.trans y2.symm) (List.pairwise_iff_getElem.mp ndb j m x1 x2 z)
      · exact z
      · exact absurd (y2.trans y1.symm) (List.pairwise_iff_getElem.mp ndb m j x2 x1 z)
    subst jm
    rw [hm] at hk3
    cases hk3
    refine ⟨j, fs[j], by simp [hjs], fun R hR => ?_, fun R hR => ?_⟩
    · rw [ek0]
      exact find_str hb ddb kb' hj hR
    · rw [g2, r2]
      exact eq prog w' E R hR
  · exact wpAny_pure ⟨_, rfl, (fun z => nomatch z), hq⟩
end
end L2

/-! == AND != OF THINGS THAT ARE ALIKE ALL THE WAY DOWN (own work). -/
namespace L2
open PySem PySem.Spec PyProof.Rows
inductive Dq (H : Hp) : Nat → V → V → Prop
  | non {n : Nat} : Dq H n .non .non
  | bl {n : Nat} {b : Bool} : Dq H n (.bl b) (.bl b)
  | int {n : Nat} {i : Int} : Dq H n (.int i) (.int i)
  | str {n : Nat} {z : Str} : Dq H n (.str z) (.str z)
  | ref {n : Nat} {a : Addr} : Dq H n (.ref a) (.ref a)
  | tup {n : Nat} {a b : Addr} {xs ys : List V} (ha : H a = some (.tup xs)) (hb : H b = some (.tup ys)) (hl : xs.length = ys.length) (h : ∀ (i : Nat) (x y : V), xs[i]? = some x → ys[i]? = some y → Dq H n x y) : Dq H (n + 1) (.ref a) (.ref b)
  | lst {n : Nat} {a b : Addr} {xs ys : List V} (ha : H a = some (.lst xs)) (hb : H b = some (.lst ys)) (hl : xs.length = ys.length) (h : ∀ (i : Nat) (x y : V), xs[i]? = some x → ys[i]? = some y → Dq H n x y) : Dq H (n + 1) (.ref a) (.ref b)
  | dct {n : Nat} {a b : Addr} {kvs kws : List (Key × V)} (f : Key → V) (ha : Rd H a (.dK kvs)) (hb : Rd H b (.dK kws)) (hl : kvs.length = kws.length) (tx : ∀ (k : Key) (v : V), (k, v) ∈ kws → ∃ x, k = .inr x)
      (hf : ∀ (k : Key) (v : V), (k, v) ∈ kvs → (k, f k) ∈ kws) (h : ∀ (k : Key) (v : V), (k, v) ∈ kvs → Dq H n v (f k)) : Dq H (n + 1) (.ref a) (.ref b)
theorem kv_back : ∀ {kvs : List (Key × V)} {vs : List (Key × Value)} {k : Key} {u : Value} {i : Nat}, KV kvs vs → vs[i]? = some (k, u) → ∃ v, kvs[i]? = some (k, v) ∧ RelV v u
  | _, _, _, _, _, .nil, e => by simp at e
  | _, _, k, u, 0, .cons (a := p) r _, e => by
    simp at e
    subst e
    obtain ⟨p1, p2⟩ := p
    obtain ⟨r1, r2⟩ := r
    simp only at r1
    subst r1
    exact ⟨p2, rfl, r2⟩
  | _, _, k, u, i + 1, .cons _ t, e => by
    obtain ⟨v, h1, h2⟩ := kv_back (i := i) t (by simpa using e)
    exact ⟨v, by simpa using h1, h2⟩
section
variable {X : Cx} {pins : List (Addr × Obj)} {σ : St} {H : Hp} {s : Shared}
theorem eqAt_Dq (I : Inv X pins σ H s) {n : Nat} {x y : V} (d : Dq H n x y) : ∀ {u u' : Value} {A : Around}, RelV x u → RelV y u' → A.units + n < cLine → SeqAt.EqAt A s u u' true := by
  induction d with
  | non => intro u u' A r r' _; cases r; cases r'; exact SeqAt.EqAt.same _
  | bl => intro u u' A r r' _; cases r; cases r'; exact SeqAt.EqAt.same _
  | @int n i =>
    intro u u' A r r' _
    obtain ⟨t, rfl⟩ := r
    obtain ⟨t', rfl⟩ := r'
    have h := SeqAt.EqAt.int_int (A := A) (s := s) i t i t'
    rwa [beq_self_eq_true] at h
  | @str n z =>
    intro u u' A r r' _
    obtain ⟨t, rfl⟩ := r
    obtain ⟨t', rfl⟩ := r'
    have h := SeqAt.EqAt.str_str (A := A) (s := s) z t z t'
    rwa [beq_self_eq_true] at h
  | ref => intro u u' A r r' _; cases r; cases r'; exact SeqAt.EqAt.same _
  | @tup n a b xs ys ha hb hl h ih =>
    intro u u' A r r' hu
    cases r
    cases r'
    by_cases hab : a = b
    · rw [hab]; exact SeqAt.EqAt.same _
    obtain ⟨its, r1, pl, _⟩ := I.tuple (SqT.of (K := X.K) ha)
    obtain ⟨jts, r2, ql, _⟩ := I.tuple (SqT.of (K := X.K) hb)
    have l1 := r1.length
    have l2 := r2.length
    have h0 := SeqAt.RcAt.tuples (A := A) (e := fun _ => true) pl ql (by omega) (fun j g1 g2 => ?_)
    · have e : ((List.range (min its.toArray.size jts.toArray.size)).all (fun _ => true) && its.toArray.size == jts.toArray.size) = true := by
        simp
        omega
      rw [e] at h0
      exact SeqAt.EqAt.of_refs hab h0
    · have g1' : j < its.length := by simpa using g1
      have g2' : j < jts.length := by simpa using g2
      obtain ⟨u1, e1, k1⟩ := r1.get (i := j) (x := xs[j]'(by omega)) (by simp)
      obtain ⟨u2, e2, k2⟩ := r2.get (i := j) (x := ys[j]'(by omega)) (by simp)
      have w1 : its.toArray[j] = u1 := by have := (List.getElem?_eq_some_iff.mp e1).2; simpa using this
      have w2 : jts.toArray[j] = u2 := by have := (List.getElem?_eq_some_iff.mp e2).2; simpa using this
      rw [w1, w2]
      exact ih j _ _ (by simp) (by simp) k1 k2 (by show A.units + 1 + n < cLine; omega)
  | @lst n a b xs ys ha hb hl h ih =>
    intro u u' A r r' hu
    cases r
    cases r'
    by_cases hab : a = b
    · rw [hab]; exact SeqAt.EqAt.same _
    obtain ⟨its, r1, pl, _⟩ := I.list (xs := xs) (.inl (.inl ha))
    obtain ⟨jts, r2, ql, _⟩ := I.list (xs := ys) (.inl (.inl hb))
    have l1 := r1.length
    have l2 := r2.length
    have h0 := SeqAt.RcAt.lists (A := A) (e := fun _ => true) pl.isList ql.isList (by simp; omega) (by omega) (fun j g1 g2 => ?_)
    · have e : ((List.range its.toArray.size).all (fun _ => true)) = true := by simp
      rw [e] at h0
      exact SeqAt.EqAt.of_refs hab h0
    · have g1' : j < its.length := by simpa using g1
      have g2' : j < jts.length := by simpa using g2
      obtain ⟨u1, e1, k1⟩ := r1.get (i := j) (x := xs[j]'(by omega)) (by simp)
      obtain ⟨u2, e2, k2⟩ := r2.get (i := j) (x := ys[j]'(by omega)) (by simp)
      have w1 : its.toArray[j] = u1 := by have := (List.getElem?_eq_some_iff.mp e1).2; simpa using this
      have w2 : jts.toArray[j] = u2 := by have := (List.getElem?_eq_some_iff.mp e2).2; simpa using this
      rw [w1, w2]
      exact ih j _ _ (by simp) (by simp) k1 k2 (by show A.units + 1 + n < cLine; omega)
  | @dct n a b kvs kws f ha hb hl tx hf h ih =>
    intro u u' A r r' hu
    cases r
    cases r'
    obtain ⟨_, na, vs, kv, da⟩ := dk_rd I.hok ha
    obtain ⟨_, nb, ws, kw, db⟩ := dk_rd I.hok hb
    have l1 := kv.length
    have l2 := kw.length
    refine eqAt_dicts da db na nb (by omega) (fun k v hk => ?_) (fun k v hk => ?_) (by omega)
    · obtain ⟨i, hi⟩ := List.getElem?_of_mem hk
      obtain ⟨v0, e0, _⟩ := kv_back kw hi
      exact tx k v0 (List.mem_of_getElem? e0)
    · obtain ⟨i, hi⟩ := List.getElem?_of_mem hk
      obtain ⟨v0, e0, rv⟩ := kv_back kv hi
      have m0 := List.mem_of_getElem? e0
      obtain ⟨m, hm⟩ := List.getElem?_of_mem (hf k v0 m0)
      obtain ⟨u', e1, rv'⟩ := kv_get kw hm
      exact ⟨u', List.mem_of_getElem? e1, ih k v0 m0 rv rv' (by show A.units + 1 + n < cLine; omega)⟩
/-- == of two lists that are alike; != of them -/
theorem rc_lists {A : Around} (I : Inv X pins σ H s) {n : Nat} {a b : Addr} {xs ys : List V} (ha : SqL X.K H a xs) (hb : SqL X.K H b ys) (hl : xs.length = ys.length) (h : ∀ (i : Nat) (x y : V), xs[i]? = some x → ys[i]? = some y → Dq H n x y) (hu : A.units + n + 1 < cLine) :
    SeqAt.RcAt A s (.ref a) (.ref b) true ∧ SeqAt.RcNeAt A s (.ref a) (.ref b) false := by
  obtain ⟨its, r1, pl, _⟩ := I.list ha
  obtain ⟨jts, r2, ql, _⟩ := I.list hb
  have l1 := r1.length
  have l2 := r2.length
  have el : ∀ j (g1 : j < its.toArray.size) (g2 : j < jts.toArray.size), SeqAt.EqAt A.in1 s its.toArray[j] jts.toArray[j] true := fun j g1 g2 => by
    have g1' : j < its.length := by simpa using g1
    have g2' : j < jts.length := by simpa using g2
    obtain ⟨u1, e1, k1⟩ := r1.get (i := j) (x := xs[j]'(by omega)) (by simp)
    obtain ⟨u2, e2, k2⟩ := r2.get (i := j) (x := ys[j]'(by omega)) (by simp)
    have w1 : its.toArray[j] = u1 := by have := (List.getElem?_eq_some_iff.mp e1).2; simpa using this
    have w2 : jts.toArray[j] = u2 := by have := (List.getElem?_eq_some_iff.mp e2).2; simpa using this
    rw [w1, w2]
    exact eqAt_Dq I (h j _ _ (by simp) (by simp)) k1 k2 (by show A.units + 1 + n < cLine; omega)
  have e : ((List.range its.toArray.size).all (fun _ => true)) = true := by simp
  have h1 := SeqAt.RcAt.lists (A := A) (e := fun _ => true) pl.isList ql.isList (by simp; omega) (by omega) el
  have h2 := SeqAt.RcNeAt.lists (A := A) (e := fun _ => true) pl.isList ql.isList (by simp; omega) (by omega) el
  rw [e] at h1 h2
  exact ⟨h1, h2⟩
theorem op_neL : OpR X (compareOp .NotEq) (fun x y H Q => ∃ (n : Nat) (a b : Addr) (xs ys : List V), x = .ref a ∧ y = .ref b ∧ SqL X.K H a xs ∧ SqL X.K H b ys ∧ xs.length = ys.length ∧ (∀ (i : Nat) (x y : V), xs[i]? = some x → ys[i]? = some y → Dq H n x y) ∧ X.A.units + n + 1 < cLine ∧ Q (.bl false) H) := by
  intro pins s σ H x y v u Q I rx ry h
  obtain ⟨n, a, b, xs, ys, rfl, rfl, ha, hb, hl, hd, hu, q⟩ := h
  cases rx
  cases ry
  exact (rc_lists I ha hb hl hd hu).2 X.prog X.w X.xe _ ⟨.bl false, H, I, rfl, q⟩
end
end L2

namespace L2
open PySem PySem.Spec PyProof.Rows
theorem mt_app {X : Cx} : MtR X "list.append" rAppend := mt_append
theorem Same.put {H H' : Hp} {d : Addr} {o : HO} (s : Same H H') (h : H d = none) : Same H (L2.upd H' d o) := fun b u e => by
  rw [upd_ne (ne_of_none e h)]
  exact s b u e
end L2
namespace My
open PySem L2 PyProof.Rows
theorem cutP {G T : Prop} (h : T → G) (t : T) : G := h t
seal L2.PE L2.PT L2.PW L2.PS L2.PSs L2.PA L2.PI L2.PG L2.PGs L2.OpR L2.UnR L2.CallR L2.IxR L2.SlR L2.MtR L2.PIf L2.PO L2.MtM L2.PC L2.PIp L2.PSet L2.PGet L2.TruR L2.InOp L2.PK
def letters : List Nat := ("abcdefghijklmnopqrstuvwxyz" : Str).cps.toList

def nameS (z : Str) : Bool := decide (1 ≤ z.length ∧ z.length ≤ 8) && z.cps.toList.all fun c => decide (c ∈ letters)

def spName (K : PySem.W.Frag) : Sp := fun vs H Q _ => ∃ (v : V) (n : String), vs = [v] ∧ Is K H v n ∧ (∀ z, v = .str z → z.length ≤ sizeLine ∧ ∀ H', Same H H' → Q (.bl (nameS z)) H') ∧ (n ≠ "str" → Q (.bl false) H)
def spStream : Sp := fun vs H Q _ => ∃ c n : Int, vs = [.int c, .int n] ∧ 0 ≤ n ∧ n ≤ 60 ∧ ∀ (p : Addr) (H' : Hp) (l : List Int), Same H H' → H' p = some (.lst (l.map V.int)) → (l.length : Int) = n → (∀ x ∈ l, 0 ≤ x ∧ x < 2147483647) → Q (.ref p) H'
theorem atI_mem {l : List Nat} {i : Int} (h0 : 0 ≤ i) (h1 : i < l.length) : ∃ c, atI l i = some c ∧ c ∈ l := by
  obtain ⟨j, rfl⟩ := Int.eq_ofNat_of_zero_le h0
  have hj : j < l.length := by omega
  exact ⟨l[j], atI_nat (List.getElem?_eq_getElem hj), List.getElem_mem hj⟩

section
variable {P : Program} {w : World} {K : PySem.W.Frag} {mg : Str → Option Value} {base : Heap}
theorem ok_name {f : Addr} {fd : FuncData} (F : Fun K "is_name" "is_name" (top 10) f fd) (B : Bl mg) {uL uN : Value} (hL : mg "LETTERS" = some uL) (rL : RelV (.str "abcdefghijklmnopqrstuvwxyz") uL) (hN : mg "LONGEST_NAME" = some uN) (rN : RelV (.int 8) uN) :
    FnOk P w K mg base CX0 1 f fd ["thing"] (spName K) := by
  have sc : FnScope ["thing"] ["thing"] (defScope (top 10)) := ⟨rfl, rfl, rfl, by decide +kernel, rfl, by decide +kernel, by decide +kernel⟩
  refine F.ok sc (fun vs H Q E h => ?_) (fun cdv A outer s H vs Q E hr h => ?_)
  · obtain ⟨v, n, rfl, _⟩ := h
    rfl
  · obtain ⟨v, n, rfl, ⟨ty, hn⟩, q1, q2⟩ := h
    refine ⟨_, pss_cons (ps_if (PW.pt (pw_or (pt_not (pt_val (pe_callB call_isi (by rfl) B.isi boot_isi (pa_cons (pv 0) (pa_cons (pe_bltn (v := .ty "str") (by rfl) B.str boot_str rfl) pa_nil)))))
        (pw_or1 (pt_not (pt_chain op_le op_le pe_int (pe_callB call_len_str (by rfl) B.len PySem.boot_len (pa_cons (pv 0) pa_nil)) (pe_glob (by rfl) hN rN)))))) (pss_one (ps_ret pe_bl)) pss_nil)
      (pss_one (ps_ret (pe_callB (call_all rfl) (by rfl) B.all boot_all (pa_cons (pe_comp (osc := defScope (top 10)) (N0 := ["thing"]) (xs := ["sign"]) (fr := []) ⟨rfl, by decide +kernel, by decide +kernel, by decide +kernel, by decide, by decide +kernel⟩ rfl rfl rfl (pi_str (pv 0))
        (fun s H fp => pg_name (i := 0) (show (["sign"] : List Str).Nodup by decide +kernel) rfl (Or.inl rfl)) (fun s H fp => pif_nil) (fun s H fp => pe_cmpR op_in_str (pv 0) (pe_glob (by rfl) hL rL) (by with_unfolding_all rfl))) pa_nil)))), ?_⟩
    by_cases hs : n = "str"
    · subst hs
      obtain ⟨z, rfl⟩ := Is.str_of ⟨ty, hn⟩
      obtain ⟨hz, q⟩ := q1 z rfl
      have q0 : nameS z = false → Q (.bl false) H := fun e => by
        have := q H (Same.refl H)
        rw [e] at this
        exact this
      refine ⟨_, rfl, _, _, _, _, rfl, ty, kit_eq.trans (show kitTy "str" "str" = some true by decide +kernel), _, rfl, ?_⟩
      refine iteF ?_
      refine ⟨_, rfl, _, rfl, hz, _, _, rfl, rfl, _, rfl, ?_⟩
      refine ite2 (fun c1 => ?_) (fun c1 => ?_)
      · have d1 : (1 : Int) ≤ z.length := of_decide_eq_true c1
        refine ⟨_, _, rfl, rfl, _, rfl, ?_⟩
        refine ite2 (fun c2 => ?_) (fun c2 => ?_)
        · refine q0 ?_
          have d2 : ¬ ((z.length : Int) ≤ 8) := by
            intro e
            rw [decide_eq_true e] at c2
            cases c2
          have e : decide (1 ≤ z.length ∧ z.length ≤ 8) = false := decide_eq_false (by omega)
          unfold nameS
          rw [e]
          rfl
        · have d2 : (z.length : Int) ≤ 8 := by
            by_cases e : (z.length : Int) ≤ 8
            · exact e
            · rw [decide_eq_false e] at c2
              exact (c2 rfl).elim
          refine ⟨_, rfl, _, rfl, fun D hD => ?_⟩
          have hlen : z.cps.toList.length = z.cps.size := Array.length_toList
          refine compW_map z.cps.size (fun i => .bl (decide (z.cps.toList.getD i 0 ∈ letters))) (fun i σ' Hc => (∃ a, σ' = [a]) ∧ Hc = upd H D (.lst ((List.range i).map fun i => .bl (decide (z.cps.toList.getD i 0 ∈ letters))))) hz ⟨⟨none, rfl⟩, rfl⟩ upd_same ?_ ?_
          · rintro i σ' Hc hi ⟨⟨a, rfl⟩, rfl⟩ hD'
            refine ⟨hi, ?_⟩
            rintro x H' ⟨rfl, c, hc, rfl⟩
            refine ⟨_, rfl, _, _, rfl, rfl, ?_, hD', ⟨_, rfl⟩, upd_upd⟩
            have ec : z.cps.toList.getD i 0 = c := by
              rw [List.getD_eq_getElem?_getD, Array.getElem?_toList, hc]
              rfl
            rw [ec]
            exact congrArg V.bl (StrLaws.found_one "abcdefghijklmnopqrstuvwxyz" c)
          · rintro σ' Hc ⟨_, rfl⟩ hDn
            refine ⟨Nat.le_refl _, ?_⟩
            refine ⟨D, z.cps.toList.map fun c => decide (c ∈ letters), rfl, SqL.of ?_, ?_⟩
            · rw [upd_same, ← hlen, range_map_getD z.cps.toList 0 (fun c => V.bl (decide (c ∈ letters))), List.map_map]
              rfl
            · have e : nameS z = (z.cps.toList.map fun c => decide (c ∈ letters)).all id := by
                unfold nameS
                rw [decide_eq_true (show 1 ≤ z.length ∧ z.length ≤ 8 by omega), Bool.true_and, List.all_map]
                rfl
              rw [← e]
              exact q _ (Same.upd hD)
      · refine ⟨_, rfl, ?_⟩
        refine iteT ?_
        refine q0 ?_
        have d1 : ¬ ((1 : Int) ≤ z.length) := fun e => c1 (decide_eq_true e)
        have e : decide (1 ≤ z.length ∧ z.length ≤ 8) = false := decide_eq_false (by omega)
        unfold nameS
        rw [e]
        rfl
    · have e : (n == "str") = false := beq_eq_false_iff_ne.mpr hs
      refine ⟨_, rfl, _, _, _, _, rfl, ty, kit_eq.trans ((kit_str n hn).trans (congrArg some e)), _, rfl, ?_⟩
      refine iteT ?_
      exact q2 hs

theorem ok_stream {f : Addr} {fd : FuncData} (F : Fun K "_law_stream" "_law_stream" (top 28) f fd) (B : Bl mg) : FnOk P w K mg base CX0 1 f fd ["_law_cell_here", "_law_many"] spStream := by
  have sc : FnScope ["_law_cell_here", "_law_many", "_law_found", "_law_number", "_law_k"] ["_law_cell_here", "_law_many"] (defScope (top 28)) := ⟨rfl, rfl, rfl, by decide +kernel, rfl, by decide +kernel, by decide +kernel⟩
  refine F.ok sc (fun vs H Q E h => ?_) (fun cdv A outer s H vs Q E hr h => ?_)
  · obtain ⟨c, n, rfl, _⟩ := h
    rfl
  · obtain ⟨c, n, rfl, n0, n1, q⟩ := h
    refine ⟨_, pss_cons (ps_set (i := 2) sc.nd rfl (Or.inl rfl) (pe_lst pa_nil))
      (pss_cons (ps_set (i := 3) sc.nd rfl (Or.inl rfl) (pe_op op_add (pe_op op_mod (pv 0) pe_int) pe_int))
      (pss_cons (ps_for PassesOwn.never rfl (pi_range1 rfl B.range (pa_cons (pv 1) pa_nil)) (pg_name (i := 4) sc.nd rfl (Or.inl rfl))
        (pss_cons (ps_set (i := 3) sc.nd rfl (Or.inl rfl) (pe_op op_mod (pe_op op_add (pe_op op_add (pe_op op_mul (pv 3) (pv 3)) (pe_op op_mul pe_int (pv 3))) (pv 4)) pe_int))
        (pss_one (ps_expr (pe_bm PySem.F.plainAttrs_list PySem.F.slot_list_append PySem.F.type_list_append mt_app (pv 2) (pa_cons (pv 3) pa_nil))))))
      (pss_one (ps_ret (pv 2))))), ?_⟩
    refine ⟨Nat.zero_le _, fun d hd => ?_⟩
    refine ⟨_, rfl, _, _, rfl, rfl, (pos rfl), _, _, rfl, rfl, ?_⟩
    have c0 := Int.emod_nonneg c (show (2147483647 : Int) ≠ 0 by decide)
    have c1 := Int.emod_lt_of_pos c (show (0 : Int) < 2147483647 by decide)
    refine ⟨_, rfl, _, rfl, (by omega), (by omega), for_range (fun i σ H' => ∃ (l : List Int) (m : Int) (u : Option V), σ = [some (.int c), some (.int n), some (.ref d), some (.int m), u] ∧ Same H H' ∧ H' d = some (.lst (l.map V.int)) ∧ l.length = i ∧ 0 ≤ m ∧ m < 2147583647 ∧ ∀ x ∈ l, 0 ≤ x ∧ x < 2147483647) ⟨[], _, none, rfl, Same.upd hd, upd_same, rfl, by omega, by omega, fun x hx => nomatch hx⟩ ?_ ?_⟩
    · rintro i σ H' hi ⟨l, m, u, rfl, s1, h1, hl, m0, m1, hx⟩
      have hi' : i < 60 := by omega
      refine ⟨_, rfl, _, rfl, _, _, rfl, rfl, .inl ⟨by omega, by omega⟩, _, rfl, _, _, rfl, rfl, .inl ⟨by decide, by decide⟩, _, _, rfl, rfl, _, rfl, _, _, rfl, rfl, _, _, rfl, rfl, (pos rfl), ?_⟩
      have r0 : 0 ≤ ((m * m + 48271 * m + (0 + (i : Int))) % 2147483647) := Int.emod_nonneg _ (by decide)
      have r1 : ((m * m + 48271 * m + (0 + (i : Int))) % 2147483647) < 2147483647 := Int.emod_lt_of_pos _ (by decide)
      refine ⟨_, rfl, .inl ⟨rfl, _, SqL.of h1⟩, _, rfl, d, _, _, rfl, rfl, h1, ?_, ?_⟩
      · rw [List.length_map, hl, sizeLine_eq]; omega
      · refine ⟨l ++ [((m * m + 48271 * m + (0 + (i : Int))) % 2147483647)], _, _, rfl, s1.put hd, ?_, by simp [hl], r0, Int.lt_trans r1 (by decide), fun x hx' => ?_⟩
        · rw [upd_same, List.map_append]
          rfl
        · rcases List.mem_append.mp hx' with h | h
          · exact hx x h
          · have : x = ((m * m + 48271 * m + (0 + (i : Int))) % 2147483647) := by simpa using h
            rw [this]
            exact ⟨r0, r1⟩
    · rintro σ H' ⟨l, m, u, rfl, s1, h1, hl, m0, m1, hx⟩
      exact ⟨_, rfl, q d H' l s1 h1 (by omega) hx⟩
end
def letN (i : Int) : Nat := (letters[(i % 26).toNat]?).getD 0
theorem let_len : letters.length = 26 := by decide +kernel
theorem letN_at (i : Int) : atI letters (i % 26) = some (letN i) ∧ letN i ∈ letters := by
  have h0 := Int.emod_nonneg i (show (26 : Int) ≠ 0 by decide)
  have h1 := Int.emod_lt_of_pos i (show (0 : Int) < 26 by decide)
  obtain ⟨n, hn⟩ := Int.eq_ofNat_of_zero_le h0
  have hl : n < letters.length := by rw [let_len]; omega
  have e : letN i = letters[n] := by
    unfold letN
    rw [hn, Int.toNat_natCast, List.getElem?_eq_getElem hl]
    rfl
  rw [e, hn]
  exact ⟨atI_nat (List.getElem?_eq_getElem hl), List.getElem_mem hl⟩
theorem let_nd : letters.Nodup := by decide +kernel
theorem letN_inj {i j : Int} (h : letN i = letN j) : i % 26 = j % 26 := by
  have a0 := Int.emod_nonneg i (show (26 : Int) ≠ 0 by decide)
  have a1 := Int.emod_lt_of_pos i (show (0 : Int) < 26 by decide)
  have b0 := Int.emod_nonneg j (show (26 : Int) ≠ 0 by decide)
  have b1 := Int.emod_lt_of_pos j (show (0 : Int) < 26 by decide)
  obtain ⟨n, hn⟩ := Int.eq_ofNat_of_zero_le a0
  obtain ⟨m, hm⟩ := Int.eq_ofNat_of_zero_le b0
  have hl : n < letters.length := by rw [let_len]; omega
  have hk : m < letters.length := by rw [let_len]; omega
  unfold letN at h
  rw [hn, hm, Int.toNat_natCast, Int.toNat_natCast, List.getElem?_eq_getElem hl, List.getElem?_eq_getElem hk] at h
  have : n = m := (List.getElem_inj let_nd).mp h
  omega
def AllL (l : List Nat) : Prop := ∀ c ∈ l, c ∈ letters
theorem nameS_of {z : Str} (h : AllL z.cps.toList) (h1 : 1 ≤ z.length) (h8 : z.length ≤ 8) : nameS z = true := by
  unfold nameS
  rw [decide_eq_true ⟨h1, h8⟩, Bool.true_and, List.all_eq_true]
  exact fun c hc => decide_eq_true (h c hc)
theorem zlen (z : Str) : z.cps.toList.length = z.length := by simp [Str.length]
/-- the names of the first way -/
def nmA (b : Str) (x : Int) (i : Nat) : Str := Txt.slice b none (some (1 + ((0 + (i : Int)) + x) % 8))
theorem nmA_ok {b : Str} {x : Int} {i : Nat} (hb : b.length = 8) (ha : AllL b.cps.toList) : (nmA b x i).cps.toList = b.cps.toList.take (1 + ((0 + (i : Int)) + x) % 8).toNat ∧ nameS (nmA b x i) = true ∧ ((nmA b x i).length : Int) = 1 + ((0 + (i : Int)) + x) % 8 := by
  have h0 := Int.emod_nonneg ((0 + (i : Int)) + x) (show (8 : Int) ≠ 0 by decide)
  have h1 := Int.emod_lt_of_pos ((0 + (i : Int)) + x) (show (0 : Int) < 8 by decide)
  have e : (nmA b x i).cps.toList = b.cps.toList.take (1 + ((0 + (i : Int)) + x) % 8).toNat := slice_to b (by omega) (by rw [hb]; omega)
  have hl : ((nmA b x i).length : Int) = 1 + ((0 + (i : Int)) + x) % 8 := by
    rw [← zlen, e, List.length_take, zlen, hb]
    omega
  refine ⟨e, nameS_of (fun c hc => ?_) (by omega) (by omega), hl⟩
  rw [e] at hc
  exact ha c (List.mem_of_mem_take hc)
theorem nmA_nd {b : Str} {x : Int} {m : Nat} (hb : b.length = 8) (ha : AllL b.cps.toList) (hm : m ≤ 8) : ((List.range m).map (nmA b x)).Nodup := by
  rw [List.Nodup, List.pairwise_map]
  refine List.Pairwise.imp_of_mem ?_ List.nodup_range
  intro i j hi hj hne he
  have hi' := List.mem_range.mp hi
  have hj' := List.mem_range.mp hj
  have e1 := (nmA_ok (i := i) (x := x) hb ha).2.2
  have e2 := (nmA_ok (i := j) (x := x) hb ha).2.2
  rw [he, e2] at e1
  omega
/-- the names of the second way -/
def nmB (b : Str) (x at_ sz : Int) (i : Nat) : Str := Txt.slice b none (some at_) ++ ⟨#[letN (x + (0 + (i : Int)))]⟩ ++ Txt.slice b (some (at_ + 1)) (some sz)
theorem nmB_ok {b : Str} {x at_ sz : Int} {i : Nat} (hb : b.length = 8) (ha : AllL b.cps.toList) (a0 : 0 ≤ at_) (a1 : at_ < sz) (s8 : sz ≤ 8) :
    (nmB b x at_ sz i).cps.toList = b.cps.toList.take at_.toNat ++ letN (x + (0 + (i : Int))) :: (b.cps.toList.drop (at_ + 1).toNat).take (sz - (at_ + 1)).toNat ∧ nameS (nmB b x at_ sz i) = true := by
  have e1 : (Txt.slice b none (some at_)).cps.toList = b.cps.toList.take at_.toNat := slice_to b a0 (by rw [hb]; omega)
  have e2 : (Txt.slice b (some (at_ + 1)) (some sz)).cps.toList = (b.cps.toList.drop (at_ + 1).toNat).take (sz - (at_ + 1)).toNat := by
    have e : Txt.slice b (some (at_ + 1)) (some sz) = StrLaws.sliceText b (some (at_ + 1)) (some sz) := rfl
    rw [e, StrLaws.sliceText_plain ⟨by omega, by omega, by rw [zlen, hb]; omega⟩]
  have e : (nmB b x at_ sz i).cps.toList = b.cps.toList.take at_.toNat ++ letN (x + (0 + (i : Int))) :: (b.cps.toList.drop (at_ + 1).toNat).take (sz - (at_ + 1)).toNat := by
    unfold nmB
    rw [Str.cps_append, Str.cps_append, Array.toList_append, Array.toList_append, e1, e2, List.append_assoc]
    rfl
  have hl : (nmB b x at_ sz i).length = (b.cps.toList.take at_.toNat ++ letN (x + (0 + (i : Int))) :: (b.cps.toList.drop (at_ + 1).toNat).take (sz - (at_ + 1)).toNat).length := by rw [← e, zlen]
  rw [List.length_append, List.length_cons, List.length_take, List.length_take, List.length_drop, zlen, hb] at hl
  refine ⟨e, nameS_of (fun c hc => ?_) (by omega) (by omega)⟩
  rw [e] at hc
  rcases List.mem_append.mp hc with h | h
  · exact ha c (List.mem_of_mem_take h)
  · rcases List.mem_cons.mp h with h | h
    · rw [h]; exact (letN_at _).2
    · exact ha c (List.mem_of_mem_drop (List.mem_of_mem_take h))
theorem nmB_nd {b : Str} {x at_ sz : Int} {m : Nat} (hb : b.length = 8) (ha : AllL b.cps.toList) (a0 : 0 ≤ at_) (a1 : at_ < sz) (s8 : sz ≤ 8) (hm : m ≤ 26) : ((List.range m).map (nmB b x at_ sz)).Nodup := by
  rw [List.Nodup, List.pairwise_map]
  refine List.Pairwise.imp_of_mem ?_ List.nodup_range
  intro i j hi hj hne he
  have hi' := List.mem_range.mp hi
  have hj' := List.mem_range.mp hj
  have e1 := (nmB_ok (i := i) (x := x) hb ha a0 a1 s8).1
  have e2 := (nmB_ok (i := j) (x := x) hb ha a0 a1 s8).1
  rw [he, e2] at e1
  have e3 := List.append_cancel_left e1
  have e4 : letN (x + (0 + (j : Int))) = letN (x + (0 + (i : Int))) := by injection e3
  have := letN_inj e4
  omega
def spLetE : Sp := fun vs H Q _ => ∃ c : Int, vs = [.int c] ∧ Q (.str ⟨#[letN c]⟩) H
def spNames : Sp := fun vs H Q _ => ∃ c m : Int, vs = [.int c, .int m] ∧ 0 ≤ m ∧ m ≤ 12 ∧ ∀ (p : Addr) (H' : Hp) (zs : List Str), Same H H' → H' p = some (.lst (zs.map V.str)) → (zs.length : Int) = m → zs.Nodup → (∀ z ∈ zs, nameS z = true) → Q (.ref p) H'
section
variable {P : Program} {w : World} {K : PySem.W.Frag} {mg : Str → Option Value} {base : Heap}
theorem ok_letE {f : Addr} {fd : FuncData} (F : Fun K "_law_letter" "_law_letter" (top 29) f fd) : FnOk P w K mg base CX0 1 f fd ["_law_cell_here"] spLetE := by
  have sc : FnScope ["_law_cell_here"] ["_law_cell_here"] (defScope (top 29)) := ⟨rfl, rfl, rfl, by decide +kernel, rfl, by decide +kernel, by decide +kernel⟩
  refine F.ok sc (fun vs H Q E h => ?_) (fun cdv A outer s H vs Q E hr h => ?_)
  · obtain ⟨c, rfl, _⟩ := h
    rfl
  · obtain ⟨c, rfl, q⟩ := h
    refine ⟨_, pss_one (ps_ret (pe_ix ix_str pe_str (pe_op op_mod (pv 0) pe_int) (fun _ _ => rfl))), ?_⟩
    exact ⟨_, rfl, _, _, rfl, rfl, (pos rfl), _, _, _, rfl, rfl, (by decide +kernel), (letN_at c).1, q⟩
def nmN : List Str := ["_law_cell_here", "_law_many", "_law_xs", "_law_base", "_law_k", "_law_size", "_law_at", "_law_names_here", "_law_sign"]
theorem ok_names {f fT fL : Addr} {fd fdT fdL : FuncData} (F : Fun K "_law_names" "_law_names" (top 30) f fd) (B : Bl mg) (DT : Df K mg "_law_stream" (top 28) fT fdT) (DL : Df K mg "_law_letter" (top 29) fL fdL) : FnOk P w K mg base CX0 2 f fd ["_law_cell_here", "_law_many"] spNames := by
  have sc : FnScope nmN ["_law_cell_here", "_law_many"] (defScope (top 30)) := ⟨rfl, rfl, rfl, by decide +kernel, rfl, by decide +kernel, by decide +kernel⟩
  have GT : FnOk P w K mg base CX0 1 fT fdT ["_law_cell_here", "_law_many"] spStream := ok_stream DT.fn B
  have GL : FnOk P w K mg base CX0 1 fL fdL ["_law_cell_here"] spLetE := ok_letE DL.fn
  have bT := DT.fn.binds (ps := ["_law_cell_here", "_law_many"]) fun _ _ _ _ _ _ us hl => by obtain ⟨v0, v1, rfl⟩ := L2.ln2 hl; rfl
  have bL := DL.fn.binds (ps := ["_law_cell_here"]) fun _ _ _ _ _ _ us hl => by obtain ⟨v0, rfl⟩ := L2.ln1 hl; rfl
  refine F.ok sc (fun vs H Q E h => ?_) (fun cdv A outer s H vs Q E hr h => ?_)
  · obtain ⟨c, m, rfl, _⟩ := h
    rfl
  · obtain ⟨c, m, rfl, m0, m12, q⟩ := h
    refine ⟨_, pss_cons (ps_set (i := 2) sc.nd rfl (Or.inr rfl) (pe_call GT hr (by rfl) DT.mg DT.fn.kp bT .nil pass0 (pa_cons (pv 0) (pa_cons pe_int pa_nil))))
      (pss_cons (ps_set (i := 3) sc.nd rfl (Or.inr rfl) pe_str)
      (pss_cons (ps_for PassesOwn.never rfl (pi_range1 rfl B.range (pa_cons pe_int pa_nil)) (pg_name (i := 4) sc.nd rfl (Or.inl rfl))
        (pss_one (ps_set (i := 3) sc.nd rfl (Or.inr rfl) (pe_op op_add_str (pv 3) (pe_call GL hr (by rfl) DL.mg DL.fn.kp bL .nil pass0 (pa_cons (pe_ix ix_list (pv 2) (pv 4) (fun _ _ => rfl)) pa_nil))))))
      (pss_cons (ps_if (PW.pt (pw_and (pt_cmpR op_eq (pe_op op_mod (pe_ix ix_list (pv 2) pe_int (fun _ _ => rfl)) pe_int) pe_int (nomark _)) (pw_and1 (pt_cmpR op_le (pv 1) pe_int (nomark _)))))
        (pss_one (ps_ret (pe_comp (osc := defScope (top 30)) (N0 := nmN) (xs := ["_law_k"]) (fr := [3, 2]) ⟨rfl, by decide +kernel, by decide +kernel, by decide +kernel, (fun j hj => by
              have e : j = 3 ∨ j = 2 := by simpa using hj
              rcases e with rfl | rfl
              · exact ⟨_, rfl, by decide +kernel⟩
              · exact ⟨_, rfl, by decide +kernel⟩), by decide +kernel⟩ rfl rfl rfl (pi_range1 rfl B.range (pa_cons (pv 1) pa_nil))
            (fun s H fp => pg_name (i := 0) (show (["_law_k", "_law_base", "_law_xs"] : List Str).Nodup by decide +kernel) rfl (Or.inl rfl)) (fun s H fp => pif_nil)
            (fun s H fp => pe_slice sl_str (pv 1) po_none (po_some (pe_op op_add pe_int (pe_op op_mod (pe_op op_add (pv 0) (pe_ix (r := rIxL K) ix_list (pv 2) pe_int (fun _ _ => rfl))) pe_int))))))) pss_nil)
      (pss_cons (ps_set (i := 5) sc.nd rfl (Or.inl rfl) (pe_op op_add pe_int (pe_op op_mod (pe_ix ix_list (pv 2) pe_int (fun _ _ => rfl)) pe_int)))
      (pss_cons (ps_set (i := 6) sc.nd rfl (Or.inl rfl) (pe_op op_mod (pe_ix ix_list (pv 2) pe_int (fun _ _ => rfl)) (pv 5)))
      (pss_cons (ps_set (i := 7) sc.nd rfl (Or.inl rfl) (pe_lst pa_nil))
      (pss_cons (ps_for PassesOwn.never rfl (pi_range1 rfl B.range (pa_cons (pv 1) pa_nil)) (pg_name (i := 4) sc.nd rfl (Or.inl rfl))
        (pss_cons (ps_set (i := 8) sc.nd rfl (Or.inl rfl) (pe_call GL hr (by rfl) DL.mg DL.fn.kp bL .nil pass0 (pa_cons (pe_op op_add (pe_ix ix_list (pv 2) (pv 6) (fun _ _ => rfl)) (pv 4)) pa_nil)))
        (pss_one (ps_expr (pe_bm PySem.F.plainAttrs_list PySem.F.slot_list_append PySem.F.type_list_append mt_app (pv 7) (pa_cons (pe_op op_add_str (pe_op op_add_str (pe_slice sl_str (pv 3) po_none (po_some (pv 6))) (pv 8)) (pe_slice sl_str (pv 3) (po_some (pe_op op_add (pv 6) pe_int)) (po_some (pv 5)))) pa_nil))))))
      (pss_one (ps_ret (pv 7)))))))))), ?_⟩
    refine ⟨_, rfl, c, 11, rfl, (by decide), (by decide), fun x H1 l s1 hx hl11 hl => ?_⟩
    have hl' : l.length = 11 := by omega
    have atl : ∀ j : Nat, j < 11 → ∃ e : Int, atI (l.map V.int) (j : Int) = some (.int e) ∧ 0 ≤ e ∧ e < 2147483647 := fun j hj => by
      have hj' : j < l.length := by omega
      exact ⟨l[j], atI_nat (by rw [List.getElem?_map, List.getElem?_eq_getElem hj']; rfl), hl _ (List.getElem_mem hj')⟩
    refine ⟨_, rfl, (by decide), (by decide), for_range (fun i σ H' => H' = H1 ∧ ∃ (b : Str) (u : Option V), σ = [some (.int c), some (.int m), some (.ref x), some (.str b), u, none, none, none, none] ∧ AllL b.cps.toList ∧ b.length = i) ⟨rfl, _, _, rfl, (fun c hc => by
      have : ("" : Str).cps.toList = [] := by decide +kernel
      rw [this] at hc
      cases hc), by decide⟩ ?_ ?_⟩
    · rintro i σ H' hi ⟨rfl, b, u, rfl, hb, hbl⟩
      have hi' : i < 8 := by omega
      obtain ⟨e, he, _⟩ := atl i (by omega)
      have he' : atI (l.map V.int) (0 + (i : Int)) = some (.int e) := by rw [Int.zero_add]; exact he
      refine ⟨_, rfl, _, rfl, _, rfl, _, _, _, _, rfl, rfl, SqL.of hx, he', e, rfl, _, _, rfl, rfl, (by rw [sizeLine_eq]; show b.length + 1 ≤ _; omega), rfl, _, _, rfl, ?_, ?_⟩
      · intro c' hc'
        rw [Str.cps_append, Array.toList_append] at hc'
        rcases List.mem_append.mp hc' with h | h
        · exact hb c' h
        · have : c' = letN e := by simpa using h
          rw [this]
          exact (letN_at e).2
      · rw [Str.length_append, hbl]
        rfl
    · rintro σ H' ⟨rfl, b, u, rfl, hb, hbl⟩
      have hb8 : b.length = 8 := by omega
      have hbs : b.length ≤ sizeLine := by rw [sizeLine_eq]; omega
      obtain ⟨x8, a8, _⟩ := atl 8 (by decide)
      obtain ⟨x9, a9, x90, _⟩ := atl 9 (by decide)
      obtain ⟨x10, a10, x100, _⟩ := atl 10 (by decide)
      apply cutP
      · intro sec
        refine ⟨_, rfl, _, _, 8, _, rfl, rfl, SqL.of hx, a8, _, _, rfl, rfl, (pos rfl), rfl, _, rfl, ?_⟩
        refine ite2 (fun h1 => ?_) (fun _ => iteF sec)
        refine ⟨_, rfl, _, _, rfl, rfl, _, rfl, ?_⟩
        refine ite2 (fun h2 => ?_) (fun _ => sec)
        have m8 : m ≤ 8 := of_decide_eq_true h2
        refine ⟨_, rfl, _, rfl, (by omega), (by omega), fun D hD => ?_⟩
        refine compW_map m.toNat (fun i => .str (nmA b x9 i)) (fun i σ' Hc => (∃ t, σ' = [t, some (.str b), some (.ref x)]) ∧ Same H' Hc) (by rw [sizeLine_eq]; omega) ⟨⟨none, rfl⟩, Same.upd hD⟩ upd_same ?_ ?_
        · rintro i σ' Hc hi ⟨⟨t, rfl⟩, sm⟩ hD'
          have him : (i : Int) < m := by omega
          refine ⟨hi, ?_⟩
          rintro y H'' ⟨rfl, rfl⟩
          have hxc := sm _ _ hx
          refine ⟨_, rfl, _, rfl, _, rfl, _, _, 9, _, rfl, rfl, SqL.of hxc, a9, _, _, rfl, rfl, _, _, rfl, rfl, (pos rfl), _, _, rfl, rfl, _, rfl, _, rfl, hbs, ?_⟩
          exact ⟨rfl, hD', ⟨_, rfl⟩, sm.put hD⟩
        · rintro σ' Hc ⟨_, sm⟩ hDn
          refine ⟨Nat.le_refl _, ?_⟩
          have e1 : (List.range m.toNat).map (fun i => V.str (nmA b x9 i)) = ((List.range m.toNat).map (nmA b x9)).map V.str := by rw [List.map_map]; rfl
          rw [e1] at hDn
          refine q D Hc _ (s1.trans sm) hDn (by rw [List.length_map, List.length_range]; omega) (nmA_nd hb8 hb (by omega)) (fun z hz => ?_)
          obtain ⟨i, _, rfl⟩ := List.mem_map.mp hz
          exact (nmA_ok hb8 hb).2.1
      · have z0 := Int.emod_nonneg x9 (show (8 : Int) ≠ 0 by decide)
        have z1 := Int.emod_lt_of_pos x9 (show (0 : Int) < 8 by decide)
        have t0 := Int.emod_nonneg x10 (show (1 + x9 % 8 : Int) ≠ 0 by omega)
        have t1 := Int.emod_lt_of_pos x10 (show (0 : Int) < 1 + x9 % 8 by omega)
        refine ⟨_, rfl, _, _, 9, _, rfl, rfl, SqL.of hx, a9, _, _, rfl, rfl, (pos rfl), _, _, rfl, rfl, ?_⟩
        refine ⟨_, rfl, _, _, 10, _, rfl, rfl, SqL.of hx, a10, _, rfl, _, _, rfl, rfl, (by omega), ?_⟩
        refine ⟨Nat.zero_le _, fun d hd => ?_⟩
        have hx2 := (Same.upd (o := .lst []) hd) _ _ hx
        have hd1 : H d = none := by
          cases e : H d with
          | none => rfl
          | some o => rw [s1 _ _ e] at hd; cases hd
        obtain ⟨n, hn⟩ := Int.eq_ofNat_of_zero_le t0
        obtain ⟨xa, axa, _⟩ := atl n (by omega)
        have axa' : atI (l.map V.int) (x10 % (1 + x9 % 8)) = some (.int xa) := by rw [hn]; exact axa
        refine ⟨_, rfl, _, rfl, (by omega), (by omega), for_range (fun i σ H2 => ∃ (u4 u8 : Option V), σ = [some (.int c), some (.int m), some (.ref x), some (.str b), u4, some (.int (1 + x9 % 8)), some (.int (x10 % (1 + x9 % 8))), some (.ref d), u8] ∧ Same H H2 ∧ H2 x = some (.lst (l.map V.int)) ∧ H2 d = some (.lst (((List.range i).map (nmB b xa (x10 % (1 + x9 % 8)) (1 + x9 % 8))).map V.str))) ⟨_, _, rfl, s1.trans (Same.upd hd), hx2, upd_same⟩ ?_ ?_⟩
        · rintro i σ H2 hi ⟨u4, u8, rfl, s2, hx2, hd2⟩
          have hne : x ≠ d := fun e => by rw [e, hd] at hx; cases hx
          have l1 := Txt.slice_le b none (some (x10 % (1 + x9 % 8)))
          have l2 := Txt.slice_le b (some (x10 % (1 + x9 % 8) + 1)) (some (1 + x9 % 8))
          refine ⟨_, rfl, _, rfl, _, _, _, _, rfl, rfl, SqL.of hx2, axa', _, rfl, _, _, rfl, rfl, _, rfl, ?_⟩
          refine ⟨_, rfl, .inl ⟨rfl, _, SqL.of hd2⟩, _, rfl, _, rfl, _, rfl, _, rfl, hbs, _, rfl, _, _, rfl, rfl, ?_, _, rfl, _, rfl, _, _, rfl, rfl, _, rfl, _, rfl, _, rfl, _, rfl, hbs, _, _, rfl, rfl, ?_, d, _, _, rfl, rfl, hd2, ?_, ?_⟩
          · rw [sizeLine_eq]; show _ + 1 ≤ _; omega
          · rw [sizeLine_eq, Str.length_append]; show _ + 1 + _ ≤ _; omega
          · rw [List.length_map, List.length_map, List.length_range, sizeLine_eq]; omega
          · refine ⟨_, _, rfl, s2.put hd1, by rw [upd_ne hne]; exact hx2, ?_⟩
            rw [upd_same, List.range_succ, List.map_append, List.map_append]
            rfl
        · rintro σ H2 ⟨u4, u8, rfl, s2, hx2, hd2⟩
          refine ⟨_, rfl, q d H2 _ s2 hd2 (by rw [List.length_map, List.length_range]; omega) (nmB_nd hb8 hb t0 t1 (by omega) (by omega)) (fun z hz => ?_)⟩
          obtain ⟨i, _, rfl⟩ := List.mem_map.mp hz
          exact (nmB_ok hb8 hb t0 t1 (by omega)).2
end
end My

/-! dict(A TUPLE OF PAIRS) (own work). -/
namespace L2
open PySem PySem.Spec PyProof.Rows PySem.Builtin PySem.Builtin.Dict
theorem tup_no_keys : typeLookup (.type "tuple") "keys" = pure none := am_miss_of_fast (by decide +kernel)
theorem miss_keys {prog : Program} {w : World} {A : Around} {E : Value → Shared → Prop} {s : Shared} {a : Addr} {o : Obj} {xs : Array Value} {k : Nat} {Q : Option Value → Shared → Prop}
    (hx : s.heap.get? a = some o) (hc : o.cls = .type "tuple") (hdat : o.data = .seq xs k) (hd : o.dict = none) (hA : A.handled = none)
    (h : ∀ h' tk, (∀ b ob, s.heap.get? b = some ob → h'.get? b = some ob) → Q none { s with heap := h', toks := tk }) : wpAny (model prog w) A (getAttr? (.ref a) "keys") Q E s := by
  obtain ⟨c, dct, dat, sl⟩ := o
  simp only at hc hdat hd
  subst hc hdat hd
  obtain ⟨hp, g, d, tk, os⟩ := s
  have hT : ∀ tk', (⟨hp, g, d, tk', os⟩ : Shared).TypeIs (.ref a) "tuple" := fun _ => ⟨_, hx, rfl⟩
  have f1 := sub_AttributeError
  have f3 := F.slot_tuple_getattribute.lookup
  have f4 := F.slot_tuple_getattribute.bind (.ref a)
  have f5 := am_tuple_getattr_none
  unfold getAttr? getAttrBy? getAttrBy
  repeat (any_goals (first | assumption | exact hT _ | ((with_reducible show wpAny _ _ (call (Value.builtin "tuple.__getattribute__") _ _) _ _ _); refine call_meets F.slot_tuple_getattribute (hT _) am_entry_tuple_getattribute (F.args_tuple_getattribute_2 _ _) (meets_getattribute_miss_tuple a xs k sl "keys" _ tup_no_keys (by decide +kernel) (by size_fits)) ⟨hx, hA, fun h' tk' e hx' => ?_⟩) | wp_step))
  obtain ⟨t', u', he⟩ := hx'.there
  show wpAny _ _ (getattributeRaised _ _ _ _ _ _ _) _ _ _
  unfold getattributeRaised
  repeat (any_goals (first | assumption | wp_step))
  exact h _ _ hx'.keeps
theorem entry_upd_loop : entryFor table "dict.update.loop" = some Builtin.«dict.update.loop» := entryFor_of_tree (by kernel_rfl)
section
variable {prog : Program} {w : World} {A : Around} {R : Result → Shared → Prop}
/-- the pairs, one by one -/
theorem upd_loop {h0 : Heap} {d it t : Addr} {items : Array Value} {ps : List (Key × Value)} (hh : A.handled = none) (ht : h0.IsTuple t items) (tne : t ≠ it ∧ t ≠ d) (idne : it ≠ d) (hl : ps.length = items.size) (hz : items.size ≤ 1000)
    (hp : ∀ (j : Nat) (k : Key) (v : Value), ps[j]? = some (k, v) → ∃ a o key n, items[j]? = some (.ref a) ∧ h0.get? a = some o ∧ o.cls = .type "tuple" ∧ o.data = .seq #[key, v] n ∧ (mixKind prog w).is k key = true ∧ a ≠ it ∧ a ≠ d)
    (nd : (ps.map (·.1)).Nodup) : ∀ (m i : Nat) (tk : Tok) (s : Shared), i + m = items.size → s.heap.IsTupleIter it t i → s.heap.DictOf (mixKind prog w) d (ps.take i) → (∀ b o, b ≠ it → b ≠ d → h0.get? b = some o → s.heap.get? b = some o) →
    (∀ (h' : Heap) (k : Nat), h'.DictOf (mixKind prog w) d ps → (∀ b o, b ≠ it → b ≠ d → h0.get? b = some o → h'.get? b = some o) → R (.ok (.ret .none)) { s with heap := h', toks := k }) →
    codeAny (model prog w) A (.builtin "dict.update.loop" ⟨[.ref d, .ref it, .int i tk, .none], []⟩) R s
  | 0, i, tk, s, hi, hit, hd, kp, hq => by
    refine codeAny_builtin entry_upd_loop ?_
    unfold Builtin.«dict.update.loop»
    dsimp only
    obtain ⟨o, ho, hc, n, hdt⟩ := id ht
    refine wpAny_bind (wpAny_pyNext_tuple_end (items := items) hh hit ⟨o, kp t o tne.1 tne.2 ho, hc, n, hdt⟩ (by rw [Array.getElem?_eq_none (by omega)]) fun h' ex => ?_)
    dsimp only
    refine wpAny_bind (wpAny_pure (wpAny_pure ?_))
    have e : ps.take i = ps := List.take_of_length_le (by omega)
    rw [e] at hd
    exact hq h' s.toks (hd.extBut ex idne.symm) fun b o hb1 hb2 q => ex b o hb1 (kp b o hb1 hb2 q)
  | m + 1, i, tk, s, hi, hit, hd, kp, hq => by
    refine codeAny_builtin entry_upd_loop ?_
    unfold Builtin.«dict.update.loop»
    dsimp only
    obtain ⟨o, ho, hc, n, hdt⟩ := id ht
    obtain ⟨⟨k, v⟩, hk⟩ : ∃ kv, ps[i]? = some kv := ⟨_, List.getElem?_eq_getElem (by omega)⟩
    obtain ⟨a, oa, key, na, e1, e2, e3, e4, e5, e6, e7⟩ := hp i k v hk
    refine wpAny_bind (wpAny_pyNext_tuple_item (items := items) hit ⟨o, kp t o tne.1 tne.2 ho, hc, n, hdt⟩ e1 fun h1 it1 sb => ?_)
    dsimp only
    have ha1 : h1.get? a = some oa := (sb.2 a e6).trans (kp a oa e6 e7 e2)
    have hd1 : h1.DictOf (mixKind prog w) d (ps.take i) := by
      obtain ⟨od, es, ep, g, r⟩ := hd
      exact ⟨od, es, ep, (sb.2 d idne.symm).trans g, r⟩
    refine wpAny_bind (wpAny_holding (wpAny_bind (wpAny_tryCatch ?_)))
    unfold Dict.pairItems
    refine wpAny_bind (wpAny_typeOf (T := "tuple") ⟨oa, ha1, e3⟩ ?_)
    rw [if_pos (by decide)]
    refine wpAny_bind (wpAny_seqItems ha1 e4 (wpAny_pure ?_))
    show wpAny _ _ (holding [key, v] (dictSet d key v)) _ _ _
    refine wpAny_holding (wpAny_dictSet_pairs (knd := mixKind prog w) (k := k) e5 hd1 (fun h2 hd2 sb2 => ?_) (by rw [List.length_take, sizeLine_eq]; omega))
    refine wpAny_pure ⟨Code.quiet_builtin _ (by decide +kernel), ?_⟩
    have es : stored (ps.take i) k v = ps.take (i + 1) := by
      have no : ((ps.take i).any fun kv => decide (kv.1 = k)) = false := by
        rw [List.any_eq_false]
        intro kv hkv
        rw [decide_eq_true_iff]
        intro ek
        obtain ⟨j, hj, ej⟩ := List.mem_take_iff_getElem.mp hkv
        have hj2 : j < ps.length := by omega
        have hij : j < i := by omega
        have hi2 : i < ps.length := by omega
        have ei : ps[i] = (k, v) := (List.getElem?_eq_some_iff.mp hk).2
        refine List.pairwise_iff_getElem.mp nd j i (by simpa using hj2) (by simpa using hi2) hij ?_
        rw [List.getElem_map, List.getElem_map, ej, ei, ek]
      unfold stored
      rw [if_neg (by rw [no]; decide), List.take_add_one, hk]
      rfl
    rw [es] at hd2
    exact upd_loop hh ht tne idne hl hz hp nd m (i + 1) _ _ (by omega) (by
      obtain ⟨oi, g1, g2⟩ := it1
      exact ⟨oi, (sb2.2 it idne).trans g1, g2⟩) hd2 (fun b o hb1 hb2 q => (sb2.2 b hb2).trans ((sb.2 b hb1).trans (kp b o hb1 hb2 q))) fun h' k' x y => hq h' k' x y
end
theorem pick {α β : Type} : ∀ (l : List α) (P : Nat → α → β → Prop), (∀ (j : Nat) (x : α), l[j]? = some x → ∃ u, P j x u) → ∃ us : List β, us.length = l.length ∧ ∀ (j : Nat) (x : α), l[j]? = some x → ∃ u, us[j]? = some u ∧ P j x u
  | [], _, _ => ⟨[], rfl, fun j x e => by simp at e⟩
  | y :: l, P, h => by
    obtain ⟨u, hu⟩ := h 0 y rfl
    obtain ⟨us, hl, hs⟩ := pick l (fun j => P (j + 1)) fun j x e => h (j + 1) x (by simpa using e)
    refine ⟨u :: us, by simp [hl], fun j x e => ?_⟩
    cases j with
    | zero =>
      simp at e
      subst e
      exact ⟨u, rfl, hu⟩
    | succ j =>
      obtain ⟨v, h1, h2⟩ := hs j x (by simpa using e)
      exact ⟨v, by simpa using h1, h2⟩
theorem kv_of : ∀ {kvs : List (Key × V)} {ps : List (Key × Value)}, ps.length = kvs.length → (∀ (j : Nat) (k : Key) (v : V), kvs[j]? = some (k, v) → ∃ u, ps[j]? = some (k, u) ∧ RelV v u) → KV kvs ps
  | [], [], _, _ => .nil
  | [], _ :: _, h, _ => by simp at h
  | _ :: _, [], h, _ => by simp at h
  | (k, v) :: kvs, (k', u') :: ps, h, f => by
    obtain ⟨u, e, r⟩ := f 0 k v rfl
    simp at e
    obtain ⟨rfl, rfl⟩ := e
    exact .cons ⟨rfl, r⟩ (kv_of (by simpa using h) fun j k v e => f (j + 1) k v (by simpa using e))
end L2

/-! dict(A TUPLE OF PAIRS), THE CALL (own work). -/
namespace L2
open PySem PySem.Spec PyProof.Rows PySem.Builtin PySem.Builtin.Dict
section
variable {X : Cx}
/-- tuple(a list), its object kept -/
theorem call_tupleF : CallR X (.type "tuple") (fun xs H Q => ∃ p ys, xs = [.ref p] ∧ SqL X.K H p ys ∧ ∀ l o, H l = none → o.dict = none → Q (.ref l) (upd H l (.frz o (.tup ys)))) := by
  intro pins s σ H xs us Q I r h
  obtain ⟨p, ys, rfl, hq, q⟩ := h
  obtain ⟨u, rfl, rx⟩ := vals1 r
  cases rx
  obtain ⟨its, r', pl, hz⟩ := I.list hq
  have hlen := r'.length
  refine call_tuple_list pl.isList (fun h' kp => ?_) (by simp only [List.size_toArray] <;> omega)
  have I1 : Inv X pins σ H { s with heap := h' } := I.kept (t' := s.toks) kp
  have I2 : Inv X pins σ (upd H h'.objs.size (.frz { cls := .type "tuple", data := .seq its.toArray } (.tup ys))) { s with heap := h'.push { cls := .type "tuple", data := .seq its.toArray } } :=
    I1.laid (t' := s.toks) (fun b o e => Heap.get?_push_of_some _ e) (Nat.le_refl _) (show ObjOk X.prog X.w _ _ _ (.frz _ (.tup ys)) from ⟨Heap.get?_push_size _ rfl, hz, its, r', IsTup.new _ _⟩)
  exact ⟨.ref h'.objs.size, _, I2, rfl, q _ _ (I1.hok.fresh (Nat.le_refl _)) rfl⟩
theorem call_dictT (hc : X.calm = true) : CallR X (.type "dict") (fun xs H Q => ∃ (t : Addr) (o : Obj) (ys : List V) (kvs : List (Key × V)), xs = [.ref t] ∧ H t = some (.frz o (.tup ys)) ∧ o.dict = none ∧ ys.length ≤ 1000 ∧ kvs.length = ys.length ∧
    (∀ (j : Nat) (k : Key) (v : V), kvs[j]? = some (k, v) → ∃ a, ys[j]? = some (.ref a) ∧ SqT X.K H a [kV k, v]) ∧ (kvs.map (·.1)).Nodup ∧ ∀ p, H p = none → Q (.ref p) (upd H p (.dK kvs))) := by
  intro pins s σ H xs us Q I r h
  obtain ⟨t, o, ys, kvs, rfl, ht, hod, hys, hkl, hp, nd, q⟩ := h
  obtain ⟨u, rfl, rx⟩ := vals1 r
  cases rx
  obtain ⟨g, hz, its, r', tp⟩ := I.hok t _ ht
  obtain ⟨o', g', hcl, n, hdat⟩ := tp
  rw [g] at g'
  cases g'
  have hlen := r'.length
  have hh := I.ok.hd hc
  -- the pairs as values
  have hpk : ∃ ps : List (Key × Value), ps.length = kvs.length ∧ ∀ (j : Nat) (kv : Key × V), kvs[j]? = some kv → ∃ u, ps[j]? = some u ∧ (u.1 = kv.1 ∧ RelV kv.2 u.2 ∧ ∃ a oa key na, its[j]? = some (.ref a) ∧ s.heap.get? a = some oa ∧ oa.cls = .type "tuple" ∧ oa.data = .seq #[key, u.2] na ∧ (mixKind X.prog X.w).is kv.1 key = true) := by
    refine pick kvs (fun (j : Nat) (kv : Key × V) (u : Key × Value) => u.1 = kv.1 ∧ RelV kv.2 u.2 ∧ ∃ a oa key na, its[j]? = some (.ref a) ∧ s.heap.get? a = some oa ∧ oa.cls = .type "tuple" ∧ oa.data = .seq #[key, u.2] na ∧ (mixKind X.prog X.w).is kv.1 key = true) fun j kv hj => ?_
    obtain ⟨k, v⟩ := kv
    obtain ⟨a, ea, sq⟩ := hp j k v hj
    obtain ⟨jts, rj, pj, _⟩ := I.tuple sq
    cases rj with
    | @cons _ j1 _ jr rk rr => cases rr with
      | @cons _ j2 _ jr2 rv rr2 =>
        cases rr2
        obtain ⟨oa, ga, ca, na, da⟩ := pj
        refine ⟨(k, j2), rfl, rv, a, oa, j1, na, ?_, ga, ca, da, kV_is rk⟩
        obtain ⟨w, ew, rw1⟩ := Vals.get r' ea
        cases rw1
        exact ew
  obtain ⟨ps, hpl, hps⟩ := hpk
  have gt : s.heap.get? t = some o := g
  have tlt : t < s.heap.objs.size := Heap.lt_size gt
  refine callType_codes (Q₁ := fun obj s₁ => obj = .ref s.heap.objs.size ∧ s₁ = { s with heap := s.heap.push { cls := .type "dict", data := .dict #[] } }) F.kt_called_dict (F.kt_typeCall_dict_1 _) F.entry_dict_init (kt_code_dict_new _ ⟨rfl, rfl⟩) ?_
  rintro obj s₁ ⟨rfl, rfl⟩
  have hnew : (s.heap.push { cls := .type "dict", data := .dict #[] }).DictOf (mixKind X.prog X.w) s.heap.objs.size [] := Heap.DictOf.new s.heap
  have gt1 : (s.heap.push { cls := .type "dict", data := .dict #[] }).get? t = some o := Heap.get?_push_of_some _ gt
  refine ⟨hnew.typeIs, F.args_dict_init_2 _ _, ?_⟩
  unfold Builtin.«dict.__init__»
  refine wpAny_bind ?_
  unfold Builtin.Dict.selfAndRest
  refine wpAny_bind (wpAny_notOrdered_dict hnew.typeIs ?_)
  show wpAny _ _ (pure (s.heap.objs.size, [Value.ref t])) _ _ _
  refine wpAny_pure ?_
  show wpAny _ _ (Builtin.Dict.updateFrom "dict.__init__" s.heap.objs.size (.ref t) [] .none) _ _ _
  unfold Builtin.Dict.updateFrom
  refine wpAny_bind (wpAny_typeOf (T := "tuple") ⟨o, gt1, hcl⟩ ?_)
  rw [if_pos (by decide)]
  refine wpAny_bind (miss_keys (o := o) (xs := its.toArray) (k := n) gt1 hcl hdat hod hh fun h1 tk1 kp1 => ?_)
  rw [if_pos (show (none : Option Value).isNone = true from rfl)]
  have kp : ∀ b ob, s.heap.get? b = some ob → h1.get? b = some ob := fun b ob e => kp1 b ob (Heap.get?_push_of_some _ e)
  have gt2 := kp t o gt
  have gd2 : h1.get? s.heap.objs.size = some { cls := .type "dict", data := .dict #[] } := kp1 _ _ (Heap.get?_push_size _ rfl)
  have dlt : s.heap.objs.size < h1.objs.size := Heap.lt_size gd2
  have dd1 : h1.DictOf (mixKind X.prog X.w) s.heap.objs.size [] := by
    obtain ⟨od, es, ep, gg, rr⟩ := hnew
    exact ⟨od, es, ep, kp1 _ _ gg, rr⟩
  refine wpAny_bind (wpAny_rule ?_)
  refine wpAny_bind (wpAny_pyIter_tuple (items := its.toArray) ⟨o, gt2, hcl, n, hdat⟩ ?_)
  refine wpAny_pure ⟨Code.quiet_builtin _ (by decide +kernel), ?_⟩
  have epl : ps.length = its.toArray.size := by simp; omega
  have fsts : ps.map (·.1) = kvs.map (·.1) := by
    refine List.ext_getElem (by simp [hpl]) fun j h1 h2 => ?_
    rw [List.getElem_map, List.getElem_map]
    rw [List.length_map] at h1 h2
    obtain ⟨u, eu, e1, _⟩ := hps j kvs[j] (List.getElem?_eq_getElem h2)
    rw [List.getElem?_eq_getElem h1] at eu
    cases eu
    exact e1
  refine upd_loop (A := X.A.in1) (ps := ps) (items := its.toArray) (h0 := h1.push { cls := .type "tuple_iterator", data := .fields #[.ref t, .int 0 0] }) (t := t) (d := s.heap.objs.size) (it := h1.objs.size) (show X.A.in1.handled = none from hh) ⟨o, Heap.get?_push_of_some _ gt2, hcl, n, hdat⟩ ⟨Nat.ne_of_lt (Nat.lt_trans tlt dlt), Nat.ne_of_lt tlt⟩ (Nat.ne_of_gt dlt) epl (by rw [← epl, hpl, hkl]; exact hys) (fun j k v hj => ?_) (by rw [fsts]; exact nd) its.toArray.size 0 _ { s with heap := h1.push { cls := .type "tuple_iterator", data := .fields #[.ref t, .int 0 0] }, toks := tk1 } (by omega) ⟨_, Heap.get?_push_size _ rfl, rfl, rfl⟩ (dd1.push _) (fun b o _ _ e => e) (fun h2 k2 dd2 kp2 => ?_)
  · have hjl : j < kvs.length := by
      have := (List.getElem?_eq_some_iff.mp hj).1
      omega
    obtain ⟨u, eu, e1, e2, a, oa, key, na, e3, e4, e5, e6, e7⟩ := hps j kvs[j] (List.getElem?_eq_getElem hjl)
    rw [hj] at eu
    cases eu
    have alt := Heap.lt_size e4
    refine ⟨a, oa, key, na, by simpa using e3, Heap.get?_push_of_some _ (kp a oa e4), e5, e6, ?_, Nat.ne_of_lt (Nat.lt_trans alt dlt), Nat.ne_of_lt alt⟩
    rw [show k = kvs[j].1 from e1]
    exact e7
  · refine ⟨rfl, .ref s.heap.objs.size, _, ?_, rfl, q s.heap.objs.size (I.hok.fresh (Nat.le_refl _))⟩
    have rel : KV kvs ps := kv_of hpl fun j k v e => by
      obtain ⟨u, eu, e1, e2, _⟩ := hps j (k, v) e
      obtain ⟨u1, u2⟩ := u
      cases (show u1 = k from e1)
      exact ⟨u2, eu, e2⟩
    refine I.laid (a := s.heap.objs.size) (o := .dK kvs) (fun b qo hb => ?_) (Nat.le_refl _) (dk_new (by rw [sizeLine_eq]; omega) (beq_eq_false_iff_ne.mpr (Ne.symm (Nat.ne_of_lt I.big))) rel dd2)
    have blt := Heap.lt_size hb
    exact kp2 b qo (Nat.ne_of_lt (Nat.lt_trans blt dlt)) (Nat.ne_of_lt blt) (Heap.get?_push_of_some _ (kp b qo hb))
end
end L2

namespace L2
open PySem PySem.Spec PyProof.Rows
theorem sIx_at {n d : Nat} {k : Int} (h0 : 0 ≤ k) (h1 : k ≤ n) : HT.sIx n d (some k) = k.toNat := by
  have e := HT.clip_eq k n d
  rw [if_neg (by omega)] at e
  omega
theorem cut_to {xs : List V} {k : Int} (h0 : 0 ≤ k) (h1 : k ≤ xs.length) : cutV xs none (some k) = xs.take k.toNat := by
  unfold cutV
  rw [sIx_at h0 h1, HT.sIx_none, List.drop_zero, Nat.sub_zero]
theorem cut_from {xs : List V} {k : Int} (h0 : 0 ≤ k) (h1 : k ≤ xs.length) : cutV xs (some k) none = xs.drop k.toNat := by
  unfold cutV
  rw [sIx_at h0 h1, HT.sIx_none]
  refine List.take_of_length_le ?_
  rw [List.length_drop]
  omega
/-- a comprehension whose items are told by what has come so far -/
theorem compW_idx {J : It} {g : TG} {te : TE} {R : Addr → Hp → Prop} {D : Addr} {σ0 : St} {H0 : Hp} (n : Nat) (Pv : Nat → List V → St → Hp → Prop) (hn : n ≤ sizeLine) (h0 : Pv 0 [] σ0 H0) (hD0 : H0 D = some (.lst []))
    (hs : ∀ i σ H ys, i < n → Pv i ys σ H → ys.length = i → H D = some (.lst ys) → J.go i H ∧ ∀ x H', J.yld i H x H' → g x σ H' fun σ2 H2 => te σ2 H2 fun y H4 => H4 D = some (.lst ys) ∧ Pv (i + 1) (ys ++ [y]) σ2 (upd H4 D (.lst (ys ++ [y]))))
    (hd : ∀ σ H ys, Pv n ys σ H → H D = some (.lst ys) → ys.length = n → J.stop n H ∧ R D H) : CompW J g tYes te R D σ0 H0 := by
  refine ⟨fun i m σ H => m = n - i ∧ i ≤ n ∧ ∃ ys, Pv i ys σ H ∧ H D = some (.lst ys) ∧ ys.length = i, ⟨n, by omega, Nat.zero_le _, [], h0, hD0, rfl⟩, ?_⟩
  rintro i m σ H ⟨rfl, hi, ys, p, hD, hl⟩
  by_cases hlt : i < n
  · obtain ⟨go, st⟩ := hs i σ H ys hlt p hl hD
    refine .inr ⟨go, fun σ2 y H4 => H4 D = some (.lst ys) ∧ Pv (i + 1) (ys ++ [y]) σ2 (upd H4 D (.lst (ys ++ [y]))), fun _ _ => False, ?_, fun _ _ z => z.elim, st⟩
    rintro σ2 y H4 ⟨e, p'⟩
    exact ⟨_, e, by rw [hl]; omega, n - (i + 1), by omega, rfl, hlt, _, p', upd_same, by simp [hl]⟩
  · have e : i = n := by omega
    subst e
    exact .inl (hd σ H ys p hD hl)
end L2
namespace My
open PySem L2 PyProof.Rows
seal L2.PE L2.PT L2.PW L2.PS L2.PSs L2.PA L2.PI L2.PG L2.PGs L2.OpR L2.UnR L2.CallR L2.IxR L2.SlR L2.MtR L2.PIf L2.PO L2.MtM L2.PC L2.PIp L2.PSet L2.PGet L2.TruR L2.InOp L2.PK
def sides : List Str := ["twin", "many", "some"]
def spAskS : Sp := fun vs H Q _ => ∃ (p : Addr) (ss : List Str), vs = [.ref p] ∧ H p = some (.lst ((("head" : Str) :: ss).map V.str)) ∧ (∀ z ∈ ss, z ∈ sides) ∧ ∀ H', Same H H' → Q .non H'
def spAskN : Sp := fun vs H Q _ => ∃ (p : Addr) (zs : List Str), vs = [.ref p] ∧ H p = some (.lst (zs.map V.str)) ∧ zs.Nodup ∧ (∀ z ∈ zs, nameS z = true) ∧ ∀ H', Same H H' → Q .non H'
def kvC (cols : List (Str × V)) : List (Key × V) := cols.map fun p => (.inr p.1, p.2)
def vOf (cols : List (Str × V)) (z : Str) : V := (valV (kvC cols) (.inr z)).getD .non
mutual
/-- no dict and no list within -/
def noDct : Dt → Bool
  | .dct => false
  | .tup ds => noDcts ds
  | .lst _ => false
  | .non => true
  | .bl _ => true
  | .int _ => true
  | .str _ => true
def noDcts : List Dt → Bool
  | [] => true
  | d :: ds => noDct d && noDcts ds
end
mutual
theorem Rep.beside {H : Hp} {a : Addr} {u : HO} (e : ∀ xs, H a ≠ some (.tup xs)) : ∀ {d : Dt} {v : V}, noDct d = true → Rep H d v → Rep (L2.upd H a u) d v
  | .non, v, _, h => by unfold Rep at h ⊢; exact h
  | .bl b, v, _, h => by unfold Rep at h ⊢; exact h
  | .int i, v, _, h => by unfold Rep at h ⊢; exact h
  | .str z, v, _, h => by unfold Rep at h ⊢; exact h
  | .tup ds, v, n, h => by
    unfold Rep at h ⊢
    obtain ⟨b, xs, h1, h2, h3⟩ := h
    have hne : b ≠ a := fun q => e _ (by rw [← q]; exact h2)
    exact ⟨b, xs, h1, by rw [upd_ne hne]; exact h2, Reps.beside e (by simpa [noDct] using n) h3⟩
  | .lst ds, v, n, h => by simp [noDct] at n
  | .dct, v, n, h => by simp [noDct] at n
theorem Reps.beside {H : Hp} {a : Addr} {u : HO} (e : ∀ xs, H a ≠ some (.tup xs)) : ∀ {ds : List Dt} {vs : List V}, noDcts ds = true → Reps H ds vs → Reps (L2.upd H a u) ds vs
  | [], vs, _, h => by unfold Reps at h ⊢; exact h
  | d :: ds, vs, n, h => by
    unfold Reps at h ⊢
    obtain ⟨v, ws, h1, h2, h3⟩ := h
    have n' : noDct d = true ∧ noDcts ds = true := by simpa [noDcts] using n
    exact ⟨v, ws, h1, Rep.beside e n'.1 h2, Reps.beside e n'.2 h3⟩
end
def ColsOk (H : Hp) (cols : List (Str × V)) : Prop := (cols.map (·.1)).Nodup ∧ cols.length ≤ 12 ∧ ∀ p ∈ cols, nameS p.1 = true ∧ ∃ d, Rep H d p.2 ∧ kindD d = true ∧ noDct d = true
theorem ColsOk.same {H H' : Hp} {cols : List (Str × V)} (h : ColsOk H cols) (e : Same H H') : ColsOk H' cols := ⟨h.1, h.2.1, fun p hp => ⟨(h.2.2 p hp).1, let ⟨d, h1, h2⟩ := (h.2.2 p hp).2; ⟨d, h1.same e, h2⟩⟩⟩
theorem val_in : ∀ {cols : List (Str × V)} {z : Str}, z ∈ cols.map (·.1) → valV (kvC cols) (.inr z) = some (vOf cols z)
  | [], z, h => nomatch h
  | p :: r, z, h => by
    unfold vOf
    by_cases e : p.1 = z
    · rw [show kvC (p :: r) = (.inr p.1, p.2) :: kvC r from rfl, valV_pos (by rw [e])]
      rfl
    · have hz : z ∈ r.map (·.1) := by
        rcases List.mem_cons.mp h with h | h
        · exact absurd h.symm e
        · exact h
      rw [show kvC (p :: r) = (.inr p.1, p.2) :: kvC r from rfl, valV_neg (fun h => e (by injection h)), val_in hz]
      rfl
/-- the columns of a table as a form has them -/
def ColsAt (H : Hp) (t : Addr) (cols : List (Str × V)) : Prop := ∃ (o : Obj) (ps : List Addr) (zs : List Str), zs.Perm (cols.map (·.1)) ∧ sortedS zs = true ∧ o.dict = none ∧ H t = some (.frz o (.tup (ps.map V.ref))) ∧ ps.length = zs.length ∧ ∀ (j : Nat) (p : Addr) (z : Str), ps[j]? = some p → zs[j]? = some z → H p = some (.tup [.str z, vOf cols z])
theorem ColsAt.same {H H' : Hp} {t : Addr} {cols : List (Str × V)} (h : ColsAt H t cols) (e : Same H H') : ColsAt H' t cols := by
  obtain ⟨o, ps, zs, h1, h2, h3, h4, h5, h6⟩ := h
  exact ⟨o, ps, zs, h1, h2, h3, e _ _ h4, h5, fun j p z a b => e _ _ (h6 j p z a b)⟩
def spColM : Sp := fun vs H Q _ => ∃ (a : Addr) (cols : List (Str × V)), vs = [.ref a] ∧ H a = some (.dK (kvC cols)) ∧ ColsOk H cols ∧ ∀ t H', Same H H' → ColsAt H' t cols → Q (.ref t) H'
section
variable {P : Program} {w : World} {K : PySem.W.Frag} {mg : Str → Option Value} {base : Heap}
theorem ok_askS {f sA : Addr} {fd : FuncData} (F : Fun K "ask_sorts" "ask_sorts" (top 18) f fd) (mS : mg "SIDE_SORTS" = some (.ref sA)) (qS : ∀ H, SqT K H sA (sides.map V.str)) : FnOk P w K mg base CX0 1 f fd ["sorts"] spAskS := by
  have sc : FnScope ["sorts", "sort"] ["sorts"] (defScope (top 18)) := ⟨rfl, rfl, rfl, by decide +kernel, rfl, by decide +kernel, by decide +kernel⟩
  refine F.ok sc (fun vs H Q E h => ?_) (fun cdv A outer s H vs Q E hr h => ?_)
  · obtain ⟨p, ss, rfl, _⟩ := h
    rfl
  · obtain ⟨p, ss, rfl, hp, hss, q⟩ := h
    have hu : (A.deeper (envOfC "ask_sorts" (defScope (top 18)) s.heap.objs.size f cdv)).units + 1 < cLine := hu_of hr
    refine ⟨_, pss_cons (ps_if (pt_cmpR op_neL (pe_slice sl_list (pv 0) po_none (po_some pe_int)) (pe_lst (pa_cons pe_str pa_nil)) (nomark _)) pss_never pss_nil)
      (pss_one (ps_for PassesOwn.never rfl (pi_list (pe_slice sl_list (pv 0) (po_some pe_int) po_none)) (pg_name (i := 1) sc.nd rfl (Or.inl rfl))
        (pss_one (ps_if (pt_cmpR op_notIn_seq (pv 1) (pe_glob (v := .ref sA) (by rfl) mS rfl) (by with_unfolding_all rfl)) pss_never pss_nil)))), ?_⟩
    refine ⟨_, rfl, _, rfl, p, _, rfl, SqL.of hp, fun p1 e1 => ?_⟩
    rw [cut_to (by decide) (by rw [List.length_map, List.length_cons]; omega)]
    have T1 := Same.upd (o := .lst [V.str "head"]) e1
    refine ⟨(by show 1 ≤ sizeLine; decide), fun p2 e2 => ?_⟩
    have T2 := Same.upd (o := .lst [V.str "head"]) e2
    refine ⟨0, p1, p2, [V.str "head"], [V.str "head"], rfl, rfl, SqL.of (T2 _ _ upd_same), SqL.of upd_same, rfl, (fun i x y h1 h2 => ?_), hu, _, rfl, ?_⟩
    · rw [h1] at h2
      cases h2
      have : x = V.str "head" := by simpa using List.mem_of_getElem? h1
      rw [this]
      exact .str
    refine iteF ?_
    have S2 := T1.trans T2
    refine ⟨_, rfl, _, rfl, p, _, rfl, SqL.of (S2 _ _ hp), fun p3 e3 => ?_⟩
    rw [cut_from (by decide) (by rw [List.length_map, List.length_cons]; omega)]
    have T3 := Same.upd (o := .lst (ss.map V.str)) e3
    refine ⟨p3, rfl, ⟨_, SqL.of upd_same⟩, for_list (K := K) (a := p3) (xs := ss.map V.str) (fun j σ H4 => H4 = upd _ p3 (.lst (ss.map V.str)) ∧ ∃ u, σ = [some (.ref p), u]) ⟨rfl, _, rfl⟩ (fun j σ H4 _ pp => by rw [pp.1]; exact SqL.of upd_same) ?_ ?_⟩
    · rintro j x σ H4 hx ⟨rfl, u, rfl⟩
      obtain ⟨z, hz, rfl⟩ := List.mem_map.mp (List.mem_of_getElem? hx)
      refine ⟨_, rfl, sA, _, rfl, .inr (qS _), rfl, (by decide), _, rfl, ?_⟩
      have hin : inV (.str z) (sides.map V.str) = true := by
        have : ∀ z ∈ sides, inV (.str z) (sides.map V.str) = true := by decide +kernel
        exact this z (hss z hz)
      refine iteC (by rw [hin]; rfl) ?_
      exact ⟨rfl, _, rfl⟩
    · rintro σ H4 ⟨rfl, u, rfl⟩
      exact q _ (S2.trans T3)
theorem ok_askN {f fN : Addr} {fd fdN : FuncData} (F : Fun K "ask_names" "ask_names" (top 19) f fd) (DN : Df K mg "is_name" (top 10) fN fdN) (GN : FnOk P w K mg base CX0 1 fN fdN ["thing"] (spName K)) : FnOk P w K mg base CX0 2 f fd ["names"] spAskN := by
  have sc : FnScope ["names", "name"] ["names"] (defScope (top 19)) := ⟨rfl, rfl, rfl, by decide +kernel, rfl, by decide +kernel, by decide +kernel⟩
  have bN := DN.fn.binds (ps := ["thing"]) fun _ _ _ _ _ _ us hl => by obtain ⟨v0, rfl⟩ := L2.ln1 hl; rfl
  refine F.ok sc (fun vs H Q E h => ?_) (fun cdv A outer s H vs Q E hr h => ?_)
  · obtain ⟨p, zs, rfl, _⟩ := h
    rfl
  · obtain ⟨p, zs, rfl, hp, nd, hz, q⟩ := h
    refine ⟨_, pss_one (ps_for PassesOwn.never rfl (pi_list (pv 0)) (pg_name (i := 1) sc.nd rfl (Or.inl rfl))
        (pss_cons (ps_if (pt_not (pt_val (pe_call GN hr (by rfl) DN.mg DN.fn.kp bN .nil pass0 (pa_cons (pv 1) pa_nil)))) pss_never pss_nil)
        (pss_one (ps_if (pt_cmpR op_gt (pe_bm PySem.F.plainAttrs_list PySem.F.slot_list_count PySem.F.type_list_count mt_count (pv 0) (pa_cons (pv 1) pa_nil)) pe_int (nomark _)) pss_never pss_nil)))), ?_⟩
    refine ⟨_, rfl, p, rfl, ⟨_, SqL.of hp⟩, for_list (K := K) (a := p) (xs := zs.map V.str) (fun j σ H4 => Same H H4 ∧ ∃ u, σ = [some (.ref p), u]) ⟨Same.refl H, _, rfl⟩ (fun j σ H4 _ pp => SqL.of (pp.1 _ _ hp)) ?_ ?_⟩
    · rintro j x σ H4 hx ⟨s4, u, rfl⟩
      obtain ⟨z, hzm, rfl⟩ := List.mem_map.mp (List.mem_of_getElem? hx)
      have h8 : z.length ≤ 8 := by
        have := hz z hzm
        unfold nameS at this
        exact (of_decide_eq_true (Bool.and_eq_true_iff.mp this).1).2
      refine ⟨_, rfl, _, _, rfl, Is.str, (fun z' e => ?_), (fun h => absurd rfl h)⟩
      cases e
      refine ⟨by rw [sizeLine_eq]; omega, fun H5 s5 => ⟨_, rfl, ?_⟩⟩
      rw [hz z hzm]
      refine iteF ?_
      have hp5 := s5 _ _ (s4 _ _ hp)
      refine ⟨_, rfl, .inl ⟨rfl, _, SqL.of hp5⟩, _, rfl, p, zs, z, rfl, rfl, SqL.of hp5, _, _, rfl, rfl, _, rfl, ?_⟩
      have hc : zs.count z ≤ 1 := List.nodup_iff_count.mp nd z
      refine iteC (decide_eq_false (by omega)) ?_
      exact ⟨s4.trans s5, _, rfl⟩
    · rintro σ H4 ⟨s4, u, rfl⟩
      exact q _ s4
theorem ok_colM {f fN fK : Addr} {fd fdN fdK : FuncData} (F : Fun K "columns_made" "columns_made" (top 20) f fd) (B : Bl mg) (DN : Df K mg "is_name" (top 10) fN fdN) (GN : FnOk P w K mg base CX0 1 fN fdN ["thing"] (spName K)) (DK : Df K mg "is_kind" (top 14) fK fdK) (GK : FnOk P w K mg base CX0 4 fK fdK ["thing"] spKind) :
    FnOk P w K mg base CX0 5 f fd ["columns"] spColM := by
  have sc : FnScope ["columns", "column", "kind"] ["columns"] (defScope (top 20)) := ⟨rfl, rfl, rfl, by decide +kernel, rfl, by decide +kernel, by decide +kernel⟩
  have bN := DN.fn.binds (ps := ["thing"]) fun _ _ _ _ _ _ us hl => by obtain ⟨v0, rfl⟩ := L2.ln1 hl; rfl
  have bK := DK.fn.binds (ps := ["thing"]) fun _ _ _ _ _ _ us hl => by obtain ⟨v0, rfl⟩ := L2.ln1 hl; rfl
  refine F.ok sc (fun vs H Q E h => ?_) (fun cdv A outer s H vs Q E hr h => ?_)
  · obtain ⟨a, cols, rfl, _⟩ := h
    rfl
  · obtain ⟨a, cols, rfl, hc, ok, q⟩ := h
    have hr1 : Room 1 _ := hr.mono (by decide)
    have hu : (A.deeper (envOfC "columns_made" (defScope (top 20)) s.heap.objs.size f cdv)).units + 1 < cLine := hu_of hr
    refine ⟨_, pss_cons (ps_frz (ps_for PassesOwn.never rfl (pi_items (pv 0)) (pg_tup rfl (pgs_cons (pg_name (i := 1) sc.nd rfl (Or.inl rfl)) (pgs_cons (pg_name (i := 2) sc.nd rfl (Or.inl rfl)) pgs_nil)))
        (pss_cons (ps_if (pt_not (pt_val (pe_call GN hr1 (by rfl) DN.mg DN.fn.kp bN .nil pass0 (pa_cons (pv 1) pa_nil)))) pss_never pss_nil)
        (pss_one (ps_if (pt_not (pt_val (pe_call GK hr (by rfl) DK.mg DK.fn.kp bK .nil pass0 (pa_cons (pv 2) pa_nil)))) pss_never pss_nil)))))
      (pss_one (ps_ret (pe_callTy call_tupleF (by rfl) B.tuple boot_tuple (pa_cons (pe_comp (osc := defScope (top 20)) (N0 := ["columns", "column", "kind"]) (xs := ["column"]) (fr := [0]) ⟨rfl, by decide +kernel, by decide +kernel, by decide +kernel, (fun j hj => by
              have e : j = 0 := by simpa using hj
              subst e
              exact ⟨_, rfl, by decide +kernel⟩), by decide +kernel⟩ rfl rfl rfl (pi_list (pe_callB (call_sortedD rfl) (by rfl) B.sorted boot_sorted (pa_cons (pv 0) pa_nil)))
            (fun s H fp => pg_name (i := 0) (show (["column", "columns"] : List Str).Nodup by decide +kernel) rfl (Or.inl rfl)) (fun s H fp => pif_nil)
            (fun s H fp => pe_tup (pa_cons (pv 0) (pa_cons (pe_dget hu (pv 1) (pv 0) (fun _ _ => rfl)) pa_nil)))) pa_nil)))), ?_⟩
    refine ⟨a, _, hc, fun o => ?_⟩
    have hfa : (upd H a (.frz o (.dK (kvC cols)))) a = some (.frz o (.dK (kvC cols))) := upd_same
    have back : ∀ H1 : Hp, Same H (upd H1 a (.dK (kvC cols))) ∨ ¬ Same (upd H a (.frz o (.dK (kvC cols)))) H1 := fun H1 => by
      by_cases e : Same (upd H a (.frz o (.dK (kvC cols)))) H1
      · refine .inl fun b u hb => ?_
        by_cases eb : b = a
        · subst eb
          rw [hc] at hb
          rw [← hb]
          exact upd_same
        · rw [upd_ne eb]
          exact e b u (by rw [upd_ne eb]; exact hb)
      · exact .inr e
    refine ⟨_, rfl, a, o, _, rfl, hfa, for_items (a := a) (o := o) (kvs := kvC cols) (fun i σ H1 => Same (upd H a (.frz o (.dK (kvC cols)))) H1 ∧ ∃ u1 u2, σ = [some (.ref a), u1, u2]) ⟨Same.refl _, _, _, rfl⟩ (fun i σ H1 _ p => p.1 _ _ hfa) ?_ ?_⟩
    · rintro i k v p σ H1 hk ⟨s1, u1, u2, rfl⟩ hp
      obtain ⟨⟨z, v'⟩, hm, e⟩ := List.mem_map.mp (List.mem_of_getElem? hk)
      cases e
      obtain ⟨hn, d, hd, hkd, hnd⟩ := ok.2.2 _ hm
      have h8 : z.length ≤ 8 := by
        unfold nameS at hn
        exact (of_decide_eq_true (Bool.and_eq_true_iff.mp hn).1).2
      have T := Same.upd (o := .tup [kV (.inr z), v']) hp
      refine ⟨p, _, rfl, SqT.of upd_same, rfl, _, _, rfl, _, _, rfl, rfl, ?_⟩
      refine ⟨_, rfl, _, _, rfl, Is.str, (fun z' e => ?_), (fun h => absurd rfl h)⟩
      cases e
      refine ⟨by show z.length ≤ sizeLine; rw [sizeLine_eq]; omega, fun H5 s5 => ⟨_, rfl, ?_⟩⟩
      rw [hn]
      refine iteF ?_
      have S5 := s1.trans (T.trans s5)
      refine ⟨_, rfl, _, d, rfl, (Rep.beside (fun xs h => by rw [hc] at h; cases h) hnd hd).same S5, fun H6 s6 => ⟨_, rfl, ?_⟩⟩
      rw [hkd]
      refine iteF ?_
      exact ⟨S5.trans s6, _, _, rfl⟩
    · rintro σ H1 ⟨s1, u1, u2, rfl⟩
      refine ⟨s1 _ _ hfa, ?_⟩
      have S1 : Same H (L2.upd H1 a (.dK (kvC cols))) := by
        rcases back H1 with h | h
        · exact h
        · exact absurd s1 h
      generalize L2.upd H1 a (.dK (kvC cols)) = H2 at S1 ⊢
      have hc2 := S1 _ _ hc
      have hkm : (kvC cols).map (·.1) = (cols.map (·.1)).map Sum.inr := by
        unfold kvC
        rw [List.map_map, List.map_map]
        rfl
      refine ⟨_, rfl, a, _, _, rfl, .inl hc2, hkm, (by rw [List.length_map]; have := ok.2.1; omega), fun l zs hl hpm hso => ?_⟩
      have T3 := Same.upd (o := .lst (zs.map V.str)) hl
      have S3 := S1.trans T3
      refine ⟨l, rfl, ⟨_, SqL.of upd_same⟩, fun D hD => ?_⟩
      have hD0 : H D = none := by
        cases e : H D with
        | none => rfl
        | some o => rw [S3 _ _ e] at hD; cases hD
      have hlD : l ≠ D := fun e => by rw [← e, upd_same] at hD; cases hD
      have hzl : zs.length ≤ 12 := by
        have := hpm.length_eq
        rw [List.length_map] at this
        have := ok.2.1
        omega
      refine compW_idx zs.length (fun i ys σ' Hc => (∃ t, σ' = [t, some (.ref a)]) ∧ Same H Hc ∧ Hc l = some (.lst (zs.map V.str)) ∧ ∃ ps : List Addr, ys = ps.map V.ref ∧ ∀ (j : Nat) (p : Addr) (z : Str), ps[j]? = some p → zs[j]? = some z → Hc p = some (.tup [.str z, vOf cols z])) (by rw [sizeLine_eq]; omega) ⟨⟨none, rfl⟩, S3.trans (Same.upd hD), (Same.upd hD) _ _ upd_same, [], rfl, fun j p z h => nomatch h⟩ upd_same ?_ ?_
      · rintro i σ' Hc ys hi ⟨⟨t, rfl⟩, sm, hlc, ps, rfl, hps⟩ hyl hD'
        rw [List.length_map] at hyl
        refine ⟨⟨_, V.str zs[i], SqL.of hlc, by rw [List.getElem?_map, List.getElem?_eq_getElem hi]; rfl⟩, ?_⟩
        rintro x H' ⟨rfl, hx'⟩
        have ex := hx' _ (SqL.of hlc)
        rw [List.getElem?_map, List.getElem?_eq_getElem hi] at ex
        cases ex
        have hzm : zs[i] ∈ cols.map (·.1) := hpm.mem_iff.mp (List.getElem_mem hi)
        refine ⟨_, rfl, _, rfl, _, rfl, a, _, rfl, .inl ⟨_, .inr zs[i], .inl (sm _ _ hc), rfl, (val_in hzm).symm⟩, (by show 2 ≤ sizeLine; decide), fun p hp => ?_⟩
        have T := Same.upd (o := .tup [.str zs[i], vOf cols zs[i]]) hp
        have hpD : p ≠ D := fun e => by rw [e, hD'] at hp; cases hp
        refine ⟨T _ _ hD', ⟨_, rfl⟩, (sm.trans T).put hD0, by rw [upd_ne hlD]; exact T _ _ hlc, ps ++ [p], by rw [List.map_append]; rfl, fun j p' z' h1 h2 => ?_⟩
        by_cases hj : j < ps.length
        · rw [List.getElem?_append_left hj] at h1
          have hh := hps j p' z' h1 h2
          have hne : p' ≠ D := fun e => by rw [e, hD'] at hh; cases hh
          rw [upd_ne hne]
          exact T _ _ hh
        · have hj' : j = ps.length := by
            have := (List.getElem?_eq_some_iff.mp h1).1
            rw [List.length_append] at this
            simp at this
            omega
          subst hj'
          rw [List.getElem?_append_right (Nat.le_refl _), Nat.sub_self] at h1
          cases h1
          rw [hyl, List.getElem?_eq_getElem hi] at h2
          cases h2
          rw [upd_ne hpD]
          exact upd_same
      · rintro σ' Hc ys ⟨_, sm, hlc, ps, rfl, hps⟩ hDn hyl
        rw [List.length_map] at hyl
        refine ⟨⟨_, SqL.of hlc, by rw [List.length_map]; exact Nat.le_refl _⟩, ?_⟩
        refine ⟨D, _, rfl, SqL.of hDn, fun t o2 ht ho2 => ?_⟩
        have T := Same.upd (o := .frz o2 (.tup (ps.map V.ref))) ht
        exact q t _ (sm.trans T) ⟨o2, ps, zs, hpm, hso, ho2, upd_same, hyl, fun j p z h1 h2 => T _ _ (hps j p z h1 h2)⟩
end
end My

namespace My
open PySem L2 PyProof.Rows
seal L2.PE L2.PT L2.PW L2.PS L2.PSs L2.PA L2.PI L2.PG L2.PGs L2.OpR L2.UnR L2.CallR L2.IxR L2.SlR L2.MtR L2.PIf L2.PO L2.MtM L2.PC L2.PIp L2.PSet L2.PGet L2.TruR L2.InOp L2.PK
structure Tb where
  name : Str
  sort : Str
  cols : List (Str × V)
def EntAt (H : Hp) (e : Addr) (T : Tb) : Prop := ∃ ct, H e = some (.tup [.str T.name, .str T.sort, .ref ct]) ∧ ColsAt H ct T.cols
def FormAt (H : Hp) (f : Addr) (sz : Int) (Ts : List Tb) : Prop := ∃ (tt : Addr) (es : List Addr), H f = some (.tup [.int sz, .ref tt]) ∧ H tt = some (.tup (es.map V.ref)) ∧ es.length = Ts.length ∧ ∀ (j : Nat) (e : Addr) (T : Tb), es[j]? = some e → Ts[j]? = some T → EntAt H e T
theorem EntAt.same {H H' : Hp} {e : Addr} {T : Tb} (h : EntAt H e T) (s : Same H H') : EntAt H' e T := by
  obtain ⟨ct, h1, h2⟩ := h
  exact ⟨ct, s _ _ h1, h2.same s⟩
theorem FormAt.same {H H' : Hp} {f : Addr} {sz : Int} {Ts : List Tb} (h : FormAt H f sz Ts) (s : Same H H') : FormAt H' f sz Ts := by
  obtain ⟨tt, es, h1, h2, h3, h4⟩ := h
  exact ⟨tt, es, s _ _ h1, s _ _ h2, h3, fun j e T a b => (h4 j e T a b).same s⟩
def spTabs : Sp := fun vs H Q _ => ∃ (f : Addr) (sz : Int) (Ts : List Tb), vs = [.ref f] ∧ FormAt H f sz Ts ∧ Ts.length ≤ 8 ∧ ∀ p H', H p = none → Same H H' → H' p = some (.lst ((Ts.map (·.name)).map V.str)) → Q (.ref p) H'
def spHead : Sp := fun vs H Q _ => ∃ (f : Addr) (sz : Int) (T : Tb) (Ts : List Tb), vs = [.ref f] ∧ FormAt H f sz (T :: Ts) ∧ Q (.str T.name) H
def spTabIn : Sp := fun vs H Q _ => ∃ (f : Addr) (sz : Int) (Ts : List Tb) (T : Tb), vs = [.ref f, .str T.name] ∧ FormAt H f sz Ts ∧ (Ts.map (·.name)).Nodup ∧ T ∈ Ts ∧ ∀ e, EntAt H e T → Q (.ref e) H
def spSortOf : Sp := fun vs H Q _ => ∃ (f : Addr) (sz : Int) (Ts : List Tb) (T : Tb), vs = [.ref f, .str T.name] ∧ FormAt H f sz Ts ∧ (Ts.map (·.name)).Nodup ∧ T ∈ Ts ∧ Q (.str T.sort) H
def spColsOf : Sp := fun vs H Q _ => ∃ (f : Addr) (sz : Int) (Ts : List Tb) (T : Tb), vs = [.ref f, .str T.name] ∧ FormAt H f sz Ts ∧ (Ts.map (·.name)).Nodup ∧ T ∈ Ts ∧ (T.cols.map (·.1)).Nodup ∧ T.cols.length ≤ 12 ∧
  ∀ (p : Addr) (H' : Hp) (zs : List Str), H p = none → Same H H' → zs.Perm (T.cols.map (·.1)) → H' p = some (.dK (zs.map fun z => (.inr z, vOf T.cols z))) → Q (.ref p) H'
section
variable {P : Program} {w : World} {K : PySem.W.Frag} {mg : Str → Option Value} {base : Heap}
theorem ok_tabs {f : Addr} {fd : FuncData} (F : Fun K "tables_of" "tables_of" (top 21) f fd) : FnOk P w K mg base CX0 1 f fd ["form"] spTabs := by
  have sc : FnScope ["form"] ["form"] (defScope (top 21)) := ⟨rfl, rfl, rfl, by decide +kernel, rfl, by decide +kernel, by decide +kernel⟩
  refine F.ok sc (fun vs H Q E h => ?_) (fun cdv A outer s H vs Q E hr h => ?_)
  · obtain ⟨f, sz, Ts, rfl, _⟩ := h
    rfl
  · obtain ⟨f, sz, Ts, rfl, ⟨tt, es, h1, h2, h3, h4⟩, h8, q⟩ := h
    refine ⟨_, pss_one (ps_ret (pe_comp (osc := defScope (top 21)) (N0 := ["form"]) (xs := ["entry"]) (fr := []) ⟨rfl, by decide +kernel, by decide +kernel, by decide +kernel, by decide, by decide +kernel⟩ rfl rfl rfl (pi_tup (pe_ix ix_tup (pv 0) pe_int (fun _ _ => rfl)))
        (fun s H fp => pg_name (i := 0) (show (["entry"] : List Str).Nodup by decide +kernel) rfl (Or.inl rfl)) (fun s H fp => pif_nil) (fun s H fp => pe_ix (r := rIxT K) ix_tup (pv 0) pe_int (fun _ _ => rfl)))), ?_⟩
    refine ⟨_, rfl, _, _, 1, _, rfl, rfl, SqT.of h1, rfl, tt, rfl, ⟨_, SqT.of h2⟩, fun D hD => ?_⟩
    refine compW_map Ts.length (fun i => .str ((Ts.map (·.name)).getD i "")) (fun i σ' Hc => (∃ t, σ' = [t]) ∧ Same H Hc) (by rw [sizeLine_eq]; omega) ⟨⟨none, rfl⟩, Same.upd hD⟩ upd_same ?_ ?_
    · rintro i σ' Hc hi ⟨⟨t, rfl⟩, sm⟩ hD'
      have hie : i < es.length := by omega
      refine ⟨⟨_, V.ref es[i], SqT.of (sm _ _ h2), by rw [List.getElem?_map, List.getElem?_eq_getElem hie]; rfl⟩, ?_⟩
      rintro x H' ⟨rfl, hx'⟩
      have ex := hx' _ (SqT.of (sm _ _ h2))
      rw [List.getElem?_map, List.getElem?_eq_getElem hie] at ex
      cases ex
      obtain ⟨ct, g1, _⟩ := h4 i es[i] Ts[i] (List.getElem?_eq_getElem hie) (List.getElem?_eq_getElem hi)
      refine ⟨_, rfl, _, _, 0, _, rfl, rfl, SqT.of (sm _ _ g1), rfl, ?_, hD', ⟨_, rfl⟩, sm.put hD⟩
      rw [List.getD_eq_getElem?_getD, List.getElem?_map, List.getElem?_eq_getElem hi]
      rfl
    · rintro σ' Hc ⟨_, sm⟩ hDn
      refine ⟨⟨_, SqT.of (sm _ _ h2), by rw [List.length_map]; omega⟩, q D Hc hD sm ?_⟩
      have := range_map_getD (Ts.map (·.name)) ("" : Str) (fun z => V.str z)
      rw [List.length_map] at this
      rw [hDn, this]
theorem ok_head {f : Addr} {fd : FuncData} (F : Fun K "head_of" "head_of" (top 22) f fd) : FnOk P w K mg base CX0 1 f fd ["form"] spHead := by
  have sc : FnScope ["form"] ["form"] (defScope (top 22)) := ⟨rfl, rfl, rfl, by decide +kernel, rfl, by decide +kernel, by decide +kernel⟩
  refine F.ok sc (fun vs H Q E h => ?_) (fun cdv A outer s H vs Q E hr h => ?_)
  · obtain ⟨f, sz, T, Ts, rfl, _⟩ := h
    rfl
  · obtain ⟨f, sz, T, Ts, rfl, ⟨tt, es, h1, h2, h3, h4⟩, q⟩ := h
    refine ⟨_, pss_one (ps_ret (pe_ix ix_tup (pe_ix ix_tup (pe_ix ix_tup (pv 0) pe_int (fun _ _ => rfl)) pe_int (fun _ _ => rfl)) pe_int (fun _ _ => rfl))), ?_⟩
    have hie : 0 < es.length := by rw [h3]; simp
    obtain ⟨ct, g1, _⟩ := h4 0 es[0] T (List.getElem?_eq_getElem hie) rfl
    exact ⟨_, rfl, _, _, 1, _, rfl, rfl, SqT.of h1, rfl, _, _, 0, _, rfl, rfl, SqT.of h2, atI_nat (j := 0) (by rw [List.getElem?_map, List.getElem?_eq_getElem hie]; rfl), _, _, 0, _, rfl, rfl, SqT.of g1, rfl, q⟩
theorem ok_tabIn {f : Addr} {fd : FuncData} (F : Fun K "table_in" "table_in" (top 25) f fd) : FnOk P w K mg base CX0 1 f fd ["form", "table"] spTabIn := by
  have sc : FnScope ["form", "table", "entry"] ["form", "table"] (defScope (top 25)) := ⟨rfl, rfl, rfl, by decide +kernel, rfl, by decide +kernel, by decide +kernel⟩
  refine F.ok sc (fun vs H Q E h => ?_) (fun cdv A outer s H vs Q E hr h => ?_)
  · obtain ⟨f, sz, Ts, T, rfl, _⟩ := h
    rfl
  · obtain ⟨f, sz, Ts, T, rfl, ⟨tt, es, h1, h2, h3, h4⟩, nd, hT, q⟩ := h
    refine ⟨_, pss_cons (ps_for PassesOwn.never rfl (pi_tup (pe_ix ix_tup (pv 0) pe_int (fun _ _ => rfl))) (pg_name (i := 2) sc.nd rfl (Or.inl rfl))
        (pss_one (ps_if (pt_cmpR op_eq (pe_ix ix_tup (pv 2) pe_int (fun _ _ => rfl)) (pv 1) (nomark _)) (pss_one (ps_ret (pv 2))) pss_nil))) pss_never, ?_⟩
    refine ⟨_, rfl, _, _, 1, _, rfl, rfl, SqT.of h1, rfl, tt, rfl, ⟨_, SqT.of h2⟩, for_tup (K := K) (a := tt) (xs := es.map V.ref) (fun i σ H' => H' = H ∧ (∃ u, σ = [some (.ref f), some (.str T.name), u]) ∧ ∀ j T', j < i → Ts[j]? = some T' → T'.name ≠ T.name) ⟨rfl, ⟨_, rfl⟩, fun j _ hj => absurd hj (Nat.not_lt_zero _)⟩ (fun i σ H' _ p => by rw [p.1]; exact SqT.of h2) ?_ ?_⟩
    · rintro i x σ H' hx ⟨rfl, ⟨u, rfl⟩, hn⟩
      have hie : i < es.length := by
        have := (List.getElem?_eq_some_iff.mp hx).1
        rwa [List.length_map] at this
      have hit : i < Ts.length := by omega
      rw [List.getElem?_map, List.getElem?_eq_getElem hie] at hx
      cases hx
      have ent := h4 i es[i] Ts[i] (List.getElem?_eq_getElem hie) (List.getElem?_eq_getElem hit)
      obtain ⟨ct, g1, g2⟩ := id ent
      refine ⟨_, rfl, _, _, 0, _, rfl, rfl, SqT.of g1, rfl, _, rfl, rfl, _, rfl, ?_⟩
      refine ite2 (fun hc => ?_) (fun hc => ?_)
      · have en : Ts[i].name = T.name := by
          have := of_decide_eq_true hc
          injection this
        have eT : Ts[i] = T := by
          obtain ⟨k, hk, ek⟩ := List.mem_iff_getElem.mp hT
          have : i = k := by
            refine (List.getElem_inj (h₀ := by rw [List.length_map]; exact hit) (h₁ := by rw [List.length_map]; exact hk) nd).mp ?_
            rw [List.getElem_map, List.getElem_map, ek, en]
          subst this
          exact ek
        rw [eT] at ent
        exact ⟨_, rfl, q _ ent⟩
      · refine ⟨rfl, ⟨_, rfl⟩, fun j T' hj hT' => ?_⟩
        by_cases hji : j < i
        · exact hn j T' hji hT'
        · have : j = i := by omega
          subst this
          rw [List.getElem?_eq_getElem hit] at hT'
          cases hT'
          exact fun e => hc (by rw [e]; exact decide_eq_true rfl)
    · rintro σ H' ⟨rfl, ⟨u, rfl⟩, hn⟩
      obtain ⟨k, hk, ek⟩ := List.mem_iff_getElem.mp hT
      exact absurd rfl (hn k T (by rw [List.length_map]; omega) (by rw [List.getElem?_eq_getElem hk, ek]))
theorem ok_sortOf {f fT : Addr} {fd fdT : FuncData} (F : Fun K "sort_of" "sort_of" (top 23) f fd) (DT : Df K mg "table_in" (top 25) fT fdT) : FnOk P w K mg base CX0 2 f fd ["form", "table"] spSortOf := by
  have sc : FnScope ["form", "table"] ["form", "table"] (defScope (top 23)) := ⟨rfl, rfl, rfl, by decide +kernel, rfl, by decide +kernel, by decide +kernel⟩
  have GT : FnOk P w K mg base CX0 1 fT fdT ["form", "table"] spTabIn := ok_tabIn DT.fn
  have bT := DT.fn.binds (ps := ["form", "table"]) fun _ _ _ _ _ _ us hl => by obtain ⟨v0, v1, rfl⟩ := L2.ln2 hl; rfl
  refine F.ok sc (fun vs H Q E h => ?_) (fun cdv A outer s H vs Q E hr h => ?_)
  · obtain ⟨f, sz, Ts, T, rfl, _⟩ := h
    rfl
  · obtain ⟨f, sz, Ts, T, rfl, hf, nd, hT, q⟩ := h
    refine ⟨_, pss_one (ps_ret (pe_ix ix_tup (pe_call GT hr (by rfl) DT.mg DT.fn.kp bT .nil pass0 (pa_cons (pv 0) (pa_cons (pv 1) pa_nil))) pe_int (fun _ _ => rfl))), ?_⟩
    refine ⟨_, rfl, _, rfl, f, sz, Ts, T, rfl, hf, nd, hT, fun e he => ?_⟩
    obtain ⟨ct, g1, _⟩ := he
    exact ⟨_, _, 1, _, rfl, rfl, SqT.of g1, rfl, q⟩
theorem ok_colsOf {f fT : Addr} {fd fdT : FuncData} (F : Fun K "columns_of" "columns_of" (top 24) f fd) (B : Bl mg) (DT : Df K mg "table_in" (top 25) fT fdT) : FnOk P w K mg base CX0 2 f fd ["form", "table"] spColsOf := by
  have sc : FnScope ["form", "table"] ["form", "table"] (defScope (top 24)) := ⟨rfl, rfl, rfl, by decide +kernel, rfl, by decide +kernel, by decide +kernel⟩
  have GT : FnOk P w K mg base CX0 1 fT fdT ["form", "table"] spTabIn := ok_tabIn DT.fn
  have bT := DT.fn.binds (ps := ["form", "table"]) fun _ _ _ _ _ _ us hl => by obtain ⟨v0, v1, rfl⟩ := L2.ln2 hl; rfl
  refine F.ok sc (fun vs H Q E h => ?_) (fun cdv A outer s H vs Q E hr h => ?_)
  · obtain ⟨f, sz, Ts, T, rfl, _⟩ := h
    rfl
  · obtain ⟨f, sz, Ts, T, rfl, hf, nd, hT, ndc, c12, q⟩ := h
    refine ⟨_, pss_one (ps_ret (pe_callTy (call_dictT rfl) (by rfl) B.dict boot_dict (pa_cons (pe_ix ix_tup (pe_call GT hr (by rfl) DT.mg DT.fn.kp bT .nil pass0 (pa_cons (pv 0) (pa_cons (pv 1) pa_nil))) pe_int (fun _ _ => rfl)) pa_nil))), ?_⟩
    refine ⟨_, rfl, _, rfl, f, sz, Ts, T, rfl, hf, nd, hT, fun e he => ?_⟩
    obtain ⟨ct, g1, o, ps, zs, hpm, hso, ho, hct, hpl, hpz⟩ := he
    have hzl : zs.length ≤ 12 := by
      have := hpm.length_eq
      rw [List.length_map] at this
      omega
    refine ⟨_, _, 2, _, rfl, rfl, SqT.of g1, rfl, ct, o, _, zs.map (fun z => (.inr z, vOf T.cols z)), rfl, hct, ho, (by rw [List.length_map]; omega), (by rw [List.length_map, List.length_map]; omega), (fun j k v hj => ?_), ?_, fun p hp => q p _ zs hp (Same.upd hp) hpm upd_same⟩
    · have hjz : j < zs.length := by
        have := (List.getElem?_eq_some_iff.mp hj).1
        rwa [List.length_map] at this
      have hjp : j < ps.length := by omega
      rw [List.getElem?_map, List.getElem?_eq_getElem hjz] at hj
      cases hj
      exact ⟨ps[j], by rw [List.getElem?_map, List.getElem?_eq_getElem hjp]; rfl, SqT.of (hpz j ps[j] zs[j] (List.getElem?_eq_getElem hjp) (List.getElem?_eq_getElem hjz))⟩
    · rw [List.map_map]
      have e : ((fun x : Key × V => x.1) ∘ fun z => ((Sum.inr z : Key), vOf T.cols z)) = fun z => (Sum.inr z : Key) := rfl
      rw [e]
      exact List.Pairwise.map _ (fun a b hab h => hab (by injection h)) (hpm.nodup_iff.mpr ndc)
end
end My

/-! THE HEAD WHERE DEFS MAKE FUNCTIONS (own work): the tables of their code objects are tracked from the start. -/
namespace L2
open PySem PySem.Spec PyProof.Rows
/-- nothing is tracked but the script and the tables -/
def OnlyT (tabs : List Addr) (H : Hp) : Prop := (∀ b, H b = none ∨ (∃ o xs, H b = some (.frz o (.lst xs))) ∨ (b ∈ tabs ∧ H b = some (.tbl #[]))) ∧ ∀ b ∈ tabs, H b = some (.tbl #[])
/-- the module of the built-ins, as the globals name it -/
def BMain (h : Heap) (mg : Str → Option Value) : Prop := ∃ bm ob, mg "__builtins__" = some (.ref bm) ∧ bm ≠ builtinsNs ∧ h.get? bm = some ob ∧ ob.cls = .type "module" ∧ ob.dict = some builtinsNs ∧ ob.data = .plain
theorem law_callT {P : Program} {w : World} {K : PySem.W.Frag} {mg mb : Str → Option Value} {CX : CXT} {k : Nat} {fa a : Addr} {fd : FuncData} {x : Str} {sp : Sp} {s₁ : Shared} {vs : List Value} {ns : List Int} {tabs : List Addr}
    (KX : K.In s₁.heap) (hns : s₁.heap.Ns mainGlobals mg) (hb : s₁.heap.Ns builtinsNs mb) (hbb : ∀ x : Str, x ≠ "__name__" → mb x = bootBuiltins x) (hlim : s₁.heap.NoLimit) (hg : s₁.gens = #[])
    (ha : s₁.heap.get? a = some { cls := .type "list", data := .seq vs.toArray }) (hi : IntsAre vs ns) (hl : ns.length ≤ sizeLine) (hr : Room k callerA)
    (hT : ∀ b ∈ tabs, (∃ c, s₁.heap.TableAt c b #[]) ∧ K.lookup b = none)
    (hbm : BMain s₁.heap mg)
    (F : ∀ base : Heap, K.In base → base.Ns mainGlobals mg → BMain base mg → FnOk P w K mg base CX k fa fd [x] sp) (hbind : ∀ (s : Shared) (u : Value), BindsTo s fd ⟨[u], []⟩ [(x, u)])
    (hsp : ∀ H : Hp, OnlyT tabs H → SqL K H a (ns.map V.int) → sp [.ref a] H (fun v _ => v = .bl true) fun _ _ _ => False)
    (hCX : ∀ H e s', CX [] H s₁ (fun _ _ _ => False) e s' → False) :
    codeAny (model P w) callerA (.call (.ref fa) ⟨[.ref a], []⟩) (fun r s' => r = .ok (.ret (.bool true)) ∧ OldK s₁.heap s'.heap ∧ s'.os = s₁.os ∧ AllBare s'.gens) s₁ := by
  have rv := vals_ints hi
  have lenV := hi.length
  have tabG : ∀ b ∈ tabs, s₁.heap.get? b = some (PySem.W.tabObj #[]) := fun b hb => (hT b hb).1.elim fun c h => h.2
  have core : ∀ H : Hp, OnlyT tabs H → SqL K H a (ns.map V.int) → HOk P w H s₁.heap → (∀ b, H b ≠ none → b = a ∨ b ∈ tabs) → (H a ≠ none → K.lookup a = none) →
      codeAny (model P w) callerA (.call (.ref fa) ⟨[.ref a], []⟩) (fun r s' => r = .ok (.ret (.bool true)) ∧ OldK s₁.heap s'.heap ∧ s'.os = s₁.os ∧ AllBare s'.gens) s₁ := by
    intro H hO hS hok hA hK
    have base_of : ∀ {b : Addr} {o : Obj}, s₁.heap.get? b = some o → H b = none → (hidT s₁.heap H).get? b = some o := fun e n => hidT_get e n
    have noA : ∀ {b : Addr} {o : Obj} {es : Array DictEntry} {ep : Nat}, s₁.heap.get? b = some o → o.data = .dict es ep → H b = none := fun {b o es ep} e d => by
      cases q : H b with
      | none => rfl
      | some u =>
        rcases hA b (by rw [q]; simp) with e' | e'
        · subst e'
          rw [ha] at e; cases e
          have d' : Data.seq vs.toArray _ = Data.dict es ep := d
          cases d'
        · rw [tabG b e'] at e; cases e
          have d' : Data.fields #[] = Data.dict es ep := d
          cases d'
    have nsK : ∀ {b : Addr} {m : Str → Option Value}, s₁.heap.Ns b m → (hidT s₁.heap H).Ns b m := fun {b m} ⟨o, es, ep, e, d, r⟩ => ⟨o, es, ep, base_of e (noA e d), d, r⟩
    have hKb : K.In (hidT s₁.heap H) := fun b o e => base_of (KX b o e) (by
      cases q : H b with
      | none => rfl
      | some u =>
        rcases hA b (by rw [q]; simp) with e' | e'
        · subst e'
          rw [hK (by rw [q]; simp)] at e; cases e
        · rw [(hT b e').2] at e; cases e)
    have hM : Mod K mg (hidT s₁.heap H) := ⟨hKb, nsK hns, ⟨mb, nsK hb, hbb⟩, let ⟨mc, h1, h2⟩ := hlim; ⟨mc, nsK h1, h2⟩⟩
    have e0 : Env0 P w K mg (hidT s₁.heap H) callerA [] s₁ H := ⟨rfl, hM, fun b o e => of_hidT e, Nat.le_of_eq (hidT_size _ _), trivial, fun b hb => absurd (show b ∈ ([] : List Addr) from hb) (by simp), hok, .of_eq hg⟩
    have hB : BMain (hidT s₁.heap H) mg := by
      obtain ⟨bm, ob, b1, b2, b3, b4, b5, b6⟩ := hbm
      refine ⟨bm, ob, b1, b2, base_of b3 ?_, b4, b5, b6⟩
      cases q : H bm with
      | none => rfl
      | some u =>
        rcases hA bm (by rw [q]; simp) with e' | e'
        · rw [e', ha] at b3
          cases b3
          cases b6
        · rw [tabG bm e'] at b3
          cases b3
          cases b6
    refine codeAny_mono ((F _ hKb (nsK hns) hB).run callerA [] s₁ H ⟨[.ref a], []⟩ [.ref a] [.ref a] _ _ hr e0 (hbind s₁ (.ref a)) (.cons rfl .nil) (hsp H hO hS)) fun r s' h => ?_
    cases r with
    | error e => exact (hCX H e s' h).elim
    | ok fl =>
      cases fl with
      | next => exact False.elim h
      | brk => exact False.elim h
      | cont => exact False.elim h
      | ret u =>
        obtain ⟨v, H', os, bare, un, hok', r', q⟩ := h
        have q' : v = .bl true := q
        subst q'
        obtain rfl : u = Value.bool true := r'
        refine ⟨rfl, ⟨fun b o e => ?_, fun b o e => un.there b o e (by simp)⟩, os, bare⟩
        cases q : H b with
        | none => exact .inl (un.keep b o e q (by intro z; exact absurd (show b ∈ ([] : List Addr) from z) (by simp)) (by simp))
        | some u =>
          rcases hO.1 b with z | ⟨ob, xs, z⟩ | ⟨hb, z⟩
          · rw [q] at z; cases z
          · have z2 := un.frzs b ob _ z
            obtain ⟨e1, _⟩ := hok b _ z
            obtain ⟨e2, _⟩ := hok' b _ z2
            rw [e] at e1; cases e1
            exact .inl e2
          · obtain ⟨more, z2⟩ := un.tbls b _ z
            have e2 := hok' b _ z2
            obtain ⟨c, ht⟩ := (hT b hb).1
            rw [tabG b hb] at e
            cases e
            exact .inr (.inl ⟨ht.isCodeTable, rfl, #[], more, rfl, e2⟩)
  have na : a ∉ tabs := fun z => by
    have e := tabG a z
    rw [ha] at e
    have e' := congrArg Obj.data (Option.some.inj e)
    have e2 : Data.seq vs.toArray 0 = Data.fields #[] := e'
    cases e2
  cases hk : K.lookup a with
  | some o =>
    have e := KX a o hk
    rw [ha] at e
    cases e
    refine core (fun b => if b ∈ tabs then some (.tbl #[]) else none) ⟨fun b => ?_, fun b hb => if_pos hb⟩ (.inr ⟨_, vs.toArray, _, hk, rfl, rfl, rfl, by rw [List.size_toArray, lenV]; exact hl, by simpa using rv⟩) (fun b u z => ?_) (fun b z => ?_) (fun z => absurd (if_neg na) z)
    · by_cases hb : b ∈ tabs
      · exact .inr (.inr ⟨hb, if_pos hb⟩)
      · exact .inl (if_neg hb)
    · by_cases hb : b ∈ tabs
      · have z' := (if_pos hb).symm.trans z
        cases z'
        exact tabG b hb
      · have z' := (if_neg hb).symm.trans z
        cases z'
    · by_cases hb : b ∈ tabs
      · exact .inr hb
      · exact absurd (if_neg hb) z
  | none =>
    refine core (fun b => if b ∈ tabs then some (.tbl #[]) else if b = a then some (.frz { cls := .type "list", data := .seq vs.toArray } (.lst (ns.map V.int))) else none) ⟨fun b => ?_, fun b hb => if_pos hb⟩ (.inl (.inr ⟨{ cls := .type "list", data := .seq vs.toArray }, by
      show (if a ∈ tabs then _ else if a = a then _ else _) = _
      rw [if_neg na, if_pos rfl]⟩)) (fun b u z => ?_) (fun b z => ?_) (fun _ => hk)
    · by_cases hb : b ∈ tabs
      · exact .inr (.inr ⟨hb, if_pos hb⟩)
      · by_cases hb2 : b = a
        · refine .inr (.inl ⟨{ cls := .type "list", data := .seq vs.toArray }, ns.map V.int, ?_⟩)
          show (if b ∈ tabs then _ else if b = a then _ else _) = _
          rw [if_neg hb, if_pos hb2]
        · refine .inl ?_
          show (if b ∈ tabs then _ else if b = a then _ else _) = _
          rw [if_neg hb, if_neg hb2]
    · have z0 : (if b ∈ tabs then some (HO.tbl #[]) else if b = a then some (.frz { cls := .type "list", data := .seq vs.toArray } (.lst (ns.map V.int))) else none) = some u := z
      by_cases hb : b ∈ tabs
      · rw [if_pos hb] at z0
        cases z0
        exact tabG b hb
      · rw [if_neg hb] at z0
        by_cases hb2 : b = a
        · rw [if_pos hb2] at z0
          cases z0
          subst hb2
          exact ⟨ha, by rw [List.length_map]; exact hl, vs, _, rv, ha⟩
        · rw [if_neg hb2] at z0
          cases z0
    · by_cases hb : b ∈ tabs
      · exact .inr hb
      · by_cases hb2 : b = a
        · exact .inl hb2
        · refine absurd ?_ z
          show (if b ∈ tabs then _ else if b = a then _ else _) = _
          rw [if_neg hb, if_neg hb2]
/-- a table, as k_fill's hook tells of it -/
theorem tab_is {K : PySem.W.Frag} {h : Heap} {c P : Addr} (X : K.In h) (g : h.get? P = some (PySem.W.tabObj #[])) (e : PySem.W.codeHdIn K c P = true) (n : K.lookup P = none) : (∃ c, h.TableAt c P #[]) ∧ K.lookup P = none :=
  ⟨⟨c, (PySem.W.codeHd_of_K X e).tab g⟩, n⟩
/-- as walk_of, with the tables of the defs in tx -/
theorem walk_ofT {l : PySem.W.OpenLaw} {n k : Nat} {q : Program} {loose : List Str} {XP : (Str → Option Value) → Heap → Prop} {YP : World → Heap → Prop} {d : DefRec} {K : Params → PySem.W.Frag} {CX : World → CXT} {sp : World → Sp} {x : Str} {tx : World → List Addr}
    (hn : l.most = some n) (hn2 : n ≤ sizeLine) (hdf : d.params.defaults = []) (hr : Room k callerA)
    (hY : ∀ (w : World) (h : Heap), YP w h → (K w.params).In h)
    (hT : ∀ (w : World) (h : Heap), YP w h → ∀ b ∈ tx w, (∃ c, h.TableAt c b #[]) ∧ (K w.params).lookup b = none)
    (F : ∀ (w : World) (mg : Str → Option Value) (fa : Addr) (h : Heap), (K w.params).In h → h.Ns mainGlobals mg → mg d.name = some (.ref fa) →
      ∃ fd : FuncData, (∀ (s : Shared) (u : Value), BindsTo s fd ⟨[u], []⟩ [(x, u)]) ∧
        ∀ base : Heap, (K w.params).In base → base.Ns mainGlobals mg → BMain base mg → FnOk l.prog w (K w.params) mg base (CX w) k fa fd [x] (sp w))
    (hsp : ∀ (w : World) (H : Hp) (a : Addr) (ns : List Int), ns.length ≤ n → OnlyT (tx w) H → SqL (K w.params) H a (ns.map V.int) → sp w [.ref a] H (fun v _ => v = .bl true) fun _ _ _ => False)
    (hCX : ∀ (w : World) (H : Hp) (s : Shared) (e : Value) (s' : Shared), CX w [] H s (fun _ _ _ => False) e s' → False) :
    PySem.W.WalkO q loose XP YP l.row.toRowW d [] (fun f vs => PySem.call f vs) := by
  refine Att.attach_call hn hdf fun w s₀ s₁ mg mb fa o pm cd doc a vs ns G Y ho hd hcd hmg hobj hints hlen hg => ?_
  have KX := hY w _ Y
  obtain ⟨fd, hb, hF⟩ := F w mg fa _ KX G.T.g hmg
  exact law_callT KX G.T.g G.T.b G.T.builtins G.T.nolimit hg hobj hints (Nat.le_trans hlen hn2) hr (hT w _ Y) G.T.bmain hF hb (fun H hO hS => hsp w H a ns hlen hO hS) fun H e s' => hCX w H s₁ e s'
end L2

/-! LAMBDAS WITHOUT NAMES FROM AROUND (own work): made, called. -/
namespace L2
open PySem PySem.Spec PyProof.Rows
def codeP (c : Addr) (q : Str) (h : Heap) : Prop := h.CodeRec (.ref c) q
def lamP (f : Addr) (q : Str) (params : Arguments) (body : Expr) (scope : Scope) (pm : Value) (c' : Addr) (h : Heap) : Prop := ∃ ctv, h.get? f = some (PySem.W.kla_obj "<lambda>" q params body scope [] pm c' ctv)
section
variable {P : Program} {w : World} {H : Hp} {h : Heap} {f c : Addr} {q : Str} {params : Arguments} {body : Expr} {scope : Scope} {pm : Value}
theorem codeP_ok (e : h.CodeRec (.ref c) q) : ObjOk P w H h c (.ext (codeP c q)) := by
  refine ⟨e, ?_, fun h1 h2 x k => ?_⟩
  · obtain ⟨c', o, vs, t, e1, e2, _⟩ := e
    cases e1
    exact ⟨o, e2⟩
  · obtain ⟨c', o, vs, t, e1, e2, e3⟩ := x
    cases e1
    exact ⟨c, o, vs, t, rfl, k o e2, e3⟩
theorem lamP_ok {ctv : Value} (e : h.get? f = some (PySem.W.kla_obj "<lambda>" q params body scope [] pm c ctv)) : ObjOk P w H h f (.ext (lamP f q params body scope pm c)) := ⟨⟨ctv, e⟩, ⟨_, e⟩, fun _ _ ⟨ctv, e⟩ k => ⟨ctv, k _ e⟩⟩
end
/-- what a table holds at a place: nothing, or the code object that stands there -/
def tLam (P : Addr) (pos : Pos) (q : Str) (params : Arguments) (body : Expr) (scope : Scope) (pm : Value) : TE := fun σ H Q => ∃ ps, H P = some (.tbl ps) ∧ TriplesOk ps.toList ∧
  ((codeAmong pos ps.toList = none ∧ ∀ c' f, H c' = none → H f = none → c' ≠ f → c' ≠ P → f ≠ P → Q (.ref f) (upd (upd (upd H P (.tbl (ps ++ #[rawInt pos.line, rawInt pos.col, .ref c']))) c' (.ext (codeP c' q))) f (.ext (lamP f q params body scope pm c')))) ∨
   ∃ c', codeAmong pos ps.toList = some (.ref c') ∧ ∀ f, H f = none → Q (.ref f) (upd H f (.ext (lamP f q params body scope pm c'))))
section
variable {X : Cx} {params : Arguments} {body : Expr} {scope : Scope} {pos : Pos} {c P : Addr}
theorem pe_lam (hcode : X.env.code = .ref c) (hC : PySem.W.codeHdIn X.K c P = true) (hB : BMain X.base X.mg) (hcl : closureFor scope X.env = pure [] := by rfl) (hdef : defaultsOf params X.env = ([], []) := by rfl) :
    PE X (.Lambda params body scope pos) (tLam P pos (X.env.qual ++ "<lambda>") params body scope ((X.mg "__name__").getD .none)) := by
  intro pins s σ H Q I h
  obtain ⟨ps, hp, tr, h⟩ := h
  have hg : s.heap.Ns mainGlobals X.mg := I.mod.glob.keeps I.bk
  have C := PySem.W.codeHd_of_K I.kIn hC
  have hP : s.heap.get? P = some (PySem.W.tabObj ps) := I.hok P _ hp
  have hgP : mainGlobals ≠ P := fun z => by
    obtain ⟨o, es, ep, e, d, _⟩ := id hg
    rw [z, hP] at e
    cases e
    cases d
  have hb : s.heap.BuiltinsAt X.mg P := by
    obtain ⟨bm, ob, b1, b2, b3, b4, b5, b6⟩ := hB
    have b3' := I.bk _ _ b3
    refine ⟨bm, ob, b1, b2, fun z => ?_, fun z => ?_, b3', b4, b5, b6⟩
    · obtain ⟨o, es, ep, e, d, _⟩ := id hg
      rw [z, e] at b3'
      cases b3'
      rw [d] at b6
      cases b6
    · rw [z, hP] at b3'
      cases b3'
      cases b6
  refine PySem.W.kla_eval hdef ?_
  rcases h with ⟨hnf, q⟩ | ⟨c', hf, q⟩
  · refine PySem.W.kla_makeFunction hcl I.ok.glob hg hcode C hP tr hnf hgP hb fun c' ctv h' tk hx hge hlt hrec htb => ?_
    have hcN : H c' = none := I.hok.fresh hge
    have hfN : H h'.objs.size = none := I.hok.fresh (Nat.le_trans hge (Nat.le_of_lt hlt))
    have cf : c' ≠ h'.objs.size := Nat.ne_of_lt hlt
    have cP : c' ≠ P := fun z => by rw [z, hp] at hcN; cases hcN
    have fP : h'.objs.size ≠ P := fun z => by rw [z, hp] at hfN; cases hfN
    have keep : ∀ b o, b ≠ P → s.heap.get? b = some o → (h'.push (PySem.W.kla_obj "<lambda>" (X.env.qual ++ "<lambda>") params body scope [] ((X.mg "__name__").getD .none) c' ctv)).get? b = some o := fun b o hb e => Heap.get?_push_of_some _ (hx b o hb e)
    have nP : ∀ b, H b = none → b ≠ P := fun b n z => by rw [z, hp] at n; cases n
    have old : ∀ b u, H b = some u → b ≠ P → upd (upd (upd H P (.tbl (ps ++ #[rawInt pos.line, rawInt pos.col, .ref c']))) c' (.ext (codeP c' (X.env.qual ++ "<lambda>")))) h'.objs.size (.ext (lamP h'.objs.size (X.env.qual ++ "<lambda>") params body scope ((X.mg "__name__").getD .none) c')) b = some u := fun b u e hb => by
      rw [upd_ne (fun z => by rw [z, hfN] at e; cases e), upd_ne (fun z => by rw [z, hcN] at e; cases e), upd_ne hb]
      exact e
    have atP : upd (upd (upd H P (.tbl (ps ++ #[rawInt pos.line, rawInt pos.col, .ref c']))) c' (.ext (codeP c' (X.env.qual ++ "<lambda>")))) h'.objs.size (.ext (lamP h'.objs.size (X.env.qual ++ "<lambda>") params body scope ((X.mg "__name__").getD .none) c')) P = some (.tbl (ps ++ #[rawInt pos.line, rawInt pos.col, .ref c'])) := by
      rw [upd_ne (Ne.symm fP), upd_ne (Ne.symm cP), upd_same]
    have noT : ∀ b u, H b = some u → (∀ zs, u ≠ .tbl zs) → b ≠ P := fun b u e hu z => by
      rw [z, hp] at e
      cases e
      exact hu ps rfl
    refine ⟨.ref h'.objs.size, _, I.un (t' := tk) ⟨fun b o e n _ _ => keep b o (nP b n) e, fun b o e n _ _ => ⟨o.slots, keep b o (nP b n) e⟩, fun b o e n _ => ?_, fun b o e _ => ?_, fun b xs e => old b _ e (noT b _ e fun zs z => by cases z), fun b o u e => old b _ e (noT b _ e fun zs z => by cases z), fun b zs e => ?_⟩ fun b u e => ?_, rfl, q c' h'.objs.size hcN hfN cf cP fP⟩
    · have hlt' : b < s.heap.objs.size := Heap.lt_size e
      rw [upd_ne (Nat.ne_of_lt (Nat.lt_of_lt_of_le hlt' (Nat.le_trans hge (Nat.le_of_lt hlt)))), upd_ne (Nat.ne_of_lt (Nat.lt_of_lt_of_le hlt' hge)), upd_ne (nP b n)]
      exact n
    · by_cases hbP : b = P
      · rw [hbP]
        exact ⟨_, Heap.get?_push_of_some _ htb⟩
      · exact ⟨o, keep b o hbP e⟩
    · by_cases hbP : b = P
      · subst hbP
        rw [hp] at e
        cases e
        exact ⟨_, atP⟩
      · exact ⟨#[], by rw [old b _ e hbP]; simp⟩
    · by_cases hbf : b = h'.objs.size
      · subst hbf
        rw [upd_same] at e
        cases e
        exact lamP_ok (Heap.get?_push_size _ rfl)
      · rw [upd_ne hbf] at e
        by_cases hbc : b = c'
        · subst hbc
          rw [upd_same] at e
          cases e
          exact codeP_ok (hrec.push _)
        · rw [upd_ne hbc] at e
          by_cases hbP : b = P
          · subst hbP
            rw [upd_same] at e
            cases e
            exact Heap.get?_push_of_some _ htb
          · rw [upd_ne hbP] at e
            refine (I.hok b u e).stay (fun d v hd r => keep d v ?_ r) (fun d r => old d _ r (noT d _ r fun zs z => by cases z)) fun d xs r => old d _ r (noT d _ r fun zs z => by cases z)
            rcases hd with rfl | hd
            · exact hbP
            · exact noT d _ hd fun zs z => by cases z
  · refine PySem.W.kla_makeFunctionHit hcl I.ok.glob hg hcode C hP tr hf hb fun ctv h' tk hk hsz => ?_
    have hfN : H h'.objs.size = none := I.hok.fresh hsz
    exact ⟨.ref h'.objs.size, _, I.laid (a := h'.objs.size) (t' := tk) (fun b o e => Heap.get?_push_of_some _ (hk b o e)) hsz (lamP_ok (Heap.get?_push_size _ rfl)), rfl, q _ hfN⟩
end
end L2

/-! LAMBDAS CALLED, sorted BY A LAMBDA (own work). -/
namespace L2
open PySem PySem.Spec PyProof.Rows
section
variable {X : Cx} {pins : List (Addr × Obj)} {σ : St} {H : Hp} {s : Shared} {Q : VK} {f c' : Addr} {q x : Str} {params : Arguments} {body : Expr} {scope : Scope} {pm : Value} {u : Value} {v : V} {k : Nat}
/-- a lambda of one parameter is called: its body's reading at the argument -/
theorem code_lam {t : TE} {A : Around} {outer : List Env} (e0 : Env0 X.prog X.w X.K X.mg X.base A outer s H) (hr : Room (k + 1) A) (hf : H f = some (.ext (lamP f q params body scope pm c'))) (hc : H c' = some (.ext (codeP c' q))) (S : FnScope [x] [x] scope)
    (hb : ∀ (ctv u : Value), bindArgs (PySem.W.kla_fn "<lambda>" q params body scope [] pm (.ref c') ctv) ⟨[u], []⟩ = pure [(x, u)])
    (hbody : PE (cxOf CX0 X.prog X.w X.K X.mg X.base [x] q scope f (.ref c') A outer s H E0).nox body t) (r : RelV v u) (ht : t [some v] H Q) :
    codeAny (model X.prog X.w) A (.call (.ref f) ⟨[u], []⟩) (CR CX0 outer X.prog X.w H s Q E0) s := by
  obtain ⟨⟨ctv, ho⟩, _⟩ := e0.hok f _ hf
  obtain ⟨hcd, _⟩ := e0.hok c' _ hc
  have lim : s.heap.NoLimit := e0.mod.nolimit.keeps fun b o e => (e0.bs b o e).1
  have hkind : ∀ y ∈ ([x].zip [u]), scope.names.lookup y.1 = some .local ∨ (scope.names.lookup y.1 = some .cell ∧ ((cellsFrom (s.heap.objs.size + 1) scope.names []).lookup y.1).isSome = true) := fun ⟨n, v⟩ hy => by
    rcases S.par n (List.of_mem_zip hy).1 with q | q
    · exact .inl q
    · exact .inr ⟨q, PySem.W.cellsFrom_some _ _ _ (.inl q)⟩
  refine PySem.W.kla_callFunE hr.depth ho rfl S.co S.gen rfl hcd ?_
  rw [hb]
  refine wpAny_pure (wpAny_newFunctionEnv_cells (binds := [x].zip [u]) S.kind hkind fun env he s1 z => ?_)
  subst he
  refine ⟨lim.keeps z.toInCall.keep, PySem.W.kla_codeExpr ?_⟩
  have I : Inv (cxOf CX0 X.prog X.w X.K X.mg X.base [x] q scope f (.ref c') A outer s H E0) [] (start [x] [v]) H s1 := inv_start S hr.hd e0 rfl (.cons r .nil) z
  refine wpAny_mono (hbody.nox [] s1 (start [x] [v]) H Q I ht) (fun u' s' hs => ?_) fun e s' hs => hs
  obtain ⟨v', H', J, rv, q'⟩ := hs
  exact ⟨v', H', J.os, J.bare, J.base, J.hok, rv, q'⟩
end
end L2

/-! sorted(xs, key=f), f of texts that differ (own work). -/
namespace L2
open PySem PySem.Spec PyProof.Rows PySem.W
theorem cmp_k {prog : Program} {w : World} {A : Around} {ks : List Value} {zs : List Str} {s1 : Shared} (t : StrsAre ks zs) : Srt.Cmp zs.length (Srt.rz zs) (kas_ask prog w A oneType' ks) (fun s' => s' = s1) := by
  intro i j C s' hi hj hij hs' hC
  subst hs'
  have hl : ks.length = zs.length := t.length
  obtain ⟨a, ta, e1, e1'⟩ := strs_get (j := i) t (by omega)
  obtain ⟨b, tb, e2, e2'⟩ := strs_get (j := j) t (by omega)
  unfold kas_ask
  have g1 : ks.getD i Value.none = .str a ta := by rw [List.getD_eq_getElem?_getD, List.getElem?_eq_getElem (by omega), Option.getD_some, e1]
  have g2 : ks.getD j Value.none = .str b tb := by rw [List.getD_eq_getElem?_getD, List.getElem?_eq_getElem (by omega), Option.getD_some, e2]
  rw [g1, g2]
  refine kas_lt_str ?_
  have er : Srt.rz zs i j = decide (a.cps.toList < b.cps.toList) := by
    unfold Srt.rz
    rw [List.getD_eq_getElem?_getD, List.getD_eq_getElem?_getD, e1', e2', Option.getD_some, Option.getD_some]
  rw [← er]
  exact hC s' rfl
theorem strs_snoc {z : Str} {t : Tok} : ∀ {vs : List Value} {zs : List Str}, StrsAre vs zs → StrsAre (vs ++ [.str z t]) (zs ++ [z])
  | _, _, .nil => .cons z t .nil
  | _, _, .cons y u r => .cons y u (strs_snoc r)
section
variable {X : Cx} {pins : List (Addr × Obj)} {σ : St} {H : Hp} {s : Shared}
theorem Inv.moved {h' : Heap} {it : Addr} {t' : Nat} (I : Inv X pins σ H s) (fp : FpOk X pins H it) (k : ∀ b o, b ≠ it → s.heap.get? b = some o → h'.get? b = some o) : Inv X pins σ H { s with heap := h', toks := t' } :=
  I.turned k fp.1 fp.2.1 fp.2.2.2.1 fp.2.2.2.2.1 fp.2.2.2.2.2
theorem key_tail {A : Around} {E : Value → Shared → Prop} {a kS : Addr} {vs ks : List Value} {e e1 : Nat} {p : Array Nat} {st : SortSt} {P : PySem.Fin → Shared → Prop} (I : Inv X pins σ H s) (fa : FpOk X pins H a) (fk : FpOk X pins H kS) (hka : kS ≠ a)
    (hk : s.heap.get? kS = some (seqObj "list" ks.toArray e)) (ha : s.heap.get? a = some (seqObj "list" #[] e1)) (hl : ks.length = vs.length) (h64 : vs.length < 64) (hp : p.size = vs.length) (har : arrOf st = p.map (kas_item (ks.toArray.zip vs.toArray))) (hf : failedOf st = none)
    (h : ∀ (s' : Shared) (e : Nat), Inv X pins σ H s' → s'.heap.get? a = some (seqObj "list" (List.toArray (p.toList.map fun i => vs.getD i Value.none)) e) → P (.done (.ret .none)) s') :
    wpAny (model X.prog X.w) A (ksk_tail a false e1 (.ref kS) st) P E s := by
  have hout := kat_snds (vs := vs) (ks := ks) hl har
  unfold ksk_tail
  try dsimp only
  have s1 := Heap.SameBut.update s.heap kS (Obj.mapSeq fun _ => (#[] : Array Value))
  have ha1 : (s.heap.update kS (Obj.mapSeq fun _ => (#[] : Array Value))).get? a = some (seqObj "list" #[] e1) := (s1.2 a hka.symm).trans ha
  refine wpAny_bind (listUpdate_at hk rfl ?_ (by rw [List.size_toArray, hl, sizeLine_eq]; omega) (Nat.zero_le _))
  refine wpAny_bind (wpAny_letGo ?_)
  refine wpAny_bind (seqEpoch_at ha1 rfl ?_)
  simp only [Bool.false_eq_true, if_false]
  rw [hout]
  have s2 := Heap.SameBut.update (s.heap.update kS (Obj.mapSeq fun _ => (#[] : Array Value))) a (Obj.mapSeq fun _ => List.toArray (p.toList.map fun i => vs.getD i Value.none))
  obtain ⟨c2, hc2⟩ : ∃ c2, ((s.heap.update kS (Obj.mapSeq fun _ => (#[] : Array Value))).update a (Obj.mapSeq fun _ => List.toArray (p.toList.map fun i => vs.getD i Value.none))).get? a = some (seqObj "list" (List.toArray (p.toList.map fun i => vs.getD i Value.none)) c2) :=
    ⟨_, get?_update_seq ha1 fun _ => List.toArray (p.toList.map fun i => vs.getD i Value.none)⟩
  refine wpAny_bind (listUpdate_at ha1 rfl ?_ (Nat.zero_le _) (by rw [List.size_toArray, List.length_map, Array.length_toList, hp, sizeLine_eq]; omega))
  rw [hf]
  simp only [bne_self_eq_false, Bool.false_eq_true, if_false]
  have I1 : Inv X pins σ H { s with heap := s.heap.update kS (Obj.mapSeq fun _ => (#[] : Array Value)) } := I.moved (t' := s.toks) fk fun b o hb q => (s1.2 b hb).trans q
  exact wpAny_pure (h _ c2 (I1.moved (t' := s.toks) fa fun b o hb q => (s2.2 b hb).trans q) hc2)
theorem list_sort_key {A : Around} {E : Value → Shared → Prop} {a : Addr} {vs : List Value} {n : Nat} {f : Value} {zs : List Str} {P : PySem.Fin → Shared → Prop} (I : Inv X pins σ H s) (fa : FpOk X pins H a) (ho : s.heap.get? a = some (seqObj "list" vs.toArray n)) (hlen : zs.length = vs.length) (nd : zs.Nodup) (h64 : vs.length < 64)
    (turn : ∀ (i : Nat) (v : Value) (z : Str), vs[i]? = some v → zs[i]? = some z → ∀ s' : Shared, Inv X pins σ H s' → wpAny (model X.prog X.w) A (call f [v]) (fun k s'' => (∃ t, k = .str z t) ∧ Inv X pins σ H s'' ∧ ∀ b o, FpOk X pins H b → s'.heap.get? b = some o → s''.heap.get? b = some o) (fun _ _ => False) s')
    (h : ∀ (p : Array Nat) (s' : Shared) (e : Nat), Srt.PN vs.length p → Srt.Up (Srt.rz zs) p vs.length → Inv X pins σ H s' → s'.heap.get? a = some (seqObj "list" (List.toArray (p.toList.map fun i => vs.getD i Value.none)) e) → P (.done (.ret .none)) s') :
    wpAny (model X.prog X.w) A (ksk_tree a f false) P E s := by
  have haL : a < s.heap.objs.size := Heap.lt_size ho
  have s1 := Heap.SameBut.update s.heap a (Obj.mapSeq fun _ => (#[] : Array Value))
  obtain ⟨e1, ho1⟩ : ∃ e1, (s.heap.update a (Obj.mapSeq fun _ => (#[] : Array Value))).get? a = some (seqObj "list" #[] e1) := ⟨_, get?_update_seq ho fun _ => #[]⟩
  have I1 : Inv X pins σ H { s with heap := s.heap.update a (Obj.mapSeq fun _ => (#[] : Array Value)) } := I.moved (t' := s.toks) fa fun b o hb q => (s1.2 b hb).trans q
  have I2 : Inv X pins σ H { s with heap := (s.heap.update a (Obj.mapSeq fun _ => (#[] : Array Value))).push (seqObj "tuple" vs.toArray 0) } := I1.kept (t' := s.toks) fun b o q => Heap.get?_push_of_some _ q
  have I3 : Inv X pins σ H { s with heap := ((s.heap.update a (Obj.mapSeq fun _ => (#[] : Array Value))).push (seqObj "tuple" vs.toArray 0)).push (seqObj "list" #[] 0) } := I2.kept (t' := s.toks) fun b o q => Heap.get?_push_of_some _ q
  have fk : FpOk X pins H ((s.heap.update a (Obj.mapSeq fun _ => (#[] : Array Value))).push (seqObj "tuple" vs.toArray 0)).objs.size := I2.fpOk (Nat.le_refl _) (I2.hok.fresh (Nat.le_refl _))
  have hkS : ((s.heap.update a (Obj.mapSeq fun _ => (#[] : Array Value))).push (seqObj "tuple" vs.toArray 0)).objs.size = s.heap.objs.size + 1 := by rw [size_push', Heap.size_update]
  have hka : ((s.heap.update a (Obj.mapSeq fun _ => (#[] : Array Value))).push (seqObj "tuple" vs.toArray 0)).objs.size ≠ a := by rw [hkS]; exact Nat.ne_of_gt (Nat.lt_succ_of_lt haL)
  unfold ksk_tree
  refine wpAny_bind (listItems_at ho rfl ?_)
  refine wpAny_bind (listUpdate_at ho rfl ?_ (by rw [List.size_toArray, sizeLine_eq]; omega) (Nat.zero_le _))
  refine wpAny_bind (seqEpoch_at ho1 rfl ?_)
  refine wpAny_bind (wpAny_newTuple ?_ (by show vs.length ≤ _; rw [sizeLine_eq]; omega))
  refine wpAny_bind (wpAny_newList ?_ (Nat.zero_le _))
  refine wpAny_holding ?_
  generalize ekS : ((s.heap.update a (Obj.mapSeq fun _ => (#[] : Array Value))).push (seqObj "tuple" vs.toArray 0)).objs.size = kS at fk hka
  show wpAny (model X.prog X.w) A (ksk_rest a f false vs.toArray e1 (.ref kS)) P E { s with heap := ((s.heap.update a (Obj.mapSeq fun _ => (#[] : Array Value))).push (seqObj "tuple" vs.toArray 0)).push (seqObj "list" #[] 0) }
  have hk0 : (((s.heap.update a (Obj.mapSeq fun _ => (#[] : Array Value))).push (seqObj "tuple" vs.toArray 0)).push (seqObj "list" #[] 0)).get? kS = some (seqObj "list" #[] 0) := by rw [← ekS]; exact Heap.get?_push_size _ rfl
  have ha0 : (((s.heap.update a (Obj.mapSeq fun _ => (#[] : Array Value))).push (seqObj "tuple" vs.toArray 0)).push (seqObj "list" #[] 0)).get? a = some (seqObj "list" #[] e1) := Heap.get?_push_of_some _ (Heap.get?_push_of_some _ ho1)
  unfold ksk_rest
  refine wpAny_bind (wpAny_rule ?_)
  first
    | rw [List.forIn_toArray]
    | (rw [← Array.forIn_toList]; simp only [List.toList_toArray])
    | rw [← Array.forIn_toList]
  refine wpAny_bind (ksk_fold (fun i s' => ∃ (kA : List Value) (e : Nat), Inv X pins σ H s' ∧ s'.heap.get? kS = some (seqObj "list" kA.toArray e) ∧ s'.heap.get? a = some (seqObj "list" #[] e1) ∧ StrsAre kA (zs.take i)) vs 0 _ ⟨[], 0, I3, hk0, ha0, by simpa using StrsAre.nil⟩ ?step ?done)
  case step =>
    rintro j x s' hx ⟨kA, e, J, hk, ha, hs⟩
    simp only [Nat.zero_add] at hs ⊢
    have hj : j < vs.length := (List.getElem?_eq_some_iff.mp hx).1
    obtain ⟨z, hz⟩ : ∃ z, zs[j]? = some z := ⟨_, List.getElem?_eq_getElem (by omega)⟩
    have hsz : kA.length ≤ vs.length := by
      have h1 : kA.length = (zs.take j).length := hs.length
      rw [List.length_take] at h1
      omega
    refine wpAny_bind (wpAny_attempt (wpAny_mono (turn j x z hx hz s' J) (fun v s'' he => ?_) fun _ _ hF => hF.elim))
    obtain ⟨⟨t, rfl⟩, J2, kp⟩ := he
    try dsimp only
    have hk2 := kp kS _ fk hk
    have ha2 := kp a _ fa ha
    have u1 := Heap.SameBut.update s''.heap kS (Obj.mapSeq (·.push (.str z t)))
    obtain ⟨c2, hc2⟩ : ∃ c2, (s''.heap.update kS (Obj.mapSeq (·.push (.str z t)))).get? kS = some (seqObj "list" (kA.toArray.push (.str z t)) c2) := ⟨_, get?_update_seq hk2 (·.push (.str z t))⟩
    have ek : zs.take (j + 1) = zs.take j ++ [z] := by rw [List.take_add_one, hz]; simp
    refine wpAny_bind (listUpdate_at hk2 rfl ?_ (by rw [List.size_toArray, sizeLine_eq]; omega) (Nat.le_trans (Nat.le_of_eq (Array.size_push ..)) (by rw [List.size_toArray, sizeLine_eq]; omega)))
    exact wpAny_pure ⟨rfl, kA ++ [.str z t], c2, J2.moved (t' := s''.toks) fk fun b o hb q => (u1.2 b hb).trans q, by rw [hc2]; simp, (u1.2 a hka.symm).trans ha2, by rw [ek]; exact strs_snoc hs⟩
  case done =>
    rintro s' ⟨kA, e, J, hk, ha, hs⟩
    have hs' : StrsAre kA zs := by
      have e3 : zs.take (0 + vs.length) = zs := List.take_of_length_le (by omega)
      rw [e3] at hs
      exact hs
    have hl : kA.length = vs.length := by have h1 : kA.length = zs.length := hs'.length; omega
    try dsimp only
    refine wpAny_bind (listItems_at hk rfl ?_)
    unfold ksk_end
    try dsimp only
    rw [if_neg (by decide)]
    by_cases h2 : vs.toArray.size < 2
    · rw [if_pos h2, if_pos h2]
      refine wpAny_bind (wpAny_pure ?_)
      rw [StateT.run_pure]
      refine wpAny_bind (wpAny_pure ?_)
      try dsimp only
      simp only [Bool.false_eq_true, if_false]
      refine key_tail (vs := vs) (ks := kA) (p := List.toArray (List.range vs.length)) J fa fk hka hk ha hl h64 (by simp) (by
        have e := kas_range (kA.toArray.zip vs.toArray)
        rw [show (kA.toArray.zip vs.toArray).size = vs.length by simp [hl]] at e
        exact e.symm) rfl fun s3 e3 J3 g3 => h (List.toArray (List.range vs.length)) s3 e3 (by unfold Srt.PN; simp) (fun i j hij hj => ?_) J3 g3
      rw [List.size_toArray] at h2
      have ei : i = 0 := by omega
      have ej : j = 0 := by omega
      subst ei ej
      unfold Srt.rz
      rw [decide_eq_false_iff_not]
      exact List.lt_irrefl _
    · have hn2 : 2 ≤ vs.length := by rw [List.size_toArray] at h2; omega
      rw [if_neg h2, if_neg h2]
      obtain ⟨v₁, v₂, rest, ev⟩ : ∃ v₁ v₂ rest, kA = v₁ :: v₂ :: rest := by
        match kA, hl with
        | [], hl => simp at hl; omega
        | [_], hl => simp at hl; omega
        | v₁ :: v₂ :: rest, _ => exact ⟨v₁, v₂, rest, rfl⟩
      have hkk : keyKind' kA.toArray = pure oneType' := by rw [ev]; exact keyKind_strs (by rw [← ev]; exact hs')
      rw [hkk]
      refine wpAny_bind (wpAny_pure ?_)
      simp only [Bool.false_eq_true, if_false]
      refine wpAny_bind (wpAny_mono (kat_run (prog := X.prog) (w := X.w) (A := A) (E := E) (κ := oneType') (ks := kA) (vs := vs) (s := s')
        (Q := fun st' s'' => ∃ p : Array Nat, p.size = vs.length ∧ arrOf st' = p.map (kas_item (kA.toArray.zip vs.toArray)) ∧ failedOf st' = none ∧ Srt.PN vs.length p ∧ Srt.Up (Srt.rz zs) p vs.length ∧ s'' = s')
        (G := fun p s'' => Srt.PN vs.length p ∧ Srt.Up (Srt.rz zs) p vs.length ∧ s'' = s')
        hl hn2 h64 (fun p' st' s'' a1 a2 a3 a4 => ⟨p', a1, a2, a3, a4⟩) ?_) ?_ fun _ _ e => e)
      · rw [← hlen]
        exact Srt.sort (Srt.ord_z nd) (cmp_k (s1 := s') hs') (by omega) rfl fun p' s'' b1 b2 b3 => ⟨b1, b2, b3⟩
      · rintro ⟨⟨⟩, st'⟩ s'' ⟨p, hp, har, hf, pn, up, rfl⟩
        try dsimp only
        exact key_tail (vs := vs) (ks := kA) J fa fk hka hk ha hl h64 hp har hf fun s3 e3 J3 g3 => h p s3 e3 pn up J3 g3
end
end L2

/-! sorted(xs, key=lambda x: ..) (own work). -/
namespace L2
open PySem PySem.Spec PyProof.Rows PySem.W
section
variable {X : Cx} {pins : List (Addr × Obj)} {σ : St} {H : Hp} {s : Shared} {f c' : Addr} {q x : Str} {params : Arguments} {body : Expr} {scope : Scope} {pm : Value} {k : Nat}
theorem lam_turn {t : TE} {A : Around} {u : Value} {v : V} {z : Str} (I : Inv X pins σ H s) (e0 : Env0 X.prog X.w X.K X.mg X.base A X.stack s H) (hr : Room (k + 1) A) (hf : H f = some (.ext (lamP f q params body scope pm c'))) (hc : H c' = some (.ext (codeP c' q))) (S : FnScope [x] [x] scope)
    (hb : ∀ (ctv u : Value), bindArgs (PySem.W.kla_fn "<lambda>" q params body scope [] pm (.ref c') ctv) ⟨[u], []⟩ = pure [(x, u)])
    (hbody : PE (cxOf CX0 X.prog X.w X.K X.mg X.base [x] q scope f (.ref c') A X.stack s H E0).nox body t) (r : RelV v u) (ht : t [some v] H fun v' H' => v' = .str z ∧ H' = H) :
    wpAny (model X.prog X.w) A (call (.ref f) [u]) (fun k s'' => (∃ t, k = .str z t) ∧ Inv X pins σ H s'' ∧ ∀ b o, FpOk X pins H b → s.heap.get? b = some o → s''.heap.get? b = some o) (fun _ _ => False) s := by
  refine wpAny_call (codeAny_mono (code_lam e0 hr hf hc S hb hbody r ht) fun r s' hq => ?_)
  cases r with
  | error e => exact hq
  | ok fl =>
    cases fl with
    | ret w' =>
      have hq' : CE X.stack X.prog X.w H s (fun v' H' => v' = .str z ∧ H' = H) w' s' := hq
      obtain ⟨v1, H1, J, rv, rfl, rfl⟩ := I.after hq'
      obtain ⟨v2, H2, os, bare, un, hok, rv2, rfl, rfl⟩ := hq'
      refine ⟨rv, J, fun b o fb e => un.keep b o e fb.1 (fun hm => ?_) (by simp)⟩
      rcases List.mem_cons.mp (I.stkSub b hm) with y | y
      · exact fb.2.1 y
      · exact fb.2.2.1 y
    | next => exact False.elim hq
    | brk => exact False.elim hq
    | cont => exact False.elim hq
theorem sorted_key {p : Addr} {xs : List V} {zs : List Str} {fv : Value} {Q : VK} (I : Inv X pins σ H s) (hp : SqL X.K H p xs) (hlen : zs.length = xs.length) (nd : zs.Nodup) (h64 : xs.length < 64) (hfv : ∃ f, fv = .ref f)
    (turn : ∀ (i : Nat) (v : V) (u : Value) (z : Str), xs[i]? = some v → RelV v u → zs[i]? = some z → ∀ s' : Shared, Inv X pins σ H s' → wpAny (model X.prog X.w) X.A.in1.in1 (call fv [u]) (fun k s'' => (∃ t, k = .str z t) ∧ Inv X pins σ H s'' ∧ ∀ b o, FpOk X pins H b → s'.heap.get? b = some o → s''.heap.get? b = some o) (fun _ _ => False) s')
    (h : ∀ (l : Addr) (ix : List Nat), H l = none → ix.Perm (List.range xs.length) → Rise (ix.map fun i => zs.getD i "") → Q (.ref l) (upd H l (.lst (ix.map fun i => xs.getD i .non)))) :
    wpAny (model X.prog X.w) X.A (call (.builtin "sorted") [.ref p] [(Str.ofString "key", fv)]) (EP X pins σ Q) X.xe s := by
  obtain ⟨f, rfl⟩ := hfv
  obtain ⟨vs, r', pl, hz⟩ := I.list hp
  have hl := r'.length
  refine call_function_entry_kw kind_sorted plain_sorted entry_sorted (ksk_s1 _ _) ?_
  unfold Builtin.«sorted»
  refine wpAny_bind (m := checkCount "sorted" 1 1 _) (wpAny_pure ?_)
  refine wpAny_bind (collect_list pl.isList ?_ (by rw [sizeLine_eq]; omega))
  refine wpAny_bind (wpAny_newList ?_ (by rw [sizeLine_eq]; omega))
  have hsz : ((s.heap.push (seqObj "list" #[] 0)).update s.heap.objs.size (Obj.mapSeq (· ++ vs.toArray))).objs.size = s.heap.objs.size + 1 := by
    rw [Heap.size_update, size_push']
  have hoL : (((s.heap.push (seqObj "list" #[] 0)).update s.heap.objs.size (Obj.mapSeq (· ++ vs.toArray))).push (seqObj "list" vs.toArray 0)).get? (s.heap.objs.size + 1) = some (seqObj "list" vs.toArray 0) := by
    rw [← hsz]; exact Heap.get?_push_size _ rfl
  have keep : ∀ b o, s.heap.get? b = some o → (((s.heap.push (seqObj "list" #[] 0)).update s.heap.objs.size (Obj.mapSeq (· ++ vs.toArray))).push (seqObj "list" vs.toArray 0)).get? b = some o := fun b o q => by
    have hlt : b < s.heap.objs.size := Heap.lt_size q
    rw [Heap.get?_push_ne _ _ _ (by rw [hsz]; exact Nat.ne_of_lt (Nat.lt_succ_of_lt hlt)), Heap.get?_update_ne _ _ _ _ (Nat.ne_of_lt hlt), Heap.get?_push_ne _ _ _ (Nat.ne_of_lt hlt)]
    exact q
  have I2 : Inv X pins σ H { s with heap := ((s.heap.push (seqObj "list" #[] 0)).update s.heap.objs.size (Obj.mapSeq (· ++ vs.toArray))).push (seqObj "list" vs.toArray 0) } := I.kept (t' := s.toks) keep
  have fa : FpOk X pins H (s.heap.objs.size + 1) := I.fpOk (Nat.le_succ _) (I.hok.fresh (Nat.le_succ _))
  have our : Our X pins H (s.heap.objs.size + 1) := ⟨Nat.le_trans I.sz (Nat.le_succ _), fa.2.1, fa.2.2.2.2.1, fa.2.2.2.2.2, fa.1⟩
  show wpAny _ _ _ _ _ { s with heap := ((s.heap.push (seqObj "list" #[] 0)).update s.heap.objs.size (Obj.mapSeq (· ++ vs.toArray))).push (seqObj "list" vs.toArray 0) }
  rw [hsz]
  refine wpAny_bind (wpAny_holding (wpAny_call_entry_kw slot_list_sort ⟨_, hoL, rfl⟩ entry_list_sort ?body (ksk_l1 _ _)))
  case body =>
    show wpAny (model X.prog X.w) X.A.in1.in1 (Builtin.«list.sort» ⟨[.ref (s.heap.objs.size + 1)], [(Str.ofString "key", .ref f)]⟩) _ _ _
    rw [ksk_t1]
    refine list_sort_key (zs := zs) I2 fa hoL (by omega) nd (by omega) (fun i v z hv hzi s' J => ?_) fun p' s3 e pn up J3 g3 => ⟨_, rfl, ?_⟩
    · have hi : i < vs.length := (List.getElem?_eq_some_iff.mp hv).1
      obtain ⟨u, hu, ru⟩ := r'.get (i := i) (x := xs[i]'(by omega)) (by simp)
      rw [hv] at hu
      cases hu
      exact turn i (xs[i]'(by omega)) v z (by simp) ru hzi s' J
    · have hs := pn.size
      have lt : ∀ i ∈ p'.toList, i < vs.length := fun i hi => List.mem_range.mp (pn.mem_iff.mp hi)
      refine wpAny_pure ⟨_, rfl, .ref (s.heap.objs.size + 1), _, J3.track our (o := .lst (p'.toList.map fun i => xs.getD i .non)) ?_, rfl, h _ p'.toList (I.hok.fresh (Nat.le_succ _)) (by rw [hl]; exact pn) ?_⟩
      · refine ⟨by rw [List.length_map, Array.length_toList, hs, ← hl]; exact hz, _, e, ?_, g3⟩
        exact vals_map r' _ fun i hi => by have := lt i hi; omega
      · unfold Rise
        rw [List.pairwise_map, List.pairwise_iff_getElem]
        intro i j hi hj hij
        have hi' : i < p'.size := by simpa using hi
        have hj' : j < p'.size := by simpa using hj
        have h0 := up i j (by omega) (by omega)
        unfold Srt.rz at h0
        rw [decide_eq_false_iff_not, Srt.getD_get hi', Srt.getD_get hj'] at h0
        rw [Array.getElem_toList, Array.getElem_toList]
        exact h0
/-- sorted(e, key=lambda x: body) -/
def tSortK (K : PySem.W.Frag) (q : Str) (params : Arguments) (body : Expr) (scope : Scope) (pm : Value) (te tl tb : TE) : TE := fun σ H Q => te σ H fun y H1 => tl σ H1 fun g H2 => ∃ (p f c' : Addr) (xs : List V) (zs : List Str), y = .ref p ∧ g = .ref f ∧
  H2 f = some (.ext (lamP f q params body scope pm c')) ∧ H2 c' = some (.ext (codeP c' q)) ∧ SqL K H2 p xs ∧ zs.length = xs.length ∧ zs.Nodup ∧ xs.length < 64 ∧
  (∀ (i : Nat) (v : V) (z : Str), xs[i]? = some v → zs[i]? = some z → tb [some v] H2 fun v' H' => v' = .str z ∧ H' = H2) ∧
  ∀ (l : Addr) (ix : List Nat), H2 l = none → ix.Perm (List.range xs.length) → Rise (ix.map fun i => zs.getD i "") → Q (.ref l) (upd H2 l (.lst (ix.map fun i => xs.getD i .non)))
theorem pe_sortedK {e lam : Expr} {te tl tb : TE} {np kpos pos : Pos} (hr : Room (k + 3) X.A) (hg : Gl X "sorted") (hm : X.mg "sorted" = none) (he : PE X e te) (hlam : PE X lam tl) (S : FnScope [x] [x] scope)
    (hb : ∀ (c' : Addr) (ctv u : Value), bindArgs (PySem.W.kla_fn "<lambda>" q params body scope [] pm (.ref c') ctv) ⟨[u], []⟩ = pure [(x, u)])
    (hbody : ∀ (f c' : Addr) (s : Shared) (H : Hp), PE (cxOf CX0 X.prog X.w X.K X.mg X.base [x] q scope f (.ref c') X.A.in1.in1 X.stack s H E0).nox body tb) (hstar : starEach [e] X.env = [(false, eval e X.env)] := by rfl) :
    PE X (.Call (.Name "sorted" np) [e] [⟨some "key", lam, kpos⟩] pos) (tSortK X.K q params body scope pm te tl tb) := by
  intro pins s σ H Q I h
  refine wpAny_Call_Name_kw (ld_blt I hg hm (show bootBuiltins "sorted" = some (.builtin "sorted") by decide +kernel) ?_ (by decide) (by decide))
  refine callWith_kw (e := e) (rest := []) (kws := [⟨some "key", lam, kpos⟩]) ?_ (by rw [hstar]; rfl) (by rw [hstar]; rfl)
  rw [hstar]
  show wpAny _ _ (spliced [(false, eval e X.env)]) _ _ s
  refine Calls.spliced_cons (thn (he pins s σ H _ I h) fun u s1 ⟨y, H1, I1, ry, q1⟩ => Calls.spliced_nil ?_)
  show wpAny _ _ (evalAll [(do let v ← eval lam X.env; standAt pos; pure v)]) _ _ s1
  refine wpAny_evalAll_cons (wpAny_bind (thn (hlam pins s1 σ H1 _ I1 q1) fun gv s2 ⟨g, H2, I2, rg, q2⟩ => wpAny_bind (wpAny_standAt (wpAny_pure (wpAny_evalAll_nil ?_)))))
  obtain ⟨p, f, c', xs, zs, rfl, rfl, hf, hc, hp, hlen, nd, h64, ht, hq⟩ := q2
  cases ry
  cases rg
  have hr1 : Room (k + 1) X.A.in1.in1 := hr.in1.in1
  exact sorted_key I2 hp hlen nd h64 ⟨f, rfl⟩ (fun i v u z hv ru hz s' J => lam_turn J J.env0.in1.in1 hr1 hf hc S (hb c') (hbody f c' s' H2) ru (ht i v z hv hz)) hq
end
end L2

namespace L2
open PySem PySem.Spec PyProof.Rows
/-- a def whose code object is known -/
structure FunC (K : PySem.W.Frag) (x qual : Str) (st : Stmt) (f : Addr) (fd : FuncData) (c : Addr) : Prop where
  ex : ∃ (oc : Value) (od : Option Addr) (kV doc pm : Value) (an : Option Addr) (ct : Value) (osl : Array (Option Value)),
    fd = PySem.W.fnOf x qual (defArgs st) (defBody st) (defScope st) .none kV doc pm an (.ref c) ct ∧ K.lookup f = some ⟨oc, od, .func fd, osl⟩ ∧ PySem.W.codeIn K (.ref c) qual = true
  kp : PySem.W.keepIn K (.ref f) = true
section
variable {P : Program} {w : World} {K : PySem.W.Frag} {mg : Str → Option Value} {base : Heap}
theorem FunC.fn {x qual : Str} {st : Stmt} {f c : Addr} {fd : FuncData} (F : FunC K x qual st f fd c) : Fun K x qual st f fd := by
  obtain ⟨⟨oc, od, kV, doc, pm, an, ct, osl, h1, h2, h3⟩, kp⟩ := F
  exact ⟨⟨oc, od, kV, doc, pm, an, .ref c, ct, osl, h1, h2, h3⟩, kp⟩
theorem FunC.ok {x qual : Str} {st : Stmt} {f c : Addr} {fd : FuncData} {N ps : List Str} {k : Nat} {sp : Sp} (F : FunC K x qual st f fd c) (S : FnScope N ps (defScope st)) (len : ∀ vs H Q E, sp vs H Q E → vs.length = ps.length)
    (hbody : ∀ (A : Around) (outer : List Env) (s : Shared) (H : Hp) (vs : List V) (Q : VK) (E : XK), Room k (A.deeper (envOfC qual (defScope st) s.heap.objs.size f (.ref c))) → sp vs H Q E →
      ∃ t, PSs (cxOf CX0 P w K mg base N qual (defScope st) f (.ref c) A outer s H E).nox (defBody st) t ∧ t { nx := fun _ H' => Q .non H', rt := Q } (start N vs) H) : FnOk P w K mg base CX0 (k + 1) f fd ps sp := by
  obtain ⟨oc, od, kV, doc, pm, an, ct, osl, rfl, lk, hcd⟩ := F.ex
  refine fn_of lk hcd S len fun A outer s H vs Q E hr hsp => ?_
  obtain ⟨t, h, q⟩ := hbody A outer s H vs Q E hr hsp
  exact ⟨t, h.nox, q⟩
end
theorem pg_tupK {X : Cx} {K : PySem.W.Frag} {es : List Expr} {k : Nat} {pos : Pos} {t : TGs} {n : Nat} (hK : X.K = K) (hc : X.calm = true) (h : PGs X es t)
    (hn : (assignEach es X.env).length = n := by rfl) (hst : (assignEach es X.env).findIdx? (·.1) = none := by rfl) : PG X (.Tuple es k pos) (gTup K n t) := by
  subst hK
  exact pg_tup hc h hn hst
def notT : HO → Bool
  | .tbl _ => false
  | _ => true
/-- all that is tracked is as it was, tables of code objects aside -/
def Sb (H H' : Hp) : Prop := ∀ a o, notT o = true → H a = some o → H' a = some o
theorem Sb.trans {H H1 H2 : Hp} (a : Sb H H1) (b : Sb H1 H2) : Sb H H2 := fun x o n e => b x o n (a x o n e)
theorem Same.sb {H H' : Hp} (s : Same H H') : Sb H H' := fun a o _ e => s a o e
end L2
namespace My
open PySem L2 PyProof.Rows
mutual
theorem Rep.sb {H H' : Hp} (e : Sb H H') : ∀ {d : Dt} {v : V}, Rep H d v → Rep H' d v
  | .non, v, h => by unfold Rep at h ⊢; exact h
  | .bl b, v, h => by unfold Rep at h ⊢; exact h
  | .int i, v, h => by unfold Rep at h ⊢; exact h
  | .str z, v, h => by unfold Rep at h ⊢; exact h
  | .tup ds, v, h => by
    unfold Rep at h ⊢
    obtain ⟨a, xs, h1, h2, h3⟩ := h
    exact ⟨a, xs, h1, e _ _ rfl h2, Reps.sb e h3⟩
  | .lst ds, v, h => by
    unfold Rep at h ⊢
    obtain ⟨a, xs, h1, h2, h3⟩ := h
    exact ⟨a, xs, h1, e _ _ rfl h2, Reps.sb e h3⟩
  | .dct, v, h => by
    unfold Rep at h ⊢
    obtain ⟨a, xs, h1, h2⟩ := h
    exact ⟨a, xs, h1, e _ _ rfl h2⟩
theorem Reps.sb {H H' : Hp} (e : Sb H H') : ∀ {ds : List Dt} {vs : List V}, Reps H ds vs → Reps H' ds vs
  | [], vs, h => by unfold Reps at h ⊢; exact h
  | d :: ds, vs, h => by
    unfold Reps at h ⊢
    obtain ⟨v, ws, h1, h2, h3⟩ := h
    exact ⟨v, ws, h1, Rep.sb e h2, Reps.sb e h3⟩
end
theorem ColsOk.sb {H H' : Hp} {cols : List (Str × V)} (h : ColsOk H cols) (e : Sb H H') : ColsOk H' cols := ⟨h.1, h.2.1, fun p hp => ⟨(h.2.2 p hp).1, let ⟨d, h1, h2⟩ := (h.2.2 p hp).2; ⟨d, Rep.sb e h1, h2⟩⟩⟩
theorem ColsAt.sb {H H' : Hp} {t : Addr} {cols : List (Str × V)} (h : ColsAt H t cols) (e : Sb H H') : ColsAt H' t cols := by
  obtain ⟨o, ps, zs, h1, h2, h3, h4, h5, h6⟩ := h
  exact ⟨o, ps, zs, h1, h2, h3, e _ _ rfl h4, h5, fun j p z a b => e _ _ rfl (h6 j p z a b)⟩
theorem EntAt.sb {H H' : Hp} {e : Addr} {T : Tb} (h : EntAt H e T) (s : Sb H H') : EntAt H' e T := by
  obtain ⟨ct, h1, h2⟩ := h
  exact ⟨ct, s _ _ rfl h1, h2.sb s⟩
theorem FormAt.sb {H H' : Hp} {f : Addr} {sz : Int} {Ts : List Tb} (h : FormAt H f sz Ts) (s : Sb H H') : FormAt H' f sz Ts := by
  obtain ⟨tt, es, h1, h2, h3, h4⟩ := h
  exact ⟨tt, es, s _ _ rfl h1, s _ _ rfl h2, h3, fun j e T a b => (h4 j e T a b).sb s⟩
/-- a table of code objects: empty, or with the one lambda -/
def TabOk (P : Addr) (pos : Pos) (q : Str) (H : Hp) : Prop := H P = some (.tbl #[]) ∨ ∃ c', H P = some (.tbl #[rawInt pos.line, rawInt pos.col, .ref c']) ∧ H c' = some (.ext (codeP c' q))
theorem TabOk.same {P : Addr} {pos : Pos} {q : Str} {H H' : Hp} (h : TabOk P pos q H) (s : Same H H') : TabOk P pos q H' := by
  rcases h with h | ⟨c', h1, h2⟩
  · exact .inl (s _ _ h)
  · exact .inr ⟨c', s _ _ h1, s _ _ h2⟩
/-- a lambda made: the table is well, all else is as it was -/
theorem lam_made {P : Addr} {pos : Pos} {q : Str} {params : Arguments} {body : Expr} {scope : Scope} {pm : Value} {σ : L2.St} {H : Hp} {Q : VK} (h : TabOk P pos q H)
    (hq : ∀ f c' H', Sb H H' → (∀ a, a ≠ P → H a ≠ none → H' a = H a) → TabOk P pos q H' → H' f = some (.ext (lamP f q params body scope pm c')) → H' c' = some (.ext (codeP c' q)) → Q (.ref f) H') : tLam P pos q params body scope pm σ H Q := by
  rcases h with h | ⟨c', h1, h2⟩
  · refine ⟨#[], h, trivial, .inl ⟨rfl, fun c' f n1 n2 n3 n4 n5 => ?_⟩⟩
    have fr : ∀ a, a ≠ P → H a ≠ none → (L2.upd (L2.upd (L2.upd H P (.tbl (#[] ++ #[rawInt pos.line, rawInt pos.col, .ref c']))) c' (.ext (codeP c' q))) f (.ext (lamP f q params body scope pm c'))) a = H a := fun a n n0 => by
      rw [upd_ne (fun e => n0 (by rw [e]; exact n2)), upd_ne (fun e => n0 (by rw [e]; exact n1)), upd_ne n]
    refine hq f c' _ (fun a o n e => ?_) fr ?_ upd_same (by rw [upd_ne n3]; exact upd_same)
    · rw [fr a (fun e' => by rw [e', h] at e; cases e; cases n) (by rw [e]; simp)]
      exact e
    · refine .inr ⟨c', ?_, by rw [upd_ne n3]; exact upd_same⟩
      rw [upd_ne (Ne.symm n5), upd_ne (Ne.symm n4)]
      exact upd_same
  · refine ⟨_, h1, trivial, .inr ⟨c', by simp [codeAmong, rawInt], fun f n => ?_⟩⟩
    have S := Same.upd (o := .ext (lamP f q params body scope pm c')) n
    exact hq f c' _ S.sb (fun a _ n0 => upd_ne fun e => n0 (by rw [e]; exact n)) (.inr ⟨c', S _ _ h1, S _ _ h2⟩) upd_same (S _ _ h2)
end My

namespace My
open PySem L2 PyProof.Rows
seal L2.PE L2.PT L2.PW L2.PS L2.PSs L2.PA L2.PI L2.PG L2.PGs L2.OpR L2.UnR L2.CallR L2.IxR L2.SlR L2.MtR L2.PIf L2.PO L2.MtM L2.PC L2.PIp L2.PSet L2.PGet L2.TruR L2.InOp L2.PK
def PartAt (H : Hp) (e d : Addr) (T : Tb) : Prop := H e = some (.tup [.str T.name, .str T.sort, .ref d]) ∧ H d = some (.dK (kvC T.cols)) ∧ ColsOk H T.cols
def PartsAt (H : Hp) (l : Addr) (es ds : List Addr) (Ts : List Tb) : Prop := H l = some (.lst (es.map V.ref)) ∧ es.length = Ts.length ∧ ds.length = Ts.length ∧ ∀ (j : Nat) (e d : Addr) (T : Tb), es[j]? = some e → ds[j]? = some d → Ts[j]? = some T → PartAt H e d T
theorem PartAt.sb {H H' : Hp} {e d : Addr} {T : Tb} (h : PartAt H e d T) (s : Sb H H') : PartAt H' e d T := ⟨s _ _ rfl h.1, s _ _ rfl h.2.1, h.2.2.sb s⟩
theorem PartsAt.sb {H H' : Hp} {l : Addr} {es ds : List Addr} {Ts : List Tb} (h : PartsAt H l es ds Ts) (s : Sb H H') : PartsAt H' l es ds Ts := ⟨s _ _ rfl h.1, h.2.1, h.2.2.1, fun j e d T a b c => (h.2.2.2 j e d T a b c).sb s⟩
def TsOk (T0 : Tb) (R : List Tb) : Prop := R.length ≤ 7 ∧ ((T0 :: R).map (·.name)).Nodup ∧ (∀ T ∈ T0 :: R, nameS T.name = true) ∧ T0.sort = "head" ∧ ∀ T ∈ R, T.sort ∈ sides
/-- as it was, but at P -/
def Fr (P : Addr) (H H' : Hp) : Prop := ∀ a o, a ≠ P → H a = some o → H' a = some o
/-- the lambda within a statement `x = sorted(.., key=lambda ..)` -/
def keyOf : Stmt → Expr
  | .Assign _ (.Call _ _ [⟨_, e, _⟩] _) _ => e
  | _ => .Constant .none 0 ⟨0, 0, 0, 0⟩
def lamPos : Expr → Pos
  | .Lambda _ _ _ p => p
  | _ => ⟨0, 0, 0, 0⟩
def foLam : Expr := keyOf ((defBody (top 17)).getD 4 (.Pass ⟨0, 0, 0, 0⟩))
def lamArgs : Expr → Arguments
  | .Lambda a _ _ _ => a
  | _ => defArgs (top 17)
def lamBody : Expr → Expr
  | .Lambda _ b _ _ => b
  | e => e
def lamScope : Expr → Scope
  | .Lambda _ _ s _ => s
  | _ => defScope (top 17)
def foPos : Pos := lamPos foLam
def foQ : Str := "form_of.<locals>.<lambda>"
def spForm (PF : Addr) : Sp := fun vs H Q _ => ∃ (l : Addr) (sz : Int) (es ds : List Addr) (T0 : Tb) (R : List Tb), vs = [.int sz, .ref l] ∧ 1 ≤ sz ∧ PartsAt H l es ds (T0 :: R) ∧ TsOk T0 R ∧ TabOk PF foPos foQ H ∧
  ∀ (f : Addr) (H' : Hp) (R' : List Tb), Sb H H' → Fr PF H H' → TabOk PF foPos foQ H' → R'.Perm R → Rise (R'.map (·.name)) → FormAt H' f sz (T0 :: R') → Q (.ref f) H'
/-- nothing of a tuple stands there -/
def NotTup (o : Option HO) : Prop := (∀ xs, o ≠ some (.tup xs)) ∧ ∀ ob xs, o ≠ some (.frz ob (.tup xs))
theorem NotTup.lst {H : Hp} {D : Addr} {ys : List V} (e : H D = some (.lst ys)) : NotTup (H D) := by rw [e]; exact ⟨(fun _ h => by cases h), (fun _ _ h => by cases h)⟩
theorem ColsAt.beside {H : Hp} {D t : Addr} {u : HO} {cols : List (Str × V)} (n : NotTup (H D)) (h : ColsAt H t cols) : ColsAt (L2.upd H D u) t cols := by
  obtain ⟨o, ps, zs, h1, h2, h3, h4, h5, h6⟩ := h
  refine ⟨o, ps, zs, h1, h2, h3, ?_, h5, fun j p z a b => ?_⟩
  · rw [upd_ne (fun e => n.2 _ _ (by rw [← e]; exact h4))]; exact h4
  · have := h6 j p z a b
    rw [upd_ne (fun e => n.1 _ (by rw [← e]; exact this))]; exact this
theorem EntAt.beside {H : Hp} {D e : Addr} {u : HO} {T : Tb} (n : NotTup (H D)) (h : EntAt H e T) : EntAt (L2.upd H D u) e T := by
  obtain ⟨ct, h1, h2⟩ := h
  exact ⟨ct, by rw [upd_ne (fun e => n.1 _ (by rw [← e]; exact h1))]; exact h1, h2.beside n⟩
section
variable {P : Program} {w : World} {K : PySem.W.Frag} {mg : Str → Option Value} {base : Heap}
theorem ok_form {f c PF fW fS fN fC : Addr} {fd fdW fdS fdN fdC : FuncData} (F : FunC K "form_of" "form_of" (top 17) f fd c) (B : Bl mg) (hC : PySem.W.codeHdIn K c PF = true) (hB : L2.BMain base mg)
    (DW : Df K mg "is_whole" (top 9) fW fdW) (GW : FnOk P w K mg base CX0 1 fW fdW ["thing"] (spWhole K)) (DS : Df K mg "ask_sorts" (top 18) fS fdS) (GS : FnOk P w K mg base CX0 1 fS fdS ["sorts"] spAskS) (DN : Df K mg "ask_names" (top 19) fN fdN) (GN : FnOk P w K mg base CX0 2 fN fdN ["names"] spAskN)
    (DC : Df K mg "columns_made" (top 20) fC fdC) (GC : FnOk P w K mg base CX0 5 fC fdC ["columns"] spColM) : FnOk P w K mg base CX0 6 f fd ["size", "tables"] (spForm PF) := by
  have sc : FnScope ["size", "tables", "made", "sides"] ["size", "tables"] (defScope (top 17)) := ⟨rfl, rfl, rfl, by decide +kernel, rfl, by decide +kernel, by decide +kernel⟩
  have bW := DW.fn.binds (ps := ["thing"]) fun _ _ _ _ _ _ us hl => by obtain ⟨v0, rfl⟩ := L2.ln1 hl; rfl
  have bS := DS.fn.binds (ps := ["sorts"]) fun _ _ _ _ _ _ us hl => by obtain ⟨v0, rfl⟩ := L2.ln1 hl; rfl
  have bN := DN.fn.binds (ps := ["names"]) fun _ _ _ _ _ _ us hl => by obtain ⟨v0, rfl⟩ := L2.ln1 hl; rfl
  have bC := DC.fn.binds (ps := ["columns"]) fun _ _ _ _ _ _ us hl => by obtain ⟨v0, rfl⟩ := L2.ln1 hl; rfl
  refine F.ok sc (fun vs H Q E h => ?_) (fun A outer s H vs Q E hr h => ?_)
  · obtain ⟨l, sz, es, ds, T0, R, rfl, _⟩ := h
    rfl
  · obtain ⟨l, sz, es, ds, T0, R, rfl, sz1, hP, hT, hTab, q⟩ := h
    have hr1 : Room 1 _ := hr.mono (by decide)
    have hr2 : Room 2 _ := hr.mono (by decide)
    refine ⟨_, pss_cons (ps_if (PW.pt (pw_or (pt_not (pt_val (pe_call GW hr1 (by rfl) DW.mg DW.fn.kp bW .nil pass0 (pa_cons (pv 0) pa_nil)))) (pw_or1 (pt_cmpR op_lt (pv 0) pe_int (nomark _))))) pss_never pss_nil)
      (pss_cons (ps_expr (pe_call GS hr1 (by rfl) DS.mg DS.fn.kp bS .nil pass0 (pa_cons (pe_comp (osc := defScope (top 17)) (N0 := ["size", "tables", "made", "sides"]) (xs := ["name", "sort", "columns"]) (fr := []) ⟨rfl, by decide +kernel, by decide +kernel, by decide +kernel, by decide, by decide +kernel⟩ rfl rfl rfl (pi_list (pv 1))
          (fun s H fp => pg_tupK (K := K) (n := 3) rfl rfl (pgs_cons (pg_name (i := 0) (show (["name", "sort", "columns"] : List Str).Nodup by decide +kernel) rfl (Or.inl rfl)) (pgs_cons (pg_name (i := 1) (show (["name", "sort", "columns"] : List Str).Nodup by decide +kernel) rfl (Or.inl rfl)) (pgs_cons (pg_name (i := 2) (show (["name", "sort", "columns"] : List Str).Nodup by decide +kernel) rfl (Or.inl rfl)) pgs_nil)))) (fun s H fp => pif_nil)
          (fun s H fp => pv 1)) pa_nil)))
      (pss_cons (ps_expr (pe_call GN hr2 (by rfl) DN.mg DN.fn.kp bN .nil pass0 (pa_cons (pe_comp (osc := defScope (top 17)) (N0 := ["size", "tables", "made", "sides"]) (xs := ["name", "sort", "columns"]) (fr := []) ⟨rfl, by decide +kernel, by decide +kernel, by decide +kernel, by decide, by decide +kernel⟩ rfl rfl rfl (pi_list (pv 1))
          (fun s H fp => pg_tupK (K := K) (n := 3) rfl rfl (pgs_cons (pg_name (i := 0) (show (["name", "sort", "columns"] : List Str).Nodup by decide +kernel) rfl (Or.inl rfl)) (pgs_cons (pg_name (i := 1) (show (["name", "sort", "columns"] : List Str).Nodup by decide +kernel) rfl (Or.inl rfl)) (pgs_cons (pg_name (i := 2) (show (["name", "sort", "columns"] : List Str).Nodup by decide +kernel) rfl (Or.inl rfl)) pgs_nil)))) (fun s H fp => pif_nil)
          (fun s H fp => pv 0)) pa_nil)))
      (pss_cons (ps_comp (i := 2) (osc := defScope (top 17)) (N0 := ["size", "tables", "made", "sides"]) (xs := ["name", "sort", "columns"]) (fr := []) ⟨rfl, by decide +kernel, by decide +kernel, by decide +kernel, by decide, by decide +kernel⟩ rfl rfl rfl (pi_list (pv 1))
          (fun s H fp => pg_tupK (K := K) (n := 3) rfl rfl (pgs_cons (pg_name (i := 0) (show (["name", "sort", "columns"] : List Str).Nodup by decide +kernel) rfl (Or.inl rfl)) (pgs_cons (pg_name (i := 1) (show (["name", "sort", "columns"] : List Str).Nodup by decide +kernel) rfl (Or.inl rfl)) (pgs_cons (pg_name (i := 2) (show (["name", "sort", "columns"] : List Str).Nodup by decide +kernel) rfl (Or.inl rfl)) pgs_nil)))) (fun s H fp => pif_nil)
          (fun s H fp => pe_tup (pa_cons (pv 0) (pa_cons (pv 1) (pa_cons (pe_call GC hr (by rfl) DC.mg DC.fn.kp bC .nil pass0 (pa_cons (pv 2) pa_nil)) pa_nil)))) sc.nd rfl (Or.inl rfl))
      (pss_cons (ps_set (i := 3) sc.nd rfl (Or.inl rfl) (pe_sortedK (k := 2) (x := "table") (q := foQ) (params := lamArgs foLam) (body := lamBody foLam) (scope := lamScope foLam) (pm := (mg "__name__").getD .none) (tb := tOp (rIxT K) (tVar 0) (tC (.int 0))) hr (by rfl) B.sorted (pe_slice sl_list (pv 2) (po_some pe_int) po_none) (pe_lam rfl hC hB) ⟨rfl, rfl, rfl, by decide +kernel, rfl, by decide +kernel, by decide +kernel⟩ (fun _ _ _ => rfl) (fun f c' s H => pe_ix (r := rIxT K) ix_tup (pv 0) pe_int (fun _ _ => rfl))))
      (pss_one (ps_ret (pe_tup (pa_cons (pv 0) (pa_cons (pe_callTy call_tuple_of (by rfl) B.tuple boot_tuple (pa_cons (pe_op op_cat (pe_slice sl_list (pv 2) po_none (po_some pe_int)) (pv 3)) pa_nil)) pa_nil)))))))))
      , ?_⟩
    obtain ⟨Ts, eTs⟩ : ∃ Ts, Ts = T0 :: R := ⟨_, rfl⟩
    rw [← eTs] at hP
    obtain ⟨r7, ndn, hnm, hhd, hsd⟩ := hT
    rw [← eTs] at ndn hnm
    have tl : Ts.length = R.length + 1 := by rw [eTs]; rfl
    have e1l := hP.2.1
    have e2l := hP.2.2.1
    refine ⟨_, rfl, .int sz, "int", rfl, Is.int, _, rfl, iteC (by decide) ?_⟩
    refine ⟨_, rfl, _, _, rfl, rfl, _, rfl, iteC (decide_eq_false (by omega)) ?_⟩
    obtain ⟨HX, eHX⟩ : ∃ HX, HX = H := ⟨_, rfl⟩
    have SX : Same H HX := by rw [eHX]; exact Same.refl H
    rw [← eHX]
    refine ⟨_, rfl, l, rfl, ⟨_, SqL.of (SX _ _ hP.1)⟩, fun D2 hD2 => ?_⟩
    refine compW_map Ts.length (fun i => .str ((Ts.map (·.sort)).getD i "")) (fun i σ' Hc => (∃ t0 t1 t2, σ' = [t0, t1, t2]) ∧ Same HX Hc) (by rw [sizeLine_eq]; omega) ⟨⟨_, _, _, rfl⟩, Same.upd hD2⟩ upd_same ?_ ?_
    · rintro i σ' Hc hi ⟨⟨t0, t1, t2, rfl⟩, sm⟩ hD'
      have hie : i < es.length := by omega
      have hid : i < ds.length := by omega
      have sc := SX.trans sm
      have pt := hP.2.2.2 i es[i] ds[i] Ts[i] (List.getElem?_eq_getElem hie) (List.getElem?_eq_getElem hid) (List.getElem?_eq_getElem hi)
      refine ⟨⟨_, V.ref es[i], SqL.of (sc _ _ hP.1), by rw [List.getElem?_map, List.getElem?_eq_getElem hie]; rfl⟩, ?_⟩
      rintro x H' ⟨rfl, hx'⟩
      have ex := hx' _ (SqL.of (sc _ _ hP.1))
      rw [List.getElem?_map, List.getElem?_eq_getElem hie] at ex
      cases ex
      refine ⟨_, _, rfl, SqT.of (sc _ _ pt.1), rfl, _, _, rfl, _, _, rfl, _, _, rfl, rfl, _, rfl, ?_, hD', ⟨_, _, _, rfl⟩, sm.put hD2⟩
      rw [List.getD_eq_getElem?_getD, List.getElem?_map, List.getElem?_eq_getElem hi]
      rfl
    rintro σ2 H2 ⟨_, sm2⟩ hDn2
    refine ⟨⟨_, SqL.of ((SX.trans sm2) _ _ hP.1), by rw [List.length_map]; omega⟩, ?_⟩
    rw [show (List.range Ts.length).map (fun i => V.str ((Ts.map (·.sort)).getD i "")) = (Ts.map (·.sort)).map V.str from by
      have := range_map_getD (Ts.map (·.sort)) ("" : Str) (fun z => V.str z)
      rw [List.length_map] at this
      exact this] at hDn2
    refine ⟨D2, R.map (·.sort), rfl, by rw [hDn2, eTs, List.map_cons, hhd], (fun z hz => ?_), fun H3 s3 => ?_⟩
    · obtain ⟨T, hT', rfl⟩ := List.mem_map.mp hz
      exact hsd T hT'
    have S3 : Same H H3 := (SX.trans sm2).trans s3
    clear SX eHX hD2 sm2 hDn2 s3
    clear H2
    obtain ⟨HX, eHX⟩ : ∃ HX, HX = H3 := ⟨_, rfl⟩
    have SX : Same H HX := by rw [eHX]; exact S3
    rw [← eHX]
    refine ⟨_, rfl, l, rfl, ⟨_, SqL.of (SX _ _ hP.1)⟩, fun D4 hD4 => ?_⟩
    refine compW_map Ts.length (fun i => .str ((Ts.map (·.name)).getD i "")) (fun i σ' Hc => (∃ t0 t1 t2, σ' = [t0, t1, t2]) ∧ Same HX Hc) (by rw [sizeLine_eq]; omega) ⟨⟨_, _, _, rfl⟩, Same.upd hD4⟩ upd_same ?_ ?_
    · rintro i σ' Hc hi ⟨⟨t0, t1, t2, rfl⟩, sm⟩ hD'
      have hie : i < es.length := by omega
      have hid : i < ds.length := by omega
      have sc := SX.trans sm
      have pt := hP.2.2.2 i es[i] ds[i] Ts[i] (List.getElem?_eq_getElem hie) (List.getElem?_eq_getElem hid) (List.getElem?_eq_getElem hi)
      refine ⟨⟨_, V.ref es[i], SqL.of (sc _ _ hP.1), by rw [List.getElem?_map, List.getElem?_eq_getElem hie]; rfl⟩, ?_⟩
      rintro x H' ⟨rfl, hx'⟩
      have ex := hx' _ (SqL.of (sc _ _ hP.1))
      rw [List.getElem?_map, List.getElem?_eq_getElem hie] at ex
      cases ex
      refine ⟨_, _, rfl, SqT.of (sc _ _ pt.1), rfl, _, _, rfl, _, _, rfl, _, _, rfl, rfl, _, rfl, ?_, hD', ⟨_, _, _, rfl⟩, sm.put hD4⟩
      rw [List.getD_eq_getElem?_getD, List.getElem?_map, List.getElem?_eq_getElem hi]
      rfl
    rintro σ4 H4 ⟨_, sm4⟩ hDn4
    refine ⟨⟨_, SqL.of ((SX.trans sm4) _ _ hP.1), by rw [List.length_map]; omega⟩, ?_⟩
    rw [show (List.range Ts.length).map (fun i => V.str ((Ts.map (·.name)).getD i "")) = (Ts.map (·.name)).map V.str from by
      have := range_map_getD (Ts.map (·.name)) ("" : Str) (fun z => V.str z)
      rw [List.length_map] at this
      exact this] at hDn4
    refine ⟨D4, Ts.map (·.name), rfl, hDn4, ndn, (fun z hz => ?_), fun H5 s5 => ?_⟩
    · obtain ⟨T, hT', rfl⟩ := List.mem_map.mp hz
      exact hnm T hT'
    have S5 : Same H H5 := (SX.trans sm4).trans s5
    refine ⟨_, rfl, l, rfl, ⟨_, SqL.of (S5 _ _ hP.1)⟩, fun D6 hD6 => ?_⟩
    have hD60 : H D6 = none := by
      cases e : H D6 with
      | none => rfl
      | some o => rw [S5 _ _ e] at hD6; cases hD6
    refine compW_idx Ts.length (fun i ys σ' Hc => (∃ t0 t1 t2, σ' = [t0, t1, t2]) ∧ Same H Hc ∧ ∃ es' : List Addr, ys = es'.map V.ref ∧ ∀ (j : Nat) (e : Addr) (T : Tb), es'[j]? = some e → Ts[j]? = some T → EntAt Hc e T) (by rw [sizeLine_eq]; omega) ⟨⟨_, _, _, rfl⟩, S5.trans (Same.upd hD6), [], rfl, fun j e T h => nomatch h⟩ upd_same ?_ ?_
    · rintro i σ' Hc ys hi ⟨⟨t0, t1, t2, rfl⟩, sm, es', rfl, hes⟩ hyl hD'
      rw [List.length_map] at hyl
      have hie : i < es.length := by omega
      have hid : i < ds.length := by omega
      have pt := hP.2.2.2 i es[i] ds[i] Ts[i] (List.getElem?_eq_getElem hie) (List.getElem?_eq_getElem hid) (List.getElem?_eq_getElem hi)
      refine ⟨⟨_, V.ref es[i], SqL.of (sm _ _ hP.1), by rw [List.getElem?_map, List.getElem?_eq_getElem hie]; rfl⟩, ?_⟩
      rintro x H' ⟨rfl, hx'⟩
      have ex := hx' _ (SqL.of (sm _ _ hP.1))
      rw [List.getElem?_map, List.getElem?_eq_getElem hie] at ex
      cases ex
      refine ⟨_, _, rfl, SqT.of (sm _ _ pt.1), rfl, _, _, rfl, _, _, rfl, _, _, rfl, rfl, ?_⟩
      refine ⟨_, rfl, _, rfl, _, rfl, ds[i], Ts[i].cols, rfl, sm _ _ pt.2.1, pt.2.2.sb sm.sb, fun t H7 s7 hct => ?_⟩
      refine ⟨(by show 3 ≤ sizeLine; decide), fun p hp => ?_⟩
      have T := Same.upd (o := .tup [.str Ts[i].name, .str Ts[i].sort, .ref t]) hp
      have nD : NotTup ((L2.upd H7 p (.tup [.str Ts[i].name, .str Ts[i].sort, .ref t])) D6) := NotTup.lst (T _ _ (s7 _ _ hD'))
      refine ⟨T _ _ (s7 _ _ hD'), ⟨_, _, _, rfl⟩, ((sm.trans s7).trans T).put hD60, es' ++ [p], by rw [List.map_append]; rfl, fun j e T' h1 h2 => ?_⟩
      by_cases hj : j < es'.length
      · rw [List.getElem?_append_left hj] at h1
        exact ((hes j e T' h1 h2).same (s7.trans T)).beside nD
      · have hj' : j = es'.length := by
          have := (List.getElem?_eq_some_iff.mp h1).1
          rw [List.length_append] at this
          simp at this
          omega
        subst hj'
        rw [List.getElem?_append_right (Nat.le_refl _), Nat.sub_self] at h1
        cases h1
        rw [hyl, List.getElem?_eq_getElem hi] at h2
        cases h2
        exact EntAt.beside nD ⟨t, upd_same, hct.same T⟩
    rintro σ6 H6 ys ⟨_, S6, es', rfl, hes⟩ hD6n hyl
    rw [List.length_map] at hyl
    refine ⟨⟨_, SqL.of (S6 _ _ hP.1), by rw [List.length_map]; omega⟩, ?_⟩
    -- sorted
    refine ⟨_, rfl, _, rfl, D6, _, rfl, SqL.of hD6n, fun p7 e7 => ?_⟩
    rw [cut_from (by decide) (by rw [List.length_map]; omega), ← List.map_drop]
    have T7 := Same.upd (o := .lst ((es'.drop (1 : Int).toNat).map V.ref)) e7
    have S7 := S6.trans T7
    refine lam_made (hTab.same S7) fun lf c' H8 sb8 fr8 tab8 hlf hc8 => ?_
    have hPF : ∀ o, H PF = some o → ∃ ps, o = .tbl ps := fun o e => by
      rcases hTab with h | ⟨c'', h, _⟩
      · rw [h] at e; cases e; exact ⟨_, rfl⟩
      · rw [h] at e; cases e; exact ⟨_, rfl⟩
    have SB8 := S7.sb.trans sb8
    have FR8 : Fr PF H H8 := fun b o nb e => by
      have := S7 _ _ e
      rw [fr8 b nb (by rw [this]; simp)]
      exact this
    have hes8 : ∀ (j : Nat) (e : Addr) (T : Tb), es'[j]? = some e → Ts[j]? = some T → EntAt H8 e T := fun j e T a b => ((hes j e T a b).same T7).sb sb8
    refine ⟨p7, lf, c', _, R.map (·.name), rfl, rfl, hlf, hc8, SqL.of (sb8 _ _ rfl upd_same), ?_, ?_, ?_, (fun i v z h1 h2 => ?_), fun l9 ix n9 hix hri => ?_⟩
    · rw [List.length_map, List.length_map, List.length_drop]
      show R.length = es'.length - 1
      omega
    · rw [eTs, List.map_cons] at ndn
      exact (List.nodup_cons.mp ndn).2
    · rw [List.length_map, List.length_drop]
      show es'.length - 1 < 64
      omega
    · have h1' : (es'.drop 1)[i]?.map V.ref = some v := by rw [← List.getElem?_map]; exact h1
      rw [List.getElem?_drop] at h1'
      obtain ⟨e, he, rfl⟩ := Option.map_eq_some_iff.mp h1'
      rw [List.getElem?_map] at h2
      obtain ⟨T, hT', rfl⟩ := Option.map_eq_some_iff.mp h2
      obtain ⟨ct, g1, _⟩ := hes8 (1 + i) e T he (by rw [eTs, Nat.add_comm, List.getElem?_cons_succ]; exact hT')
      exact ⟨_, rfl, _, _, 0, _, rfl, rfl, SqT.of g1, rfl, rfl, rfl⟩
    rw [List.length_map, List.length_drop] at hix
    have hix' : ix.Perm (List.range R.length) := by
      have : es'.length - (1 : Int).toNat = R.length := by
        show es'.length - 1 = R.length
        omega
      rw [this] at hix
      exact hix
    have ixlt : ∀ i ∈ ix, i < R.length := fun i hi => List.mem_range.mp (hix'.mem_iff.mp hi)
    have elst : (ix.map fun i => ((es'.drop (1 : Int).toNat).map V.ref).getD i .non) = (ix.map fun i => (es'.drop 1).getD i 0).map V.ref := by
      rw [List.map_map]
      refine List.map_congr_left fun i hi => ?_
      have hl : i < (es'.drop 1).length := by
        rw [List.length_drop]
        have := ixlt i hi
        omega
      show (((es'.drop 1).map V.ref).getD i .non) = V.ref ((es'.drop 1).getD i 0)
      rw [List.getD_eq_getElem?_getD, List.getD_eq_getElem?_getD, List.getElem?_map, List.getElem?_eq_getElem hl]
      rfl
    rw [elst]
    have T9 := Same.upd (o := .lst ((ix.map fun i => (es'.drop 1).getD i 0).map V.ref)) n9
    have hD9 := T9 _ _ (sb8 _ _ rfl (T7 _ _ hD6n))
    have ixl : ix.length = R.length := by rw [hix'.length_eq, List.length_range]
    have he0 : 0 < es'.length := by omega
    have etk : es'.take (1 : Int).toNat = [es'[0]] := by
      show es'.take 1 = [es'[0]]
      cases es' with
      | nil => simp at he0
      | cons a r => rfl
    refine ⟨_, rfl, _, rfl, _, rfl, D6, _, rfl, SqL.of hD9, fun p10 e10 => ?_⟩
    rw [cut_to (by decide) (by rw [List.length_map]; omega), ← List.map_take, etk]
    have T10 := Same.upd (o := .lst ([es'[0]].map V.ref)) e10
    refine ⟨_, rfl, p10, l9, _, _, rfl, rfl, upd_same, T10 _ _ upd_same, ?_, fun p11 e11 => ?_⟩
    · rw [List.length_map, List.length_map, List.length_map, sizeLine_eq, ixl]
      simp only [List.length_cons, List.length_nil]
      omega
    rw [show ([es'[0]].map V.ref ++ (ix.map fun i => (es'.drop 1).getD i 0).map V.ref) = (es'[0] :: ix.map fun i => (es'.drop 1).getD i 0).map V.ref from rfl]
    have T11 := Same.upd (o := .lst ((es'[0] :: ix.map fun i => (es'.drop 1).getD i 0).map V.ref)) e11
    refine ⟨p11, _, rfl, .inl ⟨SqL.of upd_same, fun t12 e12 => ?_⟩⟩
    have T12 := Same.upd (o := .tup ((es'[0] :: ix.map fun i => (es'.drop 1).getD i 0).map V.ref)) e12
    refine ⟨(by show 2 ≤ sizeLine; decide), fun f13 e13 => ?_⟩
    have T13 := Same.upd (o := .tup [.int sz, .ref t12]) e13
    have S13 := T9.trans (T10.trans (T11.trans (T12.trans T13)))
    refine q f13 _ (ix.map fun i => R.getD i T0) (SB8.trans S13.sb) (fun b o nb e => S13 _ _ (FR8 b o nb e)) (tab8.same S13) (L2.perm_getD T0 R hix') ?_ ⟨t12, es'[0] :: ix.map fun i => (es'.drop 1).getD i 0, upd_same, T13 _ _ upd_same, ?_, fun j e T h1 h2 => ?_⟩
    · have : (ix.map fun i => (R.map (·.name)).getD i ("" : Str)) = (ix.map fun i => R.getD i T0).map (·.name) := by
        rw [List.map_map]
        refine List.map_congr_left fun i hi => ?_
        have hl := ixlt i hi
        show (R.map (·.name)).getD i ("" : Str) = (R.getD i T0).name
        rw [List.getD_eq_getElem?_getD, List.getD_eq_getElem?_getD, List.getElem?_map, List.getElem?_eq_getElem hl]
        rfl
      rw [← this]
      exact hri
    · rw [List.length_cons, List.length_cons, List.length_map, List.length_map]
    · refine EntAt.same ?_ S13
      cases j with
      | zero =>
        cases h1
        cases h2
        exact hes8 0 es'[0] T0 (List.getElem?_eq_getElem he0) (by rw [eTs]; rfl)
      | succ j =>
        rw [List.getElem?_cons_succ, List.getElem?_map] at h1 h2
        obtain ⟨i, hi, rfl⟩ := Option.map_eq_some_iff.mp h1
        rw [hi] at h2
        cases h2
        have hl := ixlt i (List.mem_of_getElem? hi)
        have hl2 : i < (es'.drop 1).length := by rw [List.length_drop]; omega
        refine hes8 (1 + i) _ _ ?_ ?_
        · show es'[1 + i]? = some ((es'.drop 1).getD i 0)
          rw [← List.getElem?_drop, List.getD_eq_getElem?_getD, List.getElem?_eq_getElem hl2]
          rfl
        · show Ts[1 + i]? = some (R.getD i T0)
          rw [eTs, Nat.add_comm, List.getElem?_cons_succ, List.getD_eq_getElem?_getD, List.getElem?_eq_getElem hl]
          rfl
end
end My

namespace My
open PySem L2 PyProof.Rows
theorem rep1 {H : Hp} {p : Addr} {z : Str} (h : H p = some (.tup [.str z])) (hz : z.length ≤ 1000) : Rep H (.tup [.str z]) (.ref p) := by
  simp [Rep, Reps, h, hz]
theorem rep2i {H : Hp} {p : Addr} {z : Str} {i : Int} (h : H p = some (.tup [.str z, .int i])) (hz : z.length ≤ 1000) : Rep H (.tup [.str z, .int i]) (.ref p) := by
  simp [Rep, Reps, h, hz]
theorem rep2s {H : Hp} {p : Addr} {z y : Str} (h : H p = some (.tup [.str z, .str y])) (hz : z.length ≤ 1000) (hy : y.length ≤ 1000) : Rep H (.tup [.str z, .str y]) (.ref p) := by
  simp [Rep, Reps, h, hz, hy]
theorem rep2d {H : Hp} {p : Addr} {z : Str} {v : V} {d : Dt} (h : H p = some (.tup [.str z, v])) (hz : z.length ≤ 1000) (hd : Rep H d v) : Rep H (.tup [.str z, d]) (.ref p) := by
  simp only [Rep, Reps]
  exact ⟨p, _, rfl, h, _, _, rfl, ⟨rfl, hz⟩, _, _, rfl, hd, rfl⟩
seal L2.PE L2.PT L2.PW L2.PS L2.PSs L2.PA L2.PI L2.PG L2.PGs L2.OpR L2.UnR L2.CallR L2.IxR L2.SlR L2.MtR L2.PIf L2.PO L2.MtM L2.PC L2.PIp L2.PSet L2.PGet L2.TruR L2.InOp L2.PK
def spPlL : Sp := fun vs H Q _ => ∃ wy c : Int, vs = [.int wy, .int c] ∧ 0 ≤ wy ∧ wy ≤ 4 ∧ ∀ v d H', Same H H' → Rep H' d v → plainD d = true → noDct d = true → Q v H'
def spKdL : Sp := fun vs H Q _ => ∃ c : Int, vs = [.int c] ∧ ∀ v d H', Same H H' → Rep H' d v → kindD d = true → noDct d = true → Q v H'
def spColL : Sp := fun vs H Q _ => ∃ c m : Int, vs = [.int c, .int m] ∧ 0 ≤ m ∧ m ≤ 12 ∧ ∀ a cols H', Same H H' → H' a = some (.dK (kvC cols)) → ColsOk H' cols → Q (.ref a) H'
def sgs : List Nat := (" -,:;.!#" : Str).cps.toList
theorem sgs_ok : ∀ c ∈ sgs, sign1 [c] = true := by decide +kernel
section
variable {P : Program} {w : World} {K : PySem.W.Frag} {mg : Str → Option Value} {base : Heap}
theorem ok_plL {f : Addr} {fd : FuncData} (F : Fun K "_law_plain" "_law_plain" (top 31) f fd) : FnOk P w K mg base CX0 1 f fd ["_law_way", "_law_number"] spPlL := by
  have sc : FnScope ["_law_way", "_law_number"] ["_law_way", "_law_number"] (defScope (top 31)) := ⟨rfl, rfl, rfl, by decide +kernel, rfl, by decide +kernel, by decide +kernel⟩
  refine F.ok sc (fun vs H Q E h => ?_) (fun cdv A outer s H vs Q E hr h => ?_)
  · obtain ⟨wy, c, rfl, _⟩ := h
    rfl
  · obtain ⟨wy, c, rfl, w0, w4, q⟩ := h
    have l1 : 1 ≤ sizeLine := by decide
    have l2 : 2 ≤ sizeLine := by decide
    have p6 : CPow 10 6 := ⟨by decide, by decide, by decide⟩
    have e6 : (10 : Int) ^ (6 : Int).toNat = 1000000 := by decide +kernel
    refine ⟨_, pss_cons (ps_if (pt_cmpR op_eq (pv 0) pe_int (nomark _)) (pss_one (ps_ret (pe_tup (pa_cons pe_str pa_nil)))) pss_nil)
      (pss_cons (ps_if (pt_cmpR op_eq (pv 0) pe_int (nomark _)) (pss_one (ps_ret (pe_tup (pa_cons pe_str (pa_cons (pe_op op_add pe_int (pe_op op_mod (pv 1) (pe_op op_pow pe_int pe_int))) pa_nil))))) pss_nil)
      (pss_cons (ps_if (pt_cmpR op_eq (pv 0) pe_int (nomark _)) (pss_one (ps_ret (pe_tup (pa_cons pe_str (pa_cons (pe_op op_sub (pe_op op_mod (pv 1) pe_int) pe_int) pa_nil))))) pss_nil)
      (pss_cons (ps_if (pt_cmpR op_eq (pv 0) pe_int (nomark _)) (pss_one (ps_ret (pe_tup (pa_cons pe_str pa_nil)))) pss_nil)
      (pss_one (ps_ret (pe_tup (pa_cons pe_str (pa_cons (pe_ix ix_str pe_str (pe_op op_mod (pv 1) pe_int) (fun _ _ => rfl)) pa_nil)))))))), ?_⟩
    refine ⟨_, rfl, rfl, _, rfl, ?_⟩
    refine ite2 (fun _ => ?_) (fun _ => ?_)
    · exact ⟨l1, fun p hp => q _ _ _ (Same.upd hp) (rep1 upd_same (by decide)) (by decide +kernel) (by decide +kernel)⟩
    refine ⟨_, rfl, rfl, _, rfl, ?_⟩
    refine ite2 (fun _ => ?_) (fun _ => ?_)
    · refine ⟨_, rfl, _, _, rfl, rfl, p6, _, _, rfl, rfl, (by show (0 : Int) < (10 : Int) ^ (6 : Int).toNat; rw [e6]; decide), _, _, rfl, rfl, l2, fun p hp => ?_⟩
      have h0 := Int.emod_nonneg c (show (10 : Int) ^ (6 : Int).toNat ≠ 0 by rw [e6]; decide)
      refine q _ _ _ (Same.upd hp) (rep2i upd_same (by decide)) ?_ rfl
      show pairD (.str "below") (.int (1 + c % (10 : Int) ^ (6 : Int).toNat)) = true
      unfold pairD
      rw [if_pos (by decide +kernel)]
      exact decide_eq_true (by omega)
    refine ⟨_, rfl, rfl, _, rfl, ?_⟩
    refine ite2 (fun _ => ?_) (fun _ => ?_)
    · refine ⟨_, rfl, _, _, rfl, rfl, (pos rfl), _, _, rfl, rfl, l2, fun p hp => ?_⟩
      refine q _ _ _ (Same.upd hp) (rep2i upd_same (by decide)) ?_ rfl
      show pairD (.str "upto") (.int (c % 2001 - 1000)) = true
      unfold pairD
      rw [if_neg (by decide +kernel), if_pos (by decide +kernel)]
      rfl
    refine ⟨_, rfl, rfl, _, rfl, ?_⟩
    refine ite2 (fun _ => ?_) (fun _ => ?_)
    · exact ⟨l1, fun p hp => q _ _ _ (Same.upd hp) (rep1 upd_same (by decide)) (by decide +kernel) (by decide +kernel)⟩
    obtain ⟨ch, e1, e2⟩ := atI_mem (l := sgs) (i := c % 8) (Int.emod_nonneg _ (by decide)) (by
      have : sgs.length = 8 := by decide +kernel
      rw [this]
      exact Int.emod_lt_of_pos _ (by decide))
    refine ⟨_, rfl, _, _, rfl, rfl, (pos rfl), _, _, ch, rfl, rfl, (by decide +kernel), e1, l2, fun p hp => ?_⟩
    refine q _ _ _ (Same.upd hp) (rep2s upd_same (by decide) (show 1 ≤ 1000 by decide)) ?_ rfl
    show pairD (.str "without") (.str ⟨#[ch]⟩) = true
    unfold pairD
    rw [if_neg (by decide +kernel), if_neg (by decide +kernel), show signD (.str ⟨#[ch]⟩) = true from sgs_ok ch e2, Bool.and_true]
    decide +kernel
theorem ok_kdL {f fP : Addr} {fd fdP : FuncData} (F : Fun K "_law_kind" "_law_kind" (top 32) f fd) (DP : Df K mg "_law_plain" (top 31) fP fdP) : FnOk P w K mg base CX0 2 f fd ["_law_number"] spKdL := by
  have sc : FnScope ["_law_number", "_law_way", "_law_inner"] ["_law_number"] (defScope (top 32)) := ⟨rfl, rfl, rfl, by decide +kernel, rfl, by decide +kernel, by decide +kernel⟩
  have GP : FnOk P w K mg base CX0 1 fP fdP ["_law_way", "_law_number"] spPlL := ok_plL DP.fn
  have bP := DP.fn.binds (ps := ["_law_way", "_law_number"]) fun _ _ _ _ _ _ us hl => by obtain ⟨v0, v1, rfl⟩ := L2.ln2 hl; rfl
  refine F.ok sc (fun vs H Q E h => ?_) (fun cdv A outer s H vs Q E hr h => ?_)
  · obtain ⟨c, rfl, _⟩ := h
    rfl
  · obtain ⟨c, rfl, q⟩ := h
    have l1 : 1 ≤ sizeLine := by decide
    have l2 : 2 ≤ sizeLine := by decide
    have w0 := Int.emod_nonneg c (show (9 : Int) ≠ 0 by decide)
    have w1 := Int.emod_lt_of_pos c (show (0 : Int) < 9 by decide)
    have n0 := Int.emod_nonneg (c / 9) (show (5 : Int) ≠ 0 by decide)
    have n1 := Int.emod_lt_of_pos (c / 9) (show (0 : Int) < 5 by decide)
    refine ⟨_, pss_cons (ps_set (i := 1) sc.nd rfl (Or.inl rfl) (pe_op op_mod (pv 0) pe_int))
      (pss_cons (ps_set (i := 2) sc.nd rfl (Or.inl rfl) (pe_op op_mod (pe_op op_fdiv (pv 0) pe_int) pe_int))
      (pss_cons (ps_if (pt_cmpR op_lt (pv 1) pe_int (nomark _)) (pss_one (ps_ret (pe_call GP hr (by rfl) DP.mg DP.fn.kp bP .nil pass0 (pa_cons (pv 1) (pa_cons (pe_op op_fdiv (pv 0) pe_int) pa_nil))))) pss_nil)
      (pss_cons (ps_if (pt_cmpR op_eq (pv 1) pe_int (nomark _)) (pss_one (ps_ret (pe_tup (pa_cons pe_str pa_nil)))) pss_nil)
      (pss_one (ps_ret (pe_tup (pa_cons (pe_ix ix_list (pe_lst (pa_cons pe_str (pa_cons pe_str (pa_cons pe_str pa_nil)))) (pe_op op_sub (pv 1) pe_int) (fun _ _ => rfl)) (pa_cons (pe_call GP hr (by rfl) DP.mg DP.fn.kp bP .nil pass0 (pa_cons (pv 2) (pa_cons (pe_op op_fdiv (pv 0) pe_int) pa_nil))) pa_nil)))))))), ?_⟩
    refine ⟨_, rfl, _, _, rfl, rfl, (pos rfl), ?_⟩
    refine ⟨_, rfl, _, _, rfl, rfl, ⟨by decide, by decide⟩, _, _, rfl, rfl, (pos rfl), ?_⟩
    refine ⟨_, rfl, _, _, rfl, rfl, _, rfl, ?_⟩
    refine ite2 (fun h => ?_) (fun h => ?_)
    · have h5 : c % 9 < 5 := of_decide_eq_true h
      refine ⟨_, rfl, _, rfl, _, _, rfl, rfl, ⟨by decide, by decide⟩, _, _, rfl, w0, (by omega), fun v d H' s1 hr' hp hn => q v d H' s1 hr' ?_ hn⟩
      unfold kindD
      rw [hp, Bool.true_or]
    have h5 : ¬ c % 9 < 5 := fun e => h (decide_eq_true e)
    refine ⟨_, rfl, rfl, _, rfl, ?_⟩
    refine ite2 (fun _ => ?_) (fun h6 => ?_)
    · exact ⟨l1, fun p hp => q _ _ _ (Same.upd hp) (rep1 upd_same (by decide)) (by decide +kernel) (by decide +kernel)⟩
    have h6' : c % 9 ≠ 5 := fun e => h6 (by show decide (V.int (c % 9) = V.int 5) = true; rw [e]; decide)
    refine ⟨(by show 3 ≤ sizeLine; decide), fun l hl => ?_⟩
    obtain ⟨x, hx, hm⟩ := at_mem (l := [V.str "list", .str "some", .str "once"]) (i := c % 9 - 6) (by omega) (by show c % 9 - 6 < 3; omega)
    refine ⟨_, rfl, _, _, rfl, rfl, _, _, _, x, rfl, rfl, SqL.of upd_same, hx, ?_⟩
    have T1 := Same.upd (o := .lst [V.str "list", .str "some", .str "once"]) hl
    refine ⟨_, rfl, _, rfl, _, _, rfl, rfl, ⟨by decide, by decide⟩, _, _, rfl, n0, (by omega), fun v d H2 s2 hr' hp hn => ?_⟩
    refine ⟨l2, fun p hp' => ?_⟩
    have T3 := Same.upd (o := .tup [x, v]) hp'
    obtain ⟨z, rfl, hz⟩ : ∃ z : Str, x = .str z ∧ z ∈ w3 := by
      simp only [List.mem_cons, List.not_mem_nil, or_false] at hm
      rcases hm with rfl | rfl | rfl
      · exact ⟨_, rfl, by decide +kernel⟩
      · exact ⟨_, rfl, by decide +kernel⟩
      · exact ⟨_, rfl, by decide +kernel⟩
    have hzf : ∀ z ∈ w3, z.length ≤ 1000 ∧ w3.any (strIs (.str z)) = true ∧ pairD (.str z) (.int 0) = false := by decide +kernel
    obtain ⟨z1, z2, _⟩ := hzf z hz
    refine q _ _ _ (T1.trans (s2.trans T3)) (rep2d upd_same z1 (hr'.same T3)) ?_ ?_
    · unfold kindD
      show (plainD (.tup [.str z, d]) || (w3.any (strIs (.str z)) && plainD d)) = true
      rw [z2, hp, Bool.true_and, Bool.or_true]
    · show (noDct (.str z) && (noDct d && true)) = true
      rw [hn]
      rfl
end
end My

namespace My
open PySem L2 PyProof.Rows
theorem putK_new {cols : List (Str × V)} {z : Str} {v : V} (h : z ∉ cols.map (·.1)) : putK (kvC cols) (.inr z) v = kvC (cols ++ [(z, v)]) := by
  unfold putK
  have : ((kvC cols).any fun kv => decide (kv.1 = (.inr z : Key))) = false := by
    rw [List.any_eq_false]
    intro kv hkv
    obtain ⟨p, hp, rfl⟩ := List.mem_map.mp hkv
    rw [decide_eq_true_iff]
    intro e
    exact h (List.mem_map.mpr ⟨p, hp, by injection e⟩)
  rw [if_neg (by rw [this]; decide)]
  unfold kvC
  rw [List.map_append]
  rfl
theorem nthI {l : List Int} {n : Nat} (hl : l.length = n) (hx : ∀ x ∈ l, 0 ≤ x ∧ x < 2147483647) (j : Nat) (hj : j < n) : ∃ e : Int, atI (l.map V.int) (j : Int) = some (.int e) ∧ 0 ≤ e ∧ e < 2147483647 := by
  have hj' : j < l.length := by omega
  exact ⟨l[j], atI_nat (by rw [List.getElem?_map, List.getElem?_eq_getElem hj']; rfl), hx _ (List.getElem_mem hj')⟩
theorem PartAt.besideL {H : Hp} {D e d : Addr} {u : HO} {ys : List V} {T : Tb} (hD : H D = some (.lst ys)) (h : PartAt H e d T) : PartAt (L2.upd H D u) e d T := by
  refine ⟨?_, ?_, h.2.2.1, h.2.2.2.1, fun p hp => ⟨(h.2.2.2.2 p hp).1, ?_⟩⟩
  · rw [upd_ne (fun q => by have := h.1; rw [q, hD] at this; cases this)]; exact h.1
  · rw [upd_ne (fun q => by have := h.2.1; rw [q, hD] at this; cases this)]; exact h.2.1
  · obtain ⟨dt, h1, h2, h3⟩ := (h.2.2.2.2 p hp).2
    exact ⟨dt, Rep.beside (fun xs q => by rw [hD] at q; cases q) h3 h1, h2, h3⟩
seal L2.PE L2.PT L2.PW L2.PS L2.PSs L2.PA L2.PI L2.PG L2.PGs L2.OpR L2.UnR L2.CallR L2.IxR L2.SlR L2.MtR L2.PIf L2.PO L2.MtM L2.PC L2.PIp L2.PSet L2.PGet L2.TruR L2.InOp L2.PK
def clN : List Str := ["_law_cell_here", "_law_most", "_law_xs", "_law_many", "_law_columns_here", "_law_k", "_law_name"]
def tbN : List Str := ["_law_script", "_law_start", "_law_most", "_law_wide", "_law_many", "_law_names_here", "_law_parts", "_law_k", "_law_cell_here"]
def spTabsL (K : PySem.W.Frag) : Sp := fun vs H Q _ => ∃ (a : Addr) (ns : List Int), vs = [.ref a, .int 1, .int 8, .int 12] ∧ SqL K H a (ns.map V.int) ∧ ns.length ≤ 63 ∧ ∀ l es ds T0 R H', Same H H' → PartsAt H' l es ds (T0 :: R) → TsOk T0 R → Q (.ref l) H'
section
variable {P : Program} {w : World} {K : PySem.W.Frag} {mg : Str → Option Value} {base : Heap}
theorem ok_colL {f fT fN fL fK fP : Addr} {fd fdT fdN fdL fdK fdP : FuncData} (F : Fun K "_law_columns" "_law_columns" (top 33) f fd) (B : Bl mg) (DT : Df K mg "_law_stream" (top 28) fT fdT) (DN : Df K mg "_law_names" (top 30) fN fdN) (DL : Df K mg "_law_letter" (top 29) fL fdL)
    (DK : Df K mg "_law_kind" (top 32) fK fdK) (DP : Df K mg "_law_plain" (top 31) fP fdP) : FnOk P w K mg base CX0 3 f fd ["_law_cell_here", "_law_most"] spColL := by
  have sc : FnScope clN ["_law_cell_here", "_law_most"] (defScope (top 33)) := ⟨rfl, rfl, rfl, by decide +kernel, rfl, by decide +kernel, by decide +kernel⟩
  have GT : FnOk P w K mg base CX0 1 fT fdT ["_law_cell_here", "_law_many"] spStream := ok_stream DT.fn B
  have GN : FnOk P w K mg base CX0 2 fN fdN ["_law_cell_here", "_law_many"] spNames := ok_names DN.fn B DT DL
  have GK : FnOk P w K mg base CX0 2 fK fdK ["_law_number"] spKdL := ok_kdL DK.fn DP
  have bT := DT.fn.binds (ps := ["_law_cell_here", "_law_many"]) fun _ _ _ _ _ _ us hl => by obtain ⟨v0, v1, rfl⟩ := L2.ln2 hl; rfl
  have bN := DN.fn.binds (ps := ["_law_cell_here", "_law_many"]) fun _ _ _ _ _ _ us hl => by obtain ⟨v0, v1, rfl⟩ := L2.ln2 hl; rfl
  have bK := DK.fn.binds (ps := ["_law_number"]) fun _ _ _ _ _ _ us hl => by obtain ⟨v0, rfl⟩ := L2.ln1 hl; rfl
  refine F.ok sc (fun vs H Q E h => ?_) (fun cdv A outer s H vs Q E hr h => ?_)
  · obtain ⟨c, m, rfl, _⟩ := h
    rfl
  · obtain ⟨c, m, rfl, m0, m12, q⟩ := h
    have hr1 : Room 1 _ := hr.mono (by decide)
    have hu : (A.deeper (envOfC "_law_columns" (defScope (top 33)) s.heap.objs.size f cdv)).units + 1 < cLine := hu_of hr
    refine ⟨_, pss_cons (ps_set (i := 2) sc.nd rfl (Or.inl rfl) (pe_call GT hr1 (by rfl) DT.mg DT.fn.kp bT .nil pass0 (pa_cons (pv 0) (pa_cons pe_int pa_nil))))
      (pss_cons (ps_set (i := 3) sc.nd rfl (Or.inl rfl) (pe_op op_mod (pe_ix ix_list (pv 2) pe_int (fun _ _ => rfl)) pe_int))
      (pss_cons (ps_if (pt_cmpR op_eq (pe_op op_mod (pe_op op_fdiv (pe_ix ix_list (pv 2) pe_int (fun _ _ => rfl)) pe_int) pe_int) pe_int (nomark _)) (pss_one (ps_set (i := 3) sc.nd rfl (Or.inl rfl) (pv 1))) pss_nil)
      (pss_cons (ps_set (i := 4) sc.nd rfl (Or.inl rfl) pe_dnewK)
      (pss_cons (ps_for PassesOwn.never rfl (pi_enum (by rfl) B.enum (pa_cons (pe_call GN hr (by rfl) DN.mg DN.fn.kp bN .nil pass0 (pa_cons (pe_ix ix_list (pv 2) pe_int (fun _ _ => rfl)) (pa_cons (pv 3) pa_nil))) pa_nil)) (pg_tup rfl (pgs_cons (pg_name (i := 5) sc.nd rfl (Or.inl rfl)) (pgs_cons (pg_name (i := 6) sc.nd rfl (Or.inl rfl)) pgs_nil)))
        (pss_one (ps_dput hu (pv 4) (pv 6) (pe_call GK hr (by rfl) DK.mg DK.fn.kp bK .nil pass0 (pa_cons (pe_ix ix_list (pv 2) (pe_op op_add pe_int (pv 5)) (fun _ _ => rfl)) pa_nil)) rfl)))
      (pss_one (ps_ret (pv 4))))))), ?_⟩
    refine ⟨_, rfl, c, 14, rfl, (by decide), (by decide), fun x H1 l s1 hx hl14 hl => ?_⟩
    have hl' : l.length = 14 := by omega
    have atl := nthI hl' hl
    obtain ⟨x0, a0, x00, _⟩ := atl 0 (by decide)
    obtain ⟨x1, a1, _⟩ := atl 1 (by decide)
    have z0 := Int.emod_nonneg x0 (show (4 : Int) ≠ 0 by decide)
    have z1 := Int.emod_lt_of_pos x0 (show (0 : Int) < 4 by decide)
    refine ⟨_, rfl, _, _, 0, _, rfl, rfl, SqL.of hx, a0, _, _, rfl, rfl, (pos rfl), ?_⟩
    have fin : ∀ mn : Int, 0 ≤ mn → mn ≤ 12 → tSeq (tAsg tDNewK (gName 4)) (tSeq (tFor (iEnum K (tCons (tCall spNames [] E0 (tCons (tOp (rIxL K) (tVar 2) (tC (.int 1))) (tCons (tVar 3) tNil))) tNil)) (gTup K 2 (gCons (gName 5) (gCons (gName 6) gNil))) (sDPut (tVar 4) (tVar 6) (tCall spKdL [] E0 (tCons (tOp (rIxL K) (tVar 2) (tOp (rI0 fun i j => .int (i + j)) (tC (.int 2)) (tVar 5))) tNil)))) (tRet (tVar 4))) { nx := fun _ H' => Q .non H', rt := Q } [some (.int c), some (.int m), some (.ref x), some (.int mn), none, none, none] H1 := by
      intro mn n0 n12
      intro d hd
      have hd0 : H d = none := by
        cases e : H d with
        | none => rfl
        | some o => rw [s1 _ _ e] at hd; cases hd
      have T2 := Same.upd (o := .dK []) hd
      have hx2 := T2 _ _ hx
      refine ⟨_, rfl, _, _, 1, _, rfl, rfl, SqL.of hx2, a1, _, rfl, _, mn, rfl, n0, n12, fun p H3 zs s3 hp hzl nd hz => ?_⟩
      have hd3 := s3 _ _ (show (L2.upd H1 d (.dK [])) d = some (.dK []) from upd_same)
      have hx3 := s3 _ _ hx2
      refine ⟨p, rfl, ⟨_, SqL.of hp⟩, for_enum (K := K) (a := p) (xs := zs.map V.str) (fun i σ H4 => ∃ (cols : List (Str × V)) (u5 u6 : Option V), σ = [some (.int c), some (.int m), some (.ref x), some (.int mn), some (.ref d), u5, u6] ∧ Same H H4 ∧ H4 x = some (.lst (l.map V.int)) ∧ H4 p = some (.lst (zs.map V.str)) ∧ H4 d = some (.dK (kvC cols)) ∧ cols.map (·.1) = zs.take i ∧ ∀ p ∈ cols, nameS p.1 = true ∧ ∃ dt, Rep H4 dt p.2 ∧ kindD dt = true ∧ noDct dt = true) ⟨[], _, _, rfl, (s1.trans T2).trans s3, hx3, hp, hd3, rfl, fun p h => nomatch h⟩ (fun i σ H4 _ pp => by obtain ⟨cols, u5, u6, _, _, _, h, _⟩ := pp; exact SqL.of h) ?_ ?_⟩
      · rintro i y pe σ H4 hy ⟨cols, u5, u6, rfl, s4, hx4, hp4, hd4, hcn, hck⟩ hpe
        have hi : i < zs.length := by
          have := (List.getElem?_eq_some_iff.mp hy).1
          rwa [List.length_map] at this
        rw [List.getElem?_map, List.getElem?_eq_getElem hi] at hy
        cases hy
        have T5 := Same.upd (o := .tup [.int i, .str zs[i]]) hpe
        obtain ⟨xe, ae, _⟩ := atl (2 + i) (by omega)
        have ae' : atI (l.map V.int) (2 + (i : Int)) = some (.int xe) := by
          have : (2 + (i : Int)) = ((2 + i : Nat) : Int) := by omega
          rw [this]
          exact ae
        refine ⟨pe, _, rfl, SqT.of upd_same, rfl, _, _, rfl, _, _, rfl, rfl, ?_⟩
        refine ⟨_, rfl, _, rfl, _, _, rfl, rfl, _, _, _, _, rfl, rfl, SqL.of (T5 _ _ hx4), ae', xe, rfl, fun v dt H6 s6 hr' hkd hnd => ?_⟩
        have S6 := T5.trans s6
        have hd6 := S6 _ _ hd4
        have clen : cols.length = i := by
          have := congrArg List.length hcn
          rw [List.length_map, List.length_take] at this
          omega
        refine ⟨_, rfl, _, rfl, d, _, rfl, .inl ⟨_, .inr zs[i], hd6, rfl, ?_, rfl⟩, ?_⟩
        · unfold kvC
          rw [List.length_map, sizeLine_eq]
          omega
        have hnew : zs[i] ∉ cols.map (·.1) := by
          rw [hcn]
          intro hm
          obtain ⟨j, hj, ej⟩ := List.mem_take_iff_getElem.mp hm
          have hj2 : j < zs.length := by omega
          have : j = i := (List.getElem_inj nd).mp ej
          omega
        rw [putK_new hnew]
        have hdx : x ≠ d := fun e => by have := S6 _ _ hx4; rw [e, hd6] at this; cases this
        have hdp : p ≠ d := fun e => by have := S6 _ _ hp4; rw [e, hd6] at this; cases this
        refine ⟨cols ++ [(zs[i], v)], _, _, rfl, (s4.trans S6).put hd0, by rw [upd_ne hdx]; exact S6 _ _ hx4, by rw [upd_ne hdp]; exact S6 _ _ hp4, upd_same, ?_, fun pr hpr => ?_⟩
        · rw [List.map_append, hcn, List.take_add_one, List.getElem?_eq_getElem hi]
          rfl
        · have nt : ∀ xs, H6 d ≠ some (.tup xs) := fun xs q => by rw [hd6] at q; cases q
          rcases List.mem_append.mp hpr with h | h
          · obtain ⟨h1, dt', h2, h3, h4⟩ := hck pr h
            exact ⟨h1, dt', Rep.beside nt h4 (h2.same S6), h3, h4⟩
          · have : pr = (zs[i], v) := by simpa using h
            subst this
            exact ⟨hz _ (List.getElem_mem hi), dt, Rep.beside nt hnd hr', hkd, hnd⟩
      · rintro σ H4 ⟨cols, u5, u6, rfl, s4, hx4, hp4, hd4, hcn, hck⟩
        rw [List.length_map, List.take_of_length_le (Nat.le_refl _)] at hcn
        have clen : cols.length = zs.length := by
          have := congrArg List.length hcn
          rwa [List.length_map] at this
        exact ⟨_, rfl, q d cols H4 s4 hd4 ⟨by rw [hcn]; exact nd, by omega, hck⟩⟩
    refine ⟨_, rfl, _, _, 0, _, rfl, rfl, SqL.of hx, a0, _, _, rfl, rfl, ⟨by decide, by decide⟩, _, _, rfl, rfl, (pos rfl), rfl, _, rfl, ?_⟩
    refine ite2 (fun _ => ?_) (fun _ => ?_)
    · exact ⟨_, rfl, fin m m0 m12⟩
    · exact fin (x0 % 4) z0 (by omega)
end
end My

namespace My
open PySem L2 PyProof.Rows
seal L2.PE L2.PT L2.PW L2.PS L2.PSs L2.PA L2.PI L2.PG L2.PGs L2.OpR L2.UnR L2.CallR L2.IxR L2.SlR L2.MtR L2.PIf L2.PO L2.MtM L2.PC L2.PIp L2.PSet L2.PGet L2.TruR L2.InOp L2.PK
section
variable {P : Program} {w : World} {K : PySem.W.Frag} {mg : Str → Option Value} {base : Heap}
theorem ok_tabsL {f fC fN fL fT fO fK fP : Addr} {fd fdC fdN fdL fdT fdO fdK fdP : FuncData} (F : Fun K "_law_tables" "_law_tables" (top 34) f fd) (B : Bl mg) (DC : Df K mg "_law_cell" (top 27) fC fdC) (DN : Df K mg "_law_names" (top 30) fN fdN) (DL : Df K mg "_law_letter" (top 29) fL fdL) (DT : Df K mg "_law_stream" (top 28) fT fdT)
    (DO : Df K mg "_law_columns" (top 33) fO fdO) (DK : Df K mg "_law_kind" (top 32) fK fdK) (DP : Df K mg "_law_plain" (top 31) fP fdP) : FnOk P w K mg base CX0 4 f fd ["_law_script", "_law_start", "_law_most", "_law_wide"] (spTabsL K) := by
  have sc : FnScope tbN ["_law_script", "_law_start", "_law_most", "_law_wide"] (defScope (top 34)) := ⟨rfl, rfl, rfl, by decide +kernel, rfl, by decide +kernel, by decide +kernel⟩
  have GC : FnOk P w K mg base CX0 1 fC fdC ["_law_script", "_law_k"] (spCell K) := ok_cell DC.fn B
  have GN : FnOk P w K mg base CX0 2 fN fdN ["_law_cell_here", "_law_many"] spNames := ok_names DN.fn B DT DL
  have GO : FnOk P w K mg base CX0 3 fO fdO ["_law_cell_here", "_law_most"] spColL := ok_colL DO.fn B DT DN DL DK DP
  have bC := DC.fn.binds (ps := ["_law_script", "_law_k"]) fun _ _ _ _ _ _ us hl => by obtain ⟨v0, v1, rfl⟩ := L2.ln2 hl; rfl
  have bN := DN.fn.binds (ps := ["_law_cell_here", "_law_many"]) fun _ _ _ _ _ _ us hl => by obtain ⟨v0, v1, rfl⟩ := L2.ln2 hl; rfl
  have bO := DO.fn.binds (ps := ["_law_cell_here", "_law_most"]) fun _ _ _ _ _ _ us hl => by obtain ⟨v0, v1, rfl⟩ := L2.ln2 hl; rfl
  refine F.ok sc (fun vs H Q E h => ?_) (fun cdv A outer s H vs Q E hr h => ?_)
  · obtain ⟨a, ns, rfl, _⟩ := h
    rfl
  · obtain ⟨a, ns, rfl, hS, h63, q⟩ := h
    have hr1 : Room 1 _ := hr.mono (by decide)
    have hr2 : Room 2 _ := hr.mono (by decide)
    have l3 : 3 ≤ sizeLine := by decide
    refine ⟨_, pss_cons (ps_set (i := 4) sc.nd rfl (Or.inl rfl) (pe_op op_add pe_int (pe_op op_mod (pe_call GC hr1 (by rfl) DC.mg DC.fn.kp bC .nil pass0 (pa_cons (pv 0) (pa_cons (pv 1) pa_nil))) (pv 2))))
      (pss_cons (ps_set (i := 5) sc.nd rfl (Or.inl rfl) (pe_call GN hr2 (by rfl) DN.mg DN.fn.kp bN .nil pass0 (pa_cons (pe_call GC hr1 (by rfl) DC.mg DC.fn.kp bC .nil pass0 (pa_cons (pv 0) (pa_cons (pe_op op_add (pv 1) pe_int) pa_nil))) (pa_cons (pv 4) pa_nil))))
      (pss_cons (ps_set (i := 6) sc.nd rfl (Or.inl rfl) (pe_lst (pa_cons (pe_tup (pa_cons (pe_ix ix_list (pv 5) pe_int (fun _ _ => rfl)) (pa_cons pe_str (pa_cons (pe_call GO hr (by rfl) DO.mg DO.fn.kp bO .nil pass0 (pa_cons (pe_call GC hr1 (by rfl) DC.mg DC.fn.kp bC .nil pass0 (pa_cons (pv 0) (pa_cons (pe_op op_add (pv 1) pe_int) pa_nil))) (pa_cons (pv 3) pa_nil))) pa_nil)))) pa_nil)))
      (pss_cons (ps_for PassesOwn.never rfl (pi_range2 rfl B.range (pa_cons pe_int (pa_cons (pv 4) pa_nil))) (pg_name (i := 7) sc.nd rfl (Or.inl rfl))
        (pss_cons (ps_set (i := 8) sc.nd rfl (Or.inl rfl) (pe_call GC hr1 (by rfl) DC.mg DC.fn.kp bC .nil pass0 (pa_cons (pv 0) (pa_cons (pe_op op_add (pe_op op_add (pv 1) pe_int) (pv 7)) pa_nil))))
        (pss_one (ps_expr (pe_bm PySem.F.plainAttrs_list PySem.F.slot_list_append PySem.F.type_list_append mt_app (pv 6) (pa_cons (pe_tup (pa_cons (pe_ix ix_list (pv 5) (pv 7) (fun _ _ => rfl)) (pa_cons (pe_ix ix_list (pe_lst (pa_cons pe_str (pa_cons pe_str (pa_cons pe_str pa_nil)))) (pe_op op_mod (pv 8) pe_int) (fun _ _ => rfl)) (pa_cons (pe_call GO hr (by rfl) DO.mg DO.fn.kp bO .nil pass0 (pa_cons (pe_op op_fdiv (pv 8) pe_int) (pa_cons (pv 3) pa_nil))) pa_nil)))) pa_nil))))))
      (pss_one (ps_ret (pv 6)))))), ?_⟩
    have c0 := Int.emod_nonneg (cellF ns 1) (show (8 : Int) ≠ 0 by decide)
    have c1 := Int.emod_lt_of_pos (cellF ns 1) (show (0 : Int) < 8 by decide)
    refine ⟨_, rfl, _, rfl, a, ns, _, rfl, hS, (by decide), (by decide), h63, _, rfl, _, _, rfl, rfl, (pos rfl), _, _, rfl, rfl, ?_⟩
    refine ⟨_, rfl, _, rfl, _, _, rfl, rfl, a, ns, _, rfl, hS, (by decide), (by decide), h63, _, rfl, _, _, rfl, (by omega), (by omega), fun pn H1 zs s1 hpn hzl nd hz => ?_⟩
    have hz0 : 0 < zs.length := by omega
    have hS1 := s1.seq hS
    have at0' : atI (zs.map V.str) 0 = some (.str zs[0]) := atI_nat (j := 0) (by rw [List.getElem?_map, List.getElem?_eq_getElem hz0]; rfl)
    refine ⟨_, rfl, _, _, 0, _, rfl, rfl, SqL.of hpn, at0', _, rfl, _, rfl, _, _, rfl, rfl, a, ns, _, rfl, hS1, (by decide), (by decide), h63, _, rfl, _, 12, rfl, (by decide), (by decide), fun d0 cols0 H2 s2 hd0 ok0 => ?_⟩
    refine ⟨l3, fun e0 he0 => ?_⟩
    have T3 := Same.upd (o := .tup [.str zs[0], .str "head", .ref d0]) he0
    refine ⟨(by show 1 ≤ sizeLine; decide), fun l hl => ?_⟩
    have T4 := Same.upd (o := .lst [V.ref e0]) hl
    have S2 := s1.trans s2
    have S4 := S2.trans (T3.trans T4)
    have hl0 : H l = none := by
      cases e : H l with
      | none => rfl
      | some o => rw [(S2.trans T3) _ _ e] at hl; cases hl
    have hpn4 := (s2.trans (T3.trans T4)) _ _ hpn
    have pt0 : PartAt (L2.upd (L2.upd H2 e0 (.tup [.str zs[0], .str "head", .ref d0])) l (.lst [V.ref e0])) e0 d0 ⟨zs[0], "head", cols0⟩ := ⟨T4 _ _ upd_same, (T3.trans T4) _ _ hd0, ok0.same (T3.trans T4)⟩
    have hne : pn ≠ l := fun q => by have := (s2.trans T3) _ _ hpn; rw [q, hl] at this; cases this
    have zn : zs.length = (1 + cellF ns 1 % 8).toNat := by omega
    refine ⟨_, rfl, _, _, rfl, ⟨by decide, by decide, by omega, by omega⟩, for_range (fun i σ H5 => ∃ (es ds : List Addr) (R : List Tb) (u7 u8 : Option V), σ = [some (.ref a), some (.int 1), some (.int 8), some (.int 12), some (.int (1 + cellF ns 1 % 8)), some (.ref pn), some (.ref l), u7, u8] ∧ Same H H5 ∧ H5 pn = some (.lst (zs.map V.str)) ∧ PartsAt H5 l es ds (⟨zs[0], "head", cols0⟩ :: R) ∧ R.length = i ∧ (∀ T ∈ R, T.sort ∈ sides) ∧ zs[0] :: R.map (·.name) = zs.take (i + 1)) ⟨[e0], [d0], [], _, _, rfl, S4, hpn4, ⟨upd_same, rfl, rfl, fun j e d T h1 h2 h3 => ?_⟩, rfl, (fun T h => nomatch h), ?_⟩ ?_ ?_⟩
    · cases j with
      | zero => cases h1; cases h2; cases h3; exact pt0
      | succ j => cases h1
    · rw [List.take_add_one, List.take_zero, List.getElem?_eq_getElem hz0]
      rfl
    · rintro i σ H5 hi ⟨es, ds, R, u7, u8, rfl, s5, hpn5, hP, hR, hsd, hnm⟩
      have hi' : i + 1 < zs.length := by omega
      have hS5 := s5.seq hS
      have ati : atI (zs.map V.str) (1 + (i : Int)) = some (.str zs[i + 1]) := by
        have : (1 + (i : Int)) = ((i + 1 : Nat) : Int) := by omega
        rw [this]
        exact atI_nat (by rw [List.getElem?_map, List.getElem?_eq_getElem hi']; rfl)
      refine ⟨_, rfl, _, rfl, _, _, rfl, rfl, _, rfl, _, _, rfl, rfl, a, ns, _, rfl, hS5, (by omega), (by omega), h63, ?_⟩
      generalize cellF ns (1 + 2 + (1 + (i : Int))) = cc
      obtain ⟨hl5, e1l, e2l, hpt⟩ := id hP
      refine ⟨_, rfl, .inl ⟨rfl, _, SqL.of hl5⟩, _, rfl, _, rfl, _, _, _, _, rfl, rfl, SqL.of hpn5, ati, ?_⟩
      refine ⟨l3, fun ls hls => ?_⟩
      have T6 := Same.upd (o := .lst [V.str "twin", .str "many", .str "some"]) hls
      obtain ⟨y, hy, hym⟩ := at_mem (l := [V.str "twin", .str "many", .str "some"]) (i := cc % 3) (Int.emod_nonneg _ (by decide)) (by show cc % 3 < 3; exact Int.emod_lt_of_pos _ (by decide))
      obtain ⟨so, rfl, hso⟩ : ∃ so : Str, y = .str so ∧ so ∈ sides := by
        simp only [List.mem_cons, List.not_mem_nil, or_false] at hym
        rcases hym with rfl | rfl | rfl
        · exact ⟨_, rfl, by decide +kernel⟩
        · exact ⟨_, rfl, by decide +kernel⟩
        · exact ⟨_, rfl, by decide +kernel⟩
      refine ⟨_, rfl, _, _, rfl, rfl, (pos rfl), _, _, _, _, rfl, rfl, SqL.of upd_same, hy, ?_⟩
      refine ⟨_, rfl, _, _, rfl, rfl, ⟨by decide, by decide⟩, _, rfl, _, 12, rfl, (by decide), (by decide), fun d cols H7 s7 hd ok => ?_⟩
      refine ⟨l3, fun e he => ?_⟩
      have T8 := Same.upd (o := .tup [.str zs[i + 1], .str so, .ref d]) he
      have S8 := T6.trans (s7.trans T8)
      have hl8 := S8 _ _ hl5
      refine ⟨l, _, _, rfl, rfl, hl8, ?_, ?_⟩
      · rw [List.length_map, e1l, List.length_cons, hR, sizeLine_eq]
        omega
      refine ⟨es ++ [e], ds ++ [d], R ++ [⟨zs[i + 1], so, cols⟩], _, _, rfl, (s5.trans S8).put hl0, ?_, ⟨?_, ?_, ?_, fun j e' d' T h1 h2 h3 => ?_⟩, ?_, fun T hT => ?_, ?_⟩
      · rw [upd_ne hne]
        exact S8 _ _ hpn5
      · rw [upd_same, List.map_append]
        rfl
      · rw [List.length_append, e1l]
        simp
      · rw [List.length_append, e2l]
        simp
      · have ptn : PartAt (L2.upd H7 e (.tup [.str zs[i + 1], .str so, .ref d])) e d ⟨zs[i + 1], so, cols⟩ := ⟨upd_same, T8 _ _ hd, ok.same T8⟩
        have el : es.length = i + 1 := by rw [e1l, List.length_cons, hR]
        have dl : ds.length = i + 1 := by rw [e2l, List.length_cons, hR]
        refine PartAt.besideL hl8 ?_
        by_cases hj : j < i + 1
        · rw [List.getElem?_append_left (by omega)] at h1 h2
          rw [← List.cons_append, List.getElem?_append_left (by rw [List.length_cons]; omega)] at h3
          exact (hpt j e' d' T h1 h2 h3).sb S8.sb
        · have : j = i + 1 := by
            have := (List.getElem?_eq_some_iff.mp h1).1
            rw [List.length_append] at this
            simp at this
            omega
          subst this
          rw [List.getElem?_append_right (by omega), el, Nat.sub_self] at h1
          rw [List.getElem?_append_right (by omega), dl, Nat.sub_self] at h2
          rw [← List.cons_append, List.getElem?_append_right (by rw [List.length_cons]; omega), List.length_cons, hR, Nat.sub_self] at h3
          cases h1
          cases h2
          cases h3
          exact ptn
      · rw [List.length_append, hR]
        rfl
      · rcases List.mem_append.mp hT with h | h
        · exact hsd T h
        · have : T = ⟨zs[i + 1], so, cols⟩ := by simpa using h
          rw [this]
          exact hso
      · rw [List.map_append, ← List.cons_append, hnm, List.take_add_one (i := i + 1), List.getElem?_eq_getElem hi']
        rfl
    · rintro σ H5 ⟨es, ds, R, u7, u8, rfl, s5, hpn5, hP, hR, hsd, hnm⟩
      have hall : zs[0] :: R.map (·.name) = zs := by
        rw [hnm]
        exact List.take_of_length_le (by omega)
      refine ⟨_, rfl, q l es ds _ R H5 s5 hP ⟨by omega, ?_, fun T hT => ?_, rfl, hsd⟩⟩
      · rw [List.map_cons]
        show (zs[0] :: R.map (·.name)).Nodup
        rw [hall]
        exact nd
      · have : T.name ∈ zs := by
          rw [← hall]
          rcases List.mem_cons.mp hT with h | h
          · rw [h]; exact List.mem_cons_self
          · exact List.mem_cons_of_mem _ (List.mem_map.mpr ⟨T, h, rfl⟩)
        exact hz _ this
end
end My

/-! DICTS READ, FROZEN OR NOT (own work). -/
namespace L2
open PySem PySem.Spec PyProof.Rows
section
variable {X : Cx}
/-- a statement while a dict stands frozen: it is frozen now, unless it is so already -/
def sFrzR (t : TS) : TS := fun D σ H => ∃ a kvs, Rd H a (.dK kvs) ∧ (∀ o, H a = some (.frz o (.dK kvs)) → t D σ H) ∧ (H a = some (.dK kvs) → ∀ o, t (frzE a o kvs D) σ (upd H a (.frz o (.dK kvs))))
end
/-- alike all the way down: scalars, tuples, lists, dicts with text keys (for a law's own same or alike) -/
inductive Lq (H : Hp) : Nat → V → V → Prop
  | non {n : Nat} : Lq H n .non .non
  | bl {n : Nat} {b : Bool} : Lq H n (.bl b) (.bl b)
  | int {n : Nat} {i : Int} : Lq H n (.int i) (.int i)
  | str {n : Nat} {z : Str} : Lq H n (.str z) (.str z)
  | tup {n : Nat} {a b : Addr} {xs ys : List V} (ha : H a = some (.tup xs)) (hb : H b = some (.tup ys)) (hl : xs.length = ys.length) (h : ∀ (i : Nat) (x y : V), xs[i]? = some x → ys[i]? = some y → Lq H n x y) : Lq H (n + 1) (.ref a) (.ref b)
  | lst {n : Nat} {a b : Addr} {xs ys : List V} (ha : H a = some (.lst xs)) (hb : H b = some (.lst ys)) (hl : xs.length = ys.length) (h : ∀ (i : Nat) (x y : V), xs[i]? = some x → ys[i]? = some y → Lq H n x y) : Lq H (n + 1) (.ref a) (.ref b)
  | dct {n : Nat} {a b : Addr} {kvs kws : List (Key × V)} (f : Key → V) (ha : Rd H a (.dK kvs)) (hb : Rd H b (.dK kws)) (hl : kvs.length = kws.length)
      (hf : ∀ (k : Key) (v : V), (k, v) ∈ kws → valV kvs k = some (f k)) (hg : ∀ (k : Key) (v : V), (k, v) ∈ kws → valV kws k = some v) (h : ∀ (k : Key) (v : V), (k, v) ∈ kws → Lq H n (f k) v) : Lq H (n + 1) (.ref a) (.ref b)
theorem Rd.same {H H' : Hp} (s : Same H H') {a : Addr} {u : HO} (r : Rd H a u) : Rd H' a u := by
  rcases r with e | ⟨o, e⟩
  · exact .inl (s _ _ e)
  · exact .inr ⟨o, s _ _ e⟩
end L2

namespace L2
open PySem PySem.Spec PyProof.Rows
theorem SqT.rd {K : PySem.W.Frag} {H : Hp} {a : Addr} {xs : List V} (h : Rd H a (.tup xs)) : SqT K H a xs := .inl h
/-- isinstance, of tuples frozen too -/
theorem call_isi5 {X : Cx} : CallR X (.builtin "isinstance") (fun xs H Q => ∃ x n t b, xs = [x, .ty n] ∧ (TyOf X.K H x t ∨ ∃ a ys, x = .ref a ∧ Rd H a (.tup ys) ∧ t = .type "tuple") ∧ PySem.W.kitOne X.K t (.type n) = some b ∧ Q (.bl b) H) := by
  intro pins s σ H xs us Q I r h
  obtain ⟨x, n, t, b, rfl, hx, e, q⟩ := h
  rcases hx with hx | ⟨a, ys, rfl, ha, rfl⟩
  · exact call_isi pins s σ H _ us Q I r ⟨x, n, t, b, rfl, hx, e, q⟩
  · obtain ⟨u, w', rfl, rx, rc⟩ := vals2 r
    cases rx
    cases (show w' = Value.type n from rc)
    obtain ⟨its, _, ⟨o, h1, h2, _⟩, _⟩ := I.tuple (SqT.rd ha)
    exact PySem.W.kia_one PySem.W.kitx_tuple I.kIn ⟨o, h1, h2⟩ e (fun z => nomatch z) fun tk => ⟨.bl b, H, I.tok tk, rfl, q⟩
inductive Lk5 (H : Hp) : Nat → V → V → Prop
  | int {n : Nat} {i : Int} : Lk5 H n (.int i) (.int i)
  | str {n : Nat} {z : Str} : Lk5 H n (.str z) (.str z)
  | tup {n : Nat} {a b : Addr} {xs ys : List V} (ha : Rd H a (.tup xs)) (hb : Rd H b (.tup ys)) (hl : xs.length = ys.length) (h : ∀ (i : Nat) (x y : V), xs[i]? = some x → ys[i]? = some y → Lk5 H n x y) : Lk5 H (n + 1) (.ref a) (.ref b)
theorem Lk5.same {H H' : Hp} (s : Same H H') {n : Nat} {x y : V} (h : Lk5 H n x y) : Lk5 H' n x y := by
  induction h with
  | int => exact .int
  | str => exact .str
  | tup ha hb hl _ ih => exact .tup (Rd.same s ha) (Rd.same s hb) hl ih
theorem Lk5.up {H : Hp} {n : Nat} {x y : V} (h : Lk5 H n x y) : Lk5 H (n + 1) x y := by
  induction h with
  | int => exact .int
  | str => exact .str
  | tup ha hb hl _ ih => exact .tup ha hb hl ih
end L2
namespace My
open PySem L2 PyProof.Rows
def leS (a b : Str) : Bool := !decide (b.cps.toList < a.cps.toList)
theorem leS_iff {a b : Str} : leS a b = true ↔ a.cps.toList ≤ b.cps.toList := by
  unfold leS
  rw [Bool.not_eq_true', decide_eq_false_iff_not]
  exact Iff.rfl
theorem leS_trans (a b c : Str) (h : leS a b = true) (h' : leS b c = true) : leS a c = true := leS_iff.mpr (List.le_trans (leS_iff.mp h) (leS_iff.mp h'))
theorem str_ext5 {a b : Str} (h : a.cps.toList = b.cps.toList) : a = b := Str.ext' (Array.toList_inj.mp h)
theorem leS_anti {a b : Str} (h : leS a b = true) (h' : leS b a = true) : a = b := str_ext5 (List.le_antisymm (leS_iff.mp h) (leS_iff.mp h'))
theorem rising_pw : ∀ {l : List Str} {p : Str}, PyProof.Rows.risingS p l = true → (p :: l).Pairwise fun a b => leS a b = true
  | [], p, _ => List.pairwise_singleton _ _
  | x :: r, p, h => by
    unfold PyProof.Rows.risingS at h
    rw [Bool.and_eq_true] at h
    have hx : leS p x = true := by
      unfold leS
      rw [PyProof.Rows.le_meets]
      exact h.1
    have ih := rising_pw (l := r) (p := x) h.2
    refine List.Pairwise.cons (fun y hy => ?_) ih
    rcases List.mem_cons.mp hy with rfl | hy
    · exact hx
    · exact leS_trans p x y hx ((List.pairwise_cons.mp ih).1 y hy)
theorem sortedS_pw : ∀ {l : List Str}, PyProof.Rows.sortedS l = true → l.Pairwise fun a b => leS a b = true
  | [], _ => List.Pairwise.nil
  | x :: r, h => rising_pw h

theorem sorted_eq {l m k : List Str} (h1 : sortedS l = true) (h2 : sortedS m = true) (p1 : l.Perm k) (p2 : m.Perm k) : l = m :=
  List.Perm.eq_of_pairwise (fun a b _ _ h1 h2 => leS_anti h1 h2) (sortedS_pw h1) (sortedS_pw h2) (p1.trans p2.symm)
/-- the same tables in rising order are the same list -/
theorem rise_eq {R R1 R2 : List Tb} (nd : (R.map (·.name)).Nodup) (p1 : R1.Perm R) (p2 : R2.Perm R) (h1 : Rise (R1.map (·.name))) (h2 : Rise (R2.map (·.name))) : R1 = R2 := by
  have pw : ∀ {S : List Tb}, Rise (S.map (·.name)) → S.Pairwise fun a b => leS a.name b.name = true := fun h => by
    unfold Rise at h
    rw [List.pairwise_map] at h
    refine h.imp fun hab => ?_
    unfold leS
    rw [decide_eq_false hab]
    rfl
  refine List.Perm.eq_of_pairwise (fun a b ha hb h1 h2 => ?_) (pw h1) (pw h2) (p1.trans p2.symm)
  have en := leS_anti h1 h2
  have ma := p1.mem_iff.mp ha
  have mb := p2.mem_iff.mp hb
  obtain ⟨i, hi, ei⟩ := List.mem_iff_getElem.mp ma
  obtain ⟨j, hj, ej⟩ := List.mem_iff_getElem.mp mb
  have : i = j := by
    refine (List.getElem_inj (h₀ := by rw [List.length_map]; exact hi) (h₁ := by rw [List.length_map]; exact hj) nd).mp ?_
    rw [List.getElem_map, List.getElem_map, ei, ej, en]
  subst this
  rw [← ei, ← ej]
theorem lk_one {H : Hp} {n : Nat} {a b : Addr} {x y : V} (ha : Rd H a (.tup [x])) (hb : Rd H b (.tup [y])) (h1 : Lk5 H n x y) : Lk5 H (n + 1) (.ref a) (.ref b) := by
  refine .tup ha hb rfl fun i u v hu hv => ?_
  match i, hu, hv with
  | 0, hu, hv => cases hu; cases hv; exact h1
  | i + 1, hu, hv => simp at hu
theorem lk_two {H : Hp} {n : Nat} {a b : Addr} {x y x2 y2 : V} (ha : Rd H a (.tup [x, x2])) (hb : Rd H b (.tup [y, y2])) (h1 : Lk5 H n x y) (h2 : Lk5 H n x2 y2) : Lk5 H (n + 1) (.ref a) (.ref b) := by
  refine .tup ha hb rfl fun i u v hu hv => ?_
  match i, hu, hv with
  | 0, hu, hv => cases hu; cases hv; exact h1
  | 1, hu, hv => cases hu; cases hv; exact h2
  | i + 2, hu, hv => simp at hu
theorem lk_three {H : Hp} {n : Nat} {a b : Addr} {x y x2 y2 x3 y3 : V} (ha : Rd H a (.tup [x, x2, x3])) (hb : Rd H b (.tup [y, y2, y3])) (h1 : Lk5 H n x y) (h2 : Lk5 H n x2 y2) (h3 : Lk5 H n x3 y3) : Lk5 H (n + 1) (.ref a) (.ref b) := by
  refine .tup ha hb rfl fun i u v hu hv => ?_
  match i, hu, hv with
  | 0, hu, hv => cases hu; cases hv; exact h1
  | 1, hu, hv => cases hu; cases hv; exact h2
  | 2, hu, hv => cases hu; cases hv; exact h3
  | i + 3, hu, hv => simp at hu
/-- a kind is like itself -/
theorem strIs_str {d : Dt} {z : Str} (h : strIs d z = true) : ∃ y, d = .str y := by
  cases d with
  | str y => exact ⟨y, rfl⟩
  | _ => cases h
theorem lk_plain {H : Hp} {d : Dt} {v : V} (hp : plainD d = true) (h : Rep H d v) : Lk5 H 1 v v := by
  match d, hp, h with
  | .tup [s], hp, h =>
    simp only [Rep, Reps] at h
    obtain ⟨a, xs, rfl, ha, v1, vs, rfl, h1, rfl⟩ := h
    obtain ⟨z, _, hz⟩ := List.any_eq_true.mp (show w2.any (strIs s) = true from hp)
    obtain ⟨y, rfl⟩ := strIs_str hz
    simp only [Rep] at h1
    rw [h1.1] at ha
    exact lk_one (.inl ha) (.inl ha) .str
  | .tup [s, b], hp, h =>
    simp only [Rep, Reps] at h
    obtain ⟨a, xs, rfl, ha, v1, vs, rfl, h1, v2, vs2, rfl, h2, rfl⟩ := h
    have hp' : pairD s b = true := hp
    unfold pairD at hp'
    have hs : ∃ y, s = .str y := by
      by_cases e1 : strIs s "below" = true
      · exact strIs_str e1
      · rw [if_neg e1] at hp'
        by_cases e2 : strIs s "upto" = true
        · exact strIs_str e2
        · rw [if_neg e2] at hp'
          exact strIs_str (Bool.and_eq_true_iff.mp hp').1
    have hb : (∃ i, b = .int i) ∨ ∃ y, b = .str y := by
      cases b with
      | int i => exact .inl ⟨i, rfl⟩
      | str y => exact .inr ⟨y, rfl⟩
      | _ =>
        simp only [geD, wholeD, signD, Bool.and_false] at hp'
        split at hp'
        · cases hp'
        · split at hp' <;> cases hp'
    obtain ⟨y, rfl⟩ := hs
    simp only [Rep] at h1
    rw [h1.1] at ha
    rcases hb with ⟨i, rfl⟩ | ⟨y2, rfl⟩
    · simp only [Rep] at h2
      rw [h2] at ha
      exact lk_two (.inl ha) (.inl ha) .str .int
    · simp only [Rep] at h2
      rw [h2.1] at ha
      exact lk_two (.inl ha) (.inl ha) .str .str
theorem lk_kind {H : Hp} {d : Dt} {v : V} (hk : kindD d = true) (h : Rep H d v) : Lk5 H 2 v v := by
  unfold kindD at hk
  rcases Bool.or_eq_true_iff.mp hk with hp | hm
  · exact (lk_plain hp h).up
  · match d, hm, h with
    | .tup [s], hm, h =>
      simp only [Rep, Reps] at h
      obtain ⟨a, xs, rfl, ha, v1, vs, rfl, h1, rfl⟩ := h
      obtain ⟨y, rfl⟩ := strIs_str (show strIs s "key" = true from hm)
      simp only [Rep] at h1
      rw [h1.1] at ha
      exact lk_one (.inl ha) (.inl ha) .str
    | .tup [s, b], hm, h =>
      simp only [Rep, Reps] at h
      obtain ⟨a, xs, rfl, ha, v1, vs, rfl, h1, v2, vs2, rfl, h2, rfl⟩ := h
      have hm' := Bool.and_eq_true_iff.mp (show (w3.any (strIs s) && plainD b) = true from hm)
      obtain ⟨z, _, hz⟩ := List.any_eq_true.mp hm'.1
      obtain ⟨y, rfl⟩ := strIs_str hz
      simp only [Rep] at h1
      rw [h1.1] at ha
      exact lk_two (.inl ha) (.inl ha) .str (lk_plain hm'.2 h2)
theorem lk_cols {H : Hp} {t u : Addr} {cols : List (Str × V)} (h1 : ColsAt H t cols) (h2 : ColsAt H u cols) (ok : ColsOk H cols) : Lk5 H 4 (.ref t) (.ref u) := by
  obtain ⟨o, ps, zs, p1, s1, _, g1, l1, f1⟩ := h1
  obtain ⟨o', ps', zs', p2, s2, _, g2, l2, f2⟩ := h2
  have ez := sorted_eq s1 s2 p1 p2
  subst ez
  refine .tup (.inr ⟨o, g1⟩) (.inr ⟨o', g2⟩) (by rw [List.length_map, List.length_map, l1, l2]) fun i x y hx hy => ?_
  rw [List.getElem?_map] at hx hy
  obtain ⟨p, hp, rfl⟩ := Option.map_eq_some_iff.mp hx
  obtain ⟨p', hp', rfl⟩ := Option.map_eq_some_iff.mp hy
  have hi : i < zs.length := by have := (List.getElem?_eq_some_iff.mp hp).1; omega
  have hz := List.getElem?_eq_getElem hi
  have hm : zs[i] ∈ cols.map (·.1) := p1.mem_iff.mp (List.getElem_mem hi)
  have hv : ∃ d, Rep H d (vOf cols zs[i]) ∧ kindD d = true := by
    have hval := val_in hm
    unfold valV at hval
    obtain ⟨kv, hf, e⟩ := Option.map_eq_some_iff.mp hval
    have hmem := List.mem_of_find?_eq_some hf
    obtain ⟨pr, hpr, rfl⟩ := List.mem_map.mp hmem
    obtain ⟨_, d, h1, h2, _⟩ := ok.2.2 pr hpr
    rw [← e]
    exact ⟨d, h1, h2⟩
  obtain ⟨d, hd, hk⟩ := hv
  exact lk_two (.inl (f1 i p _ hp hz)) (.inl (f2 i p' _ hp' hz)) .str (lk_kind hk hd)
theorem lk_form {H : Hp} {f g : Addr} {sz : Int} {Ts : List Tb} (h1 : FormAt H f sz Ts) (h2 : FormAt H g sz Ts) (ok : ∀ T ∈ Ts, ColsOk H T.cols) : Lk5 H 7 (.ref f) (.ref g) := by
  obtain ⟨tt, es, a1, a2, a3, a4⟩ := h1
  obtain ⟨tt', es', b1, b2, b3, b4⟩ := h2
  refine lk_two (.inl a1) (.inl b1) .int (.tup (.inl a2) (.inl b2) (by rw [List.length_map, List.length_map, a3, b3]) fun i x y hx hy => ?_)
  rw [List.getElem?_map] at hx hy
  obtain ⟨e, he, rfl⟩ := Option.map_eq_some_iff.mp hx
  obtain ⟨e', he', rfl⟩ := Option.map_eq_some_iff.mp hy
  have hi : i < Ts.length := by have := (List.getElem?_eq_some_iff.mp he).1; omega
  obtain ⟨ct, c1, c2⟩ := a4 i e Ts[i] he (List.getElem?_eq_getElem hi)
  obtain ⟨ct', d1, d2⟩ := b4 i e' Ts[i] he' (List.getElem?_eq_getElem hi)
  exact lk_three (.inl c1) (.inl d1) .str .str (lk_cols c2 d2 (ok _ (List.getElem_mem hi)))
seal L2.PE L2.PT L2.PW L2.PS L2.PSs L2.PA L2.PI L2.PG L2.PGs L2.OpR L2.UnR L2.CallR L2.IxR L2.SlR L2.MtR L2.PIf L2.PO L2.MtM L2.PC L2.PIp L2.PSet L2.PGet L2.TruR L2.InOp L2.PK
def spSame5 (n : Nat) : Sp := fun vs H Q _ => ∃ x y, vs = [x, y] ∧ Lk5 H n x y ∧ ∀ H', Same H H' → Q (.bl true) H'
section
variable {P : Program} {w : World} {K : PySem.W.Frag} {mg : Str → Option Value} {base : Heap}
theorem kq {a b : String} {r : Bool} (h : kitTy a b = some r) : PySem.W.kitOne K (.type a) (.type b) = some r := kit_eq.trans h
theorem ok_same {f : Addr} {fd : FuncData} (D : Df K mg "_law_same" (top 35) f fd) (B : Bl mg) (hz : mg "zip" = none) : ∀ n : Nat, FnOk P w K mg base CX0 (n + 1) f fd ["_law_found", "_law_due"] (spSame5 n) := by
  have sc : FnScope ["_law_found", "_law_due", "_law_one", "_law_other"] ["_law_found", "_law_due"] (defScope (top 35)) := ⟨rfl, rfl, rfl, by decide +kernel, rfl, by decide +kernel, by decide +kernel⟩
  have bA := D.fn.binds (ps := ["_law_found", "_law_due"]) fun _ _ _ _ _ _ us hl => by obtain ⟨v0, v1, rfl⟩ := L2.ln2 hl; rfl
  have t2 : kitTy "int" "bool" = some false := by decide +kernel
  have t5 : kitTy "int" "int" = some true := by decide +kernel
  have t7 : kitTy "int" "tuple" = some false := by decide +kernel
  have t8 : kitTy "str" "str" = some true := by decide +kernel
  have t9 : kitTy "str" "tuple" = some false := by decide +kernel
  have t10 : kitTy "int" "str" = some false := by decide +kernel
  have t12 : kitTy "tuple" "tuple" = some true := by decide +kernel
  have nn : ∀ {v : V}, v ≠ .non → ¬ (decide (v = V.non) = true) := fun h c => h (of_decide_eq_true c)
  intro n
  induction n with
  | zero =>
    refine D.fn.ok sc (fun vs H Q E h => ?_) (fun cdv A outer s H vs Q E hr h => ?_)
    · obtain ⟨x, y, rfl, _⟩ := h
      rfl
    · obtain ⟨x, y, rfl, hl, q⟩ := h
      have q := q H (Same.refl H)
      refine ⟨_, pss_cons (ps_if (pt_val (pe_callB call_isi5 (by rfl) B.isi boot_isi (pa_cons (pv 1) (pa_cons (pe_bltn (v := .ty "tuple") (by rfl) B.tuple boot_tuple rfl) pa_nil)))) pss_never pss_nil)
        (pss_cons (ps_if (pt_val (pe_callB call_isi5 (by rfl) B.isi boot_isi (pa_cons (pv 1) (pa_cons (pe_bltn (v := .ty "str") (by rfl) B.str boot_str rfl) pa_nil)))) (pss_one (ps_ret (pe_and (pe_callB call_isi5 (by rfl) B.isi boot_isi (pa_cons (pv 0) (pa_cons (pe_bltn (v := .ty "str") (by rfl) B.str boot_str rfl) pa_nil))) (pe_one (pe_cmpR op_eq (pv 0) (pv 1) (nomark _)))))) pss_nil)
        (pss_one (ps_ret (pe_and (pe_callB call_isi5 (by rfl) B.isi boot_isi (pa_cons (pv 0) (pa_cons (pe_bltn (v := .ty "int") (by rfl) B.int boot_int rfl) pa_nil))) (pe_and (pe_not (pe_callB call_isi5 (by rfl) B.isi boot_isi (pa_cons (pv 0) (pa_cons (pe_bltn (v := .ty "bool") (by rfl) B.bool boot_bool rfl) pa_nil)))) (pe_one (pe_cmpR op_eq (pv 0) (pv 1) (nomark _)))))))), ?_⟩
      obtain ⟨m, e0, hl⟩ : ∃ m, m = 0 ∧ Lk5 H m x y := ⟨0, rfl, hl⟩
      cases hl with
      | int =>
        refine ⟨_, rfl, _, _, _, _, rfl, .inl (.int _), kq t7, _, rfl, ?_⟩
        refine iteF ?_
        refine ⟨_, rfl, _, _, _, _, rfl, .inl (.int _), kq t10, _, rfl, ?_⟩
        refine iteF ?_
        refine ⟨_, rfl, _, _, _, _, rfl, .inl (.int _), kq t5, _, rfl, ?_⟩
        refine iteT ?_
        refine ⟨_, rfl, _, _, _, _, rfl, .inl (.int _), kq t2, _, rfl, _, rfl, ?_⟩
        refine iteT ?_
        refine ⟨_, rfl, _, rfl, rfl, ?_⟩
        rw [decide_eq_true rfl]
        exact q
      | str =>
        refine ⟨_, rfl, _, _, _, _, rfl, .inl (.str _), kq t9, _, rfl, ?_⟩
        refine iteF ?_
        refine ⟨_, rfl, _, _, _, _, rfl, .inl (.str _), kq t8, _, rfl, ?_⟩
        refine iteT ?_
        refine ⟨_, rfl, _, _, _, _, rfl, .inl (.str _), kq t8, _, rfl, ?_⟩
        refine iteT ?_
        refine ⟨_, rfl, _, rfl, rfl, ?_⟩
        rw [decide_eq_true rfl]
        exact q
      | tup => cases e0
  | succ n ih =>
    refine D.fn.ok sc (fun vs H Q E h => ?_) (fun cdv A outer s H vs Q E hr h => ?_)
    · obtain ⟨x, y, rfl, _⟩ := h
      rfl
    · obtain ⟨x, y, rfl, hl, q⟩ := h
      refine ⟨_, pss_cons (ps_if (pt_val (pe_callB call_isi5 (by rfl) B.isi boot_isi (pa_cons (pv 1) (pa_cons (pe_bltn (v := .ty "tuple") (by rfl) B.tuple boot_tuple rfl) pa_nil))))
          (pss_cons (ps_if (PW.pt (pw_or (pt_not (pt_val (pe_callB call_isi5 (by rfl) B.isi boot_isi (pa_cons (pv 0) (pa_cons (pe_bltn (v := .ty "tuple") (by rfl) B.tuple boot_tuple rfl) pa_nil))))) (pw_or1 (pt_cmpR op_ne (pe_callB call_len_seq (by rfl) B.len PySem.boot_len (pa_cons (pv 0) pa_nil)) (pe_callB call_len_seq (by rfl) B.len PySem.boot_len (pa_cons (pv 1) pa_nil)) (nomark _))))) (pss_one (ps_ret pe_bl)) pss_nil)
          (pss_cons (ps_for PassesOwn.never rfl (pi_zipT (by rfl) hz (pa_cons (pv 0) (pa_cons (pv 1) pa_nil))) (pg_tup rfl (pgs_cons (pg_name (i := 2) sc.nd rfl (Or.inl rfl)) (pgs_cons (pg_name (i := 3) sc.nd rfl (Or.inl rfl)) pgs_nil)))
            (pss_one (ps_if (pt_not (pt_val (pe_call ih hr (by rfl) D.mg D.fn.kp bA .nil pass0 (pa_cons (pv 2) (pa_cons (pv 3) pa_nil))))) (pss_one (ps_ret pe_bl)) pss_nil)))
          (pss_one (ps_ret pe_bl)))) pss_nil)
        (pss_cons (ps_if (pt_val (pe_callB call_isi5 (by rfl) B.isi boot_isi (pa_cons (pv 1) (pa_cons (pe_bltn (v := .ty "str") (by rfl) B.str boot_str rfl) pa_nil)))) (pss_one (ps_ret (pe_and (pe_callB call_isi5 (by rfl) B.isi boot_isi (pa_cons (pv 0) (pa_cons (pe_bltn (v := .ty "str") (by rfl) B.str boot_str rfl) pa_nil))) (pe_one (pe_cmpR op_eq (pv 0) (pv 1) (nomark _)))))) pss_nil)
        (pss_one (ps_ret (pe_and (pe_callB call_isi5 (by rfl) B.isi boot_isi (pa_cons (pv 0) (pa_cons (pe_bltn (v := .ty "int") (by rfl) B.int boot_int rfl) pa_nil))) (pe_and (pe_not (pe_callB call_isi5 (by rfl) B.isi boot_isi (pa_cons (pv 0) (pa_cons (pe_bltn (v := .ty "bool") (by rfl) B.bool boot_bool rfl) pa_nil)))) (pe_one (pe_cmpR op_eq (pv 0) (pv 1) (nomark _)))))))), ?_⟩
      have q0 := q H (Same.refl H)
      generalize e0 : n + 1 = m at hl
      cases hl with
      | int =>
        refine ⟨_, rfl, _, _, _, _, rfl, .inl (.int _), kq t7, _, rfl, ?_⟩
        refine iteF ?_
        refine ⟨_, rfl, _, _, _, _, rfl, .inl (.int _), kq t10, _, rfl, ?_⟩
        refine iteF ?_
        refine ⟨_, rfl, _, _, _, _, rfl, .inl (.int _), kq t5, _, rfl, ?_⟩
        refine iteT ?_
        refine ⟨_, rfl, _, _, _, _, rfl, .inl (.int _), kq t2, _, rfl, _, rfl, ?_⟩
        refine iteT ?_
        refine ⟨_, rfl, _, rfl, rfl, ?_⟩
        rw [decide_eq_true rfl]
        exact q0
      | str =>
        refine ⟨_, rfl, _, _, _, _, rfl, .inl (.str _), kq t9, _, rfl, ?_⟩
        refine iteF ?_
        refine ⟨_, rfl, _, _, _, _, rfl, .inl (.str _), kq t8, _, rfl, ?_⟩
        refine iteT ?_
        refine ⟨_, rfl, _, _, _, _, rfl, .inl (.str _), kq t8, _, rfl, ?_⟩
        refine iteT ?_
        refine ⟨_, rfl, _, rfl, rfl, ?_⟩
        rw [decide_eq_true rfl]
        exact q0
      | @tup n' a b xs ys ha hb hlen hi =>
        cases e0
        refine ⟨_, rfl, _, _, _, _, rfl, .inr ⟨_, _, rfl, hb, rfl⟩, kq t12, _, rfl, ?_⟩
        refine iteT ?_
        refine ⟨_, rfl, _, _, _, _, rfl, .inr ⟨_, _, rfl, ha, rfl⟩, kq t12, _, rfl, ?_⟩
        refine iteF ?_
        refine ⟨_, rfl, _, _, rfl, .inr ((SqT.rd ha)), _, rfl, _, _, rfl, .inr ((SqT.rd hb)), rfl, _, rfl, ?_⟩
        refine iteNS (by rw [hlen]) ?_
        refine ⟨_, rfl, _, rfl, a, b, rfl, ⟨_, (SqT.rd ha)⟩, ⟨_, (SqT.rd hb)⟩, for_zipT (K := K) (xs := xs) (ys := ys) (fun i σ H' => Same H H' ∧ ∃ (u v : Option V), σ = [some (.ref a), some (.ref b), u, v]) hlen ⟨Same.refl H, _, _, rfl⟩ (fun i σ H' _ p => ⟨SqT.rd (Rd.same p.1 ha), SqT.rd (Rd.same p.1 hb)⟩) ?_ ?_⟩
        · rintro i x y p σ H' hx hy ⟨s1, u, v, rfl⟩ hp
          refine ⟨p, [x, y], rfl, SqT.of upd_same, rfl, x, [y], rfl, y, [], rfl, rfl, ?_⟩
          have s2 := s1.trans (Same.upd (o := .tup [x, y]) hp)
          refine ⟨_, rfl, _, rfl, x, y, rfl, (hi i x y hx hy).same s2, fun H2 s3 => ⟨_, rfl, ?_⟩⟩
          refine iteF ?_
          exact ⟨s2.trans s3, _, _, rfl⟩
        · rintro σ H' ⟨s1, u, v, rfl⟩
          exact q H' s1
end
end My

namespace My
open PySem L2 PyProof.Rows
seal L2.PE L2.PT L2.PW L2.PS L2.PSs L2.PA L2.PI L2.PG L2.PGs L2.OpR L2.UnR L2.CallR L2.IxR L2.SlR L2.MtR L2.PIf L2.PO L2.MtM L2.PC L2.PIp L2.PSet L2.PGet L2.TruR L2.InOp L2.PK
/-- as it was, but at d -/
def Sl (d : Addr) (H H' : Hp) : Prop := ∀ b o, b ≠ d → H b = some o → H' b = some o
theorem Sl.of {d : Addr} {H H' : Hp} (s : Same H H') : Sl d H H' := fun b o _ e => s b o e
theorem Sl.put {d : Addr} {H H1 H2 : Hp} {o : HO} (a : Sl d H H1) (s : Same H1 H2) : Sl d H (L2.upd H2 d o) := fun b u nb e => by
  rw [upd_ne nb]
  exact s _ _ (a b u nb e)
def keyOfF : Stmt → Expr
  | .For _ (.BinOp _ _ (.Call _ _ [⟨_, e, _⟩] _) _) _ _ _ => e
  | _ => .Constant .none 0 ⟨0, 0, 0, 0⟩
def liLam : Expr := keyOfF ((defBody (top 36)).getD 1 (.Pass ⟨0, 0, 0, 0⟩))
def liPos : Pos := lamPos liLam
def liQ : Str := "_law_form.<locals>.<lambda>"
def spFormL (PL : Addr) : Sp := fun vs H Q _ => ∃ (l : Addr) (sz : Int) (es ds : List Addr) (T0 : Tb) (R : List Tb), vs = [.int sz, .ref l] ∧ PartsAt H l es ds (T0 :: R) ∧ TsOk T0 R ∧ TabOk PL liPos liQ H ∧
  ∀ (f : Addr) (H' : Hp) (R' : List Tb), Sb H H' → Fr PL H H' → TabOk PL liPos liQ H' → R'.Perm R → Rise (R'.map (·.name)) → FormAt H' f sz (T0 :: R') → Q (.ref f) H'
def lfN : List Str := ["_law_size", "_law_parts", "_law_rows", "_law_name", "_law_sort", "_law_columns_here"]
section
variable {P : Program} {w : World} {K : PySem.W.Frag} {mg : Str → Option Value} {base : Heap}
theorem ok_formL {f c PL : Addr} {fd : FuncData} (F : FunC K "_law_form" "_law_form" (top 36) f fd c) (B : Bl mg) (hC : PySem.W.codeHdIn K c PL = true) (hB : L2.BMain base mg) : FnOk P w K mg base CX0 6 f fd ["_law_size", "_law_parts"] (spFormL PL) := by
  have sc : FnScope lfN ["_law_size", "_law_parts"] (defScope (top 36)) := ⟨rfl, rfl, rfl, by decide +kernel, rfl, by decide +kernel, by decide +kernel⟩
  refine F.ok sc (fun vs H Q E h => ?_) (fun A outer s H vs Q E hr h => ?_)
  · obtain ⟨l, sz, es, ds, T0, R, rfl, _⟩ := h
    rfl
  · obtain ⟨l, sz, es, ds, T0, R, rfl, hP, hT, hTab, q⟩ := h
    have hu : (A.deeper (envOfC "_law_form" (defScope (top 36)) s.heap.objs.size f (.ref c))).units + 1 < cLine := hu_of hr
    refine ⟨_, pss_cons (ps_set (i := 2) sc.nd rfl (Or.inl rfl) (pe_lst pa_nil))
      (pss_cons (ps_for PassesOwn.never rfl (pi_list (pe_op op_cat (pe_slice sl_list (pv 1) po_none (po_some pe_int))
          (pe_sortedK (k := 2) (x := "_law_part") (q := liQ) (params := lamArgs liLam) (body := lamBody liLam) (scope := lamScope liLam) (pm := (mg "__name__").getD .none) (tb := tOp (rIxT K) (tVar 0) (tC (.int 0))) hr (by rfl) B.sorted (pe_slice sl_list (pv 1) (po_some pe_int) po_none) (pe_lam rfl hC hB) ⟨rfl, rfl, rfl, by decide +kernel, rfl, by decide +kernel, by decide +kernel⟩ (fun _ _ _ => rfl) (fun f c' s H => pe_ix (r := rIxT K) ix_tup (pv 0) pe_int (fun _ _ => rfl)))))
        (pg_tup rfl (pgs_cons (pg_name (i := 3) sc.nd rfl (Or.inl rfl)) (pgs_cons (pg_name (i := 4) sc.nd rfl (Or.inl rfl)) (pgs_cons (pg_name (i := 5) sc.nd rfl (Or.inr rfl)) pgs_nil))))
        (pss_one (ps_expr (pe_bm PySem.F.plainAttrs_list PySem.F.slot_list_append PySem.F.type_list_append mt_app (pv 2) (pa_cons (pe_tup (pa_cons (pv 3) (pa_cons (pv 4) (pa_cons (pe_callTy call_tupleF (by rfl) B.tuple boot_tuple (pa_cons (pe_comp (osc := defScope (top 36)) (N0 := lfN) (xs := ["_law_column"]) (fr := [5]) ⟨rfl, by decide +kernel, by decide +kernel, by decide +kernel, (fun j hj => by
              have e : j = 5 := by simpa using hj
              subst e
              exact ⟨_, rfl, by decide +kernel⟩), by decide +kernel⟩ rfl rfl rfl (pi_list (pe_callB (call_sortedD rfl) (by rfl) B.sorted boot_sorted (pa_cons (pv 5) pa_nil)))
            (fun s H fp => pg_name (i := 0) (show (["_law_column", "_law_columns_here"] : List Str).Nodup by decide +kernel) rfl (Or.inl rfl)) (fun s H fp => pif_nil)
            (fun s H fp => pe_tup (pa_cons (pv 0) (pa_cons (pe_dget hu (pv 1) (pv 0) (fun _ _ => rfl)) pa_nil)))) pa_nil)) pa_nil)))) pa_nil)))))
      (pss_one (ps_ret (pe_tup (pa_cons (pv 0) (pa_cons (pe_callTy call_tuple_of (by rfl) B.tuple boot_tuple (pa_cons (pv 2) pa_nil)) pa_nil)))))), ?_⟩
    obtain ⟨Ts, eTs⟩ : ∃ Ts, Ts = T0 :: R := ⟨_, rfl⟩
    rw [← eTs] at hP
    obtain ⟨r7, ndn, hnm, hhd, hsd⟩ := hT
    rw [← eTs] at ndn
    have tl : Ts.length = R.length + 1 := by rw [eTs]; rfl
    have e1l := hP.2.1
    have e2l := hP.2.2.1
    refine ⟨Nat.zero_le _, fun d hd => ?_⟩
    have T0' := Same.upd (o := .lst []) hd
    have hl0 := T0' _ _ hP.1
    refine ⟨_, rfl, _, rfl, l, _, rfl, SqL.of hl0, fun p1 e1 => ?_⟩
    rw [cut_to (by decide) (by rw [List.length_map]; omega), ← List.map_take]
    have he0 : 0 < es.length := by omega
    have etk : es.take (1 : Int).toNat = [es[0]] := by
      show es.take 1 = [es[0]]
      cases es with
      | nil => simp at he0
      | cons a r => rfl
    rw [etk]
    have T1 := Same.upd (o := .lst ([es[0]].map V.ref)) e1
    refine ⟨_, rfl, _, rfl, l, _, rfl, SqL.of (T1 _ _ hl0), fun p2 e2 => ?_⟩
    rw [cut_from (by decide) (by rw [List.length_map]; omega), ← List.map_drop]
    have T2 := Same.upd (o := .lst ((es.drop (1 : Int).toNat).map V.ref)) e2
    have S2 := T0'.trans (T1.trans T2)
    refine lam_made (hTab.same S2) fun lf c' H8 sb8 fr8 tab8 hlf hc8 => ?_
    have SB8 := S2.sb.trans sb8
    have FR8 : Fr PL H H8 := fun b o nb e => by
      have := S2 _ _ e
      rw [fr8 b nb (by rw [this]; simp)]
      exact this
    have hP8 := hP.sb SB8
    obtain ⟨hl8, _, _, hpt8⟩ := id hP8
    refine ⟨p2, lf, c', _, R.map (·.name), rfl, rfl, hlf, hc8, SqL.of (sb8 _ _ rfl upd_same), ?_, ?_, ?_, (fun i v z h1 h2 => ?_), fun l9 ix n9 hix hri => ?_⟩
    · rw [List.length_map, List.length_map, List.length_drop]
      show R.length = es.length - 1
      omega
    · rw [eTs, List.map_cons] at ndn
      exact (List.nodup_cons.mp ndn).2
    · rw [List.length_map, List.length_drop]
      show es.length - 1 < 64
      omega
    · have h1' : (es.drop 1)[i]?.map V.ref = some v := by rw [← List.getElem?_map]; exact h1
      rw [List.getElem?_drop] at h1'
      obtain ⟨e, he, rfl⟩ := Option.map_eq_some_iff.mp h1'
      rw [List.getElem?_map] at h2
      obtain ⟨T, hT', rfl⟩ := Option.map_eq_some_iff.mp h2
      have hil : 1 + i < ds.length := by have := (List.getElem?_eq_some_iff.mp he).1; omega
      have pt := hpt8 (1 + i) e ds[1 + i] T he (List.getElem?_eq_getElem hil) (by rw [eTs, Nat.add_comm, List.getElem?_cons_succ]; exact hT')
      exact ⟨_, rfl, _, _, 0, _, rfl, rfl, SqT.of pt.1, rfl, rfl, rfl⟩
    rw [List.length_map, List.length_drop] at hix
    have hix' : ix.Perm (List.range R.length) := by
      have : es.length - (1 : Int).toNat = R.length := by
        show es.length - 1 = R.length
        omega
      rw [this] at hix
      exact hix
    have ixlt : ∀ i ∈ ix, i < R.length := fun i hi => List.mem_range.mp (hix'.mem_iff.mp hi)
    have elst : (ix.map fun i => ((es.drop (1 : Int).toNat).map V.ref).getD i .non) = (ix.map fun i => (es.drop 1).getD i 0).map V.ref := by
      rw [List.map_map]
      refine List.map_congr_left fun i hi => ?_
      have hl : i < (es.drop 1).length := by
        rw [List.length_drop]
        have := ixlt i hi
        omega
      show (((es.drop 1).map V.ref).getD i .non) = V.ref ((es.drop 1).getD i 0)
      rw [List.getD_eq_getElem?_getD, List.getD_eq_getElem?_getD, List.getElem?_map, List.getElem?_eq_getElem hl]
      rfl
    rw [elst]
    have ixl : ix.length = R.length := by rw [hix'.length_eq, List.length_range]
    have T9 := Same.upd (o := .lst ((ix.map fun i => (es.drop 1).getD i 0).map V.ref)) n9
    refine ⟨p1, l9, _, _, rfl, rfl, T9 _ _ (sb8 _ _ rfl (T2 _ _ upd_same)), upd_same, ?_, fun p10 e10 => ?_⟩
    · rw [List.length_map, List.length_map, List.length_map, sizeLine_eq, ixl]
      simp only [List.length_cons, List.length_nil]
      omega
    rw [show ([es[0]].map V.ref ++ (ix.map fun i => (es.drop 1).getD i 0).map V.ref) = (es[0] :: ix.map fun i => (es.drop 1).getD i 0).map V.ref from rfl]
    have T10 := Same.upd (o := .lst ((es[0] :: ix.map fun i => (es.drop 1).getD i 0).map V.ref)) e10
    -- which part stands where
    have parts : ∀ (j : Nat) (e : Addr), (es[0] :: ix.map fun i => (es.drop 1).getD i 0)[j]? = some e → ∃ dd T, (T0 :: ix.map fun i => R.getD i T0)[j]? = some T ∧ PartAt H8 e dd T := fun j e h1 => by
      cases j with
      | zero =>
        cases h1
        exact ⟨ds[0], T0, rfl, hpt8 0 es[0] ds[0] T0 (List.getElem?_eq_getElem he0) (List.getElem?_eq_getElem (by omega)) (by rw [eTs]; rfl)⟩
      | succ j =>
        rw [List.getElem?_cons_succ, List.getElem?_map] at h1
        obtain ⟨i, hi, rfl⟩ := Option.map_eq_some_iff.mp h1
        have hl := ixlt i (List.mem_of_getElem? hi)
        have hl2 : i < (es.drop 1).length := by rw [List.length_drop]; omega
        have hl3 : 1 + i < ds.length := by omega
        refine ⟨ds[1 + i], R.getD i T0, by rw [List.getElem?_cons_succ, List.getElem?_map, hi]; rfl, hpt8 (1 + i) _ _ _ ?_ (List.getElem?_eq_getElem hl3) ?_⟩
        · show es[1 + i]? = some ((es.drop 1).getD i 0)
          rw [← List.getElem?_drop, List.getD_eq_getElem?_getD, List.getElem?_eq_getElem hl2]
          rfl
        · show Ts[1 + i]? = some (R.getD i T0)
          rw [eTs, Nat.add_comm, List.getElem?_cons_succ, List.getD_eq_getElem?_getD, List.getElem?_eq_getElem hl]
          rfl
    have hRp : (ix.map fun i => R.getD i T0).Perm R := L2.perm_getD T0 R hix'
    have hRr : Rise ((ix.map fun i => R.getD i T0).map (·.name)) := by
      have : (ix.map fun i => (R.map (·.name)).getD i ("" : Str)) = (ix.map fun i => R.getD i T0).map (·.name) := by
        rw [List.map_map]
        refine List.map_congr_left fun i hi => ?_
        have hl := ixlt i hi
        show (R.map (·.name)).getD i ("" : Str) = (R.getD i T0).name
        rw [List.getD_eq_getElem?_getD, List.getD_eq_getElem?_getD, List.getElem?_map, List.getElem?_eq_getElem hl]
        rfl
      rw [← this]
      exact hri
    generalize eR' : (ix.map fun i => R.getD i T0) = R' at parts hRp hRr
    have elen : (es[0] :: ix.map fun i => (es.drop 1).getD i 0).length = (T0 :: R').length := by rw [List.length_cons, List.length_cons, List.length_map, ← eR', List.length_map]
    generalize eE : (es[0] :: ix.map fun i => (es.drop 1).getD i 0) = E9 at *
    have hd8 : H8 d = some (.lst []) := sb8 _ _ rfl ((T1.trans T2) _ _ upd_same)
    have hd10 := (T9.trans T10) _ _ hd8
    have sd : ∀ {b : Addr} {o : HO}, H b = some o → b ≠ d := fun {b o} e q => by rw [q, hd] at e; cases e
    have pd : p10 ≠ d := fun q => by have := T9 _ _ hd8; rw [← q, e10] at this; cases this
    refine ⟨p10, rfl, ⟨_, SqL.of upd_same⟩, for_list (K := K) (a := p10) (xs := E9.map V.ref) (fun i σ Hc => ∃ (rs : List Addr) (u3 u4 u5 : Option V), σ = [some (.int sz), some (.ref l), some (.ref d), u3, u4, u5] ∧ Sl d H8 Hc ∧ Hc p10 = some (.lst (E9.map V.ref)) ∧ Hc d = some (.lst (rs.map V.ref)) ∧ rs.length = i ∧ ∀ (j : Nat) (e : Addr) (T : Tb), rs[j]? = some e → (T0 :: R')[j]? = some T → EntAt Hc e T) ⟨[], _, _, _, rfl, Sl.of (T9.trans T10), upd_same, hd10, rfl, fun j e T h => nomatch h⟩ (fun i σ Hc _ pp => by obtain ⟨rs, u3, u4, u5, _, _, h, _⟩ := pp; exact SqL.of h) ?_ ?_⟩
    · rintro i x σ Hc hx ⟨rs, u3, u4, u5, rfl, sl, hp10, hdc, hrl, hent⟩
      rw [List.getElem?_map] at hx
      obtain ⟨e, he, rfl⟩ := Option.map_eq_some_iff.mp hx
      obtain ⟨dd, T, hT', pt⟩ := parts i e he
      have hiE : i < E9.length := (List.getElem?_eq_some_iff.mp he).1
      have ne1 : e ≠ d := fun q => by have := pt.1; rw [q, hd8] at this; cases this
      have ne2 : dd ≠ d := fun q => by have := pt.2.1; rw [q, hd8] at this; cases this
      have pte : Hc e = some (.tup [.str T.name, .str T.sort, .ref dd]) := sl _ _ ne1 pt.1
      have ptd : Hc dd = some (.dK (kvC T.cols)) := sl _ _ ne2 pt.2.1
      refine ⟨e, _, rfl, SqT.of pte, rfl, _, _, rfl, _, _, rfl, _, _, rfl, rfl, ?_⟩
      refine ⟨_, rfl, .inl ⟨rfl, _, SqL.of hdc⟩, _, rfl, _, rfl, ?_⟩
      have hkm : (kvC T.cols).map (·.1) = (T.cols.map (·.1)).map Sum.inr := by
        unfold kvC
        rw [List.map_map, List.map_map]
        rfl
      refine ⟨_, rfl, dd, _, _, rfl, .inl ptd, hkm, (by rw [List.length_map]; have := pt.2.2.2.1; omega), fun lz zs hlz hpm hso => ?_⟩
      have T3 := Same.upd (o := .lst (zs.map V.str)) hlz
      refine ⟨lz, rfl, ⟨_, SqL.of upd_same⟩, fun D hD => ?_⟩
      have hD0 : Hc D = none := by
        cases e : Hc D with
        | none => rfl
        | some o => rw [T3 _ _ e] at hD; cases hD
      have hlD : lz ≠ D := fun e => by rw [← e, upd_same] at hD; cases hD
      have hzl : zs.length ≤ 12 := by
        have := hpm.length_eq
        rw [List.length_map] at this
        have := pt.2.2.2.1
        omega
      refine compW_idx zs.length (fun i ys σ' Hk => (∃ t, σ' = [t, some (.ref dd)]) ∧ Same Hc Hk ∧ Hk lz = some (.lst (zs.map V.str)) ∧ ∃ ps : List Addr, ys = ps.map V.ref ∧ ∀ (j : Nat) (p : Addr) (z : Str), ps[j]? = some p → zs[j]? = some z → Hk p = some (.tup [.str z, vOf T.cols z])) (by rw [sizeLine_eq]; omega) ⟨⟨none, rfl⟩, T3.trans (Same.upd hD), (Same.upd hD) _ _ upd_same, [], rfl, fun j p z h => nomatch h⟩ upd_same ?_ ?_
      · rintro i σ' Hk ys hi ⟨⟨t, rfl⟩, sm, hlc, ps, rfl, hps⟩ hyl hD'
        rw [List.length_map] at hyl
        refine ⟨⟨_, V.str zs[i], SqL.of hlc, by rw [List.getElem?_map, List.getElem?_eq_getElem hi]; rfl⟩, ?_⟩
        rintro x H' ⟨rfl, hx'⟩
        have ex := hx' _ (SqL.of hlc)
        rw [List.getElem?_map, List.getElem?_eq_getElem hi] at ex
        cases ex
        have hzm : zs[i] ∈ T.cols.map (·.1) := hpm.mem_iff.mp (List.getElem_mem hi)
        refine ⟨_, rfl, _, rfl, _, rfl, dd, _, rfl, .inl ⟨_, .inr zs[i], .inl (sm _ _ ptd), rfl, (val_in hzm).symm⟩, (by show 2 ≤ sizeLine; decide), fun p hp => ?_⟩
        have T := Same.upd (o := .tup [.str zs[i], vOf T.cols zs[i]]) hp
        have hpD : p ≠ D := fun e => by rw [e, hD'] at hp; cases hp
        refine ⟨T _ _ hD', ⟨_, rfl⟩, (sm.trans T).put hD0, by rw [upd_ne hlD]; exact T _ _ hlc, ps ++ [p], by rw [List.map_append]; rfl, fun j p' z' h1 h2 => ?_⟩
        by_cases hj : j < ps.length
        · rw [List.getElem?_append_left hj] at h1
          have hh := hps j p' z' h1 h2
          have hne : p' ≠ D := fun e => by rw [e, hD'] at hh; cases hh
          rw [upd_ne hne]
          exact T _ _ hh
        · have hj' : j = ps.length := by
            have := (List.getElem?_eq_some_iff.mp h1).1
            rw [List.length_append] at this
            simp at this
            omega
          subst hj'
          rw [List.getElem?_append_right (Nat.le_refl _), Nat.sub_self] at h1
          cases h1
          rw [hyl, List.getElem?_eq_getElem hi] at h2
          cases h2
          rw [upd_ne hpD]
          exact upd_same
      · rintro σ' Hk ys ⟨_, sm, hlc, ps, rfl, hps⟩ hDn hyl
        rw [List.length_map] at hyl
        refine ⟨⟨_, SqL.of hlc, by rw [List.length_map]; exact Nat.le_refl _⟩, ?_⟩
        refine ⟨D, _, rfl, SqL.of hDn, fun t o2 ht ho2 => ?_⟩
        have T4 := Same.upd (o := .frz o2 (.tup (ps.map V.ref))) ht
        refine ⟨(by show 3 ≤ sizeLine; decide), fun r hr => ?_⟩
        have T5 := Same.upd (o := .tup [.str T.name, .str T.sort, .ref t]) hr
        have S5 := sm.trans (T4.trans T5)
        have hd5 := S5 _ _ hdc
        refine ⟨d, _, _, rfl, rfl, hd5, ?_, ?_⟩
        · rw [List.length_map, hrl, sizeLine_eq]
          rw [elen, List.length_cons, ← eR', List.length_map, ixl] at hiE
          omega
        have ct : ColsAt (L2.upd (L2.upd Hk t (.frz o2 (.tup (ps.map V.ref)))) r (.tup [.str T.name, .str T.sort, .ref t])) t T.cols := ⟨o2, ps, zs, hpm, hso, ho2, T5 _ _ upd_same, hyl, fun j p z h1 h2 => (T4.trans T5) _ _ (hps j p z h1 h2)⟩
        have nD := NotTup.lst hd5
        refine ⟨rs ++ [r], _, _, _, rfl, sl.put S5, by rw [upd_ne pd]; exact S5 _ _ hp10, by rw [upd_same, List.map_append]; rfl, by rw [List.length_append, hrl]; rfl, fun j e' T' h1 h2 => ?_⟩
        by_cases hj : j < rs.length
        · rw [List.getElem?_append_left hj] at h1
          exact ((hent j e' T' h1 h2).same S5).beside nD
        · have hj' : j = rs.length := by
            have := (List.getElem?_eq_some_iff.mp h1).1
            rw [List.length_append] at this
            simp at this
            omega
          subst hj'
          rw [List.getElem?_append_right (Nat.le_refl _), Nat.sub_self] at h1
          cases h1
          rw [hrl, hT'] at h2
          cases h2
          exact EntAt.beside nD ⟨t, upd_same, ct⟩
    · rintro σ Hc ⟨rs, u3, u4, u5, rfl, sl, hp10, hdc, hrl, hent⟩
      rw [List.length_map, elen] at hrl
      refine ⟨_, rfl, _, rfl, d, _, rfl, .inl ⟨SqL.of hdc, fun t12 e12 => ?_⟩⟩
      have T12 := Same.upd (o := .tup (rs.map V.ref)) e12
      refine ⟨(by show 2 ≤ sizeLine; decide), fun f13 e13 => ?_⟩
      have T13 := Same.upd (o := .tup [.int sz, .ref t12]) e13
      have S13 := T12.trans T13
      refine q f13 _ R' (fun b o n e => S13 _ _ (sl _ _ (sd e) (SB8 b o n e))) (fun b o nb e => S13 _ _ (sl _ _ (sd e) (FR8 b o nb e))) ?_ hRp hRr ⟨t12, rs, upd_same, T13 _ _ upd_same, hrl, fun j e T h1 h2 => (hent j e T h1 h2).same S13⟩
      rcases tab8 with h | ⟨c'', h, h'⟩
      · exact .inl (S13 _ _ (sl _ _ (fun q => by rw [q, hd8] at h; cases h) h))
      · exact .inr ⟨c'', S13 _ _ (sl _ _ (fun q => by rw [q, hd8] at h; cases h) h), S13 _ _ (sl _ _ (fun q => by rw [q, hd8] at h'; cases h') h')⟩
end
end My

namespace My
open PySem L2 PyProof.Rows
theorem mt_clr {X : Cx} : MtR X "list.clear" rClear := mt_clear
seal L2.PE L2.PT L2.PW L2.PS L2.PSs L2.PA L2.PI L2.PG L2.PGs L2.OpR L2.UnR L2.CallR L2.IxR L2.SlR L2.MtR L2.PIf L2.PO L2.MtM L2.PC L2.PIp L2.PSet L2.PGet L2.TruR L2.InOp L2.PK
def spAbout : Sp := fun vs H Q _ => ∃ (f l : Addr) (sz : Int) (es ds : List Addr) (T0 : Tb) (R R' : List Tb), vs = [.ref f, .ref l] ∧ FormAt H f sz (T0 :: R') ∧ PartsAt H l es ds (T0 :: R) ∧ TsOk T0 R ∧ R'.Perm R ∧ Rise (R'.map (·.name)) ∧ ∀ H', Same H H' → Q (.bl true) H'
def abN : List Str := ["_law_form_here", "_law_parts", "_law_names_here", "_law_told", "_law_name", "_law_sort", "_law_columns_here", "_law_found", "_law_column"]
theorem back_same {H H1 : Hp} {a : Addr} {o : Obj} {kvs : List (Key × V)} (hc : H a = some (.dK kvs)) (e : Same (L2.upd H a (.frz o (.dK kvs))) H1) : Same H (L2.upd H1 a (.dK kvs)) := fun b u hb => by
  by_cases eb : b = a
  · subst eb
    rw [hc] at hb
    rw [← hb]
    exact upd_same
  · rw [upd_ne eb]
    exact e b u (by rw [upd_ne eb]; exact hb)
theorem val_perm {zs : List Str} {f : Str → V} {z : Str} (h : z ∈ zs) : valV (zs.map fun z => ((.inr z : Key), f z)) (.inr z) = some (f z) := by
  induction zs with
  | nil => cases h
  | cons y r ih =>
    by_cases e : y = z
    · rw [List.map_cons, valV_pos (by rw [e]), e]
    · rw [List.map_cons, valV_neg (fun q => e (by injection q))]
      rcases List.mem_cons.mp h with h | h
      · exact absurd h.symm e
      · exact ih h
theorem col_rep {H : Hp} {cols : List (Str × V)} (ok : ColsOk H cols) {z : Str} (h : z ∈ cols.map (·.1)) : ∃ d, Rep H d (vOf cols z) ∧ kindD d = true ∧ noDct d = true := by
  have hval := val_in h
  unfold valV at hval
  obtain ⟨kv, hf, e⟩ := Option.map_eq_some_iff.mp hval
  have hmem := List.mem_of_find?_eq_some hf
  obtain ⟨pr, hpr, rfl⟩ := List.mem_map.mp hmem
  obtain ⟨_, d, h1, h2, h3⟩ := ok.2.2 pr hpr
  rw [← e]
  exact ⟨d, h1, h2, h3⟩
section
variable {P : Program} {w : World} {K : PySem.W.Frag} {mg : Str → Option Value} {base : Heap}
theorem ok_about {fself fT fH fS fC fI fE : Addr} {fd fdT fdH fdS fdC fdI fdE : FuncData} (F : Fun K "_law_about" "_law_about" (top 37) fself fd) (B : Bl mg) (hz : mg "zip" = none) (DT : Df K mg "tables_of" (top 21) fT fdT) (DH : Df K mg "head_of" (top 22) fH fdH) (DS : Df K mg "sort_of" (top 23) fS fdS) (DC : Df K mg "columns_of" (top 24) fC fdC) (DI : Df K mg "table_in" (top 25) fI fdI) (DE : Df K mg "_law_same" (top 35) fE fdE) :
    FnOk P w K mg base CX0 4 fself fd ["_law_form_here", "_law_parts"] spAbout := by
  have sc : FnScope abN ["_law_form_here", "_law_parts"] (defScope (top 37)) := ⟨rfl, rfl, rfl, by decide +kernel, rfl, by decide +kernel, by decide +kernel⟩
  have GT : FnOk P w K mg base CX0 1 fT fdT ["form"] spTabs := ok_tabs DT.fn
  have GH : FnOk P w K mg base CX0 1 fH fdH ["form"] spHead := ok_head DH.fn
  have GS : FnOk P w K mg base CX0 2 fS fdS ["form", "table"] spSortOf := ok_sortOf DS.fn DI
  have GC : FnOk P w K mg base CX0 2 fC fdC ["form", "table"] spColsOf := ok_colsOf DC.fn B DI
  have G0 : FnOk P w K mg base CX0 1 fE fdE ["_law_found", "_law_due"] (spSame5 0) := ok_same DE B hz 0
  have G2 : FnOk P w K mg base CX0 3 fE fdE ["_law_found", "_law_due"] (spSame5 2) := ok_same DE B hz 2
  have bT := DT.fn.binds (ps := ["form"]) fun _ _ _ _ _ _ us hl => by obtain ⟨v0, rfl⟩ := L2.ln1 hl; rfl
  have bH := DH.fn.binds (ps := ["form"]) fun _ _ _ _ _ _ us hl => by obtain ⟨v0, rfl⟩ := L2.ln1 hl; rfl
  have bS := DS.fn.binds (ps := ["form", "table"]) fun _ _ _ _ _ _ us hl => by obtain ⟨v0, v1, rfl⟩ := L2.ln2 hl; rfl
  have bC := DC.fn.binds (ps := ["form", "table"]) fun _ _ _ _ _ _ us hl => by obtain ⟨v0, v1, rfl⟩ := L2.ln2 hl; rfl
  have bE := DE.fn.binds (ps := ["_law_found", "_law_due"]) fun _ _ _ _ _ _ us hl => by obtain ⟨v0, v1, rfl⟩ := L2.ln2 hl; rfl
  refine F.ok sc (fun vs H Q E h => ?_) (fun cdv A outer s H vs Q E hr h => ?_)
  · obtain ⟨f, l, sz, es, ds, T0, R, R', rfl, _⟩ := h
    rfl
  · obtain ⟨f, l, sz, es, ds, T0, R, R', rfl, hF, hP, hT, hRp, hRr, q⟩ := h
    have hr1 : Room 1 _ := hr.mono (by decide)
    have hr2 : Room 2 _ := hr.mono (by decide)
    have hu : (A.deeper (envOfC "_law_about" (defScope (top 37)) s.heap.objs.size fself cdv)).units + 1 < cLine := hu_of hr
    refine ⟨_, pss_cons (ps_set (i := 2) sc.nd rfl (Or.inl rfl) (pe_op op_cat (pe_lst (pa_cons (pe_ix ix_tup (pe_ix ix_list (pv 1) pe_int (fun _ _ => rfl)) pe_int (fun _ _ => rfl)) pa_nil)) (pe_callB call_sorted (by rfl) B.sorted boot_sorted (pa_cons (pe_comp (osc := defScope (top 37)) (N0 := abN) (xs := ["_law_part"]) (fr := []) ⟨rfl, by decide +kernel, by decide +kernel, by decide +kernel, by decide, by decide +kernel⟩ rfl rfl rfl (pi_list (pe_slice sl_list (pv 1) (po_some pe_int) po_none))
          (fun s H fp => pg_name (i := 0) (show (["_law_part"] : List Str).Nodup by decide +kernel) rfl (Or.inl rfl)) (fun s H fp => pif_nil) (fun s H fp => pe_ix (r := rIxT K) ix_tup (pv 0) pe_int (fun _ _ => rfl))) pa_nil))))
      (pss_cons (ps_set (i := 3) sc.nd rfl (Or.inl rfl) (pe_call GT hr1 (by rfl) DT.mg DT.fn.kp bT .nil pass0 (pa_cons (pv 0) pa_nil)))
      (pss_cons (ps_if (PW.pt (pw_or (pt_not (pt_val (pe_callB call_isi (by rfl) B.isi boot_isi (pa_cons (pv 3) (pa_cons (pe_bltn (v := .ty "list") (by rfl) B.list boot_list rfl) pa_nil))))) (pw_or (pt_cmpR op_neL (pv 3) (pv 2) (nomark _)) (pw_or1 (pt_not (pt_val (pe_call G0 hr1 (by rfl) DE.mg DE.fn.kp bE .nil pass0 (pa_cons (pe_call GH hr1 (by rfl) DH.mg DH.fn.kp bH .nil pass0 (pa_cons (pv 0) pa_nil)) (pa_cons (pe_ix ix_tup (pe_ix ix_list (pv 1) pe_int (fun _ _ => rfl)) pe_int (fun _ _ => rfl)) pa_nil))))))))) (pss_one (ps_ret pe_bl)) pss_nil)
      (pss_cons (ps_expr (pe_bm0 PySem.F.plainAttrs_list PySem.F.slot_list_clear PySem.F.type_list_clear mt_clr (pv 3)))
      (pss_cons (ps_for PassesOwn.never rfl (pi_list (pv 1)) (pg_tup rfl (pgs_cons (pg_name (i := 4) sc.nd rfl (Or.inl rfl)) (pgs_cons (pg_name (i := 5) sc.nd rfl (Or.inl rfl)) (pgs_cons (pg_name (i := 6) sc.nd rfl (Or.inl rfl)) pgs_nil))))
        (pss_cons (ps_set (i := 7) sc.nd rfl (Or.inl rfl) (pe_call GC hr2 (by rfl) DC.mg DC.fn.kp bC .nil pass0 (pa_cons (pv 0) (pa_cons (pv 4) pa_nil))))
        (pss_cons (ps_if (PW.pt (pw_or (pt_not (pt_val (pe_call G0 hr1 (by rfl) DE.mg DE.fn.kp bE .nil pass0 (pa_cons (pe_call GS hr2 (by rfl) DS.mg DS.fn.kp bS .nil pass0 (pa_cons (pv 0) (pa_cons (pv 4) pa_nil))) (pa_cons (pv 5) pa_nil))))) (pw_or (pt_not (pt_val (pe_callB call_isi (by rfl) B.isi boot_isi (pa_cons (pv 7) (pa_cons (pe_bltn (v := .ty "dict") (by rfl) B.dict boot_dict rfl) pa_nil))))) (pw_or1 (pt_cmpR op_ne (pe_callB call_lenD (by rfl) B.len PySem.boot_len (pa_cons (pv 7) pa_nil)) (pe_callB call_lenD (by rfl) B.len PySem.boot_len (pa_cons (pv 6) pa_nil)) (nomark _)))))) (pss_one (ps_ret pe_bl)) pss_nil)
        (pss_cons (ps_frz (ps_for PassesOwn.never rfl (pi_dict (pv 6)) (pg_name (i := 8) sc.nd rfl (Or.inl rfl))
          (pss_one (ps_if (PW.pt (pw_or (pt_cmp (pc_dnotin hu (pv 8) (pv 7))) (pw_or1 (pt_not (pt_val (pe_call G2 hr (by rfl) DE.mg DE.fn.kp bE .nil pass0 (pa_cons (pe_dget hu (pv 7) (pv 8) (fun _ _ => rfl)) (pa_cons (pe_dget hu (pv 6) (pv 8) (fun _ _ => rfl)) pa_nil)))))))) (pss_one (ps_ret pe_bl)) pss_nil))))
        (pss_one (ps_expr (pe_bm0 PySem.F.plainAttrs_dict PySem.F.slot_dict_clear PySem.F.type_dict_clear mt_dclear (pv 7))))))))
      (pss_one (ps_ret pe_bl)))))), ?_⟩
    obtain ⟨Ts, eTs⟩ : ∃ Ts, Ts = T0 :: R := ⟨_, rfl⟩
    rw [← eTs] at hP
    obtain ⟨r7, ndn, hnm, hhd, hsd⟩ := hT
    have nd' : ((T0 :: R').map (·.name)).Nodup := by
      refine (List.Perm.nodup_iff ?_).mpr ndn
      rw [List.map_cons, List.map_cons]
      exact (hRp.map _).cons _
    have tl : Ts.length = R.length + 1 := by rw [eTs]; rfl
    have rl : R'.length = R.length := hRp.length_eq
    obtain ⟨hl, e1l, e2l, hpt⟩ := id hP
    have he0 : 0 < es.length := by omega
    have hd0 : 0 < ds.length := by omega
    have pt0 := hpt 0 es[0] ds[0] T0 (List.getElem?_eq_getElem he0) (List.getElem?_eq_getElem hd0) (by rw [eTs]; rfl)
    have at0e : atI (es.map V.ref) 0 = some (.ref es[0]) := atI_nat (j := 0) (by rw [List.getElem?_map, List.getElem?_eq_getElem he0]; rfl)
    refine ⟨_, rfl, _, _, 0, _, rfl, rfl, SqL.of hl, at0e, _, _, 0, _, rfl, rfl, SqT.of pt0.1, rfl, ?_⟩
    refine ⟨(by show 1 ≤ sizeLine; decide), fun p1 e1 => ?_⟩
    have T1 := Same.upd (o := .lst [V.str T0.name]) e1
    refine ⟨_, rfl, _, rfl, l, _, rfl, SqL.of (T1 _ _ hl), fun p2 e2 => ?_⟩
    rw [cut_from (by decide) (by rw [List.length_map]; omega), ← List.map_drop]
    have T2 := Same.upd (o := .lst ((es.drop (1 : Int).toNat).map V.ref)) e2
    refine ⟨p2, rfl, ⟨_, SqL.of upd_same⟩, fun D hD => ?_⟩
    have S2 := T1.trans T2
    have hp1 := T2 _ _ (show (L2.upd H p1 (.lst [V.str T0.name])) p1 = some (.lst [V.str T0.name]) from upd_same)
    have hp2 : (L2.upd (L2.upd H p1 (.lst [V.str T0.name])) p2 (.lst ((es.drop (1 : Int).toNat).map V.ref))) p2 = some (.lst ((es.drop (1 : Int).toNat).map V.ref)) := upd_same
    generalize L2.upd (L2.upd H p1 (.lst [V.str T0.name])) p2 (.lst ((es.drop (1 : Int).toNat).map V.ref)) = H2 at *
    refine compW_map R.length (fun i => .str ((R.map (·.name)).getD i "")) (fun i σ' Hc => (∃ t, σ' = [t]) ∧ Same H2 Hc) (by rw [sizeLine_eq]; omega) ⟨⟨none, rfl⟩, Same.upd hD⟩ upd_same ?_ ?_
    · rintro i σ' Hc hi ⟨⟨t, rfl⟩, sm⟩ hD'
      have hie : 1 + i < es.length := by omega
      have hid : 1 + i < ds.length := by omega
      have eg : ((es.drop (1 : Int).toNat).map V.ref)[i]? = some (.ref es[1 + i]) := by
        show ((es.drop 1).map V.ref)[i]? = some (.ref es[1 + i])
        rw [List.getElem?_map, List.getElem?_drop, List.getElem?_eq_getElem hie]
        rfl
      have pt := hpt (1 + i) es[1 + i] ds[1 + i] R[i] (List.getElem?_eq_getElem hie) (List.getElem?_eq_getElem hid) (by rw [eTs, Nat.add_comm, List.getElem?_cons_succ, List.getElem?_eq_getElem hi])
      refine ⟨⟨_, _, SqL.of (sm _ _ hp2), eg⟩, ?_⟩
      rintro x H' ⟨rfl, hx'⟩
      have ex := hx' _ (SqL.of (sm _ _ hp2))
      rw [eg] at ex
      cases ex
      refine ⟨_, rfl, _, _, 0, _, rfl, rfl, SqT.of ((S2.trans sm) _ _ pt.1), rfl, ?_, hD', ⟨_, rfl⟩, sm.put hD⟩
      rw [List.getD_eq_getElem?_getD, List.getElem?_map, List.getElem?_eq_getElem hi]
      rfl
    rintro σ3 H3 ⟨_, sm3⟩ hDn3
    have S3 := S2.trans sm3
    refine ⟨⟨_, SqL.of (sm3 _ _ hp2), by rw [List.length_map, List.length_drop]; show es.length - 1 ≤ R.length; omega⟩, ?_⟩
    rw [show (List.range R.length).map (fun i => V.str ((R.map (·.name)).getD i "")) = (R.map (·.name)).map V.str from by
      have := range_map_getD (R.map (·.name)) ("" : Str) (fun z => V.str z)
      rw [List.length_map] at this
      exact this] at hDn3
    refine ⟨D, R.map (·.name), rfl, SqL.of hDn3, (by rw [List.length_map]; omega), fun l4 ys n4 hpm hso => ?_⟩
    have T4 := Same.upd (o := .lst (ys.map V.str)) n4
    have eys : ys = R'.map (·.name) := by
      refine List.Perm.eq_of_pairwise (fun a b _ _ h1 h2 => leS_anti h1 h2) (sortedS_pw hso) ?_ (hpm.trans (hRp.map _).symm)
      unfold Rise at hRr
      refine hRr.imp fun hab => ?_
      unfold leS
      rw [decide_eq_false hab]
      rfl
    subst eys
    refine ⟨p1, l4, _, _, rfl, rfl, (sm3.trans T4) _ _ hp1, upd_same, ?_, fun p5 e5 => ?_⟩
    · rw [List.length_map, List.length_map, sizeLine_eq]
      simp only [List.length_cons, List.length_nil]
      omega
    have T5 := Same.upd (o := .lst ([V.str T0.name] ++ (R'.map (·.name)).map V.str)) e5
    have S5 := S3.trans (T4.trans T5)
    have hp5 : (L2.upd (L2.upd H3 l4 (.lst ((R'.map (·.name)).map V.str))) p5 (.lst ([V.str T0.name] ++ (R'.map (·.name)).map V.str))) p5 = some (.lst (((T0 :: R').map (·.name)).map V.str)) := upd_same
    generalize L2.upd (L2.upd H3 l4 (.lst ((R'.map (·.name)).map V.str))) p5 (.lst ([V.str T0.name] ++ (R'.map (·.name)).map V.str)) = H5 at *
    refine ⟨_, rfl, f, sz, T0 :: R', rfl, hF.same S5, (by rw [List.length_cons]; omega), fun p6 H6 n6 s6 hp6 => ?_⟩
    have S6 := S5.trans s6
    have hp60 : H p6 = none := by
      cases e : H p6 with
      | none => rfl
      | some o => rw [S5 _ _ e] at n6; cases n6
    refine ⟨_, rfl, _, _, _, _, rfl, .lst hp6, kq (show kitTy "list" "list" = some true by decide +kernel), _, rfl, ?_⟩
    refine iteF ?_
    refine ⟨_, rfl, _, rfl, 0, p6, p5, _, _, rfl, rfl, SqL.of hp6, SqL.of (s6 _ _ hp5), rfl, (fun i x y h1 h2 => ?_), hu, _, rfl, ?_⟩
    · rw [h1] at h2
      cases h2
      obtain ⟨z, _, rfl⟩ := List.mem_map.mp (List.mem_of_getElem? h1)
      exact .str
    refine iteF ?_
    refine ⟨_, rfl, f, sz, T0, R', rfl, hF.same S6, ?_⟩
    refine ⟨_, rfl, _, _, 0, _, rfl, rfl, SqL.of (S6 _ _ hl), at0e, _, _, 0, _, rfl, rfl, SqT.of (S6 _ _ pt0.1), rfl, ?_⟩
    refine ⟨_, _, rfl, .str, fun H7 s7 => ⟨_, rfl, ?_⟩⟩
    refine iteF ?_
    have S7 := S6.trans s7
    have hp7 := s7 _ _ hp6
    refine ⟨_, rfl, .inl ⟨rfl, _, SqL.of hp7⟩, p6, _, rfl, rfl, hp7, ?_⟩
    have S8 : Same H (L2.upd H7 p6 (.lst [])) := S7.put hp60
    generalize L2.upd H7 p6 (.lst []) = H8 at *
    refine ⟨_, rfl, l, rfl, ⟨_, SqL.of (S8 _ _ hl)⟩, for_list (K := K) (a := l) (xs := es.map V.ref) (fun i σ Hc => Same H Hc ∧ ∃ u4 u5 u6 u7 u8, σ = [some (.ref f), some (.ref l), some (.ref p5), some (.ref p6), u4, u5, u6, u7, u8]) ⟨S8, _, _, _, _, _, rfl⟩ (fun i σ Hc _ pp => SqL.of (pp.1 _ _ hl)) ?_ ?_⟩
    · rintro i x σ Hc hx ⟨sc', u4, u5, u6, u7, u8, rfl⟩
      have hie : i < es.length := by
        have := (List.getElem?_eq_some_iff.mp hx).1
        rwa [List.length_map] at this
      have hid : i < ds.length := by omega
      have hit : i < Ts.length := by omega
      rw [List.getElem?_map, List.getElem?_eq_getElem hie] at hx
      cases hx
      have pt := hpt i es[i] ds[i] Ts[i] (List.getElem?_eq_getElem hie) (List.getElem?_eq_getElem hid) (List.getElem?_eq_getElem hit)
      have hTm : Ts[i] ∈ T0 :: R' := by
        have : Ts[i] ∈ T0 :: R := by rw [← eTs]; exact List.getElem_mem hit
        rcases List.mem_cons.mp this with h | h
        · rw [h]; exact List.mem_cons_self
        · exact List.mem_cons_of_mem _ (hRp.mem_iff.mpr h)
      generalize Ts[i] = T at pt hTm
      generalize ds[i] = dd at pt
      refine ⟨_, _, rfl, SqT.of (sc' _ _ pt.1), rfl, _, _, rfl, _, _, rfl, _, _, rfl, rfl, ?_⟩
      refine ⟨_, rfl, _, rfl, f, sz, T0 :: R', T, rfl, hF.same sc', nd', hTm, pt.2.2.1, pt.2.2.2.1, fun p H9 zs n9 s9 hpm hp => ?_⟩
      have hp0 : H p = none := by
        cases e : H p with
        | none => rfl
        | some o => rw [sc' _ _ e] at n9; cases n9
      have S9 := sc'.trans s9
      refine ⟨_, rfl, _, rfl, f, sz, T0 :: R', T, rfl, hF.same S9, nd', hTm, ?_⟩
      refine ⟨_, rfl, _, _, rfl, .str, fun H10 s10 => ⟨_, rfl, ?_⟩⟩
      refine iteF ?_
      have S10 := S9.trans s10
      have hp10 := s10 _ _ hp
      have hd10 := S10 _ _ pt.2.1
      refine ⟨_, rfl, _, _, _, _, rfl, .dK hp10, kq (show kitTy "dict" "dict" = some true by decide +kernel), _, rfl, ?_⟩
      refine iteF ?_
      refine ⟨_, rfl, p, _, rfl, hp10, _, rfl, dd, _, rfl, hd10, rfl, _, rfl, ?_⟩
      have elen : (zs.map fun z => ((.inr z : Key), vOf T.cols z)).length = (kvC T.cols).length := by
        unfold kvC
        rw [List.length_map, List.length_map, hpm.length_eq, List.length_map]
      refine iteNS (by rw [elen]) ?_
      refine ⟨dd, _, hd10, fun o => ?_⟩
      have hfa : (L2.upd H10 dd (.frz o (.dK (kvC T.cols)))) dd = some (.frz o (.dK (kvC T.cols))) := upd_same
      have npd : p ≠ dd := fun q => by have := pt.2.1; rw [← q, hp0] at this; cases this
      have hpF : (L2.upd H10 dd (.frz o (.dK (kvC T.cols)))) p = some (.dK (zs.map fun z => (.inr z, vOf T.cols z))) := by rw [upd_ne npd]; exact hp10
      refine ⟨_, rfl, dd, o, _, rfl, hfa, for_dict (a := dd) (o := o) (kvs := kvC T.cols) (fun k σ Hk => Same (L2.upd H10 dd (.frz o (.dK (kvC T.cols)))) Hk ∧ ∃ u8, σ = [some (.ref f), some (.ref l), some (.ref p5), some (.ref p6), some (.str T.name), some (.str T.sort), some (.ref dd), some (.ref p), u8]) ⟨Same.refl _, _, rfl⟩ (fun k σ Hk _ pp => pp.1 _ _ hfa) ?_ ?_⟩
      · rintro k ky v σ Hk hk ⟨sk, u8, rfl⟩
        obtain ⟨⟨z, v'⟩, hm, e⟩ := List.mem_map.mp (List.mem_of_getElem? hk)
        cases e
        have hzm : z ∈ T.cols.map (·.1) := List.mem_map.mpr ⟨(z, v'), hm, rfl⟩
        have hzz : z ∈ zs := hpm.mem_iff.mpr hzm
        refine ⟨_, rfl, _, rfl, p, _, rfl, .inl ⟨_, .inr z, .inl (sk _ _ hpF), rfl, (val_perm hzz).symm⟩, _, rfl, ?_⟩
        refine iteF ?_
        obtain ⟨d, hd1, hd2, hd3⟩ := col_rep pt.2.2 hzm
        have hrep : Rep Hk d (vOf T.cols z) := (Rep.beside (fun xs q => by rw [hd10] at q; cases q) hd3 (hd1.same S10)).same sk
        refine ⟨_, rfl, _, rfl, p, _, rfl, .inl ⟨_, .inr z, .inl (sk _ _ hpF), rfl, (val_perm hzz).symm⟩, ?_⟩
        refine ⟨_, rfl, _, rfl, dd, _, rfl, .inl ⟨_, .inr z, .inr ⟨o, sk _ _ hfa⟩, rfl, (val_in hzm).symm⟩, ?_⟩
        refine ⟨_, _, rfl, lk_kind hd2 hrep, fun Hm sm => ⟨_, rfl, ?_⟩⟩
        refine iteF ?_
        exact ⟨sk.trans sm, _, rfl⟩
      · rintro σ Hk ⟨sk, u8, rfl⟩
        refine ⟨sk _ _ hfa, ?_⟩
        have SB := back_same hd10 sk
        have hpB := SB _ _ hp10
        generalize L2.upd Hk dd (.dK (kvC T.cols)) = HB at *
        refine ⟨_, rfl, .inr (.inr (.inl ⟨rfl, .inl ⟨_, hpB⟩⟩)), p, _, rfl, rfl, hpB, ?_⟩
        exact ⟨(S10.trans SB).put hp0, _, _, _, _, _, rfl⟩
    · rintro σ Hc ⟨sc', u4, u5, u6, u7, u8, rfl⟩
      exact q Hc sc'
end
end My

namespace My
open PySem L2 PyProof.Rows
/-- neither dict nor list nor table -/
def nDL : HO → Bool
  | .dK _ => false
  | .lst _ => false
  | _ => true
def Sn (H H' : Hp) : Prop := ∀ b o, nDL o = true → H b = some o → H' b = some o
theorem Sn.refl (H : Hp) : Sn H H := fun _ _ _ e => e
theorem Sn.trans {H H1 H2 : Hp} (a : Sn H H1) (b : Sn H1 H2) : Sn H H2 := fun x o n e => b x o n (a x o n e)
theorem Sn.updD {H : Hp} {d : Addr} {kvs : List (Key × V)} {u : HO} (h : H d = some (.dK kvs)) : Sn H (L2.upd H d u) := fun b o n e => by
  rw [upd_ne (fun q => by rw [q, h] at e; cases e; cases n)]; exact e
theorem Sn.updL {H : Hp} {d : Addr} {ys : List V} {u : HO} (h : H d = some (.lst ys)) : Sn H (L2.upd H d u) := fun b o n e => by
  rw [upd_ne (fun q => by rw [q, h] at e; cases e; cases n)]; exact e
theorem FormAt.sn {H H' : Hp} {f : Addr} {sz : Int} {Ts : List Tb} (h : FormAt H f sz Ts) (s : Sn H H') : FormAt H' f sz Ts := by
  obtain ⟨tt, es, h1, h2, h3, h4⟩ := h
  refine ⟨tt, es, s _ _ rfl h1, s _ _ rfl h2, h3, fun j e T a b => ?_⟩
  obtain ⟨ct, g1, o, ps, zs, k1, k2, k3, k4, k5, k6⟩ := h4 j e T a b
  exact ⟨ct, s _ _ rfl g1, o, ps, zs, k1, k2, k3, s _ _ rfl k4, k5, fun j p z a b => s _ _ rfl (k6 j p z a b)⟩
theorem TabOk.sn {P : Addr} {pos : Pos} {q : Str} {H H' : Hp} (h : TabOk P pos q H) (s : Sn H H') : TabOk P pos q H' := by
  rcases h with h | ⟨c', h1, h2⟩
  · exact .inl (s _ _ rfl h)
  · exact .inr ⟨c', s _ _ rfl h1, s _ _ rfl h2⟩
theorem vof_mem {cols : List (Str × V)} (nd : (cols.map (·.1)).Nodup) {z : Str} {v : V} (h : (z, v) ∈ cols) : vOf cols z = v := by
  induction cols with
  | nil => cases h
  | cons p r ih =>
    rw [List.map_cons] at nd
    obtain ⟨n1, n2⟩ := List.nodup_cons.mp nd
    unfold vOf
    rcases List.mem_cons.mp h with h | h
    · rw [← h, show kvC ((z, v) :: r) = (.inr z, v) :: kvC r from rfl, valV_pos rfl]
      rfl
    · have e : ¬ p.1 = z := fun e => n1 (by rw [e]; exact List.mem_map.mpr ⟨_, h, rfl⟩)
      rw [show kvC (p :: r) = (.inr p.1, p.2) :: kvC r from rfl, valV_neg (fun q => e (by injection q))]
      exact ih n2 h
theorem kind_ref {H : Hp} {d : Dt} {v : V} (hk : kindD d = true) (h : Rep H d v) : ∃ a, v = .ref a := by
  cases d with
  | tup ds => simp only [Rep] at h; obtain ⟨a, xs, rfl, _⟩ := h; exact ⟨a, rfl⟩
  | _ => cases hk
theorem part_dq {H : Hp} {e e' d d' : Addr} {T : Tb} (h1 : PartAt H e d T) (h2 : PartAt H e' d' T) : Dq H 2 (.ref e) (.ref e') := by
  refine .tup h1.1 h2.1 rfl fun i x y hx hy => ?_
  match i, hx, hy with
  | 0, hx, hy => cases hx; cases hy; exact .str
  | 1, hx, hy => cases hx; cases hy; exact .str
  | 2, hx, hy =>
    cases hx
    cases hy
    have fv : ∀ (k : Key) (v : V), (k, v) ∈ kvC T.cols → (valV (kvC T.cols) k).getD .non = v := fun k v hm => by
      obtain ⟨⟨z, v'⟩, hm', e⟩ := List.mem_map.mp hm
      cases e
      exact vof_mem h1.2.2.1 hm'
    refine .dct (fun k => (valV (kvC T.cols) k).getD .non) (.inl h1.2.1) (.inl h2.2.1) rfl (fun k v hm => ?_) (fun k v hm => ?_) (fun k v hm => ?_)
    · obtain ⟨p, _, e⟩ := List.mem_map.mp hm
      cases e
      exact ⟨_, rfl⟩
    · rw [fv k v hm]; exact hm
    · rw [fv k v hm]
      obtain ⟨⟨z, v'⟩, hm', e⟩ := List.mem_map.mp hm
      cases e
      obtain ⟨_, dt, g1, g2, _⟩ := h1.2.2.2.2 _ hm'
      obtain ⟨a, ea⟩ := kind_ref g2 g1
      rw [show v' = .ref a from ea]
      exact .ref
  | i + 3, hx, hy => simp at hx
seal L2.PE L2.PT L2.PW L2.PS L2.PSs L2.PA L2.PI L2.PG L2.PGs L2.OpR L2.UnR L2.CallR L2.IxR L2.SlR L2.MtR L2.PIf L2.PO L2.MtM L2.PC L2.PIp L2.PSet L2.PGet L2.TruR L2.InOp L2.PK
def spLawT (K : PySem.W.Frag) (PF PL : Addr) : Sp := fun vs H Q _ => ∃ (a : Addr) (ns : List Int), vs = [.ref a] ∧ SqL K H a (ns.map V.int) ∧ ns.length ≤ 63 ∧ H PF = some (.tbl #[]) ∧ H PL = some (.tbl #[]) ∧ PF ≠ PL ∧ ∀ H', Q (.bl true) H'
def lN : List Str := ["_law_script", "_law_size", "_law_parts", "_law_handed", "_law_form_here", "_law_part"]
section
variable {P : Program} {w : World} {K : PySem.W.Frag} {mg : Str → Option Value} {base : Heap}
theorem ok_law {f fC fT fF fE fL fA PF PL : Addr} {fd fdC fdT fdF fdE fdL fdA : FuncData} (F : Fun K "law" "law" (top 38) f fd) (B : Bl mg) (hz : mg "zip" = none) (DC : Df K mg "_law_cell" (top 27) fC fdC) (DT : Df K mg "_law_tables" (top 34) fT fdT) (GT : FnOk P w K mg base CX0 4 fT fdT ["_law_script", "_law_start", "_law_most", "_law_wide"] (spTabsL K))
    (DF : Df K mg "form_of" (top 17) fF fdF) (GF : FnOk P w K mg base CX0 6 fF fdF ["size", "tables"] (spForm PF)) (DE : Df K mg "_law_same" (top 35) fE fdE) (DL : Df K mg "_law_form" (top 36) fL fdL) (GL : FnOk P w K mg base CX0 6 fL fdL ["_law_size", "_law_parts"] (spFormL PL))
    (DA : Df K mg "_law_about" (top 37) fA fdA) (GA : FnOk P w K mg base CX0 4 fA fdA ["_law_form_here", "_law_parts"] spAbout) : FnOk P w K mg base CX0 9 f fd ["_law_script"] (spLawT K PF PL) := by
  have sc : FnScope lN ["_law_script"] (defScope (top 38)) := ⟨rfl, rfl, rfl, by decide +kernel, rfl, by decide +kernel, by decide +kernel⟩
  have GC : FnOk P w K mg base CX0 1 fC fdC ["_law_script", "_law_k"] (spCell K) := ok_cell DC.fn B
  have GE : FnOk P w K mg base CX0 8 fE fdE ["_law_found", "_law_due"] (spSame5 7) := ok_same DE B hz 7
  have bC := DC.fn.binds (ps := ["_law_script", "_law_k"]) fun _ _ _ _ _ _ us hl => by obtain ⟨v0, v1, rfl⟩ := L2.ln2 hl; rfl
  have bT := DT.fn.binds (ps := ["_law_script", "_law_start", "_law_most", "_law_wide"]) fun _ _ _ _ _ _ us hl => by obtain ⟨v0, v1, v2, v3, rfl⟩ := L2.ln4 hl; rfl
  have bF := DF.fn.binds (ps := ["size", "tables"]) fun _ _ _ _ _ _ us hl => by obtain ⟨v0, v1, rfl⟩ := L2.ln2 hl; rfl
  have bE := DE.fn.binds (ps := ["_law_found", "_law_due"]) fun _ _ _ _ _ _ us hl => by obtain ⟨v0, v1, rfl⟩ := L2.ln2 hl; rfl
  have bL := DL.fn.binds (ps := ["_law_size", "_law_parts"]) fun _ _ _ _ _ _ us hl => by obtain ⟨v0, v1, rfl⟩ := L2.ln2 hl; rfl
  have bA := DA.fn.binds (ps := ["_law_form_here", "_law_parts"]) fun _ _ _ _ _ _ us hl => by obtain ⟨v0, v1, rfl⟩ := L2.ln2 hl; rfl
  refine F.ok sc (fun vs H Q E h => ?_) (fun cdv A outer s H vs Q E hr h => ?_)
  · obtain ⟨a, ns, rfl, _⟩ := h
    rfl
  · obtain ⟨a, ns, rfl, hS, h63, hPF, hPL, nPP, q⟩ := h
    have hr1 : Room 1 _ := hr.mono (by decide)
    have hr4 : Room 4 _ := hr.mono (by decide)
    have hr6 : Room 6 _ := hr.mono (by decide)
    have hu3 : (A.deeper (envOfC "law" (defScope (top 38)) s.heap.objs.size f cdv)).units + 2 + 1 < cLine := Nat.lt_of_le_of_lt (Nat.add_le_add_left (by decide : 3 ≤ 64) _) hr.units
    refine ⟨_, pss_cons (ps_set (i := 1) sc.nd rfl (Or.inl rfl) (pe_op op_add pe_int (pe_op op_mod (pe_op op_fdiv (pe_call GC hr1 (by rfl) DC.mg DC.fn.kp bC .nil pass0 (pa_cons (pv 0) (pa_cons pe_int pa_nil))) pe_int) (pe_ix ix_list (pe_lst (pa_cons pe_int (pa_cons (pe_op op_pow pe_int pe_int) pa_nil))) (pe_op op_mod (pe_call GC hr1 (by rfl) DC.mg DC.fn.kp bC .nil pass0 (pa_cons (pv 0) (pa_cons pe_int pa_nil))) pe_int) (fun _ _ => rfl)))))
      (pss_cons (ps_set (i := 2) sc.nd rfl (Or.inl rfl) (pe_call GT hr4 (by rfl) DT.mg DT.fn.kp bT .nil pass0 (pa_cons (pv 0) (pa_cons pe_int (pa_cons pe_int (pa_cons pe_int pa_nil))))))
      (pss_cons (ps_comp (i := 3) (osc := defScope (top 38)) (N0 := lN) (xs := ["_law_name", "_law_sort", "_law_columns_here"]) (fr := []) ⟨rfl, by decide +kernel, by decide +kernel, by decide +kernel, by decide, by decide +kernel⟩ rfl rfl rfl (pi_list (pv 2))
          (fun s H fp => pg_tupK (K := K) (n := 3) rfl rfl (pgs_cons (pg_name (i := 0) (show (["_law_name", "_law_sort", "_law_columns_here"] : List Str).Nodup by decide +kernel) rfl (Or.inl rfl)) (pgs_cons (pg_name (i := 1) (show (["_law_name", "_law_sort", "_law_columns_here"] : List Str).Nodup by decide +kernel) rfl (Or.inl rfl)) (pgs_cons (pg_name (i := 2) (show (["_law_name", "_law_sort", "_law_columns_here"] : List Str).Nodup by decide +kernel) rfl (Or.inl rfl)) pgs_nil)))) (fun s H fp => pif_nil)
          (fun s H fp => pe_tup (pa_cons (pv 0) (pa_cons (pv 1) (pa_cons (pe_callTy call_dict_of (by rfl) B.dict boot_dict (pa_cons (pv 2) pa_nil)) pa_nil)))) sc.nd rfl (Or.inl rfl))
      (pss_cons (ps_set (i := 4) sc.nd rfl (Or.inl rfl) (pe_call GF hr6 (by rfl) DF.mg DF.fn.kp bF .nil pass0 (pa_cons (pv 1) (pa_cons (pv 3) pa_nil))))
      (pss_cons (ps_if (PW.pt (pw_or (pt_cmpR op_neL (pv 3) (pv 2) (nomark _)) (pw_or1 (pt_not (pt_val (pe_call GE hr (by rfl) DE.mg DE.fn.kp bE .nil pass0 (pa_cons (pv 4) (pa_cons (pe_call GL hr6 (by rfl) DL.mg DL.fn.kp bL .nil pass0 (pa_cons (pv 1) (pa_cons (pv 2) pa_nil))) pa_nil)))))))) (pss_one (ps_ret pe_bl)) pss_nil)
      (pss_cons (ps_for PassesOwn.never rfl (pi_list (pv 3)) (pg_name (i := 5) sc.nd rfl (Or.inl rfl))
        (pss_one (ps_expr (pe_bm0 PySem.F.plainAttrs_dict PySem.F.slot_dict_clear PySem.F.type_dict_clear mt_dclear (pe_ix ix_tup (pv 5) pe_int (fun _ _ => rfl))))))
      (pss_cons (ps_expr (pe_bm0 PySem.F.plainAttrs_list PySem.F.slot_list_clear PySem.F.type_list_clear mt_clr (pv 3)))
      (pss_cons (ps_if (PW.pt (pw_or (pt_not (pt_val (pe_call GA hr4 (by rfl) DA.mg DA.fn.kp bA .nil pass0 (pa_cons (pv 4) (pa_cons (pv 2) pa_nil))))) (pw_or1 (pt_not (pt_val (pe_call GA hr4 (by rfl) DA.mg DA.fn.kp bA .nil pass0 (pa_cons (pv 4) (pa_cons (pv 2) pa_nil)))))))) (pss_one (ps_ret pe_bl)) pss_nil)
      (pss_one (ps_ret (pe_call GE hr (by rfl) DE.mg DE.fn.kp bE .nil pass0 (pa_cons (pv 4) (pa_cons (pe_call GL hr6 (by rfl) DL.mg DL.fn.kp bL .nil pass0 (pa_cons (pv 1) (pa_cons (pv 2) pa_nil))) pa_nil)))))))))))), ?_⟩
    have p12 : CPow 10 12 := ⟨by decide, by decide, by decide⟩
    have e12 : (10 : Int) ^ (12 : Int).toNat = 1000000000000 := by decide +kernel
    refine ⟨_, rfl, a, ns, _, rfl, hS, (by decide), (by decide), h63, _, _, rfl, rfl, ⟨by decide, by decide⟩, ?_⟩
    refine ⟨_, _, rfl, rfl, p12, (by show 2 ≤ sizeLine; decide), fun l1 e1 => ?_⟩
    have T1 := Same.upd (o := .lst [V.int 9, .int ((10 : Int) ^ (12 : Int).toNat)]) e1
    obtain ⟨x, hx, hm⟩ := at_mem (l := [V.int 9, .int ((10 : Int) ^ (12 : Int).toNat)]) (i := cellF ns 0 % 2) (Int.emod_nonneg _ (by decide)) (by show cellF ns 0 % 2 < 2; exact Int.emod_lt_of_pos _ (by decide))
    obtain ⟨m, rfl, m1⟩ : ∃ m : Int, x = .int m ∧ 0 < m := by
      simp only [List.mem_cons, List.not_mem_nil, or_false] at hm
      rcases hm with rfl | rfl
      · exact ⟨_, rfl, by decide⟩
      · exact ⟨_, rfl, by rw [e12]; decide⟩
    refine ⟨_, rfl, a, ns, _, rfl, T1.seq hS, (by decide), (by decide), h63, _, _, rfl, rfl, (pos rfl), _, _, _, _, rfl, rfl, SqL.of upd_same, hx, _, _, rfl, rfl, m1, _, _, rfl, rfl, ?_⟩
    have sz1 : 1 ≤ 1 + cellF ns 0 / 2 % m := by have := Int.emod_nonneg (cellF ns 0 / 2) (show m ≠ 0 by omega); omega
    show tSeq _ _ _ [some (.ref a), some (.int (1 + cellF ns 0 / 2 % m)), none, none, none, none] _
    generalize 1 + cellF ns 0 / 2 % m = sz at sz1 ⊢
    refine ⟨_, rfl, a, ns, rfl, T1.seq hS, h63, fun l es ds T0 R H2 s2 hP hT => ?_⟩
    have S2 := T1.trans s2
    obtain ⟨Ts, eTs⟩ : ∃ Ts, Ts = T0 :: R := ⟨_, rfl⟩
    have hP' := hP
    rw [← eTs] at hP'
    obtain ⟨hl, e1l, e2l, hpt⟩ := id hP'
    have tl : Ts.length = R.length + 1 := by rw [eTs]; rfl
    have r7 := hT.1
    -- the copies handed
    refine ⟨_, rfl, l, rfl, ⟨_, SqL.of hl⟩, fun D hD => ?_⟩
    refine compW_idx Ts.length (fun i ys σ' Hc => (∃ t0 t1 t2, σ' = [t0, t1, t2]) ∧ Same H2 Hc ∧ ∃ hs hd : List Addr, ys = hs.map V.ref ∧ hd.length = i ∧ (∀ d ∈ hd, H2 d = none) ∧ ∀ (j : Nat) (e d : Addr) (T : Tb), hs[j]? = some e → hd[j]? = some d → Ts[j]? = some T → PartAt Hc e d T) (by rw [sizeLine_eq]; omega) ⟨⟨_, _, _, rfl⟩, Same.upd hD, [], [], rfl, rfl, (fun d h => nomatch h), fun j e d T h => nomatch h⟩ upd_same ?_ ?_
    · rintro i σ' Hc ys hi ⟨⟨t0, t1, t2, rfl⟩, sm, hs, hd, rfl, hdl, hfr, hhp⟩ hyl hD'
      rw [List.length_map] at hyl
      have hie : i < es.length := by omega
      have hid : i < ds.length := by omega
      have pt := hpt i es[i] ds[i] Ts[i] (List.getElem?_eq_getElem hie) (List.getElem?_eq_getElem hid) (List.getElem?_eq_getElem hi)
      refine ⟨⟨_, V.ref es[i], SqL.of (sm _ _ hl), by rw [List.getElem?_map, List.getElem?_eq_getElem hie]; rfl⟩, ?_⟩
      rintro x H' ⟨rfl, hx'⟩
      have ex := hx' _ (SqL.of (sm _ _ hl))
      rw [List.getElem?_map, List.getElem?_eq_getElem hie] at ex
      cases ex
      refine ⟨_, _, rfl, SqT.of (sm _ _ pt.1), rfl, _, _, rfl, _, _, rfl, _, _, rfl, rfl, ?_⟩
      refine ⟨_, rfl, _, rfl, _, rfl, ds[i], _, rfl, .inl (sm _ _ pt.2.1), fun d1 n1 => ?_⟩
      have T3 := Same.upd (o := .dK (kvC Ts[i].cols)) n1
      refine ⟨(by show 3 ≤ sizeLine; decide), fun p hp => ?_⟩
      have T4 := Same.upd (o := .tup [.str Ts[i].name, .str Ts[i].sort, .ref d1]) hp
      have S4 := T3.trans T4
      have hD4 := S4 _ _ hD'
      have d0 : H2 d1 = none := by
        cases e : H2 d1 with
        | none => rfl
        | some o => rw [sm _ _ e] at n1; cases n1
      refine ⟨hD4, ⟨_, _, _, rfl⟩, (sm.trans S4).put hD, hs ++ [p], hd ++ [d1], by rw [List.map_append]; rfl, by rw [List.length_append, hdl]; rfl, (fun d hm => ?_), fun j e d T h1 h2 h3 => ?_⟩
      · rcases List.mem_append.mp hm with h | h
        · exact hfr d h
        · have : d = d1 := by simpa using h
          rw [this]
          exact d0
      · refine PartAt.besideL hD4 ?_
        by_cases hj : j < i
        · rw [List.getElem?_append_left (by omega)] at h1 h2
          exact (hhp j e d T h1 h2 h3).sb S4.sb
        · have : j = i := by
            have := (List.getElem?_eq_some_iff.mp h1).1
            rw [List.length_append] at this
            simp at this
            omega
          subst this
          rw [List.getElem?_append_right (by omega), hyl, Nat.sub_self] at h1
          rw [List.getElem?_append_right (by omega), hdl, Nat.sub_self] at h2
          cases h1
          cases h2
          rw [List.getElem?_eq_getElem hi] at h3
          cases h3
          exact ⟨upd_same, T4 _ _ upd_same, pt.2.2.same (sm.trans S4)⟩
    rintro σ3 H3 ys ⟨_, s3, hs, hd, rfl, hdl, hfr, hhp⟩ hD3 hyl
    rw [List.length_map] at hyl
    refine ⟨⟨_, SqL.of (s3 _ _ hl), by rw [List.length_map]; omega⟩, ?_⟩
    have hH3 : PartsAt H3 D hs hd (T0 :: R) := by
      rw [← eTs]
      exact ⟨hD3, hyl, hdl, hhp⟩
    have S3 := S2.trans s3
    -- the form
    refine ⟨_, rfl, _, rfl, D, sz, hs, hd, T0, R, rfl, sz1, hH3, hT, .inl (S3 _ _ hPF), fun ff H4 R' sb4 fr4 tab4 hRp hRr hF => ?_⟩
    have hPL4 : H4 PL = some (.tbl #[]) := fr4 _ _ (Ne.symm nPP) (S3 _ _ hPL)
    have hP4 := (hP.sb s3.sb).sb sb4
    have hH4 := hH3.sb sb4
    refine ⟨_, rfl, _, rfl, 2, D, l, _, _, rfl, rfl, SqL.of hH4.1, SqL.of hP4.1, ?_, (fun i x y h1 h2 => ?_), hu3, _, rfl, ?_⟩
    · rw [List.length_map, List.length_map]
      omega
    · rw [List.getElem?_map] at h1 h2
      obtain ⟨e, he, rfl⟩ := Option.map_eq_some_iff.mp h1
      obtain ⟨e', he', rfl⟩ := Option.map_eq_some_iff.mp h2
      have i1 : i < hs.length := (List.getElem?_eq_some_iff.mp he).1
      have i2 : i < hd.length := by omega
      have i3 : i < ds.length := by omega
      have i4 : i < Ts.length := by omega
      refine part_dq (d := hd[i]) (d' := ds[i]) (T := Ts[i]) (hH4.2.2.2 i e hd[i] Ts[i] he (List.getElem?_eq_getElem i2) ?_) (hP4.2.2.2 i e' ds[i] Ts[i] he' (List.getElem?_eq_getElem i3) ?_)
      · rw [← eTs]; exact List.getElem?_eq_getElem i4
      · rw [← eTs]; exact List.getElem?_eq_getElem i4
    refine iteF ?_
    have cok : ∀ {Hx : Hp} {S : List Tb}, Sb H2 Hx → S.Perm R → ∀ T ∈ T0 :: S, ColsOk Hx T.cols := fun {Hx S} sx pS T hm => by
      have hm' : T ∈ Ts := by
        rw [eTs]
        rcases List.mem_cons.mp hm with h | h
        · rw [h]; exact List.mem_cons_self
        · exact List.mem_cons_of_mem _ (pS.mem_iff.mp h)
      obtain ⟨i, hi, ei⟩ := List.mem_iff_getElem.mp hm'
      have h1 : i < es.length := by omega
      have h2 : i < ds.length := by omega
      have := (hpt i es[i] ds[i] Ts[i] (List.getElem?_eq_getElem h1) (List.getElem?_eq_getElem h2) (List.getElem?_eq_getElem hi)).2.2
      rw [ei] at this
      exact this.sb sx
    have ndR : (R.map (·.name)).Nodup := by
      have := hT.2.1
      rw [List.map_cons] at this
      exact (List.nodup_cons.mp this).2
    refine ⟨_, rfl, _, rfl, _, rfl, l, sz, es, ds, T0, R, rfl, hP4, hT, .inl hPL4, fun g H5 R5 sb5 fr5 tab5 hRp5 hRr5 hG => ?_⟩
    have eR5 := rise_eq ndR hRp5 hRp hRr5 hRr
    subst eR5
    have SB5 := s3.sb.trans (sb4.trans sb5)
    refine ⟨_, _, rfl, lk_form (hF.sb sb5) hG (cok SB5 hRp), fun H6 s6 => ⟨_, rfl, ?_⟩⟩
    refine iteF ?_
    have SB6 := SB5.trans s6.sb
    have hH6 := (hH4.sb sb5).sb s6.sb
    have hF6 := (hF.sb sb5).same s6
    -- what was handed is cleared
    refine ⟨_, rfl, D, rfl, ⟨_, SqL.of hH6.1⟩, for_list (K := K) (a := D) (xs := hs.map V.ref) (fun i σ Hc => Sb H2 Hc ∧ Sn H6 Hc ∧ Hc D = some (.lst (hs.map V.ref)) ∧ (∀ d ∈ hd, ∃ kvs, Hc d = some (.dK kvs)) ∧ ∃ u, σ = [some (.ref a), some (.int sz), some (.ref l), some (.ref D), some (.ref ff), u]) ⟨SB6, Sn.refl _, hH6.1, (fun d hm => ?_), _, rfl⟩ (fun i σ Hc _ pp => SqL.of pp.2.2.1) ?_ ?_⟩
    · obtain ⟨j, hj, ej⟩ := List.mem_iff_getElem.mp hm
      have j1 : j < hs.length := by omega
      have j2 : j < Ts.length := by omega
      have := (hH6.2.2.2 j hs[j] hd[j] Ts[j] (List.getElem?_eq_getElem j1) (List.getElem?_eq_getElem hj) (by rw [← eTs]; exact List.getElem?_eq_getElem j2)).2.1
      rw [ej] at this
      exact ⟨_, this⟩
    · rintro i x σ Hc hx ⟨sb, sn, hDc, hdd, u, rfl⟩
      have i1 : i < hs.length := by
        have := (List.getElem?_eq_some_iff.mp hx).1
        rwa [List.length_map] at this
      have i2 : i < hd.length := by omega
      have i4 : i < Ts.length := by omega
      rw [List.getElem?_map, List.getElem?_eq_getElem i1] at hx
      cases hx
      have pt := hH6.2.2.2 i hs[i] hd[i] Ts[i] (List.getElem?_eq_getElem i1) (List.getElem?_eq_getElem i2) (by rw [← eTs]; exact List.getElem?_eq_getElem i4)
      obtain ⟨kvs, hk⟩ := hdd hd[i] (List.getElem_mem i2)
      refine ⟨_, rfl, _, _, 2, _, rfl, rfl, SqT.of (sn _ _ rfl pt.1), rfl, .inr (.inr (.inl ⟨rfl, .inl ⟨_, hk⟩⟩)), hd[i], kvs, rfl, rfl, hk, ?_⟩
      refine ⟨fun b o n e => ?_, sn.trans (Sn.updD hk), ?_, fun d hm => ?_, _, rfl⟩
      · rw [upd_ne (fun q => by rw [q, hfr _ (List.getElem_mem i2)] at e; cases e)]
        exact sb b o n e
      · rw [upd_ne (fun q => by rw [q, hk] at hDc; cases hDc)]
        exact hDc
      · by_cases e : d = hd[i]
        · rw [e]
          exact ⟨_, upd_same⟩
        · rw [upd_ne e]
          exact hdd d hm
    rintro σ7 H7 ⟨sb7, sn7, hD7, _, u, rfl⟩
    refine ⟨_, rfl, .inl ⟨rfl, _, SqL.of hD7⟩, D, _, rfl, rfl, hD7, ?_⟩
    have SB8 : Sb H2 (L2.upd H7 D (.lst [])) := fun b o n e => by
      rw [upd_ne (fun q => by rw [q, hD] at e; cases e)]
      exact sb7 b o n e
    have SN8 : Sn H6 (L2.upd H7 D (.lst [])) := sn7.trans (Sn.updL hD7)
    generalize L2.upd H7 D (.lst []) = H8 at *
    have hF8 := hF6.sn SN8
    have hP8 := hP.sb SB8
    have tab8 := (tab5.same s6).sn SN8
    refine ⟨_, rfl, _, rfl, ff, l, sz, es, ds, T0, R, R5, rfl, hF8, hP8, hT, hRp, hRr, fun H9 s9 => ⟨_, rfl, ?_⟩⟩
    refine iteF ?_
    refine ⟨_, rfl, _, rfl, ff, l, sz, es, ds, T0, R, R5, rfl, hF8.same s9, hP8.sb s9.sb, hT, hRp, hRr, fun H10 s10 => ⟨_, rfl, ?_⟩⟩
    refine iteF ?_
    have S10 := s9.trans s10
    refine ⟨_, rfl, _, rfl, _, rfl, l, sz, es, ds, T0, R, rfl, hP8.sb S10.sb, hT, tab8.same S10, fun g' H11 R11 sb11 fr11 tab11 hRp11 hRr11 hG11 => ?_⟩
    have eR11 := rise_eq ndR hRp11 hRp hRr11 hRr
    subst eR11
    refine ⟨_, _, rfl, lk_form ((hF8.same S10).sb sb11) hG11 (cok ((SB8.trans S10.sb).trans sb11) hRp), fun H12 s12 => ?_⟩
    exact q H12
end
end My

namespace L2
open PySem PySem.Spec PyProof.Rows
/-- a def of the text that makes functions: its code object and that one's table are known -/
def DefInC (K : PySem.W.Frag) (x : Str) (st : Stmt) (P : Addr) : Prop := ∃ (f c : Addr) (oc : Value) (od : Option Addr) (kV doc pm : Value) (an : Option Addr) (ct : Value) (osl : Array (Option Value)),
  PySem.W.nsIn K mainGlobals x = some (some (.ref f)) ∧ K.lookup f = some ⟨oc, od, .func (PySem.W.fnOf x x (defArgs st) (defBody st) (defScope st) .none kV doc pm an (.ref c) ct), osl⟩ ∧ PySem.W.codeIn K (.ref c) x = true ∧ PySem.W.keepIn K (.ref f) = true ∧ PySem.W.codeHdIn K c P = true ∧ K.lookup P = none
theorem defInC_mk {K : PySem.W.Frag} {x : Str} {st : Stmt} {P f c : Addr} {oc : Value} {od an : Option Addr} {osl : Array (Option Value)} {kV doc pm ct : Value} (a : PySem.W.nsIn K mainGlobals x = some (some (.ref f)))
    (l : K.lookup f = some ⟨oc, od, .func (PySem.W.fnOf x x (defArgs st) (defBody st) (defScope st) .none kV doc pm an (.ref c) ct), osl⟩) (cd : PySem.W.codeIn K (.ref c) x = true) (k : PySem.W.keepIn K (.ref f) = true) (t : PySem.W.codeHdIn K c P = true) (n : K.lookup P = none) : DefInC K x st P :=
  ⟨f, c, oc, od, kV, doc, pm, an, ct, osl, a, l, cd, k, t, n⟩
theorem DefInC.get {K : PySem.W.Frag} {h : Heap} {mg : Str → Option Value} {x : Str} {st : Stmt} {P : Addr} (d : DefInC K x st P) (X : K.In h) (G : h.Ns mainGlobals mg) : ∃ f fd c, FunC K x x st f fd c ∧ mg x = some (.ref f) ∧ PySem.W.codeHdIn K c P = true := by
  obtain ⟨f, c, oc, od, kV, doc, pm, an, ct, osl, a, l, cd, k, t, n⟩ := d
  exact ⟨f, _, c, ⟨⟨oc, od, kV, doc, pm, an, ct, osl, rfl, l, cd⟩, k⟩, PySem.W.mg_of X G a, t⟩
theorem DefInC.tab {K : PySem.W.Frag} {x : Str} {st : Stmt} {P : Addr} (d : DefInC K x st P) : (∃ c, PySem.W.codeHdIn K c P = true) ∧ K.lookup P = none := by
  obtain ⟨f, c, oc, od, kV, doc, pm, an, ct, osl, a, l, cd, k, t, n⟩ := d
  exact ⟨⟨c, t⟩, n⟩
end L2
namespace My
open PySem L2
theorem all_mk {l : PySem.W.OpenLaw} {w : World} {K : PySem.W.Frag} {h : Heap} {mg : Str → Option Value} {fa sA PF PL : Addr} {tL tN tP tw tm ts : Tok} {od : Option Addr} {nK : Nat} {sl : Array (Option Value)} (X : K.In h) (G : h.Ns mainGlobals mg) (hfa : mg "law" = some (.ref fa))
    (dF : DefInC K "form_of" (top 17) PF) (dL : DefInC K "_law_form" (top 36) PL)
    (gL : PySem.W.nsIn K mainGlobals "LETTERS" = some (some (.str "abcdefghijklmnopqrstuvwxyz" tL))) (gN : PySem.W.nsIn K mainGlobals "LONGEST_NAME" = some (some (.int 8 tN))) (gP : PySem.W.nsIn K mainGlobals "PERCENT" = some (some (.int 37 tP)))
    (gS : PySem.W.nsIn K mainGlobals "SIDE_SORTS" = some (some (.ref sA))) (lS : K.lookup sA = some ⟨.type "tuple", od, .seq #[.str "twin" tw, .str "many" tm, .str "some" ts] nK, sl⟩)
    (d9 : DefIn K "is_whole" (top 9))
    (d10 : DefIn K "is_name" (top 10))
    (d11 : DefIn K "is_sign" (top 11))
    (d12 : DefIn K "is_plain" (top 12))
    (d13 : DefIn K "is_plain_pair" (top 13))
    (d14 : DefIn K "is_kind" (top 14))
    (d18 : DefIn K "ask_sorts" (top 18))
    (d19 : DefIn K "ask_names" (top 19))
    (d20 : DefIn K "columns_made" (top 20))
    (d21 : DefIn K "tables_of" (top 21))
    (d22 : DefIn K "head_of" (top 22))
    (d23 : DefIn K "sort_of" (top 23))
    (d24 : DefIn K "columns_of" (top 24))
    (d25 : DefIn K "table_in" (top 25))
    (d27 : DefIn K "_law_cell" (top 27))
    (d28 : DefIn K "_law_stream" (top 28))
    (d29 : DefIn K "_law_letter" (top 29))
    (d30 : DefIn K "_law_names" (top 30))
    (d31 : DefIn K "_law_plain" (top 31))
    (d32 : DefIn K "_law_kind" (top 32))
    (d33 : DefIn K "_law_columns" (top 33))
    (d34 : DefIn K "_law_tables" (top 34))
    (d35 : DefIn K "_law_same" (top 35))
    (d37 : DefIn K "_law_about" (top 37))
    (d38 : DefIn K "law" (top 38))
    (zb : BlK K) (zz : PySem.W.nsIn K mainGlobals "zip" = some none) :
    ∃ fd : FuncData, (∀ (s : Shared) (v : Value), BindsTo s fd ⟨[v], []⟩ [("_law_script", v)]) ∧ ∀ base : Heap, K.In base → base.Ns mainGlobals mg → L2.BMain base mg → FnOk l.prog w K mg base CX0 9 fa fd ["_law_script"] (spLawT K PF PL) := by
  have B : Bl mg := zb.bl X G
  have hz : mg "zip" = none := PySem.W.mg_none_of X G zz
  have mS := PySem.W.mg_of X G gS
  have qS : ∀ H, SqT K H sA (sides.map V.str) := fun H => .inr ⟨_, _, _, lS, rfl, rfl, (by show 3 ≤ sizeLine; decide), .cons ⟨tw, rfl⟩ (.cons ⟨tm, rfl⟩ (.cons ⟨ts, rfl⟩ .nil))⟩
  have mL := PySem.W.mg_of X G gL
  have mN := PySem.W.mg_of X G gN
  have mP := PySem.W.mg_of X G gP
  obtain ⟨f9, fd9, D9⟩ := d9.df X G
  obtain ⟨f10, fd10, D10⟩ := d10.df X G
  obtain ⟨f11, fd11, D11⟩ := d11.df X G
  obtain ⟨f12, fd12, D12⟩ := d12.df X G
  obtain ⟨f13, fd13, D13⟩ := d13.df X G
  obtain ⟨f14, fd14, D14⟩ := d14.df X G
  obtain ⟨f18, fd18, D18⟩ := d18.df X G
  obtain ⟨f19, fd19, D19⟩ := d19.df X G
  obtain ⟨f20, fd20, D20⟩ := d20.df X G
  obtain ⟨f21, fd21, D21⟩ := d21.df X G
  obtain ⟨f22, fd22, D22⟩ := d22.df X G
  obtain ⟨f23, fd23, D23⟩ := d23.df X G
  obtain ⟨f24, fd24, D24⟩ := d24.df X G
  obtain ⟨f25, fd25, D25⟩ := d25.df X G
  obtain ⟨f27, fd27, D27⟩ := d27.df X G
  obtain ⟨f28, fd28, D28⟩ := d28.df X G
  obtain ⟨f29, fd29, D29⟩ := d29.df X G
  obtain ⟨f30, fd30, D30⟩ := d30.df X G
  obtain ⟨f31, fd31, D31⟩ := d31.df X G
  obtain ⟨f32, fd32, D32⟩ := d32.df X G
  obtain ⟨f33, fd33, D33⟩ := d33.df X G
  obtain ⟨f34, fd34, D34⟩ := d34.df X G
  obtain ⟨f35, fd35, D35⟩ := d35.df X G
  obtain ⟨f37, fd37, D37⟩ := d37.df X G
  obtain ⟨f17, fd17, c17, F17, m17, t17⟩ := dF.get X G
  obtain ⟨f36, fd36, c36, F36, m36, t36⟩ := dL.get X G
  have D17 : Df K mg "form_of" (top 17) f17 fd17 := ⟨F17.fn, m17⟩
  have D36 : Df K mg "_law_form" (top 36) f36 fd36 := ⟨F36.fn, m36⟩
  obtain ⟨f, oc, od, kV, doc, pm, an, cdv, ct, osl, a, lk, c, k⟩ := d38
  have e := hfa.symm.trans (PySem.W.mg_of X G a)
  cases e
  refine ⟨PySem.W.fnOf "law" "law" (defArgs (top 38)) (defBody (top 38)) (defScope (top 38)) .none kV doc pm an cdv ct, fun s v => .of_eq rfl, fun base _ _ hB => ?_⟩
  have GN : FnOk l.prog w K mg base CX0 1 f10 fd10 ["thing"] (spName K) := ok_name D10.fn B mL ⟨tL, rfl⟩ mN ⟨tN, rfl⟩
  have GP : FnOk l.prog w K mg base CX0 3 f12 fd12 ["thing"] spPlain := ok_plain D12.fn B D9 D11 D13 mP ⟨tP, rfl⟩
  have GK : FnOk l.prog w K mg base CX0 4 f14 fd14 ["thing"] spKind := ok_kind D14.fn B D12 GP
  have GW : FnOk l.prog w K mg base CX0 1 f9 fd9 ["thing"] (spWhole K) := ok_whole D9.fn B
  have GC : FnOk l.prog w K mg base CX0 5 f20 fd20 ["columns"] spColM := ok_colM D20.fn B D10 GN D14 GK
  have GF : FnOk l.prog w K mg base CX0 6 f17 fd17 ["size", "tables"] (spForm PF) := ok_form F17 B t17 hB D9 GW D18 (ok_askS D18.fn mS qS) D19 (ok_askN D19.fn D10 GN) D20 GC
  have GL : FnOk l.prog w K mg base CX0 6 f36 fd36 ["_law_size", "_law_parts"] (spFormL PL) := ok_formL F36 B t36 hB
  exact ok_law (fun_mk lk c k) B hz D27 D34 (ok_tabsL D34.fn B D27 D30 D29 D28 D33 D32 D31) D17 GF D35 D36 GL D37 (ok_about D37.fn B hz D21 D22 D23 D24 D25 D35)
theorem walk5 {l : PySem.W.OpenLaw} {q : Program} {loose : List Str} {XP : (Str → Option Value) → Heap → Prop} {d : DefRec} {K : Params → PySem.W.Frag} {as : List Addr} {e : ∀ P, as = (K P).map (·.1)} {PL PF : Addr} (hk : Room 9 callerA) (hn : l.most = some 63) (hdf : d.params.defaults = []) (ne : PF ≠ PL)
    (DL : ∀ w : World, DefInC (K w.params) "_law_form" (top 36) PL) (DF : ∀ w : World, DefInC (K w.params) "form_of" (top 17) PF)
    (F : ∀ (w : World) (mg : Str → Option Value) (fa : Addr) (h : Heap), (K w.params).In h → h.Ns mainGlobals mg → mg d.name = some (.ref fa) → DefInC (K w.params) "form_of" (top 17) PF → DefInC (K w.params) "_law_form" (top 36) PL →
      ∃ fd : FuncData, (∀ (s : Shared) (u : Value), BindsTo s fd ⟨[u], []⟩ [("_law_script", u)]) ∧ ∀ base : Heap, (K w.params).In base → base.Ns mainGlobals mg → L2.BMain base mg → FnOk l.prog w (K w.params) mg base CX0 9 fa fd ["_law_script"] (spLawT (K w.params) PF PL)) :
    PySem.W.WalkO q loose XP (PySem.W.kmHook K as e [PL, PF]).says l.row.toRowW d [] (fun f vs => PySem.call f vs) := by
  refine L2.walk_ofT (n := 63) (k := 9) (x := "_law_script") (CX := fun _ => CX0) (sp := fun w => spLawT (K w.params) PF PL) (tx := fun _ => [PL, PF]) hn (by decide) hdf hk (fun w h Y => PySem.W.km_in_of Y) (fun w h Y b hb => ?_) (fun w mg fa h X G m => F w mg fa h X G m (DF w) (DL w)) (fun w H a ns hl hO hS => ?_) fun _ _ _ _ _ z => z
  · have g := PySem.W.km_tabs_of Y b hb
    rcases List.mem_cons.mp hb with rfl | hb
    · obtain ⟨⟨c, t⟩, n⟩ := (DL w).tab
      exact L2.tab_is (PySem.W.km_in_of Y) g t n
    · have e : b = PF := by simpa using hb
      subst e
      obtain ⟨⟨c, t⟩, n⟩ := (DF w).tab
      exact L2.tab_is (PySem.W.km_in_of Y) g t n
  · exact ⟨a, ns, rfl, hS, hl, hO.2 PF (by simp), hO.2 PL (by simp), ne, fun _ => rfl⟩
end My
open PySem PySem.W PyProof.Rows
set_option maxRecDepth 100000 in
set_option maxHeartbeats 0 in
theorem PySem.Challenge.cw_halfmoved_k05_a_form_is_made_holds : PySem.Challenge.rw_halfmoved_k05_a_form_is_made.Holds := by
  w_on; o_law; k_head; (case hw => w_witness2)
  k_fill
  refine My.walk5 (l := PySem.Challenge.rw_halfmoved_k05_a_form_is_made) ⟨rfl, by decide, by decide⟩ rfl rfl (by decide) ?DL ?DF ?F
  case DL =>
    intro w
    refine' L2.defInC_mk ?a ?l ?c ?k ?t ?n; (case a => k_is); (case l => k_is); (case c => k_is); (case k => k_is); (case t => rfl); (case n => rfl)
  case DF =>
    intro w
    refine' L2.defInC_mk ?a ?l ?c ?k ?t ?n; (case a => k_is); (case l => k_is); (case c => k_is); (case k => k_is); (case t => rfl); (case n => rfl)
  case F =>
    intro w mg fa h KX G hmg dF dL
    refine' My.all_mk KX G hmg dF dL ?gL ?gN ?gP ?gS ?lS ?d9 ?d10 ?d11 ?d12 ?d13 ?d14 ?d18 ?d19 ?d20 ?d21 ?d22 ?d23 ?d24 ?d25 ?d27 ?d28 ?d29 ?d30 ?d31 ?d32 ?d33 ?d34 ?d35 ?d37 ?d38 ?zb ?zz
    (case gL => k_is)
    (case gN => k_is)
    (case gP => k_is)
    (case gS => k_is)
    (case lS => k_is)
    (case d9 => refine' L2.defIn_mk ?a ?l ?c ?k; (case a => k_is); (case l => k_is); (case c => k_is); (case k => k_is))
    (case d10 => refine' L2.defIn_mk ?a ?l ?c ?k; (case a => k_is); (case l => k_is); (case c => k_is); (case k => k_is))
    (case d11 => refine' L2.defIn_mk ?a ?l ?c ?k; (case a => k_is); (case l => k_is); (case c => k_is); (case k => k_is))
    (case d12 => refine' L2.defIn_mk ?a ?l ?c ?k; (case a => k_is); (case l => k_is); (case c => k_is); (case k => k_is))
    (case d13 => refine' L2.defIn_mk ?a ?l ?c ?k; (case a => k_is); (case l => k_is); (case c => k_is); (case k => k_is))
    (case d14 => refine' L2.defIn_mk ?a ?l ?c ?k; (case a => k_is); (case l => k_is); (case c => k_is); (case k => k_is))
    (case d18 => refine' L2.defIn_mk ?a ?l ?c ?k; (case a => k_is); (case l => k_is); (case c => k_is); (case k => k_is))
    (case d19 => refine' L2.defIn_mk ?a ?l ?c ?k; (case a => k_is); (case l => k_is); (case c => k_is); (case k => k_is))
    (case d20 => refine' L2.defIn_mk ?a ?l ?c ?k; (case a => k_is); (case l => k_is); (case c => k_is); (case k => k_is))
    (case d21 => refine' L2.defIn_mk ?a ?l ?c ?k; (case a => k_is); (case l => k_is); (case c => k_is); (case k => k_is))
    (case d22 => refine' L2.defIn_mk ?a ?l ?c ?k; (case a => k_is); (case l => k_is); (case c => k_is); (case k => k_is))
    (case d23 => refine' L2.defIn_mk ?a ?l ?c ?k; (case a => k_is); (case l => k_is); (case c => k_is); (case k => k_is))
    (case d24 => refine' L2.defIn_mk ?a ?l ?c ?k; (case a => k_is); (case l => k_is); (case c => k_is); (case k => k_is))
    (case d25 => refine' L2.defIn_mk ?a ?l ?c ?k; (case a => k_is); (case l => k_is); (case c => k_is); (case k => k_is))
    (case d27 => refine' L2.defIn_mk ?a ?l ?c ?k; (case a => k_is); (case l => k_is); (case c => k_is); (case k => k_is))
    (case d28 => refine' L2.defIn_mk ?a ?l ?c ?k; (case a => k_is); (case l => k_is); (case c => k_is); (case k => k_is))
    (case d29 => refine' L2.defIn_mk ?a ?l ?c ?k; (case a => k_is); (case l => k_is); (case c => k_is); (case k => k_is))
    (case d30 => refine' L2.defIn_mk ?a ?l ?c ?k; (case a => k_is); (case l => k_is); (case c => k_is); (case k => k_is))
    (case d31 => refine' L2.defIn_mk ?a ?l ?c ?k; (case a => k_is); (case l => k_is); (case c => k_is); (case k => k_is))
    (case d32 => refine' L2.defIn_mk ?a ?l ?c ?k; (case a => k_is); (case l => k_is); (case c => k_is); (case k => k_is))
    (case d33 => refine' L2.defIn_mk ?a ?l ?c ?k; (case a => k_is); (case l => k_is); (case c => k_is); (case k => k_is))
    (case d34 => refine' L2.defIn_mk ?a ?l ?c ?k; (case a => k_is); (case l => k_is); (case c => k_is); (case k => k_is))
    (case d35 => refine' L2.defIn_mk ?a ?l ?c ?k; (case a => k_is); (case l => k_is); (case c => k_is); (case k => k_is))
    (case d37 => refine' L2.defIn_mk ?a ?l ?c ?k; (case a => k_is); (case l => k_is); (case c => k_is); (case k => k_is))
    (case d38 => refine' L2.defIn_mk ?a ?l ?c ?k; (case a => k_is); (case l => k_is); (case c => k_is); (case k => k_is))
    (case zb => refine' My.BlK.mk ?b0 ?b1 ?b2 ?b3 ?b4 ?b5 ?b6 ?b7 ?b8 ?b9 ?b10 ?b11 ?b12 ?b13 ?b14 ?b15; (case b0 => k_is); (case b1 => k_is); (case b2 => k_is); (case b3 => k_is); (case b4 => k_is); (case b5 => k_is); (case b6 => k_is); (case b7 => k_is); (case b8 => k_is); (case b9 => k_is); (case b10 => k_is); (case b11 => k_is); (case b12 => k_is); (case b13 => k_is); (case b14 => k_is); (case b15 => k_is))
    (case zz => k_is)
#print axioms PySem.Challenge.cw_halfmoved_k05_a_form_is_made_holds

