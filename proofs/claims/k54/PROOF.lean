import PyProof.Rows.All
import Wide.All
import OpenK.AllK
import Wide.FinOn
import Lean
import PyProof.EqAt
import PyProof.EqKinds
import PyProof.TupleCall
import PyProof.StrBlock
import PyProof.StrBlockL
import PyProof.Rows.StrJoin2
import KE.KIntText
import PyProof.StationsW
import PyProof.RulesTry
import PyProof.InstStoreFacts
import PyProof.ExcBaseAll.ValueError
import PyProof.ExcAttrAll.ValueError
import PyProof.NsDelKeeps
import KE.KDictSum
import PyProof.EnumMake
import PyProof.EnumStmt
import KE.KSortTup
import PyProof.NeKinds
import PyProof.ZipIter
import PyProof.TupleIter
import PyProof.ListRange
import KE.KPar
import KE.KLam
import KE.KNestM
import KE.KSortKey
import PyProof.AttrMissSeq
import KE.KDictOf
import PyProof.FactsAll.set_2
import PyProof.Rows.SetFrom
import PyProof.AttrMissHeap
import PySem.Challenge.RW_halfmoved_k54_what_is_lost
set_option Elab.async false
set_option linter.all false
set_option maxRecDepth 100000
set_option maxHeartbeats 4000000

/-! THE HAND LAYER, for ints, bools, texts, own classes, LISTS and tuples (index, slices, in, append, pop ..), calls, loops. Paste it whole ahead of your own text; what your proof does not reach may be deleted. -/
namespace L2
theorem ln0 {α : Type} {l : List α} (h : l.length = 0) : l = [] := List.eq_nil_of_length_eq_zero h
theorem ln1 {α : Type} {l : List α} (h : l.length = 1) : ∃ a, l = [a] := List.length_eq_one_iff.mp h
theorem ln2 {α : Type} {l : List α} (h : l.length = 2) : ∃ a b, l = [a, b] := by
  cases l with
  | nil => cases h
  | cons a r => obtain ⟨b, rfl⟩ := ln1 (Nat.succ.inj h); exact ⟨a, b, rfl⟩
theorem ln3 {α : Type} {l : List α} (h : l.length = 3) : ∃ a b c, l = [a, b, c] := by
  cases l with
  | nil => cases h
  | cons a r => obtain ⟨b, c, rfl⟩ := ln2 (Nat.succ.inj h); exact ⟨a, b, c, rfl⟩
theorem ln4 {α : Type} {l : List α} (h : l.length = 4) : ∃ a b c d, l = [a, b, c, d] := by
  cases l with
  | nil => cases h
  | cons a r => obtain ⟨b, c, d, rfl⟩ := ln3 (Nat.succ.inj h); exact ⟨a, b, c, d, rfl⟩
end L2
namespace L2
open PySem PySem.Spec PyProof.Rows

/-- a key: an int or a str -/
abbrev Key := Sum Int Str
def keyIs : Key → Value → Bool
  | .inl k, v => Value.isInt k v
  | .inr x, v => Value.isStrOf x v
def keyH (w : World) : Key → Int
  | .inl k => hashInt k
  | .inr x => hashStr w x
theorem keyIs_shape : ∀ {k : Key} {v : Value}, keyIs k v = true → (∃ i t, k = Sum.inl i ∧ v = Value.int i t) ∨ (∃ x t, k = Sum.inr x ∧ v = Value.str x t)
  | .inl i, v, h => by
    obtain ⟨t, e⟩ := Value.isInt_shape (k := i) (v := v) h
    exact .inl ⟨i, t, rfl, e⟩
  | .inr x, v, h => by
    obtain ⟨t, e⟩ := Value.isStrOf_shape (x := x) (v := v) h
    exact .inr ⟨x, t, rfl, e⟩
theorem keyIs_int (i : Int) (t : Tok) : keyIs (.inl i) (.int i t) = true := by simp [keyIs, Value.isInt]
theorem keyIs_str (x : Str) (t : Tok) : keyIs (.inr x) (.str x t) = true := by simp [keyIs, Value.isStrOf]
theorem key_ll (a b : Int) : decide ((Sum.inl a : Key) = Sum.inl b) = (a == b) := by
  by_cases e : a = b
  · subst e; simp
  · have h : ¬ (Sum.inl a : Key) = Sum.inl b := fun q => e (Sum.inl.inj q)
    rw [decide_eq_false h]
    exact (beq_eq_false_iff_ne.mpr e).symm
theorem key_rr (a b : Str) : decide ((Sum.inr a : Key) = Sum.inr b) = decide (a = b) := by
  by_cases e : a = b
  · subst e; simp
  · have h : ¬ (Sum.inr a : Key) = Sum.inr b := fun q => e (Sum.inr.inj q)
    rw [decide_eq_false h, decide_eq_false e]
theorem key_lr (a : Int) (b : Str) : decide ((Sum.inl a : Key) = Sum.inr b) = false := decide_eq_false (fun q => nomatch q)
theorem key_rl (a : Str) (b : Int) : decide ((Sum.inr a : Key) = Sum.inl b) = false := decide_eq_false (fun q => nomatch q)

def mixKind (prog : Program) (w : World) : PySem.KeyKind prog w Key where
  is := keyIs
  hash := keyH w
  inj := fun v a b ha hb => by
    rcases keyIs_shape ha with ⟨i, t, rfl, rfl⟩ | ⟨x, t, rfl, rfl⟩
    · rcases keyIs_shape hb with ⟨j, u, rfl, e⟩ | ⟨y, u, rfl, e⟩
      · injection e with e1 _; rw [e1]
      · exact nomatch e
    · rcases keyIs_shape hb with ⟨j, u, rfl, e⟩ | ⟨y, u, rfl, e⟩
      · exact nomatch e
      · injection e with e1 _; rw [e1]
  byValue := fun k v h => by
    rcases keyIs_shape h with ⟨i, t, rfl, rfl⟩ | ⟨x, t, rfl, rfl⟩ <;> rfl
  pyHash := fun hv h => by
    rcases keyIs_shape hv with ⟨i, t, rfl, rfl⟩ | ⟨x, t, rfl, rfl⟩
    · exact wpAny_pyHash_int h
    · exact wpAny_pyHash_str h
  eqBool := fun hu hv h => by
    rcases keyIs_shape hu with ⟨i, t, rfl, rfl⟩ | ⟨x, t, rfl, rfl⟩
    · rcases keyIs_shape hv with ⟨j, u, rfl, rfl⟩ | ⟨y, u, rfl, rfl⟩
      · rw [key_ll] at h; exact wpAny_eqBool_int h
      · rw [key_lr] at h; exact SeqAt.EqAt.int_str i t y u _ _ _ _ h
    · rcases keyIs_shape hv with ⟨j, u, rfl, rfl⟩ | ⟨y, u, rfl, rfl⟩
      · rw [key_rl] at h; exact SeqAt.EqAt.str_int x t j u _ _ _ _ h
      · rw [key_rr] at h; exact wpAny_eqBool_str h
  «strs» := fun k x t v h => by
    rcases keyIs_shape h with ⟨i, u, rfl, e⟩ | ⟨y, u, rfl, e⟩
    · exact nomatch e
    · injection e with e1 _
      subst e1
      cases v <;> rfl

theorem mixKind_int (prog : Program) (w : World) (i : Int) (t : Tok) : (mixKind prog w).is (.inl i) (.int i t) = true := keyIs_int i t
theorem mixKind_str (prog : Program) (w : World) (x : Str) (t : Tok) : (mixKind prog w).is (.inr x) (.str x t) = true := keyIs_str x t
end L2

namespace L2
open PySem PySem.Spec PyProof.Rows

/-- a value, without the heap -/
inductive V where
  | non | bl (b : Bool) | int (i : Int) | str (x : Str) | byt (b : Array UInt8) | flt (b : UInt64) | ref (a : Addr) | ty (n : String)
  deriving DecidableEq

def RelV : V → Value → Prop
  | .non, u => u = Value.none
  | .bl b, u => u = Value.bool b
  | .int i, u => ∃ t, u = Value.int i t
  | .str x, u => ∃ t, u = Value.str x t
  | .byt b, u => ∃ t, u = Value.bytes b t
  | .flt b, u => ∃ t, u = Value.float b t
  | .ref a, u => u = Value.ref a
  | .ty n, u => u = Value.type n

abbrev Vals : List V → List Value → Prop := Paired RelV
theorem Vals.length {xs : List V} {us : List Value} (r : Vals xs us) : xs.length = us.length := Paired.length r
theorem Vals.get : ∀ {xs : List V} {us : List Value} {i : Nat} {x : V}, Vals xs us → xs[i]? = some x → ∃ u, us[i]? = some u ∧ RelV x u
  | _, _, _, _, .nil, e => by simp at e
  | _, _, 0, _, .cons r _, e => by simp at e; subst e; exact ⟨_, rfl, r⟩
  | _, _, i + 1, x, .cons _ t, e => by
    obtain ⟨u, h1, h2⟩ := Vals.get (i := i) (x := x) t (by simpa using e)
    exact ⟨u, by simpa using h1, h2⟩
theorem Vals.append : ∀ {xs ys : List V} {us ws : List Value}, Vals xs us → Vals ys ws → Vals (xs ++ ys) (us ++ ws)
  | _, _, _, _, .nil, s => s
  | _, _, _, _, .cons r t, s => .cons r (Vals.append t s)
theorem Vals.take : ∀ {xs : List V} {us : List Value} (n : Nat), Vals xs us → Vals (xs.take n) (us.take n)
  | _, _, 0, _ => .nil
  | _, _, _ + 1, .nil => .nil
  | _, _, n + 1, .cons r t => .cons r (Vals.take n t)
theorem Vals.drop : ∀ {xs : List V} {us : List Value} (n : Nat), Vals xs us → Vals (xs.drop n) (us.drop n)
  | _, _, 0, r => r
  | _, _, _ + 1, .nil => .nil
  | _, _, n + 1, .cons _ t => Vals.drop n t
def RelO : Option V → Option Value → Prop
  | some v, some u => RelV v u
  | none, none => True
  | _, _ => False
def KV {κ : Type} : List (κ × V) → List (κ × Value) → Prop := Paired fun (p : κ × V) (q : κ × Value) => p.1 = q.1 ∧ RelV p.2 q.2

/-- a key of a dict (00_mix): an int or a text -/
def kV : Key → V
  | .inl i => .int i
  | .inr x => .str x

/-- what stands at a tracked address -/
inductive HO where
  /-- a list -/
  | lst (xs : List V)
  /-- a tuple (never changes) -/
  | tup (xs : List V)
  /-- a dict whose keys are ints and texts; one whose keys are tuples of ints and texts (the empty one is both) -/
  | dK (kvs : List (Key × V)) | dT (kvs : List (List Key × V))
  /-- a set of ints: its members, its size -/
  | set (S : Int → Bool) (n : Nat)
  /-- an instance of the class at C, its dict at dx, its attributes -/
  | ins (C dx : Addr) (fs : List (Str × V))
  /-- the dict of the instance at x -/
  | own (x : Addr)
  /-- the dict of an exception -/
  | xd (fs : List (Str × V))
  /-- a bound method, f of x -/
  | met (f x : Addr)
  /-- a range object lo, lo + 1, .. below hi -/
  | rng (lo hi : Int)
  /-- a thing that is known to the object (the script; a dict while a loop walks it): read, never written while it is so -/
  | frz (o : Obj) (u : HO)
  /-- a code object's table -/
  | tbl (ps : Array Value)
  /-- any other thing, by what is true of its one object (a def of one's own: SetO a S n := HO.ext fun h => ..) -/
  | ext (φ : Heap → Prop)

abbrev Hp := Addr → Option HO
def upd (H : Hp) (a : Addr) (o : HO) : Hp := fun b => if b = a then some o else H b
theorem upd_same {H : Hp} {a : Addr} {o : HO} : upd H a o a = some o := by unfold upd; rw [if_pos rfl]
theorem upd_ne {H : Hp} {a b : Addr} {o : HO} (h : b ≠ a) : upd H a o b = H b := by unfold upd; rw [if_neg h]
theorem upd_upd {H : Hp} {a : Addr} {o u : HO} : upd (upd H a o) a u = upd H a u := by
  funext b; unfold upd; split <;> rfl
/-- two objects of different content stand apart -/
theorem ne_of {H : Hp} {a b : Addr} {o u : HO} (h : H a = some o) (h' : H b = some u) (d : o ≠ u) : a ≠ b := by
  intro e; subst e; rw [h] at h'; exact d (Option.some.inj h')
theorem ne_of_none {H : Hp} {a b : Addr} {o : HO} (h : H a = some o) (h' : H b = none) : a ≠ b := by
  intro e; subst e; rw [h] at h'; cases h'

section
variable (P : Program) (w : World)
def ObjOk (H : Hp) (h : Heap) (a : Addr) : HO → Prop
  | .lst xs => xs.length ≤ sizeLine ∧ ∃ (its : List Value) (n : Nat), Vals xs its ∧ h.get? a = some { cls := .type "list", data := .seq its.toArray n }
  | .tup xs => xs.length ≤ sizeLine ∧ ∃ its : List Value, Vals xs its ∧ IsTup h a its.toArray
  | .dK kvs => kvs.length ≤ sizeLine ∧ (a == sysModules) = false ∧ ∃ vs, KV kvs vs ∧ h.DictOf (mixKind P w) a vs
  | .dT kvs => kvs.length ≤ sizeLine ∧ (a == sysModules) = false ∧ ∃ xs : List (List Key × Addr × Value),
      Paired (fun (p : List Key × V) (q : List Key × Addr × Value) => p.1 = q.1 ∧ H q.2.1 = some (.tup (p.1.map kV)) ∧ RelV p.2 q.2.2) kvs xs ∧
      ∃ o es ep, h.get? a = some o ∧ o.ExactDict ∧ o.data = .dict es ep ∧ es.toList = xs.map (entryOfKey (tupleKind (mixKind P w))) ∧ (xs.map (·.1)).Nodup
  | .set S n => h.SetOf (intKind P w) a S n
  | .ins C dx fs => H dx = some (.own a) ∧ fs.length ≤ 1000 ∧ dx ≠ a ∧ h.get? a = some (PySem.W.instObj C dx) ∧
      ∃ mA, h.Ns1 dx mA ∧ (∀ f, RelO (fs.lookup f) (mA f)) ∧ PySem.Within mA (fs.map (·.1))
  | .own _ => ∃ o, h.get? a = some o
  | .xd fs => ∃ mA, h.Ns1 a mA ∧ ∀ f, RelO (fs.lookup f) (mA f)
  | .rng lo hi => ∃ t u v, h.get? a = some { cls := .type "range", data := .fields #[.int lo t, .int hi u, .int 1 v] }
  | .frz o u => h.get? a = some o ∧ ObjOk H h a u
  | .tbl ps => h.get? a = some { cls := .none, data := .fields ps }
  | .met f x => h.get? a = some (PySem.W.methodObj (.ref f) (.ref x))
  | .ext φ => φ h ∧ (∃ o, h.get? a = some o) ∧ ∀ h1 h2 : Heap, φ h1 → (∀ o, h1.get? a = some o → h2.get? a = some o) → φ h2
/-- the abstract heap is held -/
def HOk (H : Hp) (h : Heap) : Prop := ∀ a o, H a = some o → ObjOk P w H h a o
end

section
variable {P : Program} {w : World} {H H' : Hp} {h h' : Heap} {a : Addr} {o : HO}
theorem ObjOk.lt (x : ObjOk P w H h a o) : a < h.objs.size := by
  cases o with
  | lst xs => obtain ⟨_, _, _, _, e⟩ := x; exact Heap.lt_size e
  | tup xs => obtain ⟨_, _, _, p⟩ := x; exact p.lt
  | dK kvs => obtain ⟨_, _, _, _, o, _, _, e, _⟩ := x; exact Heap.lt_size e
  | dT kvs => obtain ⟨_, _, _, _, o, _, _, e, _⟩ := x; exact Heap.lt_size e
  | set S n => obtain ⟨o, _, _, _, e, _⟩ := x; exact Heap.lt_size e
  | ins C dx fs => obtain ⟨_, _, _, e, _⟩ := x; exact Heap.lt_size e
  | own y => obtain ⟨_, e⟩ := x; exact Heap.lt_size e
  | xd fs => obtain ⟨_, ⟨_, _, _, e, _⟩, _⟩ := x; exact Heap.lt_size e
  | rng lo hi => obtain ⟨_, _, _, e⟩ := x; exact Heap.lt_size e
  | frz ob u => obtain ⟨e, _⟩ := x; exact Heap.lt_size e
  | tbl ps => exact Heap.lt_size (show h.get? a = some _ from x)
  | met f y => exact Heap.lt_size (show h.get? a = some _ from x)
  | ext φ => obtain ⟨_, ⟨_, e⟩, _⟩ := x; exact Heap.lt_size e
theorem Paired.mapP {α β : Type} {F G : α → β → Prop} : ∀ {l₁ : List α} {l₂ : List β}, Paired F l₁ l₂ → (∀ a b, F a b → G a b) → Paired G l₁ l₂
  | _, _, .nil, _ => .nil
  | _, _, .cons r t, f => .cons (f _ _ r) (Paired.mapP t f)
/-- what an object's description leans on: its own object, its own dict, the tuples -/
theorem ObjOk.stay (x : ObjOk P w H h a o) (k : ∀ b u, (b = a ∨ H b = some (.own a)) → h.get? b = some u → h'.get? b = some u)
    (ho : ∀ b, H b = some (.own a) → H' b = some (.own a)) (ht : ∀ b xs, H b = some (.tup xs) → H' b = some (.tup xs)) : ObjOk P w H' h' a o := by
  induction o with
  | lst xs => obtain ⟨z, its, n, r, e⟩ := x; exact ⟨z, its, n, r, k _ _ (.inl rfl) e⟩
  | tup xs => obtain ⟨z, its, r, ob, e, c⟩ := x; exact ⟨z, its, r, ob, k _ _ (.inl rfl) e, c⟩
  | dK kvs => obtain ⟨z, y, vs, r, ob, es, ep, e, c⟩ := x; exact ⟨z, y, vs, r, ob, es, ep, k _ _ (.inl rfl) e, c⟩
  | dT kvs =>
    obtain ⟨z, y, xs, r, ob, es, ep, e, c⟩ := x
    exact ⟨z, y, xs, Paired.mapP r fun p q z => ⟨z.1, ht _ _ z.2.1, z.2.2⟩, ob, es, ep, k _ _ (.inl rfl) e, c⟩
  | set S n => obtain ⟨ob, es, ep, t, e, c⟩ := x; exact ⟨ob, es, ep, t, k _ _ (.inl rfl) e, c⟩
  | ins C dx fs =>
    obtain ⟨d, z, ne, e, mA, ⟨od, es, ep, e2, c⟩, r⟩ := x
    exact ⟨ho _ d, z, ne, k _ _ (.inl rfl) e, mA, ⟨od, es, ep, k _ _ (.inr d) e2, c⟩, r⟩
  | own y => obtain ⟨ob, e⟩ := x; exact ⟨ob, k _ _ (.inl rfl) e⟩
  | xd fs => obtain ⟨mA, ⟨od, es, ep, e, c⟩, r⟩ := x; exact ⟨mA, ⟨od, es, ep, k _ _ (.inl rfl) e, c⟩, r⟩
  | rng lo hi => obtain ⟨t, u, v, e⟩ := x; exact ⟨t, u, v, k _ _ (.inl rfl) e⟩
  | frz ob u ih => obtain ⟨e, q⟩ := x; exact ⟨k _ _ (.inl rfl) e, ih q⟩
  | tbl ps =>
    have e : h.get? a = some { cls := .none, data := .fields ps } := x
    show h'.get? a = some { cls := .none, data := .fields ps }
    exact k a _ (.inl rfl) e
  | met f y =>
    have e : h.get? a = some (PySem.W.methodObj (.ref f) (.ref y)) := x
    show h'.get? a = some (PySem.W.methodObj (.ref f) (.ref y))
    exact k a _ (.inl rfl) e
  | ext φ => obtain ⟨p, ⟨o, e⟩, st⟩ := x; exact ⟨st _ _ p fun o q => k _ _ (.inl rfl) q, ⟨o, k _ _ (.inl rfl) e⟩, st⟩
theorem HOk.lt (x : HOk P w H h) (e : H a = some o) : a < h.objs.size := (x a o e).lt
theorem HOk.fresh (x : HOk P w H h) (e : h.objs.size ≤ a) : H a = none := by
  cases q : H a with
  | none => rfl
  | some u => exact absurd (Nat.lt_of_lt_of_le (x.lt q) e) (Nat.lt_irrefl _)
/-- every object of the heap is kept -/
theorem HOk.kept (x : HOk P w H h) (k : ∀ b u, h.get? b = some u → h'.get? b = some u) : HOk P w H h' := fun a o e =>
  (x a o e).stay (fun b u _ q => k b u q) (fun _ q => q) fun _ _ q => q
/-- a new object is laid and tracked -/
theorem HOk.laid (x : HOk P w H h) (k : ∀ b u, h.get? b = some u → h'.get? b = some u) (hp : h.objs.size ≤ a) (new : ObjOk P w (upd H a o) h' a o) : HOk P w (upd H a o) h' := fun b u e => by
  have hn := x.fresh hp
  by_cases hb : b = a
  · subst hb; rw [upd_same] at e; cases e; exact new
  · rw [upd_ne hb] at e
    exact (x b u e).stay (fun c v _ q => k c v q) (fun c q => by rw [upd_ne (ne_of_none q hn)]; exact q) fun c xs q => by rw [upd_ne (ne_of_none q hn)]; exact q
end

/-- what may be read as u: it is u, or a known u -/
def Rd (H : Hp) (a : Addr) (u : HO) : Prop := H a = some u ∨ ∃ o, H a = some (.frz o u)
theorem Rd.ok {P : Program} {w : World} {H : Hp} {h : Heap} {a : Addr} {u : HO} (r : Rd H a u) (x : HOk P w H h) : ObjOk P w H h a u := by
  rcases r with r | ⟨o, r⟩
  · exact x a u r
  · obtain ⟨_, q⟩ := x a _ r
    exact q
/-- what may be written -/
def Mut : Option HO → Prop
  | some (.lst _) => True
  | some (.dK _) => True
  | some (.dT _) => True
  | some (.set _ _) => True
  | some (.ins _ _ _) => True
  | some (.ext _) => True
  | _ => False
section
variable {P : Program} {w : World} {H : Hp} {h h' : Heap} {x e : Addr} {o' : HO}
/-- the object at e is changed: x itself, or the dict of the instance x -/
theorem HOk.write (ok : HOk P w H h) (mu : Mut (H x)) (he : e = x ∨ H e = some (.own x)) (k : ∀ b u, b ≠ e → h.get? b = some u → h'.get? b = some u) (heo : ∃ u, h'.get? e = some u)
    (new : ObjOk P w (upd H x o') h' x o') : HOk P w (upd H x o') h' := fun b u q => by
  have nown : ∀ c y, H c = some (.own y) → c ≠ x := fun c y r z => by subst z; rw [r] at mu; exact mu
  have ntup : ∀ c xs, H c = some (.tup xs) → c ≠ x := fun c xs r z => by subst z; rw [r] at mu; exact mu
  by_cases hb : b = x
  · subst hb; rw [upd_same] at q; cases q; exact new
  · rw [upd_ne hb] at q
    by_cases hbe : b = e
    · have q' : H b = some (.own x) := by
        rcases he with z | z
        · exact absurd (hbe.trans z) hb
        · rw [hbe]; exact z
      rw [q] at q'; cases q'
      obtain ⟨v, hv⟩ := heo
      exact ⟨v, by rw [hbe]; exact hv⟩
    · refine (ok b u q).stay (fun c v hc r => k c v ?_ r) (fun c r => by rw [upd_ne (nown c b r)]; exact r) fun c xs r => by rw [upd_ne (ntup c xs r)]; exact r
      rcases hc with rfl | hc
      · exact hbe
      · rintro rfl
        rcases he with z | z
        · exact nown c b hc z
        · rw [hc] at z; cases z; exact hb rfl
end

/-! ### kept unless tracked; of the frames at fs (the callers') the slots may change (an exception that passes writes there); of the records at ex (iterators) nothing is said -/
structure Un (fs ex : List Addr) (H H' : Hp) (h h' : Heap) : Prop where
  keep : ∀ b o, h.get? b = some o → H b = none → b ∉ fs → b ∉ ex → h'.get? b = some o
  slot : ∀ b o, h.get? b = some o → H b = none → b ∈ fs → b ∉ ex → ∃ sl, h'.get? b = some { o with slots := sl }
  free : ∀ b o, h.get? b = some o → H b = none → b ∉ ex → H' b = none
  there : ∀ b o, h.get? b = some o → b ∉ ex → ∃ o', h'.get? b = some o'
  tups : ∀ b xs, H b = some (.tup xs) → H' b = some (.tup xs)
  frzs : ∀ b o u, H b = some (.frz o u) → H' b = some (.frz o u)
  tbls : ∀ b ps, H b = some (.tbl ps) → ∃ more, H' b = some (.tbl (ps ++ more))
section
variable {fs fs' ex ex' : List Addr} {H H1 H2 : Hp} {h h1 h2 h' : Heap} {a x e : Addr} {o : HO}
theorem Un.any (u : Un fs ex H H1 h h1) {b : Addr} {ob : Obj} (q : h.get? b = some ob) (n : H b = none) (hx : b ∉ ex) : ∃ sl, h1.get? b = some { ob with slots := sl } := by
  by_cases hb : b ∈ fs
  · exact u.slot b ob q n hb hx
  · exact ⟨ob.slots, u.keep b ob q n hb hx⟩
theorem Un.kept (k : ∀ b u, h.get? b = some u → h'.get? b = some u) : Un fs ex H H h h' :=
  ⟨fun b ob q _ _ _ => k b ob q, fun b ob q _ _ _ => ⟨ob.slots, k b ob q⟩, fun _ _ _ n _ => n, fun b ob q _ => ⟨ob, k b ob q⟩, fun _ _ q => q, fun _ _ _ q => q, fun _ ps q => ⟨#[], by rw [q]; simp⟩⟩
theorem Un.refl : Un fs ex H H h h := Un.kept fun _ _ q => q
theorem Un.laid (k : ∀ b u, h.get? b = some u → h'.get? b = some u) (hp : h.objs.size ≤ a) (hn : H a = none) : Un fs ex H (upd H a o) h h' where
  keep := fun b u q _ _ _ => k b u q
  slot := fun b u q _ _ _ => ⟨u.slots, k b u q⟩
  free := fun b u q n _ => by rw [upd_ne (Nat.ne_of_lt (Nat.lt_of_lt_of_le (Heap.lt_size q) hp))]; exact n
  there := fun b u q _ => ⟨u, k b u q⟩
  tups := fun b xs q => by rw [upd_ne (ne_of_none q hn)]; exact q
  frzs := fun b u xs q => by rw [upd_ne (ne_of_none q hn)]; exact q
  tbls := fun b ps q => ⟨#[], by rw [upd_ne (ne_of_none q hn), q]; simp⟩
theorem Un.write (mu : Mut (H x)) (he : e = x ∨ H e = some (.own x)) (k : ∀ b u, b ≠ e → h.get? b = some u → h'.get? b = some u) (heo : ∃ u, h'.get? e = some u) : Un fs ex H (upd H x o) h h' := by
  have hx : ∀ b, H b = none → b ≠ x := fun b n z => by subst z; rw [n] at mu; exact mu
  have hb : ∀ b, H b = none → b ≠ e := fun b n z => by
    subst z
    rcases he with r | r
    · exact hx b n r
    · rw [n] at r; cases r
  have hm : ∀ b u, H b = some u → ¬ Mut (some u) → b ≠ x := fun b u q nm z => by subst z; rw [q] at mu; exact nm mu
  refine ⟨fun b u q n _ _ => k b u (hb b n) q, fun b u q n _ _ => ⟨u.slots, k b u (hb b n) q⟩, fun b u q n _ => by rw [upd_ne (hx b n)]; exact n, fun b u q _ => ?_,
    fun b xs q => by rw [upd_ne (hm b _ q fun z => z)]; exact q, fun b u xs q => by rw [upd_ne (hm b _ q fun z => z)]; exact q, fun b ps q => ⟨#[], by rw [upd_ne (hm b _ q fun z => z), q]; simp⟩⟩
  by_cases hbe : b = e
  · subst hbe; exact heo
  · exact ⟨u, k b u hbe q⟩
end

/-! ### the heap without what is tracked -/
def trk (h : Heap) (H : Hp) : List Addr := (List.range h.objs.size).filter fun a => (H a).isSome
def hidT (h : Heap) (H : Hp) : Heap := PySem.W.hideAll h (trk h H)
theorem hidT_size (h : Heap) (H : Hp) : (hidT h H).objs.size = h.objs.size := PySem.W.hideAll_size _ _
theorem hidT_get {h : Heap} {H : Hp} {b : Addr} {o : Obj} (e : h.get? b = some o) (n : H b = none) : (hidT h H).get? b = some o :=
  PySem.W.hideAll_get _ e fun hm => by
    have q : (H b).isSome = true := (List.mem_filter.mp hm).2
    rw [n] at q; simp at q
theorem of_hidT {h : Heap} {H : Hp} {b : Addr} {o : Obj} (e : (hidT h H).get? b = some o) : h.get? b = some o ∧ H b = none := by
  have e' : h.get? b = some o := PySem.W.of_hideAll (trk h H) e
  refine ⟨e', ?_⟩
  cases q : H b with
  | none => rfl
  | some x =>
    have hm : b ∈ trk h H := List.mem_filter.mpr ⟨List.mem_range.mpr (Heap.lt_size e'), by simp [q]⟩
    have z : (hidT h H).get? b = none := PySem.W.hideAll_none (trk h H) hm
    rw [z] at e; cases e

/-! ### OpenK's ledger, filled with every new object but one -/
end L2

namespace L2
open PySem PySem.Spec PyProof.Rows

/-- the module's facts, over the base: the heap at the law's entry without what is tracked there -/
structure Mod (K : PySem.W.Frag) (mg : Str → Option Value) (base : Heap) : Prop where
  kin : K.In base
  glob : base.Ns mainGlobals mg
  blt : ∃ mb, base.Ns builtinsNs mb ∧ ∀ x : Str, x ≠ "__name__" → mb x = bootBuiltins x
  nolimit : base.NoLimit

/-- the context: a def's body (or a comprehension's block) running. base: fixed through the whole law; s₀, H₀: the entry; outer: the frames whose slots others may change (a def's callers); stack: all frames that run;
   ex: iterators that were made ahead of the entry and are walked here (a comprehension's); fn: the names whose cells were made at the entry (a def: all; a comprehension's block: its own); calm: not within an except suite; pn: pins that every state bears; xe: what is wanted of an exception that leaves the code -/
structure Cx where
  prog : Program
  w : World
  K : PySem.W.Frag
  mg : Str → Option Value
  base : Heap
  A : Around
  N : List Str
  s₀ : Shared
  H₀ : Hp
  env : Env
  outer : List Env
  stack : List Env
  ex : List Addr
  fn : Str → Bool
  calm : Bool
  pn : List (Addr × Obj)
  xe : Value → Shared → Prop
/-- the callers' frames -/
def frs (l : List Env) : List Addr := l.filterMap (·.frame)
abbrev Cx.fs (X : Cx) : List Addr := frs X.outer

def Vis (sc : Scope) (x : Str) : Prop := sc.names.lookup x = some .local ∨ sc.names.lookup x = some .cell ∨ sc.names.lookup x = some .free
def Loc (sc : Scope) (x : Str) : Prop := sc.names.lookup x = some .local ∨ sc.names.lookup x = some .cell
def Look (env : Env) (h : Heap) (m : Str → Option Value) (x : Str) (u : Value) : Prop :=
  (env.kindOf x = some .local ∧ m x = some u) ∨ ((env.kindOf x = some .cell ∨ env.kindOf x = some .free) ∧ ∃ c, env.cells.lookup x = some c ∧ h.IsCell c (some u))

structure Cx.Ok (X : Cx) : Prop where
  mod : Mod X.K X.mg X.base
  kind : X.env.scope.kind = .function
  glob : X.env.globals = mainGlobals
  blt : X.env.builtins = builtinsNs
  above : X.s₀.heap.objs.size ≤ X.env.locals
  inj : ∀ x y c, X.env.cells.lookup x = some c → X.env.cells.lookup y = some c → x = y
  has : ∀ x, (X.env.kindOf x = some .cell ∨ X.env.kindOf x = some .free) → ∃ c, X.env.cells.lookup x = some c
  cab : ∀ x c, X.fn x = true → X.env.cells.lookup x = some c → X.s₀.heap.objs.size ≤ c
  hd : X.calm = true → X.A.handled = none
  frames : X.A.frames = some X.stack
  stk : X.stack = X.outer ∨ (X.stack = X.env :: X.outer ∧ X.env.frame = some X.env.locals)
  exf : ∀ b ∈ X.ex, b ≠ X.env.locals ∧ ∀ x c, X.env.cells.lookup x = some c → c ≠ b
  bs : ∀ b o, X.base.get? b = some o → X.s₀.heap.get? b = some o ∧ X.H₀ b = none
  bsz : X.base.objs.size ≤ X.s₀.heap.objs.size
  noex : ∀ b o, X.base.get? b = some o → b ∉ X.ex
  exfs : ∀ b ∈ X.ex, b ∉ X.fs
  funs : X.s₀.heap.FunFrames X.base X.outer
  frf : ∀ b ∈ X.fs, X.H₀ b = none

structure Inv (X : Cx) (pins : List (Addr × Obj)) (σ : List (Option V)) (H : Hp) (s : Shared) : Prop where
  ok : X.Ok
  os : s.os = X.s₀.os
  bare : AllBare s.gens
  base : Un X.fs X.ex X.H₀ H X.s₀.heap s.heap
  loc : ∃ m, s.heap.Ns X.env.locals m ∧ ∀ (i : Nat) (x : Str) (v : V), X.N[i]? = some x → σ[i]? = some (some v) → Vis X.env.scope x → ∃ u, RelV v u ∧ Look X.env s.heap m x u
  cell : ∀ x c, X.env.cells.lookup x = some c → ∃ v, s.heap.IsCell c v
  free : H X.env.locals = none
  freeC : ∀ x c, X.env.cells.lookup x = some c → H c = none
  pin : ∀ p ∈ X.pn ++ pins, s.heap.get? p.1 = some p.2 ∧ H p.1 = none ∧ p.1 ≠ X.env.locals ∧ p.1 ∉ X.fs ∧ ∀ v, p.2.data ≠ .cell v
  hok : HOk X.prog X.w H s.heap
  len : σ.length = X.N.length

section
variable {X : Cx} {pins : List (Addr × Obj)} {σ : List (Option V)} {H H' : Hp} {s : Shared} {h' : Heap}

theorem Cx.Ok.nofr (ok : X.Ok) {b : Addr} {o : Obj} (e : X.base.get? b = some o) : b ∉ X.fs := fun hb => by
  have := (ok.funs.mem hb).1
  rw [e] at this; cases this
theorem Inv.bs (I : Inv X pins σ H s) : ∀ b o, X.base.get? b = some o → s.heap.get? b = some o ∧ H b = none := fun b o e =>
  ⟨I.base.keep b o (I.ok.bs b o e).1 (I.ok.bs b o e).2 (I.ok.nofr e) (I.ok.noex b o e), I.base.free b o (I.ok.bs b o e).1 (I.ok.bs b o e).2 (I.ok.noex b o e)⟩
theorem Inv.bk (I : Inv X pins σ H s) : ∀ b o, X.base.get? b = some o → s.heap.get? b = some o := fun b o e => (I.bs b o e).1
theorem Inv.mod (I : Inv X pins σ H s) : Mod X.K X.mg X.base := I.ok.mod
theorem Inv.kIn (I : Inv X pins σ H s) : X.K.In s.heap := I.ok.mod.kin.keeps I.bk
theorem Inv.lt (I : Inv X pins σ H s) : X.env.locals < s.heap.objs.size := let ⟨_, hn, _⟩ := I.loc; hn.lt
theorem Inv.sz (I : Inv X pins σ H s) : X.s₀.heap.objs.size ≤ s.heap.objs.size := Nat.le_trans I.ok.above (Nat.le_of_lt I.lt)
theorem Inv.nofs (I : Inv X pins σ H s) {a : Addr} (h : s.heap.objs.size ≤ a) : a ∉ X.fs := fun hb => by
  obtain ⟨_, o, ho, _⟩ := I.ok.funs.mem hb
  exact absurd (Nat.lt_of_lt_of_le (Heap.lt_size ho) (Nat.le_trans I.sz h)) (Nat.lt_irrefl _)
theorem Inv.cne (I : Inv X pins σ H s) : ∀ x c, X.env.cells.lookup x = some c → c ≠ X.env.locals := fun x c e z => by
  obtain ⟨v, o, ho, hd⟩ := I.cell x c e
  obtain ⟨m, ⟨o', es, ep, ho', hd', _⟩, _⟩ := I.loc
  rw [z, ho'] at ho; cases ho; rw [hd'] at hd; cases hd
theorem Inv.funs (I : Inv X pins σ H s) : s.heap.FunFrames X.base X.outer := by
  have all : ∀ (l : List Env), (∀ b ∈ frs l, b ∈ X.fs) → X.s₀.heap.FunFrames X.base l → s.heap.FunFrames X.base l := by
    intro l
    induction l with
    | nil => intro _ _; trivial
    | cons env r ih =>
      intro hs hl
      obtain ⟨hk, ⟨L, o, hf, hn, ho, hd⟩, hr⟩ := hl
      have hL : L ∈ X.fs := hs L (by unfold frs; rw [List.filterMap_cons, hf]; exact List.mem_cons_self)
      obtain ⟨sl, e⟩ := I.base.slot L o ho (I.ok.frf L hL) hL fun z => I.ok.exfs L z hL
      exact ⟨hk, ⟨L, _, hf, hn, e, hd⟩, ih (fun b hb => hs b (by unfold frs; rw [List.filterMap_cons, hf]; exact List.mem_cons_of_mem _ hb)) hr⟩
  exact all X.outer (fun _ hb => hb) I.ok.funs

/-- the frames that run, for a call -/
theorem Inv.stack (I : Inv X pins σ H s) : s.heap.FunFrames X.base X.stack := by
  rcases I.ok.stk with e | ⟨e, hf⟩
  · rw [e]; exact I.funs
  · rw [e]
    obtain ⟨m, hn, _⟩ := I.loc
    refine .cons (by rw [I.ok.kind]; decide) hf hn ?_ I.funs
    exact Heap.get?_none_of_le (Nat.le_trans I.ok.bsz I.ok.above)
theorem Inv.stkSub (I : Inv X pins σ H s) : ∀ b ∈ frs X.stack, b ∈ X.env.locals :: X.fs := fun b hb => by
  rcases I.ok.stk with e | ⟨e, hf⟩
  · rw [e] at hb; exact List.mem_cons_of_mem _ hb
  · rw [e] at hb
    unfold frs at hb
    rw [List.filterMap_cons, hf] at hb
    exact hb
theorem Inv.stkFree (I : Inv X pins σ H s) : ∀ b ∈ frs X.stack, H b = none := fun b hb => by
  rcases List.mem_cons.mp (I.stkSub b hb) with e | hb
  · rw [e]; exact I.free
  · obtain ⟨_, o, ho, _⟩ := I.ok.funs.mem hb
    exact I.base.free b o ho (I.ok.frf b hb) fun z => I.ok.exfs b z hb

/-- THE STEP: the untracked objects but the frame and the records at ch are kept (the callers' frames up to slots), the frame's map is kept, the new abstract heap is held -/
theorem Inv.step {g' : Array GenState} {t' : Nat} {d' : Drawn} {ch : List Addr} (I : Inv X pins σ H s)
    (hch : ∀ b ∈ ch, (b ∈ X.ex ∨ X.s₀.heap.objs.size ≤ b) ∧ b ≠ X.env.locals ∧ (∀ x c, X.env.cells.lookup x = some c → c ≠ b) ∧ ∀ p ∈ X.pn ++ pins, p.1 ≠ b)
    (keep : ∀ b o, b ≠ X.env.locals → b ∉ X.fs → b ∉ ch → s.heap.get? b = some o → H b = none → h'.get? b = some o)
    (slot : ∀ b o, b ≠ X.env.locals → b ∈ X.fs → b ∉ ch → s.heap.get? b = some o → H b = none → ∃ sl, h'.get? b = some { o with slots := sl }) (free : ∀ b o, b ∉ ch → s.heap.get? b = some o → H b = none → H' b = none)
    (there : ∀ b o, b ∉ ch → s.heap.get? b = some o → ∃ o', h'.get? b = some o')
    (tups : ∀ b xs, H b = some (.tup xs) → H' b = some (.tup xs)) (frzs : ∀ b o u, H b = some (.frz o u) → H' b = some (.frz o u)) (tbls : ∀ b ps, H b = some (.tbl ps) → ∃ more, H' b = some (.tbl (ps ++ more)))
    (ns : ∀ m, s.heap.Ns X.env.locals m → h'.Ns X.env.locals m) (hok : HOk X.prog X.w H' h') (hg : AllBare g') :
    Inv X pins σ H' { s with heap := h', gens := g', drawn := d', toks := t' } := by
  have neL : ∀ b o, X.s₀.heap.get? b = some o → b ≠ X.env.locals := fun b o e => Nat.ne_of_lt (Nat.lt_of_lt_of_le (Heap.lt_size e) I.ok.above)
  have neC : ∀ b o, X.s₀.heap.get? b = some o → b ∉ X.ex → b ∉ ch := fun b o e hx hb => by
    rcases (hch b hb).1 with z | z
    · exact hx z
    · exact absurd (Nat.lt_of_lt_of_le (Heap.lt_size e) z) (Nat.lt_irrefl _)
  have cellK : ∀ x c, X.env.cells.lookup x = some c → ∀ v, s.heap.IsCell c v → h'.IsCell c v := fun x c e v ⟨o, ho, hd⟩ => by
    have nch : c ∉ ch := fun z => (hch c z).2.2.1 x c e rfl
    by_cases hc : c ∈ X.fs
    · obtain ⟨sl, q⟩ := slot c o (I.cne x c e) hc nch ho (I.freeC x c e)
      exact ⟨_, q, hd⟩
    · exact ⟨o, keep c o (I.cne x c e) hc nch ho (I.freeC x c e), hd⟩
  refine ⟨I.ok, I.os, hg, ⟨fun b o e n hb hx => ?_, fun b o e n hb hx => ?_, fun b o e n hx => ?_, fun b o e hx => ?_, fun b xs e => tups b xs (I.base.tups b xs e), fun b o xs e => frzs b o xs (I.base.frzs b o xs e), fun b ps e => ?_⟩, ?_, fun x c e => ?_, ?_, fun x c e => ?_, fun p hp => ?_, hok, I.len⟩
  · exact keep b o (neL b o e) hb (neC b o e hx) (I.base.keep b o e n hb hx) (I.base.free b o e n hx)
  · obtain ⟨sl, e1⟩ := I.base.slot b o e n hb hx
    obtain ⟨sl', e2⟩ := slot b _ (neL b o e) hb (neC b o e hx) e1 (I.base.free b o e n hx)
    exact ⟨sl', e2⟩
  · obtain ⟨o', e1⟩ := I.base.there b o e hx
    exact free b o' (neC b o e hx) e1 (I.base.free b o e n hx)
  · obtain ⟨o', e1⟩ := I.base.there b o e hx
    exact there b o' (neC b o e hx) e1
  · obtain ⟨m1, e1⟩ := I.base.tbls b ps e
    obtain ⟨m2, e2⟩ := tbls b _ e1
    exact ⟨m1 ++ m2, by rw [e2, Array.append_assoc]⟩
  · obtain ⟨m, hn, hl⟩ := I.loc
    refine ⟨m, ns m hn, fun i x v e1 e2 e3 => ?_⟩
    obtain ⟨u, r, l⟩ := hl i x v e1 e2 e3
    refine ⟨u, r, ?_⟩
    rcases l with l | ⟨k, c, e, z⟩
    · exact .inl l
    · exact .inr ⟨k, c, e, cellK x c e _ z⟩
  · obtain ⟨v, z⟩ := I.cell x c e
    exact ⟨v, cellK x c e v z⟩
  · obtain ⟨m, ⟨o, _, _, ho, _⟩, _⟩ := I.loc
    exact free _ o (fun z => (hch _ z).2.1 rfl) ho I.free
  · obtain ⟨v, o, ho, hd⟩ := I.cell x c e
    exact free c o (fun z => (hch c z).2.2.1 x c e rfl) ho (I.freeC x c e)
  · obtain ⟨e, n, ne, nf, d⟩ := I.pin p hp
    have nch : p.1 ∉ ch := fun z => (hch p.1 z).2.2.2 p hp rfl
    exact ⟨keep p.1 p.2 ne nf nch e n, free p.1 p.2 nch e n, ne, nf, d⟩
/-- .. where the frame's own object is kept too -/
theorem Inv.un {t' : Nat} (I : Inv X pins σ H s) (u : Un X.fs [] H H' s.heap h') (hok : HOk X.prog X.w H' h') : Inv X pins σ H' { s with heap := h', toks := t' } := by
  obtain ⟨m, ⟨o, es, ep, ho, r⟩, _⟩ := id I.loc
  obtain ⟨sl, hL⟩ := u.any ho I.free (by simp)
  exact I.step (g' := s.gens) (d' := s.drawn) (ch := []) (fun _ z => nomatch z) (fun b o _ hb _ e n => u.keep b o e n hb (by simp)) (fun b o _ hb _ e n => u.slot b o e n hb (by simp)) (fun b o _ e n => u.free b o e n (by simp)) (fun b o _ e => u.there b o e (by simp)) u.tups u.frzs u.tbls (fun m' hm => by
    obtain ⟨o', es', ep', ho', r'⟩ := hm
    rw [ho] at ho'; cases ho'
    exact ⟨_, es', ep', hL, r'⟩) hok I.bare
/-- behind a call (or a comprehension's block): the slots of this frame may have changed too, the records at ch may have turned -/
theorem Inv.call {g' : Array GenState} {t' : Nat} {d' : Drawn} {ch : List Addr} (I : Inv X pins σ H s) (u : Un (frs X.stack) ch H H' s.heap h') (hok : HOk X.prog X.w H' h') (hg : AllBare g')
    (hch : ∀ b ∈ ch, (b ∈ X.ex ∨ X.s₀.heap.objs.size ≤ b) ∧ b ≠ X.env.locals ∧ (∀ x c, X.env.cells.lookup x = some c → c ≠ b) ∧ ∀ p ∈ X.pn ++ pins, p.1 ≠ b) :
    Inv X pins σ H' { s with heap := h', gens := g', drawn := d', toks := t' } := by
  obtain ⟨m, ⟨o, es, ep, ho, r⟩, _⟩ := id I.loc
  obtain ⟨sl, hL⟩ := u.any ho I.free fun z => (hch _ z).2.1 rfl
  exact I.step (ch := ch) hch (fun b o hL hb hc e n => u.keep b o e n (fun z => (List.mem_cons.mp (I.stkSub b z)).elim hL hb) hc) (fun b o _ _ hc e n => u.any e n hc) (fun b o hc e n => u.free b o e n hc) (fun b o hc e => u.there b o e hc) u.tups u.frzs u.tbls (fun m' hm => by
    obtain ⟨o', es', ep', ho', r'⟩ := hm
    rw [ho] at ho'; cases ho'
    exact ⟨_, es', ep', hL, r'⟩) hok hg
/-- an untracked record of ours (an iterator) has turned -/
theorem Inv.turned {t' : Nat} {it : Addr} (I : Inv X pins σ H s) (k : ∀ b o, b ≠ it → s.heap.get? b = some o → h'.get? b = some o) (hn : H it = none) (hL : it ≠ X.env.locals)
    (h1 : it ∈ X.ex ∨ X.s₀.heap.objs.size ≤ it) (h2 : ∀ x c, X.env.cells.lookup x = some c → c ≠ it) (h3 : ∀ p ∈ X.pn ++ pins, p.1 ≠ it) : Inv X pins σ H { s with heap := h', toks := t' } := by
  have nit : ∀ b u, H b = some u → b ≠ it := fun b u e z => by rw [z, hn] at e; cases e
  refine I.step (g' := s.gens) (d' := s.drawn) (ch := [it]) (fun b hb => ?_) (fun b o _ _ hc e _ => k b o (fun z => hc (by simp [z])) e) (fun b o _ _ hc e _ => ⟨o.slots, k b o (fun z => hc (by simp [z])) e⟩) (fun _ _ _ _ n => n)
    (fun b o hc e => ⟨o, k b o (fun z => hc (by simp [z])) e⟩) (fun _ _ e => e) (fun _ _ _ e => e) (fun b ps e => ⟨#[], by rw [e]; simp⟩) (fun m hm => ?_) (fun b u e => ?_) I.bare
  · have e : b = it := by simpa using hb
    subst e
    exact ⟨h1, hL, h2, h3⟩
  · obtain ⟨o, es, ep, ho, r⟩ := hm
    exact ⟨o, es, ep, k _ o (Ne.symm hL) ho, r⟩
  · refine (I.hok b u e).stay (fun c v hc q => k c v ?_ q) (fun _ q => q) fun _ _ q => q
    rcases hc with z | z
    · rw [z]; exact nit b u e
    · exact nit c _ z
theorem Inv.tok (I : Inv X pins σ H s) (t : Nat) : Inv X pins σ H { s with toks := t } := I.un (h' := s.heap) (t' := t) Un.refl I.hok
/-- all objects kept -/
theorem Inv.kept {t' : Nat} (I : Inv X pins σ H s) (k : ∀ b u, s.heap.get? b = some u → h'.get? b = some u) : Inv X pins σ H { s with heap := h', toks := t' } := I.un (Un.kept k) (I.hok.kept k)
/-- a new object laid and tracked -/
theorem Inv.laid {a : Addr} {o : HO} {t' : Nat} (I : Inv X pins σ H s) (k : ∀ b u, s.heap.get? b = some u → h'.get? b = some u) (hp : s.heap.objs.size ≤ a) (new : ObjOk X.prog X.w (upd H a o) h' a o) :
    Inv X pins σ (upd H a o) { s with heap := h', toks := t' } := I.un (Un.laid k hp (I.hok.fresh hp)) (I.hok.laid k hp new)
/-- an object written -/
theorem Inv.write {x e : Addr} {o : HO} {t' : Nat} (I : Inv X pins σ H s) (mu : Mut (H x)) (he : e = x ∨ H e = some (.own x)) (k : ∀ b u, b ≠ e → s.heap.get? b = some u → h'.get? b = some u) (heo : ∃ u, h'.get? e = some u)
    (new : ObjOk X.prog X.w (upd H x o) h' x o) : Inv X pins σ (upd H x o) { s with heap := h', toks := t' } := I.un (Un.write mu he k heo) (I.hok.write mu he k heo new)
theorem Inv.pins_of {pins' : List (Addr × Obj)} (I : Inv X pins σ H s) (h : ∀ p ∈ pins', s.heap.get? p.1 = some p.2 ∧ H p.1 = none ∧ p.1 ≠ X.env.locals ∧ p.1 ∉ X.fs ∧ ∀ v, p.2.data ≠ .cell v) : Inv X pins' σ H s :=
  ⟨I.ok, I.os, I.bare, I.base, I.loc, I.cell, I.free, I.freeC, fun p hp => (List.mem_append.mp hp).elim (fun z => I.pin p (List.mem_append_left _ z)) (h p), I.hok, I.len⟩

theorem nodup_ix {N : List Str} (hN : N.Nodup) {i j : Nat} {x : Str} (a : N[i]? = some x) (b : N[j]? = some x) : i = j := by
  obtain ⟨h1, e1⟩ := List.getElem?_eq_some_iff.mp a
  obtain ⟨h2, e2⟩ := List.getElem?_eq_some_iff.mp b
  exact (List.getElem_inj hN).mp (e1.trans e2.symm)

/-- a name is stored; what changed -/
theorem store_ok2 {M : Model} {A : Around} {E : Value → Shared → Prop} {i : Nat} {x : Str} {v : V} {u : Value} {Q : Unit → Shared → Prop} (I : Inv X pins σ H s) (hN : X.N.Nodup) (hi : X.N[i]? = some x) (hx : Loc X.env.scope x) (r : RelV v u)
    (h : ∀ s', Inv X pins (σ.set i (some v)) H s' → (∃ a, Heap.SameBut a s.heap s'.heap ∧ (a = X.env.locals ∨ X.env.cells.lookup x = some a)) → Q () s') (hf : X.fn x = true ∨ X.env.scope.names.lookup x = some .local := by first | exact .inl rfl | exact .inr rfl | assumption) : wpAny M A (storeName X.env x u) Q E s := by
  obtain ⟨m, hn, hl⟩ := id I.loc
  have hcls : (X.env.scope.kind == .class || (X.env.scope.kind == .module && X.env.locals != X.env.globals)) = false := by rw [I.ok.kind]; rfl
  have hiσ : i < σ.length := by rw [I.len]; exact (List.getElem?_eq_some_iff.mp hi).1
  have cne := I.cne
  have tracked : ∀ {a : Addr} {h' : Heap}, (∃ o, s.heap.get? a = some o ∧ H a = none) → Heap.SameBut a s.heap h' → HOk X.prog X.w H h' := fun {a h'} ha hs b ob e => by
    obtain ⟨_, _, hfree⟩ := ha
    refine (I.hok b ob e).stay (fun c w' hc q => (hs.2 c ?_).trans q) (fun _ q => q) fun _ _ q => q
    rintro rfl
    rcases hc with rfl | hc
    · rw [hfree] at e; cases e
    · rw [hfree] at hc; cases hc
  rcases hx with hk | hk
  · refine wpAny_storeName_local hk hn (fun h' hn' hs => ?_) hcls
    obtain ⟨oL, _, _, hoL, _⟩ := id hn
    refine h _ ⟨I.ok, I.os, I.bare, ⟨fun b o e n hb hx => ?_, fun b o e n hb hx => ?_, I.base.free, fun b o e hx => ?_, I.base.tups, I.base.frzs, I.base.tbls⟩, ⟨_, hn', fun j y v' e1 e2 e3 => ?_⟩, fun y c e => ?_, I.free, I.freeC, fun p hp => ?_, tracked ⟨oL, hoL, I.free⟩ hs, by simpa using I.len⟩ ⟨_, hs, .inl rfl⟩
    · exact (hs.2 b (Nat.ne_of_lt (Nat.lt_of_lt_of_le (Heap.lt_size e) I.ok.above))).trans (I.base.keep b o e n hb hx)
    · obtain ⟨sl, e1⟩ := I.base.slot b o e n hb hx
      exact ⟨sl, (hs.2 b (Nat.ne_of_lt (Nat.lt_of_lt_of_le (Heap.lt_size e) I.ok.above))).trans e1⟩
    · obtain ⟨o', e1⟩ := I.base.there b o e hx
      exact ⟨o', (hs.2 b (Nat.ne_of_lt (Nat.lt_of_lt_of_le (Heap.lt_size e) I.ok.above))).trans e1⟩
    · by_cases hj : j = i
      · subst hj
        rw [hi] at e1; cases e1
        rw [List.getElem?_set_self hiσ] at e2
        cases e2
        exact ⟨u, r, .inl ⟨hk, by simp⟩⟩
      · rw [List.getElem?_set_ne (Ne.symm hj)] at e2
        obtain ⟨u', r', q⟩ := hl j y v' e1 e2 e3
        refine ⟨u', r', ?_⟩
        rcases q with ⟨k, e⟩ | ⟨k, c, e, z⟩
        · refine .inl ⟨k, ?_⟩
          have : y ≠ x := fun e => hj (nodup_ix hN e1 (e ▸ hi))
          simp [this, e]
        · exact .inr ⟨k, c, e, z.sameBut hs (cne y c e)⟩
    · obtain ⟨w', z⟩ := I.cell y c e
      exact ⟨w', z.sameBut hs (cne y c e)⟩
    · obtain ⟨e, n, ne, nf, d⟩ := I.pin p hp
      exact ⟨(hs.2 p.1 ne).trans e, n, ne, nf, d⟩
  · have hfn : X.fn x = true := by
      rcases hf with z | z
      · exact z
      · rw [z] at hk; cases hk
    obtain ⟨c, hc⟩ := I.ok.has x (.inl hk)
    obtain ⟨w', z⟩ := I.cell x c hc
    refine wpAny_storeName_cell I.ok.kind hk hc z (fun h' hc' hs => ?_)
    obtain ⟨oc, hoc, hocd⟩ := id z
    refine h { s with heap := h' } ⟨I.ok, I.os, I.bare, ⟨fun b o e n hb hx => ?_, fun b o e n hb hx => ?_, I.base.free, fun b o e hx => ?_, I.base.tups, I.base.frzs, I.base.tbls⟩, ⟨m, hn.sameBut hs (Ne.symm (cne x c hc)), fun j y v' e1 e2 e3 => ?_⟩, fun y c' e => ?_, I.free, I.freeC, fun p hp => ?_, tracked ⟨oc, hoc, I.freeC x c hc⟩ hs, by simpa using I.len⟩ ⟨c, hs, .inr hc⟩
    · exact (hs.2 b (Nat.ne_of_lt (Nat.lt_of_lt_of_le (Heap.lt_size e) (I.ok.cab x c hfn hc)))).trans (I.base.keep b o e n hb hx)
    · obtain ⟨sl, e1⟩ := I.base.slot b o e n hb hx
      exact ⟨sl, (hs.2 b (Nat.ne_of_lt (Nat.lt_of_lt_of_le (Heap.lt_size e) (I.ok.cab x c hfn hc)))).trans e1⟩
    · obtain ⟨o', e1⟩ := I.base.there b o e hx
      exact ⟨o', (hs.2 b (Nat.ne_of_lt (Nat.lt_of_lt_of_le (Heap.lt_size e) (I.ok.cab x c hfn hc)))).trans e1⟩
    · by_cases hj : j = i
      · subst hj
        rw [hi] at e1; cases e1
        rw [List.getElem?_set_self hiσ] at e2
        cases e2
        exact ⟨u, r, .inr ⟨.inl hk, c, hc, hc'⟩⟩
      · rw [List.getElem?_set_ne (Ne.symm hj)] at e2
        obtain ⟨u', r', q⟩ := hl j y v' e1 e2 e3
        refine ⟨u', r', ?_⟩
        rcases q with q | ⟨k, c', e, z'⟩
        · exact .inl q
        · refine .inr ⟨k, c', e, z'.sameBut hs ?_⟩
          rintro rfl
          exact hj (nodup_ix hN e1 (I.ok.inj _ _ _ e hc ▸ hi))
    · by_cases hcc : c' = c
      · subst hcc; exact ⟨_, hc'⟩
      · obtain ⟨w2, z2⟩ := I.cell y c' e
        exact ⟨w2, z2.sameBut hs hcc⟩
    · obtain ⟨e, n, ne, nf, d⟩ := I.pin p hp
      refine ⟨(hs.2 p.1 ?_).trans e, n, ne, nf, d⟩
      intro q
      rw [q, hoc] at e
      have q' : oc = p.2 := Option.some.inj e
      exact d w' (by rw [← q']; exact hocd)
theorem store_ok {M : Model} {A : Around} {E : Value → Shared → Prop} {i : Nat} {x : Str} {v : V} {u : Value} {Q : Unit → Shared → Prop} (I : Inv X pins σ H s) (hN : X.N.Nodup) (hi : X.N[i]? = some x) (hx : Loc X.env.scope x) (r : RelV v u)
    (h : ∀ s', Inv X pins (σ.set i (some v)) H s' → Q () s') (hf : X.fn x = true ∨ X.env.scope.names.lookup x = some .local := by first | exact .inl rfl | exact .inr rfl | assumption) : wpAny M A (storeName X.env x u) Q E s :=
  store_ok2 I hN hi hx r (fun s' I' _ => h s' I') hf
/-- behind a call or a block, the state as it is -/
theorem Inv.call' {s' : Shared} {ch : List Addr} (I : Inv X pins σ H s) (ho : s'.os = s.os) (u : Un (frs X.stack) ch H H' s.heap s'.heap) (hok : HOk X.prog X.w H' s'.heap) (hg : AllBare s'.gens)
    (hch : ∀ b ∈ ch, (b ∈ X.ex ∨ X.s₀.heap.objs.size ≤ b) ∧ b ≠ X.env.locals ∧ (∀ x c, X.env.cells.lookup x = some c → c ≠ b) ∧ ∀ p ∈ X.pn ++ pins, p.1 ≠ b) : Inv X pins σ H' s' := by
  obtain ⟨h', g', d', t', o'⟩ := s'
  have e : o' = s.os := ho
  subst e
  exact I.call (g' := g') (t' := t') (d' := d') u hok hg hch
end

/-! ### the judgements -/
/-- an exception: its class, its own dict's address (where it has one), the abstract heap behind it -/
abbrev XK := Value → Option Addr → Hp → Prop
abbrev St := List (Option V)
abbrev VK := V → Hp → Prop
/-- an expression's reading; a test's; an argument list's -/
abbrev TE := St → Hp → VK → Prop
abbrev TT := St → Hp → (Bool → Hp → Prop) → Prop
abbrev TA := St → Hp → (List V → Hp → Prop) → Prop
/-- what is wanted behind a statement -/
structure Ends where
  nx : St → Hp → Prop
  rt : VK
  bk : St → Hp → Prop := fun _ _ => False
  ct : St → Hp → Prop := fun _ _ => False
abbrev TS := Ends → St → Hp → Prop

def EP (X : Cx) (pins : List (Addr × Obj)) (σ : St) (Q : VK) (u : Value) (s' : Shared) : Prop := ∃ v H', Inv X pins σ H' s' ∧ RelV v u ∧ Q v H'
def TP (X : Cx) (pins : List (Addr × Obj)) (σ : St) (Q : Bool → Hp → Prop) (b : Bool) (s' : Shared) : Prop := ∃ H', Inv X pins σ H' s' ∧ Q b H'
def AP (X : Cx) (pins : List (Addr × Obj)) (σ : St) (Q : List V → Hp → Prop) (us : List Value) (s' : Shared) : Prop := ∃ vs H', Inv X pins σ H' s' ∧ Vals vs us ∧ Q vs H'
def SP (X : Cx) (pins : List (Addr × Obj)) (D : Ends) (f : Flow) (s' : Shared) : Prop :=
  match f with
  | .next => ∃ σ' H', Inv X pins σ' H' s' ∧ D.nx σ' H'
  | .brk => ∃ σ' H', Inv X pins σ' H' s' ∧ D.bk σ' H'
  | .cont => ∃ σ' H', Inv X pins σ' H' s' ∧ D.ct σ' H'
  | .ret u => ∃ v σ' H', Inv X pins σ' H' s' ∧ RelV v u ∧ D.rt v H'

def PE (X : Cx) (e : Expr) (t : TE) : Prop :=
  ∀ (pins : List (Addr × Obj)) (s : Shared) (σ : St) (H : Hp) (Q : VK), Inv X pins σ H s → t σ H Q → wpAny (model X.prog X.w) X.A (eval e X.env) (EP X pins σ Q) X.xe s
def PT (X : Cx) (e : Expr) (t : TT) : Prop :=
  ∀ (pins : List (Addr × Obj)) (s : Shared) (σ : St) (H : Hp) (Q : Bool → Hp → Prop), Inv X pins σ H s → t σ H Q → wpAny (model X.prog X.w) X.A (isTrue e X.env (eval e X.env)) (TP X pins σ Q) X.xe s
/-- a test whatever its 'whole' is (and, or) -/
def PW (X : Cx) (e : Expr) (t : TT) : Prop :=
  ∀ (whole : Sem Value) (pins : List (Addr × Obj)) (s : Shared) (σ : St) (H : Hp) (Q : Bool → Hp → Prop), Inv X pins σ H s → t σ H Q → wpAny (model X.prog X.w) X.A (isTrue e X.env whole) (TP X pins σ Q) X.xe s
theorem PW.pt {X : Cx} {e : Expr} {t : TT} (h : PW X e t) : PT X e t := h _
/-- an argument list (no star), from the left -/
def PA (X : Cx) (es : List Expr) (t : TA) : Prop :=
  ∀ (pos : Pos) (pins : List (Addr × Obj)) (s : Shared) (σ : St) (H : Hp) (Q : List V → Hp → Prop), Inv X pins σ H s → t σ H Q → wpAny (model X.prog X.w) X.A (spliced (backTo pos (starEach es X.env))) (AP X pins σ Q) X.xe s
def PS (X : Cx) (st : Stmt) (t : TS) : Prop :=
  ∀ (pins : List (Addr × Obj)) (s : Shared) (σ : St) (H : Hp) (D : Ends), Inv X pins σ H s → t D σ H → wpAny (model X.prog X.w) X.A (exec st X.env) (SP X pins D) X.xe s
def PSs (X : Cx) (st : List Stmt) (t : TS) : Prop :=
  ∀ (pins : List (Addr × Obj)) (s : Shared) (σ : St) (H : Hp) (D : Ends), Inv X pins σ H s → t D σ H → wpAny (model X.prog X.w) X.A (execs st X.env) (SP X pins D) X.xe s
/-- weaken the end -/
theorem thn {α : Type} {t : Sem α} {Q Q' : α → Shared → Prop} {M : Model} {A : Around} {E : Value → Shared → Prop} {s : Shared} (h : wpAny M A t Q E s) (hQ : ∀ a s, Q a s → Q' a s) : wpAny M A t Q' E s := wpAny_mono h hQ fun _ _ x => x
end L2

namespace L2
open PySem PySem.Spec PyProof.Rows
section
variable {X : Cx}

/-- two expressions in a row -/
theorem bin {a b : Expr} {ta tb : TE} (ha : PE X a ta) (hb : PE X b tb) {pins : List (Addr × Obj)} {s : Shared} {σ : St} {H : Hp} {R : V → V → Hp → Prop} (I : Inv X pins σ H s) (h : ta σ H fun x H1 => tb σ H1 fun y H2 => R x y H2)
    {α : Type} {Q : α → Shared → Prop} {f : Value → Value → Sem α}
    (hf : ∀ v u s2 x y H2, Inv X pins σ H2 s2 → RelV x v → RelV y u → R x y H2 → wpAny (model X.prog X.w) X.A (f v u) Q X.xe s2) :
    wpAny (model X.prog X.w) X.A (eval a X.env) (fun v s₁ => wpAny (model X.prog X.w) X.A (eval b X.env) (fun u s₂ => wpAny (model X.prog X.w) X.A (f v u) Q X.xe s₂) X.xe s₁) X.xe s := by
  refine thn (ha pins s σ H _ I h) fun v s1 ⟨x, H1, I1, r1, q1⟩ => ?_
  refine thn (hb pins s1 σ H1 _ I1 q1) fun u s2 ⟨y, H2, I2, r2, q2⟩ => ?_
  exact hf v u s2 x y H2 I2 r1 r2 q2

/-! ### names and constants -/
def tVar (i : Nat) : TE := fun σ H Q => ∃ v, σ[i]? = some (some v) ∧ Q v H
def tC (v : V) : TE := fun _ H Q => Q v H
theorem pe_var {i : Nat} {x : Str} {pos : Pos} (hN : X.N[i]? = some x) (hv : Vis X.env.scope x) (hd : (x == ("__debug__" : Str)) = false := by decide) (hcd : (x == ("__classdict__" : Str)) = false := by decide) : PE X (.Name x pos) (tVar i) := by
  intro pins s σ H Q I h
  obtain ⟨v, e, h⟩ := h
  obtain ⟨m, hn, hl⟩ := I.loc
  obtain ⟨u, r, l⟩ := hl i x v hN e hv
  have fin : EP X pins σ Q u s := ⟨v, H, I, r, h⟩
  rcases l with ⟨hk, hm⟩ | ⟨hk, c, hc, hcell⟩
  · exact wpAny_Name (wpAny_loadName_local I.ok.kind hk hn hm fin) hd
  · rcases hk with hk | hk
    · exact wpAny_Name (wpAny_loadName_cell I.ok.kind hk hc hcell fin) hd
    · exact wpAny_Name (wpAny_loadName_free I.ok.kind hk hc hcell fin hcd) hd
theorem pe_int {i j pos} : PE X (.Constant (.int i) j pos) (tC (.int i)) := fun _ _ _ H _ I h => wpAny_Constant_int ⟨.int i, H, I.tok _, ⟨_, rfl⟩, h⟩
theorem pe_bl {b j pos} : PE X (.Constant (.bool b) j pos) (tC (.bl b)) := fun _ _ _ H _ I h => Constant_bool ⟨.bl b, H, I, rfl, h⟩
theorem pe_non {j pos} : PE X (.Constant .none j pos) (tC .non) := fun _ _ _ H _ I h => Constant_none ⟨.non, H, I, rfl, h⟩
theorem pe_str {x j pos} : PE X (.Constant (.str x) j pos) (tC (.str x)) := fun _ _ _ H _ I h => Calls.Constant_str ⟨.str x, H, I.tok _, ⟨_, rfl⟩, h⟩

/-- a global name of the def -/
def Gl (X : Cx) (x : Str) : Prop := X.env.kindOf x = some .globalImplicit
theorem ld_glob {E : Value → Shared → Prop} {pins : List (Addr × Obj)} {s : Shared} {σ : St} {H : Hp} {x : Str} {u : Value} {pos : Pos} {Q : Value → Shared → Prop} (I : Inv X pins σ H s) (hg : Gl X x) (hm : X.mg x = some u) (h : Q u s)
    (hd : (x == ("__debug__" : Str)) = false := by decide) : wpAny (model X.prog X.w) X.A (eval (.Name x pos) X.env) Q E s :=
  Calls.Name_function_global I.ok.kind hg (Calls.loadGlobal_global (by rw [I.ok.glob]; exact I.mod.glob.keeps I.bk) hm h) hd
theorem ld_blt {E : Value → Shared → Prop} {pins : List (Addr × Obj)} {s : Shared} {σ : St} {H : Hp} {x : Str} {u : Value} {pos : Pos} {Q : Value → Shared → Prop} (I : Inv X pins σ H s) (hg : Gl X x) (hm : X.mg x = none) (hv : bootBuiltins x = some u) (h : Q u s)
    (hn : x ≠ "__name__" := by decide) (hd : (x == ("__debug__" : Str)) = false := by decide) : wpAny (model X.prog X.w) X.A (eval (.Name x pos) X.env) Q E s := by
  obtain ⟨mb, h1, h2⟩ := I.mod.blt
  exact Calls.Name_function_global I.ok.kind hg (Calls.loadGlobal_builtin (by rw [I.ok.glob]; exact I.mod.glob.keeps I.bk) hm (by rw [I.ok.blt]; exact h1.keeps I.bk) ((h2 x hn).trans hv) h) hd
/-- a module's constant, a class, a function, as a value -/
theorem pe_glob {x : Str} {v : V} {u : Value} {pos : Pos} (hg : Gl X x) (hm : X.mg x = some u) (r : RelV v u) (hd : (x == ("__debug__" : Str)) = false := by decide) : PE X (.Name x pos) (tC v) :=
  fun _ _ _ H _ I h => ld_glob I hg hm ⟨v, H, I, r, h⟩ hd
theorem pe_bltn {x : Str} {v : V} {u : Value} {pos : Pos} (hg : Gl X x) (hm : X.mg x = none) (hv : bootBuiltins x = some u) (r : RelV v u) (hn : x ≠ "__name__" := by decide) (hd : (x == ("__debug__" : Str)) = false := by decide) : PE X (.Name x pos) (tC v) :=
  fun _ _ _ H _ I h => ld_blt I hg hm hv ⟨v, H, I, r, h⟩ hn hd

/-! ### arithmetic -/
variable {a b : Expr} {ta tb : TE} {pos : Pos}
/-! ### comparisons -/
def PC (X : Cx) (op : CmpOp) (a b : Expr) (t : TE) : Prop :=
  ∀ (pins : List (Addr × Obj)) (s : Shared) (σ : St) (H : Hp) (Q : VK), Inv X pins σ H s → t σ H Q →
    wpAny (model X.prog X.w) X.A (eval a X.env) (fun v s₁ => wpAny (model X.prog X.w) X.A (eval b X.env) (fun u s₂ => wpAny (model X.prog X.w) X.A (compareOp op v u) (EP X pins σ Q) X.xe s₂) X.xe s₁) X.xe s
/-- a comparison as a value, as a test -/
def tB (t : TE) : TT := fun σ H Q => t σ H fun x H1 => ∃ c, x = .bl c ∧ Q c H1
theorem pt_cmp {op : CmpOp} {t : TE} (h : PC X op a b t) (h1 : behindInMarks op b = false := by first | exact nobehind _ (by decide) (by decide) | rfl) : PT X (.Compare a [op] [b] pos) (tB t) := by
  intro pins s σ H Q I hw
  refine wpAny_isTrue_Compare1 (thn (h pins s σ H _ I hw) fun v s1 h1 => thn h1 fun u s2 h2 => thn h2 fun c s3 ⟨x, H1, I1, r1, q1⟩ => ?_) h1
  obtain ⟨d, rfl, q⟩ := q1
  cases r1
  exact wpAny_truthy_bool ⟨H1, I1, q⟩
/-- an expression whose value is a bool, as a test -/
theorem pt_val {e : Expr} {t : TE} (h : PE X e t) (he : ∀ whole, isTrue e X.env whole = (do let v ← whole; standAt e.pos; holding [v] (truthy v)) := by intro _; rfl) : PT X e (tB t) := by
  intro pins s σ H Q I hw
  refine isTrue_plain (thn (h pins s σ H _ I hw) fun v s1 ⟨x, H1, I1, r1, q1⟩ => ?_) (he _)
  obtain ⟨d, rfl, q⟩ := q1
  cases r1
  exact wpAny_truthy_bool ⟨H1, I1, q⟩

/-! ### and, or, not -/
variable {tA tB' : TT} {rest : List Expr}
def tAnd (t u : TT) : TT := fun σ H Q => t σ H fun c H1 => if c = true then u σ H1 Q else Q false H1
def tOr (t u : TT) : TT := fun σ H Q => t σ H fun c H1 => if c = true then Q true H1 else u σ H1 Q
def tNot (t : TT) : TT := fun σ H Q => t σ H fun c H1 => Q (!c) H1
theorem pw_and1 (ha : PT X a tA) : PW X (.BoolOp .And [a] pos) tA := by
  intro wh pins s σ H Q I h
  refine isTrue_and (thn (ha pins s σ H Q I h) fun c s1 e => ?_)
  cases c with
  | true => exact isTrue_and_nil e
  | false => exact e
theorem pw_or1 (ha : PT X a tA) : PW X (.BoolOp .Or [a] pos) tA := by
  intro wh pins s σ H Q I h
  refine isTrue_or (thn (ha pins s σ H Q I h) fun c s1 e => ?_)
  cases c with
  | false => exact isTrue_or_nil e
  | true => exact e
theorem pw_and (ha : PT X a tA) (hb : PW X (.BoolOp .And (b :: rest) pos) tB') : PW X (.BoolOp .And (a :: b :: rest) pos) (tAnd tA tB') := by
  intro wh pins s σ H Q I h
  refine isTrue_and (thn (ha pins s σ H _ I h) fun c s1 ⟨H1, I1, q1⟩ => ?_)
  cases c with
  | true => exact hb wh pins s1 σ H1 Q I1 q1
  | false => exact ⟨H1, I1, q1⟩
theorem pw_or (ha : PT X a tA) (hb : PW X (.BoolOp .Or (b :: rest) pos) tB') : PW X (.BoolOp .Or (a :: b :: rest) pos) (tOr tA tB') := by
  intro wh pins s σ H Q I h
  refine isTrue_or (thn (ha pins s σ H _ I h) fun c s1 ⟨H1, I1, q1⟩ => ?_)
  cases c with
  | true => exact ⟨H1, I1, q1⟩
  | false => exact hb wh pins s1 σ H1 Q I1 q1
theorem pt_not (ha : PT X a tA) : PT X (.UnaryOp .Not a pos) (tNot tA) := by
  intro pins s σ H Q I h
  exact isTrue_not (ha pins s σ H (fun c H1 => Q (!c) H1) I h)
/-- .. as values (bools) -/
def tAndV (ta tb : TE) : TE := fun σ H Q => ta σ H fun x H1 => ∃ c, x = .bl c ∧ if c = true then tb σ H1 Q else Q (.bl false) H1
def tOrV (ta tb : TE) : TE := fun σ H Q => ta σ H fun x H1 => ∃ c, x = .bl c ∧ if c = true then Q (.bl true) H1 else tb σ H1 Q
def tNotV (ta : TE) : TE := fun σ H Q => ta σ H fun x H1 => ∃ c, x = .bl c ∧ Q (.bl (!c)) H1
theorem pe_one {op} {t : TE} (h : PE X a t) : PE X (.BoolOp op [a] pos) t := fun pins s σ H Q I hw => BoolOp_one (h pins s σ H Q I hw)
theorem pe_and (ha : PE X a ta) (hb : PE X (.BoolOp .And (b :: rest) pos) tb) : PE X (.BoolOp .And (a :: b :: rest) pos) (tAndV ta tb) := by
  intro pins s σ H Q I h
  refine BoolOp_and (thn (ha pins s σ H _ I h) fun v s1 ⟨x, H1, I1, r1, q1⟩ => ?_)
  obtain ⟨c, rfl, q1⟩ := q1
  cases r1
  refine wpAny_truthy_bool ?_
  cases c with
  | true => exact hb pins s1 σ H1 Q I1 q1
  | false => exact ⟨.bl false, H1, I1, rfl, q1⟩
theorem pe_or (ha : PE X a ta) (hb : PE X (.BoolOp .Or (b :: rest) pos) tb) : PE X (.BoolOp .Or (a :: b :: rest) pos) (tOrV ta tb) := by
  intro pins s σ H Q I h
  refine BoolOp_or (thn (ha pins s σ H _ I h) fun v s1 ⟨x, H1, I1, r1, q1⟩ => ?_)
  obtain ⟨c, rfl, q1⟩ := q1
  cases r1
  refine wpAny_truthy_bool ?_
  cases c with
  | false => exact hb pins s1 σ H1 Q I1 q1
  | true => exact ⟨.bl true, H1, I1, rfl, q1⟩
theorem pe_not (ha : PE X a ta) : PE X (.UnaryOp .Not a pos) (tNotV ta) := by
  intro pins s σ H Q I h
  refine UnaryOp_ (thn (ha pins s σ H _ I h) fun v s1 ⟨x, H1, I1, r1, q1⟩ => ?_)
  obtain ⟨c, rfl, q1⟩ := q1
  cases r1
  exact not_of (wpAny_truthy_bool ⟨.bl (!c), H1, I1, rfl, q1⟩)
/-- a if t else b -/
def tIf (t : TT) (ta tb : TE) : TE := fun σ H Q => t σ H fun c H1 => if c = true then ta σ H1 Q else tb σ H1 Q
theorem pe_ifExp {c : Expr} (hc : PT X c tA) (ha : PE X a ta) (hb : PE X b tb) : PE X (.IfExp c a b pos) (tIf tA ta tb) := by
  intro pins s σ H Q I h
  refine wpAny_IfExp (thn (hc pins s σ H _ I h) fun d s1 ⟨H1, I1, q1⟩ => ?_)
  cases d with
  | true => exact ha pins s1 σ H1 Q I1 q1
  | false => exact hb pins s1 σ H1 Q I1 q1
end
end L2

namespace L2
open PySem PySem.Spec PyProof.Rows

/-! ### a list, a tuple that is read: tracked, frozen, or an object of the module -/
def SqL (K : PySem.W.Frag) (H : Hp) (a : Addr) (xs : List V) : Prop :=
  Rd H a (.lst xs) ∨
    ∃ (o : Obj) (its : Array Value) (n : Nat), K.lookup a = some o ∧ o.cls = .type "list" ∧ o.dict = none ∧ o.data = .seq its n ∧ its.size ≤ sizeLine ∧ Vals xs its.toList
def SqT (K : PySem.W.Frag) (H : Hp) (a : Addr) (xs : List V) : Prop :=
  Rd H a (.tup xs) ∨
    ∃ (o : Obj) (its : Array Value) (n : Nat), K.lookup a = some o ∧ o.cls = .type "tuple" ∧ o.data = .seq its n ∧ its.size ≤ sizeLine ∧ Vals xs its.toList
def absV : Value → Option V
  | .none => some .non
  | .bool b => some (.bl b)
  | .int i _ => some (.int i)
  | .str x _ => some (.str x)
  | .bytes b _ => some (.byt b)
  | .float b _ => some (.flt b)
  | .ref a => some (.ref a)
  | .type n => some (.ty n)
  | _ => none
theorem RelV.abs {x : V} {u : Value} (r : RelV x u) : absV u = some x := by
  cases x with
  | non => cases r; rfl
  | bl _ => cases r; rfl
  | int _ => obtain ⟨t, rfl⟩ := r; rfl
  | str _ => obtain ⟨t, rfl⟩ := r; rfl
  | byt _ => obtain ⟨t, rfl⟩ := r; rfl
  | flt _ => obtain ⟨t, rfl⟩ := r; rfl
  | ref _ => cases r; rfl
  | ty _ => cases r; rfl
theorem RelV.inj {x y : V} {u : Value} (r : RelV x u) (q : RelV y u) : x = y := Option.some.inj (r.abs.symm.trans q.abs)
theorem Vals.inj : ∀ {xs ys : List V} {us : List Value}, Vals xs us → Vals ys us → xs = ys
  | _, _, _, .nil, .nil => rfl
  | _, _, _, .cons r t, .cons r' t' => by rw [r.inj r', Vals.inj t t']
section
variable {X : Cx} {pins : List (Addr × Obj)} {σ : St} {H : Hp} {s : Shared} {a : Addr} {xs ys : List V}
theorem SqL.of {K : PySem.W.Frag} (h : H a = some (.lst xs)) : SqL K H a xs := .inl (.inl h)
theorem SqT.of {K : PySem.W.Frag} (h : H a = some (.tup xs)) : SqT K H a xs := .inl (.inl h)
theorem Inv.list (I : Inv X pins σ H s) (h : SqL X.K H a xs) : ∃ its : List Value, Vals xs its ∧ PlainL s.heap a its.toArray ∧ xs.length ≤ sizeLine := by
  rcases h with h | ⟨o, its, n, hk, hc, hd, hs, hz, r⟩
  · obtain ⟨z, its, n, r, e⟩ := h.ok I.hok
    exact ⟨its, r, ⟨_, n, e, rfl, rfl, rfl⟩, z⟩
  · refine ⟨its.toList, r, ⟨o, n, I.kIn a o hk, hc, hd, by simpa using hs⟩, ?_⟩
    have e := r.length
    simp only [Array.length_toList] at e
    omega
theorem Inv.tuple (I : Inv X pins σ H s) (h : SqT X.K H a xs) : ∃ its : List Value, Vals xs its ∧ IsTup s.heap a its.toArray ∧ xs.length ≤ sizeLine := by
  rcases h with h | ⟨o, its, n, hk, hc, hs, hz, r⟩
  · obtain ⟨z, its, r, p⟩ := h.ok I.hok
    exact ⟨its, r, p, z⟩
  · refine ⟨its.toList, r, ⟨o, I.kIn a o hk, hc, n, by simpa using hs⟩, ?_⟩
    have e := r.length
    simp only [Array.length_toList] at e
    omega
theorem Inv.list_inj (I : Inv X pins σ H s) (h : SqL X.K H a xs) (h' : SqL X.K H a ys) : xs = ys := by
  obtain ⟨its, r, ⟨o, n, e, _, _, d⟩, _⟩ := I.list h
  obtain ⟨its', r', ⟨o', n', e', _, _, d'⟩, _⟩ := I.list h'
  rw [e] at e'; cases e'
  rw [d] at d'
  injection d' with d1 _
  have : its = its' := by simpa using congrArg Array.toList d1
  subst this
  exact r.inj r'
theorem Inv.tuple_inj (I : Inv X pins σ H s) (h : SqT X.K H a xs) (h' : SqT X.K H a ys) : xs = ys := by
  obtain ⟨its, r, ⟨o, e, _, n, d⟩, _⟩ := I.tuple h
  obtain ⟨its', r', ⟨o', e', _, n', d'⟩, _⟩ := I.tuple h'
  rw [e] at e'; cases e'
  rw [d] at d'
  injection d' with d1 _
  have : its = its' := by simpa using congrArg Array.toList d1
  subst this
  exact r.inj r'
end

/-! ### another wish about exceptions -/
abbrev Cx.wish (X : Cx) (E : Value → Shared → Prop) : Cx := { X with xe := E }
/-- no exception leaves -/
abbrev Cx.nox (X : Cx) : Cx := X.wish fun _ _ => False
theorem Cx.Ok.wish {X : Cx} (ok : X.Ok) (E : Value → Shared → Prop) : (X.wish E).Ok :=
  ⟨ok.mod, ok.kind, ok.glob, ok.blt, ok.above, ok.inj, ok.has, ok.cab, ok.hd, ok.frames, ok.stk, ok.exf, ok.bs, ok.bsz, ok.noex, ok.exfs, ok.funs, ok.frf⟩
theorem Cx.Ok.unwish {X : Cx} {E : Value → Shared → Prop} (ok : (X.wish E).Ok) : X.Ok :=
  ⟨ok.mod, ok.kind, ok.glob, ok.blt, ok.above, ok.inj, ok.has, ok.cab, ok.hd, ok.frames, ok.stk, ok.exf, ok.bs, ok.bsz, ok.noex, ok.exfs, ok.funs, ok.frf⟩
section
variable {X : Cx} {pins : List (Addr × Obj)} {σ : St} {H : Hp} {s : Shared} {E : Value → Shared → Prop}
theorem Inv.wish (I : Inv X pins σ H s) (E : Value → Shared → Prop) : Inv (X.wish E) pins σ H s := ⟨I.ok.wish E, I.os, I.bare, I.base, I.loc, I.cell, I.free, I.freeC, I.pin, I.hok, I.len⟩
theorem Inv.unwish (I : Inv (X.wish E) pins σ H s) : Inv X pins σ H s := ⟨I.ok.unwish, I.os, I.bare, I.base, I.loc, I.cell, I.free, I.freeC, I.pin, I.hok, I.len⟩
theorem SP.unwish {D : Ends} {f : Flow} {s' : Shared} (h : SP (X.wish E) pins D f s') : SP X pins D f s' := by
  cases f with
  | next => obtain ⟨σ', H', I, q⟩ := h; exact ⟨σ', H', I.unwish, q⟩
  | brk => obtain ⟨σ', H', I, q⟩ := h; exact ⟨σ', H', I.unwish, q⟩
  | cont => obtain ⟨σ', H', I, q⟩ := h; exact ⟨σ', H', I.unwish, q⟩
  | ret u => obtain ⟨v, σ', H', I, r, q⟩ := h; exact ⟨v, σ', H', I.unwish, r, q⟩
theorem PE.nox {e : Expr} {t : TE} (h : PE X.nox e t) : PE X e t := fun pins s σ H Q I hw =>
  wpAny_mono (h pins s σ H Q (I.wish _) hw) (fun _ _ ⟨v, H', I', r, q⟩ => ⟨v, H', I'.unwish, r, q⟩) fun _ _ z => False.elim z
theorem PSs.nox {st : List Stmt} {t : TS} (h : PSs X.nox st t) : PSs X st t := fun pins s σ H D I hw =>
  wpAny_mono (h pins s σ H D (I.wish _) hw) (fun _ _ q => q.unwish) fun _ _ z => False.elim z
end

/-! ### blocks and small statements -/
section
variable {X : Cx} {st : Stmt} {rest : List Stmt} {t u : TS} {e : Expr} {te : TE} {pos : Pos}
def tNext : TS := fun D σ H => D.nx σ H
def tSeq (t u : TS) : TS := fun D σ H => t { D with nx := u D } σ H
theorem pss_nil : PSs X [] tNext := fun _ _ σ H _ I h => wpAny_execs_nil ⟨σ, H, I, h⟩
theorem pss_cons (h1 : PS X st t) (h2 : PSs X rest u) : PSs X (st :: rest) (tSeq t u) := by
  intro pins s σ H D I h
  refine wpAny_execs_cons (thn (h1 pins s σ H { D with nx := u D } I h) fun f s1 q => ?_)
  cases f with
  | next =>
    obtain ⟨σ', H', I', q⟩ := q
    exact h2 pins s1 σ' H' D I' q
  | ret v => exact q
  | brk => exact q
  | cont => exact q
theorem pss_one (h1 : PS X st t) : PSs X [st] t := by
  intro pins s σ H D I h
  refine wpAny_execs_cons (thn (h1 pins s σ H D I h) fun f s1 q => ?_)
  cases f with
  | next => exact wpAny_execs_nil q
  | ret v => exact q
  | brk => exact q
  | cont => exact q
/-- in a def's body nothing is shown -/
theorem Inv.quiet {pins : List (Addr × Obj)} {σ : St} {H : Hp} {s : Shared} (I : Inv X pins σ H s) : interactive X.env = false := by simp [interactive, I.ok.kind]
/-- an expression whose value is dropped -/
def tDrop (te : TE) : TS := fun D σ H => te σ H fun _ H1 => D.nx σ H1
theorem ps_expr (he : PE X e te) (hs : swapsWith e none pos.line X.env = pure false := by rfl) : PS X (.Expr e pos) (tDrop te) := by
  intro pins s σ H D I h
  exact wpAny_Expr_any (thn (he pins s σ H _ I h) fun v s1 ⟨x, H1, I1, r1, q1⟩ => ⟨σ, H1, I1, q1⟩) I.quiet hs
def tRet (te : TE) : TS := fun D σ H => te σ H D.rt
theorem ps_ret (he : PE X e te) : PS X (.Return (some e) pos) (tRet te) := by
  intro pins s σ H D I h
  exact wpAny_Return_some (thn (he pins s σ H _ I h) fun v s1 ⟨x, H1, I1, r1, q1⟩ => ⟨x, σ, H1, I1, r1, q1⟩)
def tIfS (c : TT) (t u : TS) : TS := fun D σ H => c σ H fun b H1 => if b = true then t D σ H1 else u D σ H1
theorem ps_if {c : Expr} {a b : List Stmt} {tc : TT} (hc : PT X c tc) (ha : PSs X a t) (hb : PSs X b u) : PS X (.If c a b pos) (tIfS tc t u) := by
  intro pins s σ H D I h
  refine wpAny_If (thn (hc pins s σ H _ I h) fun d s1 ⟨H1, I1, q1⟩ => ?_)
  cases d with
  | true => exact ha pins s1 σ H1 D I1 q1
  | false => exact hb pins s1 σ H1 D I1 q1
/-- code that the proof never comes to -/
def tNever : TS := fun _ _ _ => False
theorem pss_never {sts : List Stmt} : PSs X sts tNever := fun _ _ _ _ _ _ h => h.elim
end

/-! ### targets -/
abbrev TG := V → St → Hp → (St → Hp → Prop) → Prop
abbrev TGs := List V → St → Hp → (St → Hp → Prop) → Prop
def PG (X : Cx) (target : Expr) (t : TG) : Prop :=
  ∀ (pins : List (Addr × Obj)) (s : Shared) (σ : St) (H : Hp) (v : V) (u : Value) (Q : St → Hp → Prop), Inv X pins σ H s → RelV v u → t v σ H Q →
    wpAny (model X.prog X.w) X.A (assign target X.env u) (fun _ s' => ∃ σ' H', Inv X pins σ' H' s' ∧ Q σ' H') X.xe s
/-- several targets, one after another -/
def PGs (X : Cx) (ts : List Expr) (t : TGs) : Prop :=
  ∀ (pins : List (Addr × Obj)) (s : Shared) (σ : St) (H : Hp) (vs : List V) (us : List Value) (Q : St → Hp → Prop), Inv X pins σ H s → Vals vs us → t vs σ H Q →
    wpAny (model X.prog X.w) X.A (assignInOrder ((assignEach ts X.env).map (·.2)) us) (fun _ s' => ∃ σ' H', Inv X pins σ' H' s' ∧ Q σ' H') X.xe s
section
variable {X : Cx} {pos : Pos}
def gName (i : Nat) : TG := fun v σ H Q => Q (σ.set i (some v)) H
theorem pg_name {i : Nat} {x : Str} (hN : X.N.Nodup) (hi : X.N[i]? = some x) (hx : Loc X.env.scope x) (hf : X.fn x = true ∨ X.env.scope.names.lookup x = some .local := by first | exact .inl rfl | exact .inr rfl | assumption) : PG X (.Name x pos) (gName i) := by
  intro pins s σ H v u Q I r h
  exact wpAny_assign_Name (store_ok I hN hi hx r (fun s' I' => ⟨_, H, I', h⟩) hf)
def gNil : TGs := fun vs σ H Q => vs = [] ∧ Q σ H
def gCons (t : TG) (u : TGs) : TGs := fun vs σ H Q => ∃ v r, vs = v :: r ∧ t v σ H fun σ' H' => u r σ' H' Q
theorem pgs_nil : PGs X [] gNil := by
  intro pins s σ H vs us Q I r h
  obtain ⟨e, h⟩ := h
  subst e
  cases r
  exact assignInOrder_nil ⟨σ, H, I, h⟩
theorem pgs_cons {e : Expr} {es : List Expr} {t : TG} {u : TGs} (h1 : PG X e t) (h2 : PGs X es u)
    (hs : (assignEach (e :: es) X.env).map (·.2) = assign e X.env :: (assignEach es X.env).map (·.2) := by rfl) : PGs X (e :: es) (gCons t u) := by
  intro pins s σ H vs us Q I r h
  obtain ⟨v, vr, e1, h⟩ := h
  subst e1
  cases r with
  | cons r rr =>
    rw [hs]
    refine assignInOrder_cons (thn (h1 pins s σ H _ _ _ I r h) fun _ s1 ⟨σ1, H1, I1, q1⟩ => ?_)
    exact h2 pins s1 σ1 H1 _ _ Q I1 rr q1
/-- (a, b, ..) = a tuple of that length -/
def gTup (K : PySem.W.Frag) (n : Nat) (t : TGs) : TG := fun v σ H Q => ∃ a xs, v = .ref a ∧ SqT K H a xs ∧ xs.length = n ∧ t xs σ H Q
theorem pg_tup {es : List Expr} {k : Nat} {t : TGs} {n : Nat} (hc : X.calm = true) (h : PGs X es t)
    (hn : (assignEach es X.env).length = n := by rfl) (hst : (assignEach es X.env).findIdx? (·.1) = none := by rfl) : PG X (.Tuple es k pos) (gTup X.K n t) := by
  intro pins s σ H v u Q I r hw
  obtain ⟨a, xs, e1, hq, hl, hw⟩ := hw
  subst e1
  cases r
  obtain ⟨its, rv, ht, hz⟩ := I.tuple hq
  refine assign_Tuple_tuple (I.ok.hd hc) ht (by simp [hn, ← hl, rv.length]) hst fun h' hx => ?_
  have I1 : Inv X pins σ H { s with heap := h' } := I.kept (t' := s.toks) fun b o e => hx b o (Nat.ne_of_lt (Heap.lt_size e)) e
  exact h pins _ σ H xs _ Q I1 (by simpa using rv) hw
/-- target = value -/
def tAsg (te : TE) (g : TG) : TS := fun D σ H => te σ H fun x H1 => g x σ H1 D.nx
/-- name = value -/
theorem ps_set {i : Nat} {x : Str} {e : Expr} {te : TE} {pos' : Pos} (hN : X.N.Nodup) (hi : X.N[i]? = some x) (hx : Loc X.env.scope x) (he : PE X e te) (hs : swapsWith e (some (.Name x pos')) pos.line X.env = pure false := by rfl) (hf : X.fn x = true ∨ X.env.scope.names.lookup x = some .local := by first | exact .inl rfl | exact .inr rfl | assumption) :
    PS X (.Assign [.Name x pos'] e pos) (tAsg te (gName i)) := by
  intro pins s σ H D I h
  refine wpAny_Assign_Name (thn (he pins s σ H _ I h) fun v s1 ⟨y, H1, I1, r1, q1⟩ => ?_) hs
  exact store_ok I1 hN hi hx r1 (fun s2 I2 => ⟨_, H1, I2, q1⟩) hf
end

/-! ### while -/
section
variable {X : Cx} {pos : Pos}
end

/-! ### what a loop or a comprehension walks -/
/-- at turn i: it yields x (the heap may grow), or it stops -/
structure It where
  go : Nat → Hp → Prop
  yld : Nat → Hp → V → Hp → Prop
  stop : Nat → Hp → Prop
/-- the iterator's own objects may turn: they are not the frame's, not pinned, younger than the entry (or a comprehension's own) -/
def FpOk (X : Cx) (pins : List (Addr × Obj)) (H : Hp) (b : Addr) : Prop :=
  H b = none ∧ b ≠ X.env.locals ∧ b ∉ X.fs ∧ (b ∈ X.ex ∨ X.s₀.heap.objs.size ≤ b) ∧ (∀ x c, X.env.cells.lookup x = some c → c ≠ b) ∧ ∀ p ∈ X.pn ++ pins, p.1 ≠ b
theorem Inv.fpOk {X : Cx} {pins : List (Addr × Obj)} {σ : St} {H H' : Hp} {s : Shared} {b : Addr} (I : Inv X pins σ H s) (hb : s.heap.objs.size ≤ b) (hn : H' b = none) : FpOk X pins H' b := by
  refine ⟨hn, Nat.ne_of_gt (Nat.lt_of_lt_of_le I.lt hb), I.nofs hb, .inr (Nat.le_trans I.sz hb), fun x c e z => ?_, fun p hp z => ?_⟩
  · obtain ⟨v, q⟩ := I.cell x c e
    exact absurd (Nat.lt_of_lt_of_le q.lt (by rw [z]; exact hb)) (Nat.lt_irrefl _)
  · exact absurd (Nat.lt_of_lt_of_le (Heap.lt_size (I.pin p hp).1) (by rw [z]; exact hb)) (Nat.lt_irrefl _)
structure Turn (P : Program) (w : World) (K : PySem.W.Frag) (tg : Expr) (J : It) (fp : List Addr) (it : Addr) (tn : Nat → Heap → Prop) : Prop where
  mem : it ∈ fp
  obj : ∀ i h, tn i h → ∀ b ∈ fp, ∃ o, h.get? b = some o ∧ ∀ v, o.data ≠ .cell v
  keep : ∀ i h h', tn i h → (∀ b ∈ fp, ∀ o, h.get? b = some o → h'.get? b = some o) → tn i h'
  item : ∀ (X : Cx), X.prog = P → X.w = w → X.K = K → X.calm = true → ∀ (i : Nat) (pins : List (Addr × Obj)) (s : Shared) (σ : St) (H : Hp) (E : Value → Shared → Prop), Inv X pins σ H s → (∀ b ∈ fp, FpOk X pins H b) → tn i s.heap → J.go i H →
    wpAny (model P w) X.A (pyNext (.ref it)) (fun r s1 => ∃ u, r = some u ∧
      wpAny (model P w) X.A (letOwnedTupleGo tg (.ref it) u) (fun _ s2 => ∃ x H', Inv X pins σ H' s2 ∧ RelV x u ∧ J.yld i H x H' ∧ tn (i + 1) s2.heap ∧ ∀ b ∈ fp, H' b = none) E s1) E s
  done : ∀ (X : Cx), X.prog = P → X.w = w → X.K = K → X.calm = true → ∀ (i : Nat) (pins : List (Addr × Obj)) (s : Shared) (σ : St) (H : Hp) (E : Value → Shared → Prop), Inv X pins σ H s → (∀ b ∈ fp, FpOk X pins H b) → tn i s.heap → J.stop i H →
    wpAny (model P w) X.A (pyNext (.ref it)) (fun r s1 => r = none ∧ Inv X pins σ H s1) E s
  self : ∀ (A : Around) (i : Nat) (s : Shared) (Q : Value → Shared → Prop) (E : Value → Shared → Prop), tn i s.heap → Q (.ref it) s → wpAny (model P w) A (pyIter (.ref it)) Q E s
abbrev TI := St → Hp → (It → Hp → Prop) → Prop
/-- an iterator has come -/
def PIE (X : Cx) (pins : List (Addr × Obj)) (σ : St) (tg : Expr) (R : It → Hp → Prop) (itv : Value) (s2 : Shared) : Prop :=
  ∃ (it : Addr) (fp : List Addr) (tn : Nat → Heap → Prop) (J : It) (H' : Hp), itv = .ref it ∧ Inv X pins σ H' s2 ∧ Turn X.prog X.w X.K tg J fp it tn ∧ tn 0 s2.heap ∧ (∀ b ∈ fp, FpOk X pins H' b) ∧ R J H'
def PI (X : Cx) (tg iter : Expr) (wi : TI) : Prop :=
  ∀ (pins : List (Addr × Obj)) (s : Shared) (σ : St) (H : Hp) (R : It → Hp → Prop), Inv X pins σ H s → wi σ H R →
    wpAny (model X.prog X.w) X.A (eval iter X.env) (fun v s1 => wpAny (model X.prog X.w) X.A (pyIter v) (PIE X pins σ tg R) X.xe s1) X.xe s

/-- the step ahead of the store is nothing for an iterator that keeps no tuple -/
theorem go_of {M : Model} {A : Around} {E : Value → Shared → Prop} {s : Shared} {tg : Expr} {it : Addr} {u : Value} {o : Obj} {n : String} {vs : Array Value} {Q : Unit → Shared → Prop} (ho : s.heap.get? it = some o) (hc : o.cls = .type n) (hd : o.data = .fields vs)
    (hn : ["enumerate", "zip", "dict_itemiterator", "dict_reverseitemiterator", "odict_iterator", "itertools.zip_longest", "itertools.pairwise"].contains n = false) (hQ : Q () s) : wpAny M A (letOwnedTupleGo tg (.ref it) u) Q E s := by
  unfold letOwnedTupleGo
  cases tg <;> first
    | exact wpAny_pure hQ
    | (cases u <;> first
        | exact wpAny_pure hQ
        | (refine wpAny_bind (wpAny_load ho ?_)
           rw [hc, hd]
           show wpAny M A (if (["enumerate", "zip", "dict_itemiterator", "dict_reverseitemiterator", "odict_iterator", "itertools.zip_longest", "itertools.pairwise"].contains n && vs[0]? == some (rawInt _)) = true then _ else _) Q E s
           rw [if_neg (by intro h; rw [hn, Bool.false_and] at h; cases h)]
           exact wpAny_pure hQ))

/-- the list at a, as it stands at each turn (a loop may append to it) -/
def Itl (K : PySem.W.Frag) (a : Addr) : It :=
  ⟨fun i H => ∃ xs x, SqL K H a xs ∧ xs[i]? = some x, fun i H x H' => H' = H ∧ ∀ xs, SqL K H a xs → xs[i]? = some x, fun i H => ∃ xs, SqL K H a xs ∧ xs.length ≤ i⟩
def Itt (K : PySem.W.Frag) (a : Addr) : It :=
  ⟨fun i H => ∃ xs x, SqT K H a xs ∧ xs[i]? = some x, fun i H x H' => H' = H ∧ ∀ xs, SqT K H a xs → xs[i]? = some x, fun i H => ∃ xs, SqT K H a xs ∧ xs.length ≤ i⟩
/-- lo, lo + 1, .. (n of them) -/
def Itr (lo : Int) (n : Nat) : It := ⟨fun i _ => i < n, fun i H x H' => H' = H ∧ x = .int (lo + i), fun i _ => n ≤ i⟩
theorem turn_list {P : Program} {w : World} {K : PySem.W.Frag} {tg : Expr} (a it : Addr) : Turn P w K tg (Itl K a) [it] it (fun i h => h.IsListIter it a i) where
  mem := by simp
  obj := fun i h st b hb => by
    have e : b = it := by simpa using hb
    subst e
    obtain ⟨o, e, c, d⟩ := st
    exact ⟨o, e, fun v z => by rw [d] at z; cases z⟩
  keep := fun i h h' st k => st.at fun o e => k it (by simp) o e
  item := by
    intro X hP hw hK hc i pins s σ H E I hf st hg
    subst hP hw hK
    obtain ⟨xs, x, hq, hx⟩ := hg
    obtain ⟨its, rv, p, hz⟩ := I.list hq
    obtain ⟨u, hu, ru⟩ := rv.get hx
    obtain ⟨f0, f1, f2, f3, f4, f5⟩ := hf it (by simp)
    refine wpAny_pyNext_list_item st p.isList (x := u) (by simpa using hu) fun h' st' sb => ?_
    have I1 : Inv X pins σ H { s with heap := h' } := I.turned (t' := s.toks) (fun b o hb e => (sb.2 b hb).trans e) f0 f1 f3 f4 f5
    obtain ⟨o, e, c, d⟩ := id st'
    exact ⟨u, rfl, go_of (s := { s with heap := h' }) e c d (by decide) ⟨x, H, I1, ru, ⟨rfl, fun ys hy => by rw [I.list_inj hy hq]; exact hx⟩, st', fun b hb => (hf b hb).1⟩⟩
  done := by
    intro X hP hw hK hc i pins s σ H E I hf st hg
    subst hP hw hK
    obtain ⟨xs, hq, hx⟩ := hg
    obtain ⟨its, rv, p, hz⟩ := I.list hq
    obtain ⟨f0, f1, f2, f3, f4, f5⟩ := hf it (by simp)
    have hl := rv.length
    exact wpAny_pyNext_list_end (I.ok.hd hc) st p.isList (by simp; omega) fun h' eb => ⟨rfl, I.turned (t' := s.toks) (fun b o hb e => eb b o hb e) f0 f1 f3 f4 f5⟩
  self := fun _ _ _ _ _ st h => wpAny_pyIter_listiter st h
theorem turn_tuple {P : Program} {w : World} {K : PySem.W.Frag} {tg : Expr} (a it : Addr) : Turn P w K tg (Itt K a) [it] it (fun i h => h.IsTupleIter it a i) where
  mem := by simp
  obj := fun i h st b hb => by
    have e : b = it := by simpa using hb
    subst e
    obtain ⟨o, e, c, d⟩ := st
    exact ⟨o, e, fun v z => by rw [d] at z; cases z⟩
  keep := fun i h h' st k => st.at fun o e => k it (by simp) o e
  item := by
    intro X hP hw hK hc i pins s σ H E I hf st hg
    subst hP hw hK
    obtain ⟨xs, x, hq, hx⟩ := hg
    obtain ⟨its, rv, p, hz⟩ := I.tuple hq
    obtain ⟨u, hu, ru⟩ := rv.get hx
    obtain ⟨f0, f1, f2, f3, f4, f5⟩ := hf it (by simp)
    refine wpAny_pyNext_tuple_item st (show s.heap.IsTuple a its.toArray from p) (x := u) (by simpa using hu) fun h' st' sb => ?_
    have I1 : Inv X pins σ H { s with heap := h' } := I.turned (t' := s.toks) (fun b o hb e => (sb.2 b hb).trans e) f0 f1 f3 f4 f5
    obtain ⟨o, e, c, d⟩ := id st'
    exact ⟨u, rfl, go_of (s := { s with heap := h' }) e c d (by decide) ⟨x, H, I1, ru, ⟨rfl, fun ys hy => by rw [I.tuple_inj hy hq]; exact hx⟩, st', fun b hb => (hf b hb).1⟩⟩
  done := by
    intro X hP hw hK hc i pins s σ H E I hf st hg
    subst hP hw hK
    obtain ⟨xs, hq, hx⟩ := hg
    obtain ⟨its, rv, p, hz⟩ := I.tuple hq
    obtain ⟨f0, f1, f2, f3, f4, f5⟩ := hf it (by simp)
    have hl := rv.length
    exact wpAny_pyNext_tuple_end (I.ok.hd hc) st (show s.heap.IsTuple a its.toArray from p) (by simp; omega) fun h' eb => ⟨rfl, I.turned (t' := s.toks) (fun b o hb e => eb b o hb e) f0 f1 f3 f4 f5⟩
  self := fun _ _ _ _ _ st h => wpAny_pyIter_tupleiter st h
theorem turn_range {P : Program} {w : World} {K : PySem.W.Frag} {tg : Expr} (it : Addr) (lo : Int) (n : Nat) : Turn P w K tg (Itr lo n) [it] it (fun i h => IsRangeIter h it (lo + (i : Nat) * 1) ((n : Int) - (i : Nat)) 1) where
  mem := by simp
  obj := fun i h st b hb => by
    have e : b = it := by simpa using hb
    subst e
    exact ⟨_, st, fun v z => by
      have z' : Data.fields _ = Data.cell v := z
      cases z'⟩
  keep := fun i h h' st k => k it (by simp) _ st
  item := by
    intro X hP hw hK hc i pins s σ H E I hf st hg
    subst hP hw hK
    obtain ⟨f0, f1, f2, f3, f4, f5⟩ := hf it (by simp)
    have W := Walks.range (prog := X.prog) (w := X.w) (I.ok.hd hc) it lo 1 n
    refine W.item i s _ _ hg st fun v h' tk hv st' kk => ?_
    obtain ⟨t, rfl⟩ := hv
    have I1 : Inv X pins σ H { s with heap := h', toks := tk } := I.turned (fun b o hb e => kk b o (by simpa using hb) e) f0 f1 f3 f4 f5
    refine ⟨_, rfl, go_of (s := { s with heap := h', toks := tk }) (n := "range_iterator") st' rfl rfl (by decide) ⟨.int (lo + i), H, I1, ⟨t, ?_⟩, ⟨rfl, rfl⟩, st', fun b hb => (hf b hb).1⟩⟩
    rw [Int.mul_one]
  done := by
    intro X hP hw hK hc i pins s σ H E I hf st hg
    subst hP hw hK
    obtain ⟨f0, f1, f2, f3, f4, f5⟩ := hf it (by simp)
    exact wpAny_pyNext_range_end (I.ok.hd hc) st (by have : n ≤ i := hg; omega) fun h' eb => ⟨rfl, I.turned (t' := s.toks) (fun b o hb e => eb b o hb e) f0 f1 f3 f4 f5⟩
  self := fun _ _ _ _ _ st h => wpAny_pyIter_rangeiter st h
end L2

namespace L2
open PySem PySem.Spec PyProof.Rows
section
variable {X : Cx} {tg : Expr}
def iList (K : PySem.W.Frag) (tl : TE) : TI := fun σ H R => tl σ H fun x H1 => ∃ a, x = .ref a ∧ (∃ xs, SqL K H1 a xs) ∧ R (Itl K a) H1
def iTup (K : PySem.W.Frag) (tl : TE) : TI := fun σ H R => tl σ H fun x H1 => ∃ a, x = .ref a ∧ (∃ xs, SqT K H1 a xs) ∧ R (Itt K a) H1
theorem pi_list {l : Expr} {tl : TE} (hl : PE X l tl) : PI X tg l (iList X.K tl) := by
  intro pins s σ H R I h
  refine thn (hl pins s σ H _ I h) fun v s1 ⟨x, H1, I1, r1, q1⟩ => ?_
  obtain ⟨a, e, ⟨xs, hq⟩, q⟩ := q1
  subst e
  cases r1
  obtain ⟨its, rv, p, hz⟩ := I1.list hq
  refine wpAny_pyIter_list p.isList ?_
  refine ⟨s1.heap.objs.size, [s1.heap.objs.size], _, _, H1, rfl, I1.kept (t' := s1.toks) fun b o e => Heap.get?_push_of_some _ e, turn_list a _, ⟨_, Heap.get?_push_size _ rfl, rfl, rfl⟩, fun b hb => ?_, q⟩
  have e : b = s1.heap.objs.size := by simpa using hb
  subst e
  exact I1.fpOk (Nat.le_refl _) (I1.hok.fresh (Nat.le_refl _))
theorem pi_tup {l : Expr} {tl : TE} (hl : PE X l tl) : PI X tg l (iTup X.K tl) := by
  intro pins s σ H R I h
  refine thn (hl pins s σ H _ I h) fun v s1 ⟨x, H1, I1, r1, q1⟩ => ?_
  obtain ⟨a, e, ⟨xs, hq⟩, q⟩ := q1
  subst e
  cases r1
  obtain ⟨its, rv, p, hz⟩ := I1.tuple hq
  refine wpAny_pyIter_tuple (show s1.heap.IsTuple a its.toArray from p) ?_
  refine ⟨s1.heap.objs.size, [s1.heap.objs.size], _, _, H1, rfl, I1.kept (t' := s1.toks) fun b o e => Heap.get?_push_of_some _ e, turn_tuple a _, ⟨_, Heap.get?_push_size _ rfl, rfl, rfl⟩, fun b hb => ?_, q⟩
  have e : b = s1.heap.objs.size := by simpa using hb
  subst e
  exact I1.fpOk (Nat.le_refl _) (I1.hok.fresh (Nat.le_refl _))
/-- a range object just made, walked -/
theorem range_it {pins : List (Addr × Obj)} {σ : St} {H : Hp} {s : Shared} {R : It → Hp → Prop} {E : Value → Shared → Prop} {lo hi : Int} {t u v : Tok} {tk : Nat} (I : Inv X pins σ H s) (h1 : -(2 ^ 62) ≤ lo) (h2 : lo < 2 ^ 62) (h3 : -(2 ^ 62) ≤ hi) (h4 : hi < 2 ^ 62)
    (q : R (Itr lo (hi - lo).toNat) H) : wpAny (model X.prog X.w) X.A (pyIter (.ref s.heap.objs.size)) (PIE X pins σ tg R) E { s with heap := s.heap.push { cls := .type "range", data := .fields #[.int lo t, .int hi u, .int 1 v] }, toks := tk } := by
  refine wpAny_pyIter_range (IsRange.new ..) (small_one h1 h2 h3 h4) ?_
  have I1 : Inv X pins σ H { s with heap := s.heap.push { cls := .type "range", data := .fields #[.int lo t, .int hi u, .int 1 v] }, toks := tk } := I.kept fun b o e => Heap.get?_push_of_some _ e
  refine ⟨(s.heap.push { cls := .type "range", data := .fields #[.int lo t, .int hi u, .int 1 v] }).objs.size, [(s.heap.push { cls := .type "range", data := .fields #[.int lo t, .int hi u, .int 1 v] }).objs.size], _, _, H, rfl,
    I1.kept (t' := tk) fun b o e => Heap.get?_push_of_some _ e, turn_range _ lo (hi - lo).toNat, ?_, fun b hb => ?_, q⟩
  · have e1 : lo + ((0 : Nat) : Int) * 1 = lo := by simp
    have e2 : (((hi - lo).toNat : Nat) : Int) - ((0 : Nat) : Int) = Builtin.Range.rangeSize lo hi 1 := by rw [rangeSize_one]; split <;> omega
    show IsRangeIter _ _ (lo + ((0 : Nat) : Int) * 1) ((((hi - lo).toNat : Nat) : Int) - ((0 : Nat) : Int)) 1
    rw [e1, e2]
    exact Heap.get?_push_size _ rfl
  · have e : b = (s.heap.push { cls := .type "range", data := .fields #[.int lo t, .int hi u, .int 1 v] }).objs.size := by simpa using hb
    subst e
    exact I1.fpOk (Nat.le_refl _) (I1.hok.fresh (Nat.le_refl _))
def iRng1 (ta : TA) : TI := fun σ H R => ta σ H fun vs H1 => ∃ j : Int, vs = [.int j] ∧ -(2 ^ 62) ≤ j ∧ j < 2 ^ 62 ∧ R (Itr 0 j.toNat) H1
theorem pi_range1 {a : Expr} {ta : TA} {p pos : Pos} (hg : Gl X "range") (hm : X.mg "range" = none) (ha : PA X [a] ta) (hs : starEach [a] X.env = [(false, eval a X.env)] := by rfl) : PI X tg (.Call (.Name "range" p) [a] [] pos) (iRng1 ta) := by
  intro pins s σ H R I h
  refine Call_ (ld_blt I hg hm boot_range (PyProof.Rows.callWith_type1 (thn (ha pos pins s σ H _ I h) fun us s1 ⟨vs, H1, I1, r1, q1⟩ => ?_) hs rfl))
  obtain ⟨j, e, q1, q2, q⟩ := q1
  subst e
  cases r1 with
  | cons r rr =>
    cases rr
    obtain ⟨t, rfl⟩ := r
    exact call_range_1 (range_it I1 (by omega) (by omega) q1 q2 (by simpa using q))
/-! ### for -/
/-- W: the invariant by the turn and a measure; N: what the body is to reach -/
def tFor (wi : TI) (g : TG) (tb : TS) : TS := fun D σ H => wi σ H fun J H1 => ∃ W : Nat → Nat → St → Hp → Prop, (∃ m, W 0 m σ H1) ∧ ∀ i m σ H, W i m σ H →
  (J.stop i H ∧ D.nx σ H) ∨ (J.go i H ∧ ∃ N : St → Hp → Prop, (∀ σ' H', N σ' H' → ∃ m', m' < m ∧ W (i + 1) m' σ' H') ∧ ∀ x H', J.yld i H x H' → g x σ H' fun σ2 H2 => tb { D with nx := N, ct := N, bk := D.nx } σ2 H2)
/-- the records at fp as they stand -/
def pinsAt (fp : List Addr) (h : Heap) : List (Addr × Obj) := fp.filterMap fun b => (h.get? b).map fun o => (b, o)
theorem mem_pinsAt {fp : List Addr} {h : Heap} {b : Addr} {o : Obj} (hb : b ∈ fp) (e : h.get? b = some o) : (b, o) ∈ pinsAt fp h := List.mem_filterMap.mpr ⟨b, hb, by rw [e]; rfl⟩
theorem of_pinsAt {fp : List Addr} {h : Heap} {p : Addr × Obj} (hp : p ∈ pinsAt fp h) : p.1 ∈ fp ∧ h.get? p.1 = some p.2 := by
  obtain ⟨b, hb, e⟩ := List.mem_filterMap.mp hp
  cases q : h.get? b with
  | none => rw [q] at e; cases e
  | some o =>
    rw [q] at e
    have e' : (b, o) = p := Option.some.inj e
    subst e'
    exact ⟨hb, q⟩
theorem Inv.pinned {pins : List (Addr × Obj)} {σ : St} {H : Hp} {s : Shared} {fp : List Addr} (I : Inv X pins σ H s) (hf : ∀ b ∈ fp, FpOk X pins H b) (ho : ∀ b ∈ fp, ∃ o, s.heap.get? b = some o ∧ ∀ v, o.data ≠ .cell v) : Inv X (pins ++ pinsAt fp s.heap) σ H s :=
  I.pins_of fun p hp => (List.mem_append.mp hp).elim (fun z => I.pin p (List.mem_append_right _ z)) fun z => by
    obtain ⟨hb, e⟩ := of_pinsAt z
    obtain ⟨f0, f1, f2, _⟩ := hf p.1 hb
    obtain ⟨o, e', d⟩ := ho p.1 hb
    rw [e] at e'; cases e'
    exact ⟨e, f0, f1, f2, d⟩
theorem Inv.unpinned {pins pl : List (Addr × Obj)} {σ : St} {H : Hp} {s : Shared} (I : Inv X (pins ++ pl) σ H s) : Inv X pins σ H s := I.pins_of fun p hp => I.pin p (List.mem_append_right _ (List.mem_append_left _ hp))
theorem ps_for {iter : Expr} {body : List Stmt} {wi : TI} {g : TG} {tb : TS} {pos : Pos} (hp : PassesOwn (model X.prog X.w) X.A X.env X.xe) (hc : X.calm = true) (hi : PI X tg iter wi) (hg : PG X tg g) (hb : PSs X body tb)
    (hs : ∀ x, foldedSetIterable iter X.env x = pure x := by intro _; rfl) : PS X (.For tg iter body [] pos) (tFor wi g tb) := by
  intro pins s σ H D I h
  refine wpAny_For (thn (hi pins s σ H _ I h) fun v s1 h1 => thn h1 fun itv s2 h2 => ?_) hs
  obtain ⟨it, fp, tn, J, H2, e, I2, T, st2, f2, W, ⟨m0, w0⟩, turn⟩ := h2
  subst e
  -- what stays true of the iterator's objects through the loop
  have stat : ∀ {H' : Hp}, (∀ b ∈ fp, H' b = none) → ∀ b ∈ fp, FpOk X pins H' b := fun hn b hb => ⟨hn b hb, (f2 b hb).2⟩
  refine codeAny_forLoop_any (fun n s' => ∃ i σ' H', Inv X pins σ' H' s' ∧ tn i s'.heap ∧ (∀ b ∈ fp, H' b = none) ∧ W i n σ' H') ?_ m0 ⟨0, σ, H2, I2, st2, fun b hb => (f2 b hb).1, w0⟩
  rintro n s3 ⟨i, σ3, H3, I3, st3, fr3, w3⟩
  rcases turn i n σ3 H3 w3 with ⟨stop, qn⟩ | ⟨go, N, hN, step⟩
  · refine wpAny_passesOwn hp (thn (T.done X rfl rfl rfl hc i pins s3 σ3 H3 X.xe I3 (stat fr3) st3 stop) fun r s4 ⟨hr, I4⟩ => ?_)
    subst hr
    exact wpAny_execs_nil ⟨σ3, H3, I4, qn⟩
  · refine wpAny_passesOwn hp (thn (T.item X rfl rfl rfl hc i pins s3 σ3 H3 X.xe I3 (stat fr3) st3 go) fun r s4 ⟨u, hr, h4⟩ => ?_)
    subst hr
    refine wpAny_passesOwn hp (thn h4 fun _ s5 ⟨x, H5, I5, r5, y5, st5, fr5⟩ => ?_)
    have I5' := I5.pinned (stat fr5) (T.obj _ _ st5)
    refine wpAny_passesOwn hp (thn (hg _ s5 σ3 H5 x u _ I5' r5 (step x H5 y5)) fun _ s6 ⟨σ6, H6, I6, q6⟩ => ?_)
    refine wpAny_passesOwn hp (thn (hb _ s6 σ6 H6 _ I6 q6) fun f s7 q7 => ?_)
    have again : ∀ {σ7 : St} {H7 : Hp}, Inv X (pins ++ pinsAt fp s5.heap) σ7 H7 s7 → N σ7 H7 → ∃ m, m < n ∧ ∃ i σ' H', Inv X pins σ' H' s7 ∧ tn i s7.heap ∧ (∀ b ∈ fp, H' b = none) ∧ W i m σ' H' := fun {σ7 H7} I7 n7 => by
      obtain ⟨m', hm, w7⟩ := hN σ7 H7 n7
      refine ⟨m', hm, i + 1, σ7, H7, I7.unpinned, T.keep _ _ _ st5 fun b hb o e => (I7.pin (b, o) (List.mem_append_right _ (List.mem_append_right _ (mem_pinsAt hb e)))).1, fun b hb => ?_, w7⟩
      obtain ⟨o, e, d⟩ := T.obj _ _ st5 b hb
      exact (I7.pin (b, o) (List.mem_append_right _ (List.mem_append_right _ (mem_pinsAt hb e)))).2.1
    cases f with
    | next => obtain ⟨σ7, H7, I7, n7⟩ := q7; exact again I7 n7
    | cont => obtain ⟨σ7, H7, I7, n7⟩ := q7; exact again I7 n7
    | brk => obtain ⟨σ7, H7, I7, q7⟩ := q7; exact ⟨σ7, H7, I7.unpinned, q7⟩
    | ret v => obtain ⟨x7, σ7, H7, I7, r7, q7⟩ := q7; exact ⟨x7, σ7, H7, I7.unpinned, r7, q7⟩
end

/-! ### the forms one uses -/
/-- over a list that the body leaves as it is -/
theorem for_list {K : PySem.W.Frag} {a : Addr} {xs : List V} {g : TG} {tb : TS} {D : Ends} {σ : St} {H : Hp} (Pv : Nat → St → Hp → Prop) (h0 : Pv 0 σ H) (hl : ∀ i σ H, i ≤ xs.length → Pv i σ H → SqL K H a xs)
    (hs : ∀ i x σ H, xs[i]? = some x → Pv i σ H → g x σ H fun σ2 H2 => tb { D with nx := Pv (i + 1), ct := Pv (i + 1), bk := D.nx } σ2 H2) (hd : ∀ σ H, Pv xs.length σ H → D.nx σ H) :
    ∃ W : Nat → Nat → St → Hp → Prop, (∃ m, W 0 m σ H) ∧ ∀ i m σ H, W i m σ H →
      ((Itl K a).stop i H ∧ D.nx σ H) ∨ ((Itl K a).go i H ∧ ∃ N : St → Hp → Prop, (∀ σ' H', N σ' H' → ∃ m', m' < m ∧ W (i + 1) m' σ' H') ∧ ∀ x H', (Itl K a).yld i H x H' → g x σ H' fun σ2 H2 => tb { D with nx := N, ct := N, bk := D.nx } σ2 H2) := by
  refine ⟨fun i m σ H => m = xs.length - i ∧ i ≤ xs.length ∧ Pv i σ H, ⟨xs.length, by simp, Nat.zero_le _, h0⟩, ?_⟩
  rintro i m σ H ⟨rfl, hi, p⟩
  have q := hl i σ H hi p
  by_cases hlt : i < xs.length
  · refine .inr ⟨⟨xs, xs[i], q, by simp [hlt]⟩, Pv (i + 1), fun σ' H' p' => ⟨xs.length - (i + 1), by omega, rfl, hlt, p'⟩, fun x H' y => ?_⟩
    obtain ⟨e, y⟩ := y
    subst e
    exact hs i x σ _ (y xs q) p
  · have e : i = xs.length := by omega
    subst e
    exact .inl ⟨⟨xs, q, Nat.le_refl _⟩, hd σ H p⟩
theorem for_tup {K : PySem.W.Frag} {a : Addr} {xs : List V} {g : TG} {tb : TS} {D : Ends} {σ : St} {H : Hp} (Pv : Nat → St → Hp → Prop) (h0 : Pv 0 σ H) (hl : ∀ i σ H, i ≤ xs.length → Pv i σ H → SqT K H a xs)
    (hs : ∀ i x σ H, xs[i]? = some x → Pv i σ H → g x σ H fun σ2 H2 => tb { D with nx := Pv (i + 1), ct := Pv (i + 1), bk := D.nx } σ2 H2) (hd : ∀ σ H, Pv xs.length σ H → D.nx σ H) :
    ∃ W : Nat → Nat → St → Hp → Prop, (∃ m, W 0 m σ H) ∧ ∀ i m σ H, W i m σ H →
      ((Itt K a).stop i H ∧ D.nx σ H) ∨ ((Itt K a).go i H ∧ ∃ N : St → Hp → Prop, (∀ σ' H', N σ' H' → ∃ m', m' < m ∧ W (i + 1) m' σ' H') ∧ ∀ x H', (Itt K a).yld i H x H' → g x σ H' fun σ2 H2 => tb { D with nx := N, ct := N, bk := D.nx } σ2 H2) := by
  refine ⟨fun i m σ H => m = xs.length - i ∧ i ≤ xs.length ∧ Pv i σ H, ⟨xs.length, by simp, Nat.zero_le _, h0⟩, ?_⟩
  rintro i m σ H ⟨rfl, hi, p⟩
  have q := hl i σ H hi p
  by_cases hlt : i < xs.length
  · refine .inr ⟨⟨xs, xs[i], q, by simp [hlt]⟩, Pv (i + 1), fun σ' H' p' => ⟨xs.length - (i + 1), by omega, rfl, hlt, p'⟩, fun x H' y => ?_⟩
    obtain ⟨e, y⟩ := y
    subst e
    exact hs i x σ _ (y xs q) p
  · have e : i = xs.length := by omega
    subst e
    exact .inl ⟨⟨xs, q, Nat.le_refl _⟩, hd σ H p⟩
theorem for_range {lo : Int} {n : Nat} {g : TG} {tb : TS} {D : Ends} {σ : St} {H : Hp} (Pv : Nat → St → Hp → Prop) (h0 : Pv 0 σ H)
    (hs : ∀ i σ H, i < n → Pv i σ H → g (.int (lo + i)) σ H fun σ2 H2 => tb { D with nx := Pv (i + 1), ct := Pv (i + 1), bk := D.nx } σ2 H2) (hd : ∀ σ H, Pv n σ H → D.nx σ H) :
    ∃ W : Nat → Nat → St → Hp → Prop, (∃ m, W 0 m σ H) ∧ ∀ i m σ H, W i m σ H →
      ((Itr lo n).stop i H ∧ D.nx σ H) ∨ ((Itr lo n).go i H ∧ ∃ N : St → Hp → Prop, (∀ σ' H', N σ' H' → ∃ m', m' < m ∧ W (i + 1) m' σ' H') ∧ ∀ x H', (Itr lo n).yld i H x H' → g x σ H' fun σ2 H2 => tb { D with nx := N, ct := N, bk := D.nx } σ2 H2) := by
  refine ⟨fun i m σ H => m = n - i ∧ i ≤ n ∧ Pv i σ H, ⟨n, by simp, Nat.zero_le _, h0⟩, ?_⟩
  rintro i m σ H ⟨rfl, hi, p⟩
  by_cases hlt : i < n
  · refine .inr ⟨hlt, Pv (i + 1), fun σ' H' p' => ⟨n - (i + 1), by omega, rfl, hlt, p'⟩, fun x H' y => ?_⟩
    obtain ⟨e, y⟩ := y
    subst e y
    exact hs i σ _ hlt p
  · have e : i = n := by omega
    subst e
    exact .inl ⟨Nat.le_refl _, hd σ H p⟩
end L2

namespace L2
open PySem PySem.Spec PyProof.Rows

abbrev R2 := V → V → Hp → VK → Prop
/-- a two-place operation on values: f is binaryOp op, inplaceOp op or compareOp op -/
def OpR (X : Cx) (f : Value → Value → Sem Value) (r : R2) : Prop :=
  ∀ (pins : List (Addr × Obj)) (s : Shared) (σ : St) (H : Hp) (x y : V) (v u : Value) (Q : VK), Inv X pins σ H s → RelV x v → RelV y u → r x y H Q →
    wpAny (model X.prog X.w) X.A (f v u) (EP X pins σ Q) X.xe s
/-- a call of a value that is known (a builtin, a type) with values -/
def CallR (X : Cx) (f : Value) (r : List V → Hp → VK → Prop) : Prop :=
  ∀ (pins : List (Addr × Obj)) (s : Shared) (σ : St) (H : Hp) (xs : List V) (us : List Value) (Q : VK), Inv X pins σ H s → Vals xs us → r xs H Q →
    wpAny (model X.prog X.w) X.A (call f us) (EP X pins σ Q) X.xe s
def tOp (r : R2) (ta tb : TE) : TE := fun σ H Q => ta σ H fun x H1 => tb σ H1 fun y H2 => r x y H2 Q
/-- ints in, under C, and a value out -/
def rI (C : Int → Int → Prop) (g : Int → Int → V) : R2 := fun x y H Q => ∃ i j, x = .int i ∧ y = .int j ∧ C i j ∧ Q (g i j) H
def rI0 (g : Int → Int → V) : R2 := fun x y H Q => ∃ i j, x = .int i ∧ y = .int j ∧ Q (g i j) H
section
variable {X : Cx} {a b c : Expr} {ta tb tc : TE} {pos : Pos}

theorem binT (ha : PE X a ta) (hb : PE X b tb) {pins : List (Addr × Obj)} {s : Shared} {σ : St} {H : Hp} {R : V → V → Hp → Prop} (I : Inv X pins σ H s)
    (h : ta σ H fun x H1 => tb σ H1 fun y H2 => R x y H2) {Q : Value → Shared → Prop} {f : Value → Value → Sem Value}
    (hf : ∀ v u s2 x y H2, Inv X pins σ H2 s2 → RelV x v → RelV y u → R x y H2 → wpAny (model X.prog X.w) X.A (f v u) Q X.xe s2) :
    wpAny (model X.prog X.w) X.A (eval a X.env) (fun v s₁ => wpAny (model X.prog X.w) X.A (eval b X.env) (fun u s₂ => wpAny (model X.prog X.w) X.A (f v u) Q X.xe s₂) X.xe s₁) X.xe s := by
  refine thn (ha pins s σ H _ I h) fun v s1 ⟨x, H1, I1, r1, q1⟩ => ?_
  refine thn (hb pins s1 σ H1 _ I1 q1) fun u s2 ⟨y, H2, I2, r2, q2⟩ => ?_
  exact hf v u s2 x y H2 I2 r1 r2 q2

theorem pe_op {op : Operator} {r : R2} (ho : OpR X (binaryOp op) r) (ha : PE X a ta) (hb : PE X b tb) : PE X (.BinOp a op b pos) (tOp r ta tb) := by
  intro pins s σ H Q I h
  exact wpAny_BinOp (binT ha hb I h fun v u s2 x y H2 I2 rx ry q => ho pins s2 σ H2 x y v u Q I2 rx ry q)
/-! ### ints -/
theorem opI {f : Value → Value → Sem Value} {C : Int → Int → Prop} {g : Int → Int → Int}
    (rule : ∀ (i j : Int) (t u : Tok) (s : Shared) (Q : Value → Shared → Prop) (E : Value → Shared → Prop), C i j → Q (.int (g i j) s.toks) { s with toks := s.toks + 1 } → wpAny (model X.prog X.w) X.A (f (.int i t) (.int j u)) Q E s) :
    OpR X f (rI C fun i j => .int (g i j)) := by
  intro pins s σ H x y v u Q I rx ry h
  obtain ⟨i, j, rfl, rfl, hc, q⟩ := h
  obtain ⟨t, rfl⟩ := rx
  obtain ⟨t', rfl⟩ := ry
  exact rule i j t t' s _ _ hc ⟨.int (g i j), H, I.tok _, ⟨_, rfl⟩, q⟩
theorem opI0 {f : Value → Value → Sem Value} {g : Int → Int → Int}
    (rule : ∀ (i j : Int) (t u : Tok) (s : Shared) (Q : Value → Shared → Prop) (E : Value → Shared → Prop), Q (.int (g i j) s.toks) { s with toks := s.toks + 1 } → wpAny (model X.prog X.w) X.A (f (.int i t) (.int j u)) Q E s) :
    OpR X f (rI0 fun i j => .int (g i j)) := by
  intro pins s σ H x y v u Q I rx ry h
  obtain ⟨i, j, rfl, rfl, q⟩ := h
  obtain ⟨t, rfl⟩ := rx
  obtain ⟨t', rfl⟩ := ry
  exact rule i j t t' s _ _ ⟨.int (g i j), H, I.tok _, ⟨_, rfl⟩, q⟩
theorem opB0 {f : Value → Value → Sem Value} {g : Int → Int → Bool}
    (rule : ∀ (i j : Int) (t u : Tok) (s : Shared) (Q : Value → Shared → Prop) (E : Value → Shared → Prop), Q (.bool (g i j)) s → wpAny (model X.prog X.w) X.A (f (.int i t) (.int j u)) Q E s) :
    OpR X f (rI0 fun i j => .bl (g i j)) := by
  intro pins s σ H x y v u Q I rx ry h
  obtain ⟨i, j, rfl, rfl, q⟩ := h
  obtain ⟨t, rfl⟩ := rx
  obtain ⟨t', rfl⟩ := ry
  exact rule i j t t' s _ _ ⟨.bl (g i j), H, I, rfl, q⟩

def CDiv (i j : Int) : Prop := 0 < j ∧ j < 1073741824
def CPow (i j : Int) : Prop := 0 ≤ j ∧ j ≤ 1000000 ∧ i.natAbs < 2 ^ 64
def CMul (i j : Int) : Prop := (-(2 ^ 64) < i ∧ i < 2 ^ 64) ∨ (-(2 ^ 64) < j ∧ j < 2 ^ 64)
theorem CMul.ok {i j : Int} (h : CMul i j) : IntMulOk i j := by
  rcases h with ⟨h1, h2⟩ | ⟨h1, h2⟩
  · exact .of_left (intBits_le_64 h1 h2)
  · exact .of_right (intBits_le_64 h1 h2)
theorem two_pow_nn (k : Nat) : (0 : Int) ≤ 2 ^ k := by
  rw [two_pow_cast]
  exact Int.natCast_nonneg _

theorem op_add : OpR X (binaryOp .Add) (rI0 fun i j => .int (i + j)) := opI0 fun _ _ _ _ _ _ _ q => add_int q
theorem op_sub : OpR X (binaryOp .Sub) (rI0 fun i j => .int (i - j)) := opI0 fun _ _ _ _ _ _ _ q => sub_int q
theorem op_mul : OpR X (binaryOp .Mult) (rI CMul fun i j => .int (i * j)) := opI fun _ _ _ _ _ _ _ hc q => mul_int q hc.ok
/-- // by a positive divisor -/
theorem op_fdiv : OpR X (binaryOp .FloorDiv) (rI CDiv fun i j => .int (i / j)) := opI fun i j _ _ _ _ _ hc q => by
  have h1 : (0 : Int) < j := hc.1
  have h2 : j < 1073741824 := hc.2
  exact floordiv_int (by omega) (by rw [Int.fdiv_eq_ediv_of_nonneg i (by omega)]; exact q) (.inl (PyProof.noPylong_small (by omega)))
/-- % by a positive divisor of any size -/
theorem op_mod : OpR X (binaryOp .Mod) (rI (fun _ j => 0 < j) fun i j => .int (i % j)) := opI fun i j _ _ _ _ _ hc q => by
  have h1 : (0 : Int) < j := hc
  exact mod_int' (by omega) (by rw [Int.fmod_eq_emod_of_nonneg i (by omega)]; exact q)
theorem op_pow : OpR X (binaryOp .Pow) (rI CPow fun i j => .int (i ^ j.toNat)) := opI fun _ _ _ _ _ _ _ hc q => pow_int_small hc.1 hc.2.1 hc.2.2 q
/-! ### bools among ints: n += (a < b) -/
end

/-! ### comparisons -/
/-- the scalars that == tells apart as data does -/
def scal : V → V → Bool
  | .non, .non => true | .non, .int _ => true | .int _, .non => true | .non, .bl _ => true | .bl _, .non => true | .non, .str _ => true | .str _, .non => true
  | .int _, .int _ => true | .bl _, .bl _ => true | .str _, .str _ => true | .byt _, .byt _ => true
  | .int _, .str _ => true | .str _, .int _ => true | .bl _, .str _ => true | .str _, .bl _ => true
  | _, _ => false
def rEq : R2 := fun x y H Q => scal x y = true ∧ Q (.bl (decide (x = y))) H
def rNe : R2 := fun x y H Q => scal x y = true ∧ Q (.bl (!decide (x = y))) H

theorem dec_int {i j : Int} : decide (V.int i = V.int j) = (i == j) := by
  rw [Bool.eq_iff_iff]
  simp
theorem dec_bl {i j : Bool} : decide (V.bl i = V.bl j) = (i == j) := by
  rw [Bool.eq_iff_iff]
  simp
theorem dec_str {i j : Str} : decide (V.str i = V.str j) = (i == j) := by
  rw [Bool.eq_iff_iff]
  simp
theorem dec_byt {i j : Array UInt8} : decide (V.byt i = V.byt j) = (i.toList == j.toList) := by
  rw [Bool.eq_iff_iff]
  cases i
  cases j
  simp

section
variable {X : Cx} {a b c : Expr} {ta tb tc : TE} {pos : Pos}
theorem fin_bl {pins : List (Addr × Obj)} {σ : St} {H : Hp} {s : Shared} {Q : VK} {k k' : Bool} (I : Inv X pins σ H s) (q : Q (.bl k) H) (e : k = k') : EP X pins σ Q (.bool k') s := by
  subst e
  exact ⟨.bl k, H, I, rfl, q⟩
theorem op_eq : OpR X (compareOp .Eq) rEq := by
  intro pins s σ H x y v u Q I rx ry h
  obtain ⟨hs, q⟩ := h
  cases x with
  | non =>
    cases rx
    cases y with
    | non => cases ry; exact PySem.EqNone.eq_none_none (fin_bl I q (by simp))
    | bl j => cases ry; exact PySem.EqNone.eq_none_bool (fin_bl I q (by simp))
    | int j => obtain ⟨t', rfl⟩ := ry; exact PySem.EqNone.eq_none_int (fin_bl I q (by simp))
    | str j => obtain ⟨t', rfl⟩ := ry; exact PySem.EqNone.eq_none_str (fin_bl I q (by simp))
    | _ => exact absurd (show false = true from hs) Bool.false_ne_true
  | bl i =>
    cases rx
    cases y with
    | non => cases ry; exact PySem.EqNone.eq_bool_none (fin_bl I q (by simp))
    | bl j => cases ry; exact eq_bool (fin_bl I q dec_bl)
    | str j => obtain ⟨t', rfl⟩ := ry; exact PySem.EqMixed.eq_bool_str (fin_bl I q (by simp))
    | _ => exact absurd (show false = true from hs) Bool.false_ne_true
  | int i =>
    obtain ⟨t, rfl⟩ := rx
    cases y with
    | non => cases ry; exact PySem.EqNone.eq_int_none (fin_bl I q (by simp))
    | int j => obtain ⟨t', rfl⟩ := ry; exact eq_int (fin_bl I q dec_int)
    | str j => obtain ⟨t', rfl⟩ := ry; exact PySem.EqMixed.eq_int_str (fin_bl I q (by simp))
    | _ => exact absurd (show false = true from hs) Bool.false_ne_true
  | str i =>
    obtain ⟨t, rfl⟩ := rx
    cases y with
    | non => cases ry; exact PySem.EqNone.eq_str_none (fin_bl I q (by simp))
    | bl j => cases ry; exact PySem.EqMixed.eq_str_bool (fin_bl I q (by simp))
    | int j => obtain ⟨t', rfl⟩ := ry; exact PySem.EqMixed.eq_str_int (fin_bl I q (by simp))
    | str j => obtain ⟨t', rfl⟩ := ry; exact eq_str (fin_bl I q dec_str)
    | _ => exact absurd (show false = true from hs) Bool.false_ne_true
  | byt i =>
    obtain ⟨t, rfl⟩ := rx
    cases y with
    | byt j => obtain ⟨t', rfl⟩ := ry; exact PySem.W.eq_bytes (fin_bl I q dec_byt)
    | _ => exact absurd (show false = true from hs) Bool.false_ne_true
  | _ => cases y <;> exact absurd (show false = true from hs) Bool.false_ne_true
theorem op_ne : OpR X (compareOp .NotEq) rNe := by
  intro pins s σ H x y v u Q I rx ry h
  obtain ⟨hs, q⟩ := h
  cases x with
  | non =>
    cases rx
    cases y with
    | non => cases ry; exact PySem.EqNone.ne_none_none (fin_bl I q (by simp))
    | bl j => cases ry; exact PySem.EqNone.ne_none_bool (fin_bl I q (by simp))
    | int j => obtain ⟨t', rfl⟩ := ry; exact PySem.EqNone.ne_none_int (fin_bl I q (by simp))
    | str j => obtain ⟨t', rfl⟩ := ry; exact PySem.EqNone.ne_none_str (fin_bl I q (by simp))
    | _ => exact absurd (show false = true from hs) Bool.false_ne_true
  | bl i =>
    cases rx
    cases y with
    | non => cases ry; exact PySem.EqNone.ne_bool_none (fin_bl I q (by simp))
    | bl j => cases ry; exact ne_bool (fin_bl I q (congrArg not dec_bl))
    | str j => obtain ⟨t', rfl⟩ := ry; exact PySem.EqMixed.ne_bool_str (fin_bl I q (by simp))
    | _ => exact absurd (show false = true from hs) Bool.false_ne_true
  | int i =>
    obtain ⟨t, rfl⟩ := rx
    cases y with
    | non => cases ry; exact PySem.EqNone.ne_int_none (fin_bl I q (by simp))
    | int j => obtain ⟨t', rfl⟩ := ry; exact ne_int (fin_bl I q (congrArg not dec_int))
    | str j => obtain ⟨t', rfl⟩ := ry; exact PySem.EqMixed.ne_int_str (fin_bl I q (by simp))
    | _ => exact absurd (show false = true from hs) Bool.false_ne_true
  | str i =>
    obtain ⟨t, rfl⟩ := rx
    cases y with
    | non => cases ry; exact PySem.EqNone.ne_str_none (fin_bl I q (by simp))
    | bl j => cases ry; exact PySem.EqMixed.ne_str_bool (fin_bl I q (by simp))
    | int j => obtain ⟨t', rfl⟩ := ry; exact PySem.EqMixed.ne_str_int (fin_bl I q (by simp))
    | str j => obtain ⟨t', rfl⟩ := ry; exact ne_str (fin_bl I q (congrArg not dec_str))
    | _ => exact absurd (show false = true from hs) Bool.false_ne_true
  | byt i =>
    obtain ⟨t, rfl⟩ := rx
    cases y with
    | byt j => obtain ⟨t', rfl⟩ := ry; exact PySem.W.ne_bytes (fin_bl I q (congrArg not dec_byt))
    | _ => exact absurd (show false = true from hs) Bool.false_ne_true
  | _ => cases y <;> exact absurd (show false = true from hs) Bool.false_ne_true

theorem op_lt : OpR X (compareOp .Lt) (rI0 fun i j => .bl (decide (i < j))) := opB0 fun _ _ _ _ _ _ _ q => lt_int q
theorem op_le : OpR X (compareOp .LtE) (rI0 fun i j => .bl (decide (i ≤ j))) := opB0 fun _ _ _ _ _ _ _ q => le_int q
theorem op_gt : OpR X (compareOp .Gt) (rI0 fun i j => .bl (decide (j < i))) := opB0 fun _ _ _ _ _ _ _ q => gt_int q
theorem op_ge : OpR X (compareOp .GtE) (rI0 fun i j => .bl (decide (j ≤ i))) := opB0 fun _ _ _ _ _ _ _ q => ge_int q
/-- the one string within the other -/
theorem op_in_str : OpR X (compareOp .In) (fun x y H Q => ∃ i j, x = .str i ∧ y = .str j ∧ Q (.bl (!(Builtin.Str.occurrences j i 0 j.length 1).isEmpty)) H) := by
  intro pins s σ H x y v u Q I rx ry h
  obtain ⟨i, j, rfl, rfl, q⟩ := h
  obtain ⟨t, rfl⟩ := rx
  obtain ⟨t', rfl⟩ := ry
  exact in_str (fin_bl I q rfl)

theorem op_notN : OpR X (compareOp .IsNot) (fun x y H Q => y = .non ∧ Q (.bl (!decide (x = .non))) H) := by
  intro pins s σ H x y v u Q I rx ry h
  obtain ⟨rfl, q⟩ := h
  cases ry
  refine isnot_none_gen (fin_bl I q ?_)
  cases x <;> first
    | (cases rx; rfl)
    | (obtain ⟨t, rfl⟩ := rx; rfl)

theorem nomark (b : Expr) {op : CmpOp} (h : op ≠ .In := by decide) (h2 : op ≠ .NotIn := by decide) : behindInMarks op b = false := by
  have e1 : (op == CmpOp.In) = false := by cases op <;> first | rfl | exact absurd rfl h
  have e2 : (op == CmpOp.NotIn) = false := by cases op <;> first | rfl | exact absurd rfl h2
  cases b <;> simp [behindInMarks, e1, e2]
/-- a comparison as a value; hm: nomark b, or (for in, not in) by with_unfolding_all rfl -/
theorem pe_cmpR {op : CmpOp} {r : R2} (ho : OpR X (compareOp op) r) (ha : PE X a ta) (hb : PE X b tb) (hm : behindInMarks op b = false) : PE X (.Compare a [op] [b] pos) (tOp r ta tb) := by
  intro pins s σ H Q I h
  exact wpAny_Compare1 (binT ha hb I h fun v u s2 x y H2 I2 rx ry q => ho pins s2 σ H2 x y v u Q I2 rx ry q) hm
/-- a reading of a value as a test -/
def tTest (t : TE) : TT := fun σ H Q => t σ H fun x H' => ∃ k, x = .bl k ∧ Q k H'
theorem pt_cmpR {op : CmpOp} {r : R2} (ho : OpR X (compareOp op) r) (ha : PE X a ta) (hb : PE X b tb) (hm : behindInMarks op b = false) : PT X (.Compare a [op] [b] pos) (tTest (tOp r ta tb)) := by
  intro pins s σ H Q I h
  refine wpAny_isTrue_Compare1 (thn (ha pins s σ H _ I h) fun v s1 ⟨x, H1, I1, r1, q1⟩ => thn (hb pins s1 σ H1 _ I1 q1) fun u s2 ⟨y, H2, I2, r2, q2⟩ =>
    thn (ho pins s2 σ H2 x y v u _ I2 r1 r2 q2) fun c s3 ⟨z, H3, I3, r3, k, e, q3⟩ => ?_) hm
  subst e
  cases r3
  exact wpAny_truthy_bool ⟨H3, I3, q3⟩
/-- a op1 b op2 c -/
def tChain (r r' : R2) (ta tb tc : TE) : TE := fun σ H Q => ta σ H fun x H1 => tb σ H1 fun y H2 => r x y H2 fun z H3 => ∃ k, z = .bl k ∧
  (if k = true then tc σ H3 fun w' H4 => r' y w' H4 Q else Q (.bl false) H3)
theorem pt_chain {op op' : CmpOp} {r r' : R2} (ho : OpR X (compareOp op) r) (ho' : OpR X (compareOp op') r') (ha : PE X a ta) (hb : PE X b tb) (hc : PE X c tc)
    (hm : lastMarks [op, op'] [b, c] = false := by with_unfolding_all rfl) : PT X (.Compare a [op, op'] [b, c] pos) (tTest (tChain r r' ta tb tc)) := by
  intro pins s σ H Q I h
  refine isTrue_chain (thn (ha pins s σ H _ I h) fun v s1 ⟨x, H1, I1, r1, q1⟩ => test_link (thn (hb pins s1 σ H1 _ I1 q1) fun u s2 ⟨y, H2, I2, r2, q2⟩ =>
    thn (ho pins s2 σ H2 x y v u _ I2 r1 r2 q2) fun d s3 ⟨z, H3, I3, r3, k, e, q3⟩ => ?_)) hm
  subst e
  cases r3
  refine wpAny_truthy_bool ?_
  cases k with
  | false =>
    obtain ⟨k', e', q'⟩ := q3
    cases e'
    exact ite_ff ⟨H3, I3, q'⟩
  | true =>
    refine ite_tt (test_last (thn (hc pins s3 σ H3 _ I3 q3) fun w' s4 ⟨z', H4, I4, r4, q4⟩ => thn (ho' pins s4 σ H4 y z' u w' _ I4 r2 r4 q4) fun d' s5 ⟨z2, H5, I5, r5, k2, e2, q5⟩ => ?_))
    subst e2
    cases r5
    exact wpAny_truthy_bool ⟨H5, I5, q5⟩

/-! ### truth -/
theorem line63 : (sizeLine : Nat) < 2 ^ 63 := by rw [sizeLine_eq]; decide
/-! ### strs and bytes -/
theorem op_add_str : OpR X (binaryOp .Add) (fun x y H Q => ∃ i j, x = .str i ∧ y = .str j ∧ i.length + j.length ≤ sizeLine ∧ Q (.str (i ++ j)) H) := by
  intro pins s σ H x y v u Q I rx ry h
  obtain ⟨i, j, rfl, rfl, hz, q⟩ := h
  obtain ⟨t, rfl⟩ := rx
  obtain ⟨t', rfl⟩ := ry
  exact add_str (fun t' tk => ⟨.str (i ++ j), H, I.tok _, ⟨_, rfl⟩, q⟩) hz
/-! ### scalar builtins, by CallR -/
theorem vals1 {x : V} {us : List Value} (r : Vals [x] us) : ∃ u, us = [u] ∧ RelV x u := by
  cases r with
  | cons r1 r2 => cases r2; exact ⟨_, rfl, r1⟩
theorem vals2 {x y : V} {us : List Value} (r : Vals [x, y] us) : ∃ u w', us = [u, w'] ∧ RelV x u ∧ RelV y w' := by
  cases r with
  | cons r1 r2 =>
    cases r2 with
    | cons r3 r4 => cases r4; exact ⟨_, _, rfl, r1, r3⟩
theorem call_min2 (hc : X.calm = true) : CallR X (.builtin "min") (fun xs H Q => ∃ i j, xs = [.int i, .int j] ∧ Q (.int (if j < i then j else i)) H) := by
  intro pins s σ H xs us Q I r h
  obtain ⟨i, j, rfl, q⟩ := h
  obtain ⟨u, w', rfl, ⟨t, rfl⟩, ⟨t', rfl⟩⟩ := vals2 r
  refine min_two_ints (I.ok.hd hc) fun h' tk k => ⟨_, H, I.kept k, ?_, q⟩
  by_cases hj : j < i
  · rw [if_pos hj, if_pos hj]; exact ⟨_, rfl⟩
  · rw [if_neg hj, if_neg hj]; exact ⟨_, rfl⟩
end
end L2

namespace L2
open PySem PySem.Spec PyProof.Rows

/-! ### an instance, its attributes a map -/
structure ObjM (h : Heap) (x dx C : Addr) (mA : Str → Option Value) : Prop where
  obj : h.get? x = some (PySem.W.instObj C dx)
  ns : h.Ns1 dx mA
  ne : dx ≠ x

theorem lookIn_ns {h : Heap} {dx : Addr} {mA : Str → Option Value} (n : h.Ns1 dx mA) : ∃ od, h.get? dx = some od ∧ ∀ name, PySem.W.lookIn name od = some (mA name) := by
  obtain ⟨o, es, ep, ho, hd, hk, _, hm⟩ := n
  refine ⟨o, ho, fun name => ?_⟩
  have e := hm name
  unfold nsFind findBy at e
  rw [← Array.find?_toList] at e
  unfold PySem.W.lookIn
  rw [hd]
  dsimp only
  split
  · rename_i y q
    rw [q] at e
    exact congrArg some e
  · rename_i q
    rw [q] at e
    have a : es.toList.any (·.refKey) = false := by
      rw [List.any_eq_false]
      intro y hy
      obtain ⟨z, t, hkey⟩ := hk y (Array.mem_toList_iff.mp hy)
      simp [DictEntry.refKey, hkey]
    have a' : ¬ es.toList.any (·.refKey) = true := by rw [a]; exact Bool.false_ne_true
    rw [if_neg a']
    exact congrArg some e

theorem ObjM.look {h : Heap} {x dx C : Addr} {mA : Str → Option Value} (I : ObjM h x dx C mA) : ∃ od, PySem.W.InstAt h x (PySem.W.instObj C dx) C (some od) ∧ ∀ name, PySem.W.lookIn name od = some (mA name) :=
  let ⟨od, ho, hl⟩ := lookIn_ns I.ns
  ⟨od, ⟨I.obj, rfl, rfl, ho⟩, hl⟩

section
variable {prog : Program} {w : World} {A : Around} {E : Value → Shared → Prop} {s : Shared} {K : PySem.W.Frag} {x dx C f : Addr} {mA : Str → Option Value} {name : Str} {v : Value}

theorem get_map {expr : Bool} {Q : Value → Shared → Prop} (X : K.In s.heap) (I : ObjM s.heap x dx C mA) (hg : PySem.W.plainGet K C name = true) (hh : PySem.W.hasDictIn K C = true)
    (ha : PySem.W.findIn K (.ref C) name = some none) (hv : mA name = some v) (hv' : PySem.W.handedIn v = true) (h : Q v { s with toks := s.toks + 1 }) :
    wpAny (model prog w) A (getAttr (.ref x) name expr) Q E s := by
  obtain ⟨od, J, hl⟩ := I.look
  exact PySem.W.get_value X J (PySem.W.plainGet_of hg).1 (PySem.W.findObj_own hh ha rfl (by rw [hl, hv])) hv' h

theorem get_meth {pl : Sem Bool} {Q : Value × List Value → Shared → Prop} (X : K.In s.heap) (I : ObjM s.heap x dx C mA) (hg : PySem.W.plainGet K C name = true)
    (hf : PySem.W.findIn K (.ref C) name = some (some (.ref f))) (ht : PySem.W.isFn K (.ref f) = true) (hv : mA name = none) (h : Q (.ref f, [.ref x]) s) :
    wpAny (model prog w) A (getMethod (.ref x) name pl) Q E s := by
  obtain ⟨od, J, hl⟩ := I.look
  exact PySem.W.method_fn X J (PySem.W.plainGet_of hg).1 (PySem.W.plainGet_of hg).2 hf (beq_iff_eq.mp ht) (by show (PySem.W.lookIn name od).map (·.isSome) = some false; rw [hl, hv]; rfl) h

theorem set_map {ns : List Str} {Q : Unit → Shared → Prop} (X : K.In s.heap) (I : ObjM s.heap x dx C mA)
    (hs : PySem.W.findIn K (.ref C) "__setattr__" = some (some (.builtin "object.__setattr__"))) (hp : PySem.W.plainOver K C = true) (ht : PySem.W.takerIn K C name = some none) (hh : PySem.W.hasDictIn K C = true)
    (hw : PySem.Within mA ns) (hsz : ns.length ≤ sizeLine)
    (h : ∀ h', ObjM h' x dx C (fun y => if y = name then some v else mA y) → Heap.SameBut dx s.heap h' → Q () { s with heap := h', toks := s.toks + 2 }) :
    wpAny (model prog w) A (setAttr (.ref x) name v) Q E s := by
  obtain ⟨od, J, hl⟩ := I.look
  refine PySem.W.set_plain X J hs (PySem.W.osa_open (s := { s with toks := s.toks + 1 }) (r := none) X J hp ht fun b => ?_)
  obtain ⟨cd, hc, hd'⟩ := PySem.W.any_some hh
  have hx : s.heap.get? x = some ⟨.ref C, some dx, .plain, #[]⟩ := I.obj
  refine wpAny_bind (wpAny_pure (wpAny_bind (wpAny_bind (wpAny_loadPart hx (wpAny_bind (PySem.W.Looks.here (s := { s with toks := s.toks + 1 }) (PySem.W.looks_clsIn X hc) ?_))))))
  rw [hd']
  refine wpAny_pure (a := some dx) (wpAny_bind (wpAny_pure (wpAny_bind ?_)))
  refine wpAny_nsSet1 (s := { s with toks := s.toks + 1 }) I.ns fun h' hn2 hs2 => ?_
  obtain ⟨oD, esD, epD, hoD, hdD, hcD⟩ := hn2.count (PySem.Within.cons name v hw)
  refine wpAny_bind (wpAny_lookBehind hoD (by rw [hdD]; exact pastItsLine_dict (Nat.le_trans hcD (by rw [List.length_cons]; omega))) ?_)
  exact wpAny_pure (h _ ⟨(hs2.2 _ (Ne.symm I.ne)).trans I.obj, hn2, I.ne⟩ hs2)

/-- C(..): the dict at the heap's end, the instance behind it; then its __init__ -/
theorem make_map {R : Result → Shared → Prop} {vs : List Value} {kw : List (Str × Value)} (X : K.In s.heap) (hm : PySem.W.makesIn K C = true)
    (hi : PySem.W.findIn K (.ref C) "__init__" = some (some (.ref f))) (hf : PySem.W.typeIn K (.ref f) = some (.type "function"))
    (h : codeAny (model prog w) (A.under (.builtin "type.__call__" ⟨.ref C :: vs, kw⟩)) (.call (.ref f) ⟨.ref (s.heap.objs.size + 1) :: vs, kw⟩) (PySem.W.InitBack (s.heap.objs.size + 1) R)
      { s with heap := (s.heap.push PySem.W.emptyDict).push (PySem.W.instObj C s.heap.objs.size) }) :
    codeAny (model prog w) A (.call (.ref C) ⟨vs, kw⟩) R s := by
  obtain ⟨hh, g, d, t, os⟩ := s
  exact PySem.W.make_core (PySem.W.makes_of X hm) (PySem.W.looks_findIn X hi) (fun self => PySem.W.bind_fn X self hf) (.inl rfl) h
end

/-! ### the attributes as a list of pairs -/
def putF (f : Str) (v : V) : List (Str × V) → List (Str × V)
  | [] => [(f, v)]
  | (g, x) :: r => if g = f then (g, v) :: r else (g, x) :: putF f v r
theorem lookup_putF (f g : Str) (v : V) : ∀ fs : List (Str × V), (putF f v fs).lookup g = if g = f then some v else fs.lookup g
  | [] => by
    show List.lookup g [(f, v)] = _
    by_cases h : g = f
    · have hb : (g == f) = true := beq_iff_eq.mpr h
      simp only [List.lookup, hb, if_pos h]
    · have hb : (g == f) = false := beq_eq_false_iff_ne.mpr h
      simp only [List.lookup, hb, if_neg h]
  | (k, x) :: r => by
    have ih := lookup_putF f g v r
    rw [show putF f v ((k, x) :: r) = (if k = f then (k, v) :: r else (k, x) :: putF f v r) from rfl]
    by_cases hk : k = f
    · rw [if_pos hk]
      by_cases h : g = k
      · have hb : (g == k) = true := beq_iff_eq.mpr h
        simp only [List.lookup, hb, if_pos (h.trans hk)]
      · have hb : (g == k) = false := beq_eq_false_iff_ne.mpr h
        simp only [List.lookup, hb, if_neg (fun e : g = f => h (e.trans hk.symm))]
    · rw [if_neg hk]
      by_cases h : g = k
      · have hb : (g == k) = true := beq_iff_eq.mpr h
        simp only [List.lookup, hb, if_neg (fun e : g = f => hk (h.symm.trans e))]
      · have hb : (g == k) = false := beq_eq_false_iff_ne.mpr h
        simp only [List.lookup, hb]
        exact ih
theorem keys_putF (f : Str) (v : V) : ∀ fs : List (Str × V), f ∈ (putF f v fs).map (·.1) ∧ ∀ g, g ∈ fs.map (·.1) → g ∈ (putF f v fs).map (·.1)
  | [] => ⟨by simp [putF], fun g h => by simp at h⟩
  | (k, x) :: r => by
    obtain ⟨i1, i2⟩ := keys_putF f v r
    rw [show putF f v ((k, x) :: r) = (if k = f then (k, v) :: r else (k, x) :: putF f v r) from rfl]
    by_cases hk : k = f
    · rw [if_pos hk]
      subst hk
      exact ⟨by simp, fun g h => by simpa using h⟩
    · rw [if_neg hk]
      refine ⟨?_, fun g h => ?_⟩
      · rw [List.map_cons]
        exact List.mem_cons_of_mem _ i1
      · rw [List.map_cons] at h ⊢
        rcases List.mem_cons.mp h with e | e
        · exact List.mem_cons.mpr (.inl e)
        · exact List.mem_cons_of_mem _ (i2 g e)
theorem length_putF (f : Str) (v : V) : ∀ fs : List (Str × V), (putF f v fs).length ≤ fs.length + 1
  | [] => by simp [putF]
  | (k, x) :: r => by
    have ih := length_putF f v r
    rw [show putF f v ((k, x) :: r) = (if k = f then (k, v) :: r else (k, x) :: putF f v r) from rfl]
    by_cases hk : k = f
    · rw [if_pos hk, List.length_cons, List.length_cons]; omega
    · rw [if_neg hk, List.length_cons, List.length_cons]; omega

theorem RelO.some_of {v : V} {o : Option Value} (r : RelO (some v) o) : ∃ u, o = some u ∧ RelV v u := by
  cases o with
  | none => exact (show False from r).elim
  | some u => exact ⟨u, rfl, r⟩
theorem RelO.none_of {o : Option Value} (r : RelO none o) : o = none := by
  cases o with
  | none => rfl
  | some u => exact (show False from r).elim
theorem handed_of {v : V} {u : Value} (r : RelV v u) : PySem.W.handedIn u = true := by
  cases v with
  | non => cases (show u = Value.none from r); rfl
  | bl b => cases (show u = Value.bool b from r); rfl
  | int i => obtain ⟨t, e⟩ := (show ∃ t, u = Value.int i t from r); cases e; rfl
  | str x => obtain ⟨t, e⟩ := (show ∃ t, u = Value.str x t from r); cases e; rfl
  | byt b => obtain ⟨t, e⟩ := (show ∃ t, u = Value.bytes b t from r); cases e; rfl
  | flt b => obtain ⟨t, e⟩ := (show ∃ t, u = Value.float b t from r); cases e; rfl
  | ref a => cases (show u = Value.ref a from r); rfl
  | ty n => cases (show u = Value.type n from r); rfl

section
variable {P : Program} {w : World} {H H' : Hp} {h h' : Heap} {a C dx : Addr} {fs fs' : List (Str × V)}
theorem ins_get (hok : HOk P w H h) (e : H a = some (.ins C dx fs)) : ∃ mA, ObjM h a dx C mA ∧ (∀ f, RelO (fs.lookup f) (mA f)) ∧ PySem.Within mA (fs.map (·.1)) ∧ fs.length ≤ 1000 ∧ H dx = some (.own a) := by
  obtain ⟨d, z, ne, ob, mA, n, r, q⟩ := (show ObjOk P w H h a (.ins C dx fs) from hok a _ e)
  exact ⟨mA, ⟨ob, n, ne⟩, r, q, z, d⟩
end

/-! ### what of the text a class must have -/
structure Cls (K : PySem.W.Frag) (C : Addr) : Prop where
  pg : PySem.W.plainGet K C Str.empty = true
  hd : PySem.W.hasDictIn K C = true
  po : PySem.W.plainOver K C = true
  sa : PySem.W.findIn K (.ref C) "__setattr__" = some (some (.builtin "object.__setattr__"))
theorem Cls.get {K : PySem.W.Frag} {C : Addr} (c : Cls K C) (f : Str) : PySem.W.plainGet K C f = true := c.pg
/-- no class of it has the name -/
def NoAttr (K : PySem.W.Frag) (C : Addr) (f : Str) : Prop := PySem.W.findIn K (.ref C) f = some none
theorem NoAttr.taker {K : PySem.W.Frag} {C : Addr} {f : Str} (n : NoAttr K C f) : PySem.W.takerIn K C f = some none := by
  unfold PySem.W.takerIn
  rw [show PySem.W.findIn K (.ref C) f = some none from n]
  rfl
/-- a method: a plain def of the class or of one above it -/
structure Meth (K : PySem.W.Frag) (C : Addr) (m : Str) (f : Addr) : Prop where
  at_ : PySem.W.findIn K (.ref C) m = some (some (.ref f))
  fn : PySem.W.isFn K (.ref f) = true
  kp : PySem.W.keepIn K (.ref f) = true

section
variable {X : Cx} {pins : List (Addr × Obj)} {σ : St} {H : Hp} {s : Shared} {a C dx : Addr} {fs : List (Str × V)} {f : Str} {v : V} {A : Around} {E : Value → Shared → Prop}

theorem getattr_ok {b : Bool} {Q : Value → Shared → Prop} (I : Inv X pins σ H s) (e : H a = some (.ins C dx fs)) (c : Cls X.K C) (n : NoAttr X.K C f) (l : fs.lookup f = some v)
    (h : ∀ u s', Inv X pins σ H s' → RelV v u → Q u s') : wpAny (model X.prog X.w) A (getAttr (.ref a) f b) Q E s := by
  obtain ⟨mA, O, r, _, _, _⟩ := ins_get I.hok e
  obtain ⟨u, hu, ru⟩ := RelO.some_of (v := v) (o := mA f) (by rw [← l]; exact r f)
  exact get_map I.kIn O (c.get f) c.hd n hu (handed_of ru) (h u _ (I.tok _) ru)

theorem getmeth_ok {m : Str} {g : Addr} {pl : Sem Bool} {Q : Value × List Value → Shared → Prop} (I : Inv X pins σ H s) (e : H a = some (.ins C dx fs)) (c : Cls X.K C) (k : Meth X.K C m g) (l : fs.lookup m = none)
    (h : Q (.ref g, [.ref a]) s) : wpAny (model X.prog X.w) A (getMethod (.ref a) m pl) Q E s := by
  obtain ⟨mA, O, r, _, _, _⟩ := ins_get I.hok e
  have hn : mA m = none := RelO.none_of (by rw [← l]; exact r m)
  exact get_meth I.kIn O (c.get m) k.at_ k.fn hn h

theorem setattr_ok {y : V} {u : Value} {Q : Unit → Shared → Prop} (I : Inv X pins σ H s) (e : H a = some (.ins C dx fs)) (c : Cls X.K C) (n : NoAttr X.K C f) (hl : fs.length < 1000) (ry : RelV y u)
    (h : ∀ s', Inv X pins σ (upd H a (.ins C dx (putF f y fs))) s' → Q () s') : wpAny (model X.prog X.w) A (setAttr (.ref a) f u) Q E s := by
  obtain ⟨mA, O, r, wi, _, ho⟩ := ins_get I.hok e
  have hz : (fs.map (·.1)).length ≤ sizeLine := by rw [List.length_map, sizeLine_eq]; omega
  refine set_map I.kIn O c.sa c.po n.taker c.hd wi hz fun h' O' sb => h _ ?_
  have hd : ∃ o, h'.get? dx = some o := let ⟨o, _, _, e', _⟩ := O'.ns; ⟨o, e'⟩
  refine I.write (x := a) (e := dx) (by rw [e]; exact True.intro) (.inr ho) (fun b q hb z => (sb.2 b hb).trans z) hd ?_
  refine ⟨by rw [upd_ne O.ne]; exact ho, ?_, O.ne, O'.obj, _, O'.ns, fun g => ?_, fun g hg => ?_⟩
  · have := length_putF f y fs; omega
  · show RelO ((putF f y fs).lookup g) (if g = f then some u else mA g)
    rw [lookup_putF]
    by_cases q : g = f
    · rw [if_pos q, if_pos q]; exact ry
    · rw [if_neg q, if_neg q]; exact r g
  · by_cases q : g = f
    · rw [q]; exact (keys_putF f y fs).1
    · refine (keys_putF f y fs).2 g (wi g fun z => hg ?_)
      show (if g = f then some u else mA g) = none
      rw [if_neg q]; exact z

/-- a new instance, tracked, without attributes -/
theorem Inv.made (I : Inv X pins σ H s) : Inv X pins σ (upd (upd H s.heap.objs.size (.own (s.heap.objs.size + 1))) (s.heap.objs.size + 1) (.ins C s.heap.objs.size []))
    { s with heap := (s.heap.push PySem.W.emptyDict).push (PySem.W.instObj C s.heap.objs.size) } := by
  have e1 : (s.heap.push PySem.W.emptyDict).get? s.heap.objs.size = some PySem.W.emptyDict := Heap.get?_push_size s.heap rfl
  have e2 : ((s.heap.push PySem.W.emptyDict).push (PySem.W.instObj C s.heap.objs.size)).get? (s.heap.objs.size + 1) = some (PySem.W.instObj C s.heap.objs.size) := by
    have := Heap.get?_push_size (s.heap.push PySem.W.emptyDict) (o := PySem.W.instObj C s.heap.objs.size) rfl
    rwa [Heap.size_push] at this
  have e3 : (s.heap.push PySem.W.emptyDict).Ns s.heap.objs.size (fun _ => none) := ⟨PySem.W.emptyDict, #[], _, e1, rfl, (fun e he => absurd he (by simp)), fun _ => rfl⟩
  have I1 := I.laid (a := s.heap.objs.size) (o := .own (s.heap.objs.size + 1)) (h' := s.heap.push PySem.W.emptyDict) (t' := s.toks) (fun b u q => Heap.get?_push_of_some _ q) (Nat.le_refl _) ⟨_, e1⟩
  refine I1.laid (a := s.heap.objs.size + 1) (o := .ins C s.heap.objs.size []) (t' := s.toks) (fun b u q => Heap.get?_push_of_some _ q) (Nat.le_of_eq (Heap.size_push _ _)) ?_
  have ne : s.heap.objs.size ≠ s.heap.objs.size + 1 := Nat.ne_of_lt (Nat.lt_succ_self _)
  refine ⟨by rw [upd_ne ne, upd_same], Nat.zero_le _, ne, e2, fun _ => none, (Heap.Ns1.of_empty e3).at fun o q => Heap.get?_push_of_some _ q, fun _ => True.intro, fun y hy => absurd rfl hy⟩

/-- e.f where nothing but the object is asked: through attributeBase (super) and the last hold -/
theorem attr_of {prog : Program} {w : World} {env : Env} {e : Expr} {f : Str} {pos : Pos} {s : Shared} {Q : Value → Shared → Prop} (hb : attributeBase e f env (eval e env) = eval e env)
    (h : wpAny (model prog w) A (eval e env) (fun o s₁ => wpAny (model prog w) A (getAttr o f true) Q E s₁) E s) : wpAny (model prog w) A (eval (.Attribute e f pos) env) Q E s :=
  Attribute_any_ h (by rw [arm_eval_Attribute, hb])
end

/-! ### readings and rules -/
/-- e.f, an attribute of the instance -/
def tFld (K : PySem.W.Frag) (ta : TE) (f : Str) : TE := fun σ H Q => ta σ H fun x H1 => ∃ a C dx fs v, x = .ref a ∧ H1 a = some (.ins C dx fs) ∧ Cls K C ∧ NoAttr K C f ∧ fs.lookup f = some v ∧ Q v H1
/-- e.f = value -/
def sFld (K : PySem.W.Frag) (ta tv : TE) (f : Str) : TS := fun D σ H => tv σ H fun y H1 => ta σ H1 fun x H2 => ∃ a C dx fs, x = .ref a ∧ H2 a = some (.ins C dx fs) ∧ Cls K C ∧ NoAttr K C f ∧ fs.length < 1000 ∧
  D.nx σ (upd H2 a (.ins C dx (putF f y fs)))
section
variable {X : Cx} {o e value : Expr} {f : Str} {pos pos' tpos : Pos} {ta tv : TE}
theorem pe_fld (he : PE X e ta) (hb : attributeBase e f X.env (eval e X.env) = eval e X.env) : PE X (.Attribute e f pos) (tFld X.K ta f) := by
  intro pins s σ H Q I h
  refine attr_of hb (thn (he pins s σ H _ I h) fun u s1 ⟨x, H1, I1, rx, a, C, dx, fs, v, ex, ea, c, n, l, q⟩ => ?_)
  subst ex
  obtain rfl : u = Value.ref a := rx
  exact getattr_ok I1 ea c n l fun u' s2 I2 ru => ⟨v, H1, I2, ru, q⟩
theorem ps_fld (ha : PE X o ta) (hv : PE X value tv) (hs : swapsWith value (some (.Attribute o f pos')) pos.line X.env = pure false) : PS X (.Assign [.Attribute o f pos'] value pos) (sFld X.K ta tv f) := by
  intro pins s σ H D I h
  refine plainObj_wpAny_Assign_Attribute (thn (hv pins s σ H _ I h) fun u s1 ⟨y, H1, I1, ry, q⟩ => thn (ha pins s1 σ H1 _ I1 q) fun ov s2 ⟨x, H2, I2, rx, a, C, dx, fs, ex, ea, c, n, l, q2⟩ => ?_) hs
  subst ex
  obtain rfl : ov = Value.ref a := rx
  exact setattr_ok I2 ea c n l ry fun s3 I3 => ⟨σ, _, I3, q2⟩
/-- what is between an instance and its method: the tree of a method call -/
theorem methcall_of {pl : Sem Bool} {m : Str} {apos : Pos} {args : List Expr} {pins : List (Addr × Obj)} {s : Shared} {σ : St} {H : Hp} {Q : Value → Shared → Prop} {te : TE} (he : PE X e te) (I : Inv X pins σ H s)
    (h : te σ H fun x H1 => ∃ a C dx fs g, x = .ref a ∧ H1 a = some (.ins C dx fs) ∧ Cls X.K C ∧ Meth X.K C m g ∧ fs.lookup m = none ∧
      ∀ s1, Inv X pins σ H1 s1 → wpAny (model X.prog X.w) X.A (callWith pos (.ref g) [.ref a] (backTo pos (starEach args X.env)) (backToKw pos (keywordEach [] X.env))) Q X.xe s1)
    (ht : eval (.Call (.Attribute e m apos) args [] pos) X.env = (do
      let ov ← eval e X.env
      standAt apos.atName
      let (f, first) ← holding [ov] (getMethod ov m pl)
      callWith pos f first (backTo pos (starEach args X.env)) (backToKw pos (keywordEach [] X.env)))) :
    wpAny (model X.prog X.w) X.A (eval (.Call (.Attribute e m apos) args [] pos) X.env) Q X.xe s := by
  refine PySem.W.methodCall_KW (pl := pl) (thn (he pins s σ H _ I h) fun u s1 ⟨x, H1, I1, rx, a, C, dx, fs, g, ex, ea, c, k, l, q⟩ => ?_) ht
  subst ex
  obtain rfl : u = Value.ref a := rx
  exact getmeth_ok I1 ea c k l (q s1 I1)
end

/-! ### isinstance -/
section
variable {X : Cx} {pins : List (Addr × Obj)} {σ : St} {H : Hp} {s : Shared} {A : Around} {E : Value → Shared → Prop} {Q : Value → Shared → Prop} {c : Value} {b : Bool}
/-- the type of a value, as the fragment's deciders take it; for an instance its class -/
inductive TyOf (K : PySem.W.Frag) (H : Hp) : V → Value → Prop where
  | non : TyOf K H .non (.type "NoneType")
  | bl (x : Bool) : TyOf K H (.bl x) (.type "bool")
  | int (i : Int) : TyOf K H (.int i) (.type "int")
  | str (x : Str) : TyOf K H (.str x) (.type "str")
  | flt (x : UInt64) : TyOf K H (.flt x) (.type "float")
  | lst {a : Addr} {xs : List V} (e : H a = some (.lst xs)) : TyOf K H (.ref a) (.type "list")
  | frz {a : Addr} {o : Obj} {xs : List V} (e : H a = some (.frz o (.lst xs))) : TyOf K H (.ref a) (.type "list")
  | tup {a : Addr} {xs : List V} (e : H a = some (.tup xs)) : TyOf K H (.ref a) (.type "tuple")
  | dK {a : Addr} {kvs : List (Key × V)} (e : H a = some (.dK kvs)) : TyOf K H (.ref a) (.type "dict")
  | dT {a : Addr} {kvs : List (List Key × V)} (e : H a = some (.dT kvs)) : TyOf K H (.ref a) (.type "dict")
  | ins {a C dx : Addr} {fs : List (Str × V)} (e : H a = some (.ins C dx fs)) (cl : Cls K C) (ha : PySem.W.findIn K (.ref C) "__class__" = some (some (.builtin "object.__class__")))
      (hn : PySem.W.specialIn K (.builtin "object.__class__") "__get__" = some (some (.builtin "getset_descriptor.__get__"))) (htk : PySem.W.takesIn K (.builtin "object.__class__") = some true)
      (hm : PySem.W.mroIn K C (.type "object") = some true) : TyOf K H (.ref a) (.ref C)
/-- isinstance(x, c) for one class c, a built-in or an own one: kitOne's answer -/
theorem isinst_ok {x : V} {u t : Value} (I : Inv X pins σ H s) (rx : RelV x u) (ty : TyOf X.K H x t) (e : PySem.W.kitOne X.K t c = some b) (h : ∀ tk, Q (.bool b) { s with toks := tk }) :
    wpAny (model X.prog X.w) A (call (.builtin "isinstance") [u, c]) Q E s := by
  cases ty with
  | non => cases (show u = Value.none from rx); exact PySem.W.kia_one PySem.W.kitx_none I.kIn True.intro e (fun z => nomatch z) h
  | bl y => cases (show u = Value.bool y from rx); exact PySem.W.kia_one PySem.W.kitx_bool I.kIn True.intro e (fun z => nomatch z) h
  | int i => obtain ⟨t, q⟩ := (show ∃ t, u = Value.int i t from rx); cases q; exact PySem.W.kia_one PySem.W.kitx_int I.kIn True.intro e (fun z => nomatch z) h
  | str y => obtain ⟨t, q⟩ := (show ∃ t, u = Value.str y t from rx); cases q; exact PySem.W.kia_one PySem.W.kitx_str I.kIn True.intro e (fun z => nomatch z) h
  | flt y => obtain ⟨t, q⟩ := (show ∃ t, u = Value.float y t from rx); cases q; exact PySem.W.kia_one PySem.W.kitx_float I.kIn True.intro e (fun z => nomatch z) h
  | @lst a xs ea =>
    cases (show u = Value.ref a from rx)
    obtain ⟨_, _, n, _, h1⟩ := (show ObjOk X.prog X.w H s.heap a (.lst xs) from I.hok a _ ea)
    exact PySem.W.kia_one PySem.W.kitx_list I.kIn ⟨_, h1, rfl⟩ e (fun z => nomatch z) h
  | @frz a ob xs ea =>
    cases (show u = Value.ref a from rx)
    obtain ⟨_, _, _, n, _, h1⟩ := (show ObjOk X.prog X.w H s.heap a (.frz ob (.lst xs)) from I.hok a _ ea)
    exact PySem.W.kia_one PySem.W.kitx_list I.kIn ⟨_, h1, rfl⟩ e (fun z => nomatch z) h
  | @tup a xs ea =>
    cases (show u = Value.ref a from rx)
    obtain ⟨_, _, _, p⟩ := (show ObjOk X.prog X.w H s.heap a (.tup xs) from I.hok a _ ea)
    obtain ⟨o, h1, h2, _⟩ := p
    exact PySem.W.kia_one PySem.W.kitx_tuple I.kIn ⟨o, h1, h2⟩ e (fun z => nomatch z) h
  | @dK a kvs ea =>
    cases (show u = Value.ref a from rx)
    obtain ⟨_, _, vs, _, p⟩ := (show ObjOk X.prog X.w H s.heap a (.dK kvs) from I.hok a _ ea)
    obtain ⟨o, es, ep, h1, h2, _⟩ := p
    exact PySem.W.kia_one PySem.W.kitx_dict I.kIn ⟨o, h1, h2.1⟩ e (fun z => nomatch z) h
  | @dT a kvs ea =>
    cases (show u = Value.ref a from rx)
    obtain ⟨_, _, xs, _, o, es, ep, h1, h2, _⟩ := (show ObjOk X.prog X.w H s.heap a (.dT kvs) from I.hok a _ ea)
    exact PySem.W.kia_one PySem.W.kitx_dict I.kIn ⟨o, h1, h2.1⟩ e (fun z => nomatch z) h
  | @ins a C dx fs ea cl ha hn htk hm =>
    cases (show u = Value.ref a from rx)
    obtain ⟨mA, O, _⟩ := ins_get I.hok ea
    obtain ⟨od, J, _⟩ := O.look
    exact PySem.W.kia_one (PySem.W.kitx_own (cl.get _) cl.hd ha hn htk hm) I.kIn J e (fun z => nomatch z) h
end
end L2

namespace L2
open PySem PySem.Spec PyProof.Rows

/-! ### room -/
structure Room (k : Nat) (A : Around) : Prop where
  hd : A.handled = none
  dp : A.depth + 3 * k + 5 < recursionLimit
  un : A.units + 16 * k + 200 < cLine
theorem Room.mono {j k : Nat} {A : Around} (r : Room k A) (h : j ≤ k) : Room j A := ⟨r.hd, by have := r.dp; omega, by have := r.un; omega⟩
theorem Room.deeper {k : Nat} {A : Around} (r : Room (k + 1) A) (env : Env) : Room k (A.deeper env) :=
  ⟨r.hd, by have := r.dp; show A.depth + 1 + 3 * k + 5 < _; omega, by have := r.un; show A.units + 3 + 16 * k + 200 < _; omega⟩
theorem Room.in1 {k : Nat} {A : Around} (r : Room (k + 1) A) : Room k A.in1 :=
  ⟨r.hd, by have := r.dp; show A.depth + 3 * k + 5 < _; omega, by have := r.un; show A.units + 1 + 16 * k + 200 < _; omega⟩
theorem make_depth {A : Around} {C : Addr} {us : List Value} {kw : List (Str × Value)} : (A.under (.builtin "type.__call__" ⟨.ref C :: us, kw⟩)).depth = A.depth + 1 := by
  first | rfl | simp [Around.under, Code.weight, Code.isCreation, Code.isGuard, Code.isCaller, Code.frames, Code.isFrame, guardIds]
theorem make_units {A : Around} {C : Addr} {us : List Value} {kw : List (Str × Value)} : (A.under (.builtin "type.__call__" ⟨.ref C :: us, kw⟩)).units = A.units + 1 := by
  first | rfl | simp [Around.under, Code.cUnits, Code.frames, Code.isFrame]
theorem Room.make {k : Nat} {A : Around} (r : Room (k + 1) A) (C : Addr) (us : List Value) (kw : List (Str × Value)) : Room k (A.under (.builtin "type.__call__" ⟨.ref C :: us, kw⟩)) :=
  ⟨r.hd, by have := r.dp; rw [make_depth]; omega, by have := r.un; rw [make_units]; omega⟩
theorem Room.depth {k : Nat} {A : Around} (r : Room k A) : A.depth < recursionLimit := by have := r.dp; omega
theorem Room.units {k : Nat} {A : Around} (r : Room k A) : A.units + 64 < cLine := by have := r.un; omega
/-! ### argument lists and displays -/
def tNil : TA := fun _ H Q => Q [] H
def tCons (ta : TE) (tr : TA) : TA := fun σ H Q => ta σ H fun x H1 => tr σ H1 fun xs H2 => Q (x :: xs) H2
section
variable {X : Cx} {e : Expr} {es : List Expr} {te : TE} {t : TA} {pos : Pos}
theorem pa_nil : PA X [] tNil := fun _ _ _ _ H Q I h => Calls.spliced_nil ⟨[], H, I, .nil, h⟩
theorem pa_cons (ha : PE X e te) (hr : PA X es t) (hs : starEach (e :: es) X.env = (false, eval e X.env) :: starEach es X.env := by rfl) : PA X (e :: es) (tCons te t) := by
  intro pos pins s σ H Q I h
  rw [hs]
  show wpAny _ _ (spliced ((false, eval e X.env) :: backTo pos (starEach es X.env))) _ _ s
  refine Calls.spliced_cons (thn (ha pins s σ H _ I h) fun u s1 ⟨x, H1, I1, r1, q1⟩ => ?_)
  exact thn (hr pos pins s1 σ H1 _ I1 q1) fun us s2 ⟨xs, H2, I2, r2, q2⟩ => ⟨x :: xs, H2, I2, .cons r1 r2, q2⟩

/-- a tuple, a list of written items -/
def tTup (t : TA) : TE := fun σ H Q => t σ H fun xs H1 => xs.length ≤ sizeLine ∧ ∀ p, H1 p = none → Q (.ref p) (upd H1 p (.tup xs))
def tLst (t : TA) : TE := fun σ H Q => t σ H fun xs H1 => xs.length ≤ sizeLine ∧ ∀ p, H1 p = none → Q (.ref p) (upd H1 p (.lst xs))
theorem pe_tup {x1} (h : PA X es t) : PE X (.Tuple es x1 pos) (tTup t) := by
  intro pins s σ H Q I hq
  refine wpAny_Tuple_spliced (thn (h pos pins s σ H _ I hq) fun us s1 ⟨xs, H1, I1, r, z, q⟩ => ⟨by rw [← r.length]; exact z, ?_⟩)
  have hf : H1 s1.heap.objs.size = none := I1.hok.fresh (Nat.le_refl _)
  refine ⟨.ref s1.heap.objs.size, upd H1 s1.heap.objs.size (.tup xs), I1.laid (t' := s1.toks) (fun b u e => Heap.get?_push_of_some _ e) (Nat.le_refl _) ?_, rfl, q _ hf⟩
  exact ⟨z, us, r, ⟨_, Heap.get?_push_size _ rfl, rfl, _, rfl⟩⟩
theorem pe_lst (h : PA X es t) : PE X (.List es pos) (tLst t) := by
  intro pins s σ H Q I hq
  refine wpAny_List_spliced (thn (h pos pins s σ H _ I hq) fun us s1 ⟨xs, H1, I1, r, z, q⟩ => ⟨by rw [← r.length]; exact z, ?_⟩)
  have hf : H1 s1.heap.objs.size = none := I1.hok.fresh (Nat.le_refl _)
  refine ⟨.ref s1.heap.objs.size, upd H1 s1.heap.objs.size (.lst xs), I1.laid (t' := s1.toks) (fun b u e => Heap.get?_push_of_some _ e) (Nat.le_refl _) ?_, rfl, q _ hf⟩
  exact ⟨z, us, 0, r, Heap.get?_push_size _ rfl⟩
end

/-! ### what a def promises -/
/-- a def's promise: the bound arguments in the parameters' order, the heap, the wanted end, the wanted exception -/
abbrev Sp := List V → Hp → VK → XK → Prop
/-- how an exception lies behind a call (file 08 gives it): the callers' frames, abstract heap and state ahead of the call, the wish, the exception, the state -/
abbrev CXT := List Env → Hp → Shared → XK → Value → Shared → Prop

/-- the state at a call -/
structure Env0 (P : Program) (w : World) (K : PySem.W.Frag) (mg : Str → Option Value) (base : Heap) (A : Around) (outer : List Env) (s : Shared) (H : Hp) : Prop where
  frames : A.frames = some outer
  mod : Mod K mg base
  bs : ∀ b o, base.get? b = some o → s.heap.get? b = some o ∧ H b = none
  bsz : base.objs.size ≤ s.heap.objs.size
  funs : s.heap.FunFrames base outer
  frf : ∀ b ∈ frs outer, H b = none
  hok : HOk P w H s.heap
  bare : AllBare s.gens
/-- a call's end -/
def CE (outer : List Env) (P : Program) (w : World) (H : Hp) (s : Shared) (Q : VK) (u : Value) (s' : Shared) : Prop :=
  ∃ v H', s'.os = s.os ∧ AllBare s'.gens ∧ Un (frs outer) [] H H' s.heap s'.heap ∧ HOk P w H' s'.heap ∧ RelV v u ∧ Q v H'
def CR (CX : CXT) (outer : List Env) (P : Program) (w : World) (H : Hp) (s : Shared) (Q : VK) (E : XK) (r : Result) (s' : Shared) : Prop :=
  match r with
  | .ok (.ret u) => CE outer P w H s Q u s'
  | .ok _ => False
  | .error e => CX outer H s E e s'
structure FnOk (P : Program) (w : World) (K : PySem.W.Frag) (mg : Str → Option Value) (base : Heap) (CX : CXT) (k : Nat) (f : Addr) (fd : FuncData) (ps : List Str) (sp : Sp) : Prop where
  len : ∀ vs H Q E, sp vs H Q E → vs.length = ps.length
  run : ∀ (A : Around) (outer : List Env) (s : Shared) (H : Hp) (args : Args) (us : List Value) (vs : List V) (Q : VK) (E : XK), Room k A → Env0 P w K mg base A outer s H → BindsTo s fd args (ps.zip us) → Vals vs us → sp vs H Q E →
    codeAny (model P w) A (.call (.ref f) args) (CR CX outer P w H s Q E) s
theorem Env0.make {P : Program} {w : World} {K : PySem.W.Frag} {mg : Str → Option Value} {base : Heap} {A : Around} {outer : List Env} {s : Shared} {H : Hp} (e : Env0 P w K mg base A outer s H) (C : Addr) (us : List Value) (kw : List (Str × Value)) :
    Env0 P w K mg base (A.under (.builtin "type.__call__" ⟨.ref C :: us, kw⟩)) outer s H := ⟨by first | exact e.frames | (simpa [Around.under, Code.envs, Code.isFrame, pushEnvs] using e.frames), e.mod, e.bs, e.bsz, e.funs, e.frf, e.hok, e.bare⟩
theorem Env0.in1 {P : Program} {w : World} {K : PySem.W.Frag} {mg : Str → Option Value} {base : Heap} {A : Around} {outer : List Env} {s : Shared} {H : Hp} (e : Env0 P w K mg base A outer s H) :
    Env0 P w K mg base A.in1 outer s H := ⟨e.frames, e.mod, e.bs, e.bsz, e.funs, e.frf, e.hok, e.bare⟩

section
variable {X : Cx} {pins : List (Addr × Obj)} {σ : St} {H : Hp} {s s' : Shared}
/-- from a body: what a callee wants -/
theorem Inv.env0 (I : Inv X pins σ H s) : Env0 X.prog X.w X.K X.mg X.base X.A X.stack s H :=
  ⟨I.ok.frames, I.ok.mod, I.bs, Nat.le_trans I.ok.bsz I.sz, I.stack, I.stkFree, I.hok, I.bare⟩
/-- behind a call -/
theorem Inv.after {Q : VK} {u : Value} (I : Inv X pins σ H s) (h : CE X.stack X.prog X.w H s Q u s') : EP X pins σ Q u s' := by
  obtain ⟨v, H', os, bare, un, hok, r, q⟩ := h
  obtain ⟨hh, g, d, t, os'⟩ := s'
  obtain rfl : os' = s.os := os
  exact ⟨v, H', I.call (h' := hh) (g' := g) (d' := d) (t' := t) (ch := []) un hok bare (fun b z => absurd z (by simp)), r, q⟩
end

/-! ### calls -/
/-- f(..): the written arguments, then the defaults dvs; E: what is wanted of an exception -/
def tCall (sp : Sp) (dvs : List V) (E : XK) (t : TA) : TE := fun σ H Q => t σ H fun vs H1 => sp (vs ++ dvs) H1 Q E
/-- o.m(..) of an instance of the class at C -/
def tMeth (C : Addr) (m : Str) (sp : Sp) (dvs : List V) (E : XK) (ta : TE) (t : TA) : TE := fun σ H Q => ta σ H fun x H1 => ∃ a dx fs, x = .ref a ∧ H1 a = some (.ins C dx fs) ∧ fs.lookup m = none ∧
  t σ H1 fun vs H2 => sp (x :: (vs ++ dvs)) H2 Q E
/-- C(..): a new instance and its dict, then __init__ -/
def tMake (C : Addr) (sp : Sp) (dvs : List V) (E : XK) (t : TA) : TE := fun σ H Q => t σ H fun vs H1 => ∀ x dx, H1 x = none → H1 dx = none → dx ≠ x →
  sp (.ref x :: (vs ++ dvs)) (upd (upd H1 dx (.own x)) x (.ins C dx [])) (fun v H2 => v = .non ∧ Q (.ref x) H2) E

/-- how the parameters are bound: us the positional arguments, kw the keywords' values by name, ds the defaults that fill up -/
def Binds (K : PySem.W.Frag) (fd : FuncData) (ps : List Str) (ds : List Value) : Prop :=
  ∀ (s : Shared) (us : List Value), K.In s.heap → (us ++ ds).length = ps.length → BindsTo s fd ⟨us, []⟩ (ps.zip (us ++ ds))
/-- every parameter is given -/
theorem Binds.all {K : PySem.W.Frag} {fd : FuncData} {ps : List Str} (h : ∀ us : List Value, us.length = ps.length → bindArgs fd ⟨us, []⟩ = pure (ps.zip us)) : Binds K fd ps [] := fun s us _ hl => by
  rw [List.append_nil] at hl ⊢
  exact .of_eq (h us hl)

/-- an exception of a callee reaches what this body wants of exceptions -/
def Passes (CX : CXT) (X : Cx) (E : XK) : Prop := ∀ (pins : List (Addr × Obj)) (σ : St) (H : Hp) (s : Shared) (e : Value) (s' : Shared), Inv X pins σ H s → CX X.stack H s E e s' → X.xe e s'

section
variable {X : Cx} {CX : CXT} {k : Nat} {f C : Addr} {fd : FuncData} {ps : List Str} {sp : Sp} {dvs : List V} {ds : List Value} {E : XK} {x m : Str} {p pos apos : Pos} {e o : Expr} {es : List Expr} {ta : TE} {t : TA}

/-- the callee runs -/
theorem run_fn {pins : List (Addr × Obj)} {σ : St} {H : Hp} {s : Shared} {Q : VK} {us : List Value} {vs : List V} (F : FnOk X.prog X.w X.K X.mg X.base CX k f fd ps sp) (hr : Room k X.A) (hb : Binds X.K fd ps ds) (hd : Vals dvs ds) (hx : Passes CX X E)
    (I : Inv X pins σ H s) (r : Vals vs us) (h : sp (vs ++ dvs) H Q E) : wpAny (model X.prog X.w) X.A (call (.ref f) us) (EP X pins σ Q) X.xe s := by
  have r2 : Vals (vs ++ dvs) (us ++ ds) := r.append hd
  have hl : (us ++ ds).length = ps.length := by rw [← r2.length]; exact F.len _ _ _ _ h
  refine wpAny_call (codeAny_mono (F.run X.A X.stack s H ⟨us, []⟩ (us ++ ds) (vs ++ dvs) Q E hr I.env0 (hb s us I.kIn hl) r2 h) fun r s' hq => ?_)
  cases r with
  | error e => exact hx pins σ H s e s' I hq
  | ok fl =>
    cases fl with
    | ret u => exact I.after hq
    | next => exact False.elim hq
    | brk => exact False.elim hq
    | cont => exact False.elim hq

theorem pe_call (F : FnOk X.prog X.w X.K X.mg X.base CX k f fd ps sp) (hr : Room k X.A) (hg : Gl X x) (hm : X.mg x = some (.ref f)) (hk : PySem.W.keepIn X.K (.ref f) = true) (hb : Binds X.K fd ps ds) (hd : Vals dvs ds) (hx : Passes CX X E)
    (ha : PA X (e :: es) t) (hdb : (x == ("__debug__" : Str)) = false := by decide) (he : starEach (e :: es) X.env = (false, eval e X.env) :: starEach es X.env := by rfl) (hpl : (backTo pos (starEach es X.env)).any (·.1) = false := by rfl) :
    PE X (.Call (.Name x p) (e :: es) [] pos) (tCall sp dvs E t) := by
  intro pins s σ H Q I h
  refine wpAny_Call_Name_kw (ld_glob I hg hm ?_ hdb)
  refine PySem.W.callWith_K (h₀ := X.base) I.ok.mod.kin hk (thn (ha pos pins s σ H _ I h) fun us s1 ⟨vs, H1, I1, r, q⟩ => ⟨I1.kIn, ?_⟩) he hpl
  exact run_fn F hr hb hd hx I1 r q
/-- o.m(e, ..) -/
theorem pe_meth {pl : Sem Bool} (he : PE X o ta) (c : Cls X.K C) (hm : Meth X.K C m f) (F : FnOk X.prog X.w X.K X.mg X.base CX k f fd ps sp) (hr : Room k X.A) (hb : Binds X.K fd ps ds) (hd : Vals dvs ds) (hx : Passes CX X E) (ha : PA X (e :: es) t)
    (hst : starEach (e :: es) X.env = (false, eval e X.env) :: starEach es X.env := by rfl) (hpl : (backTo pos (starEach es X.env)).any (·.1) = false := by rfl)
    (ht : eval (.Call (.Attribute o m apos) (e :: es) [] pos) X.env = (do
      let ov ← eval o X.env
      standAt apos.atName
      let (f, first) ← holding [ov] (getMethod ov m pl)
      callWith pos f first (backTo pos (starEach (e :: es) X.env)) (backToKw pos (keywordEach [] X.env))) := by rfl) :
    PE X (.Call (.Attribute o m apos) (e :: es) [] pos) (tMeth C m sp dvs E ta t) := by
  intro pins s σ H Q I h
  refine PySem.W.methodCall_KW (pl := pl) (thn (he pins s σ H _ I h) fun u s1 ⟨x, H1, I1, rx, a, dx, fs, ex, ea, l, q⟩ => ?_) ht
  subst ex
  obtain rfl : u = Value.ref a := rx
  refine getmeth_ok I1 ea c hm l ?_
  refine PySem.W.callWith_K (first := [.ref a]) (h₀ := X.base) I.ok.mod.kin hm.kp (thn (ha pos pins s1 σ H1 _ I1 q) fun us s2 ⟨vs, H2, I2, r, q2⟩ => ⟨I2.kIn, ?_⟩) hst hpl
  exact run_fn (us := .ref a :: us) (vs := .ref a :: vs) F hr hb hd hx I2 (.cons rfl r) q2
/-- what a class must have to be made -/
structure Mk (K : PySem.W.Frag) (C f : Addr) : Prop where
  makes : PySem.W.makesIn K C = true
  init : PySem.W.findIn K (.ref C) "__init__" = some (some (.ref f))
  fn : PySem.W.isFn K (.ref f) = true
  kp : PySem.W.keepIn K (.ref C) = true

theorem run_make {pins : List (Addr × Obj)} {σ : St} {H : Hp} {s : Shared} {Q : VK} {us : List Value} {vs : List V} (M : Mk X.K C f) (F : FnOk X.prog X.w X.K X.mg X.base CX k f fd ps sp) (hr : Room (k + 1) X.A) (hb : Binds X.K fd ps ds) (hd : Vals dvs ds)
    (hx : Passes CX X E) (I : Inv X pins σ H s) (r : Vals vs us)
    (h : ∀ x dx, H x = none → H dx = none → dx ≠ x → sp (.ref x :: (vs ++ dvs)) (upd (upd H dx (.own x)) x (.ins C dx [])) (fun v H2 => v = .non ∧ Q (.ref x) H2) E) :
    wpAny (model X.prog X.w) X.A (call (.ref C) us) (EP X pins σ Q) X.xe s := by
  have hq := h (s.heap.objs.size + 1) s.heap.objs.size (I.hok.fresh (Nat.le_succ _)) (I.hok.fresh (Nat.le_refl _)) (Nat.ne_of_lt (Nat.lt_succ_self _))
  have I2 := Inv.made (C := C) I
  have r2 : Vals (V.ref (s.heap.objs.size + 1) :: (vs ++ dvs)) (Value.ref (s.heap.objs.size + 1) :: (us ++ ds)) := .cons rfl (r.append hd)
  have hl : (Value.ref (s.heap.objs.size + 1) :: us ++ ds).length = ps.length := by
    have e := r2.length
    rw [F.len _ _ _ _ hq] at e
    exact e.symm
  refine wpAny_call (make_map (f := f) I.kIn M.makes M.init (beq_iff_eq.mp M.fn) (codeAny_mono (F.run _ X.stack _ _ ⟨Value.ref (s.heap.objs.size + 1) :: us, []⟩ (Value.ref (s.heap.objs.size + 1) :: (us ++ ds)) _ _ E (hr.make C us [])
    (I2.env0.make C us []) (hb _ (Value.ref (s.heap.objs.size + 1) :: us) I2.kIn hl) r2 hq) fun r s' hq' => ?_))
  cases r with
  | error e => exact hx pins σ _ _ e s' I2 hq'
  | ok fl =>
    cases fl with
    | ret u =>
      obtain ⟨v, H', I3, rv, ev, q3⟩ := I2.after hq'
      subst ev
      exact ⟨rv, ⟨V.ref (s.heap.objs.size + 1), H', I3, rfl, q3⟩⟩
    | next => exact False.elim hq'
    | brk => exact False.elim hq'
    | cont => exact False.elim hq'
theorem pe_make (M : Mk X.K C f) (F : FnOk X.prog X.w X.K X.mg X.base CX k f fd ps sp) (hr : Room (k + 1) X.A) (hg : Gl X x) (hm : X.mg x = some (.ref C)) (hb : Binds X.K fd ps ds) (hd : Vals dvs ds) (hx : Passes CX X E)
    (ha : PA X (e :: es) t) (hdb : (x == ("__debug__" : Str)) = false := by decide) (he : starEach (e :: es) X.env = (false, eval e X.env) :: starEach es X.env := by rfl) (hpl : (backTo pos (starEach es X.env)).any (·.1) = false := by rfl) :
    PE X (.Call (.Name x p) (e :: es) [] pos) (tMake C sp dvs E t) := by
  intro pins s σ H Q I h
  refine wpAny_Call_Name_kw (ld_glob I hg hm ?_ hdb)
  refine PySem.W.callWith_K (h₀ := X.base) I.ok.mod.kin M.kp (thn (ha pos pins s σ H _ I h) fun us s1 ⟨vs, H1, I1, r, q⟩ => ⟨I1.kIn, ?_⟩) he hpl
  exact run_make M F hr hb hd hx I1 r q
end

/-! ### keywords -/
section
variable {X : Cx} {CX : CXT} {k : Nat} {f C : Addr} {fd : FuncData} {ps ks : List Str} {sp : Sp} {E : XK} {x m : Str} {p pos apos kpos : Pos} {e o : Expr} {es : List Expr} {kws : List Keyword} {te ta : TE} {t tk : TA} {nm : Option Str}
variable {g : List Value → List Value → List Value} {gV : List V → List V → List V}
end

/-! ### a def's body keeps its promise -/
/-- names: the parameters first -/
structure FnScope (N P : List Str) (sc : Scope) : Prop where
  kind : sc.kind = .function
  co : sc.isCoroutine = false
  gen : sc.isGenerator = false
  nd : N.Nodup
  pre : N.take P.length = P
  par : ∀ x ∈ P, sc.names.lookup x = some .local ∨ sc.names.lookup x = some .cell
  nofree : ∀ y ∈ sc.names, y.2 ≠ .free

theorem bindL_out {kindOf : Str → Option NameKind} {x : Str} : ∀ {binds : List (Str × Value)} {m : Str → Option Value}, (∀ v, (x, v) ∉ binds) → bindL kindOf binds m x = m x
  | [], _, _ => rfl
  | (n, v) :: r, m, h => by
    unfold bindL
    rw [bindL_out fun w hw => h w (List.mem_cons_of_mem _ hw)]
    split
    · have : x ≠ n := by rintro rfl; exact h v List.mem_cons_self
      simp [this]
    · rfl
theorem bindC_out {kindOf : Str → Option NameKind} {x : Str} : ∀ {binds : List (Str × Value)} {m : Str → Option Value}, (∀ v, (x, v) ∉ binds) → bindC kindOf binds m x = m x
  | [], _, _ => rfl
  | (n, v) :: r, m, h => by
    unfold bindC
    rw [bindC_out fun w hw => h w (List.mem_cons_of_mem _ hw)]
    split
    · rfl
    · have : x ≠ n := by rintro rfl; exact h v List.mem_cons_self
      simp [this]
theorem bindL_get {kindOf : Str → Option NameKind} {x : Str} {v : Value} : ∀ {P : List Str} {vs : List Value} {i : Nat} {m : Str → Option Value}, P.Nodup → P[i]? = some x → vs[i]? = some v → kindOf x = some .local →
    bindL kindOf (P.zip vs) m x = some v
  | [], _, _, _, _, h, _, _ => by simp at h
  | _ :: _, [], _, _, _, _, h, _ => by simp at h
  | p :: P, w :: vs, 0, m, nd, h1, h2, hk => by
    simp at h1 h2; subst h1; subst h2
    show bindL kindOf ((p, w) :: P.zip vs) m p = _
    unfold bindL
    rw [bindL_out fun v hv => (List.nodup_cons.mp nd).1 (List.of_mem_zip hv).1, if_pos hk]
    simp
  | p :: P, w :: vs, i + 1, m, nd, h1, h2, hk => by
    show bindL kindOf ((p, w) :: P.zip vs) m x = _
    unfold bindL
    exact bindL_get (i := i) (List.nodup_cons.mp nd).2 (by simpa using h1) (by simpa using h2) hk
theorem bindC_get {kindOf : Str → Option NameKind} {x : Str} {v : Value} : ∀ {P : List Str} {vs : List Value} {i : Nat} {m : Str → Option Value}, P.Nodup → P[i]? = some x → vs[i]? = some v → kindOf x ≠ some .local →
    bindC kindOf (P.zip vs) m x = some v
  | [], _, _, _, _, h, _, _ => by simp at h
  | _ :: _, [], _, _, _, _, h, _ => by simp at h
  | p :: P, w :: vs, 0, m, nd, h1, h2, hk => by
    simp at h1 h2; subst h1; subst h2
    show bindC kindOf ((p, w) :: P.zip vs) m p = _
    unfold bindC
    rw [bindC_out fun v hv => (List.nodup_cons.mp nd).1 (List.of_mem_zip hv).1, if_neg hk]
    simp
  | p :: P, w :: vs, i + 1, m, nd, h1, h2, hk => by
    show bindC kindOf ((p, w) :: P.zip vs) m x = _
    unfold bindC
    exact bindC_get (i := i) (List.nodup_cons.mp nd).2 (by simpa using h1) (by simpa using h2) hk

/-- the names' values at the entry -/
def start (N : List Str) (vs : List V) : St := vs.map some ++ List.replicate (N.length - vs.length) none

/-- the context of a def's body, at its entry; an exception leaves the frame, then lies as CX says -/
def cxOf (CX : CXT) (P : Program) (w : World) (K : PySem.W.Frag) (mg : Str → Option Value) (base : Heap) (N : List Str) (qual : Str) (scope : Scope) (f : Addr) (cd : Value) (A : Around) (outer : List Env) (s : Shared) (H : Hp) (E : XK) : Cx where
  prog := P
  w := w
  K := K
  mg := mg
  base := base
  A := A.deeper (envOfC qual scope s.heap.objs.size f cd)
  N := N
  s₀ := s
  H₀ := H
  env := envOfC qual scope s.heap.objs.size f cd
  outer := outer
  stack := envOfC qual scope s.heap.objs.size f cd :: outer
  ex := []
  calm := true
  fn := fun _ => true
  pn := []
  xe := fun e s' => wpAny (model P w) (A.deeper (envOfC qual scope s.heap.objs.size f cd)) (leaving (envOfC qual scope s.heap.objs.size f cd) e) (fun _ s'' => CX outer H s E e s'') (fun e' s'' => CX outer H s E e' s'') s'

theorem cell_has {sc : Scope} {n : Nat} {x : Str} (h : sc.names.lookup x = some .cell) : ∃ c, (cellsFrom n sc.names []).lookup x = some c := by
  have q := PySem.W.cellsFrom_some sc.names n [] (.inl h)
  exact Option.isSome_iff_exists.mp q

theorem inv_start {CX : CXT} {P : Program} {w : World} {K : PySem.W.Frag} {mg : Str → Option Value} {base : Heap} {N ps : List Str} {qual : Str} {scope : Scope} {f : Addr} {cd : Value} {A : Around} {outer : List Env} {s s1 : Shared} {H : Hp} {E : XK} {us : List Value} {vs : List V}
    (S : FnScope N ps scope) (hd : A.handled = none) (e0 : Env0 P w K mg base A outer s H) (hl : vs.length = ps.length) (r : Vals vs us)
    (x : InCallC s s.heap.objs.size (bindL (envOfC qual scope s.heap.objs.size f cd).kindOf (ps.zip us) fun _ => none) (cellsFrom (s.heap.objs.size + 1) scope.names []) (bindC (envOfC qual scope s.heap.objs.size f cd).kindOf (ps.zip us) fun _ => none) s1) :
    Inv (cxOf CX P w K mg base N qual scope f cd A outer s H E) [] (start N vs) H s1 := by
  have hpl : ps.length ≤ N.length := by have := congrArg List.length S.pre; rw [List.length_take] at this; omega
  obtain ⟨h1, tk, rfl, hk⟩ := x.done
  have noA : ∀ b : Addr, b ∉ (cxOf CX P w K mg base N qual scope f cd A outer s H E).ex := fun b z => absurd (show b ∈ ([] : List Addr) from z) (by simp)
  refine ⟨⟨e0.mod, S.kind, rfl, rfl, Nat.le_refl _, fun y z c h1 h2 => ?_, fun y hy => ?_, fun y c _ h => ?_, fun _ => hd, Around.frames_deeper e0.frames, .inr ⟨rfl, rfl⟩, fun b z => absurd z (noA b), e0.bs, e0.bsz, fun b _ _ => noA b, fun b z => absurd z (noA b), e0.funs, e0.frf⟩,
    rfl, e0.bare, Un.kept hk, ⟨_, x.toInCall.ns, fun i y v h1 h2 h3 => ?_⟩, fun y c h => ⟨_, x.cell y c h⟩, e0.hok.fresh (Nat.le_refl _), fun y c h => ?_, fun p hp => absurd (show p ∈ ([] : List (Addr × Obj)) from hp) (by simp), e0.hok.kept hk, ?_⟩
  · exact name_of_addr x.apart (PySem.mem_of_lookup h1) (PySem.mem_of_lookup h2)
  · have hy : scope.names.lookup y = some .cell ∨ scope.names.lookup y = some .free := hy
    rcases hy with hy | hy
    · exact cell_has hy
    · exact absurd rfl (S.nofree _ (PySem.mem_of_lookup hy))
  · exact Nat.le_of_lt (x.above y c (PySem.mem_of_lookup h))
  · have hi : i < vs.length := by
      unfold start at h2
      by_cases hi : i < vs.length
      · exact hi
      · rw [List.getElem?_append_right (by simpa using hi)] at h2
        rw [List.getElem?_replicate] at h2
        split at h2 <;> cases h2
    have ha : vs[i]? = some v := by
      unfold start at h2
      rw [List.getElem?_append_left (by simpa using hi), List.getElem?_map] at h2
      cases e : vs[i]? with
      | none => rw [e] at h2; cases h2
      | some a => rw [e] at h2; cases h2; rfl
    obtain ⟨u, hu, rv⟩ := r.get ha
    have hp : ps[i]? = some y := by
      rw [← S.pre, List.getElem?_take_of_lt (by omega)]; exact h1
    have ndP : ps.Nodup := by rw [← S.pre]; exact S.nd.sublist (List.take_sublist _ _)
    refine ⟨u, rv, ?_⟩
    rcases S.par y (List.mem_of_getElem? hp) with k | k
    · exact .inl ⟨k, bindL_get ndP hp hu k⟩
    · obtain ⟨c, e⟩ := cell_has (n := s.heap.objs.size + 1) k
      refine .inr ⟨.inl k, c, e, ?_⟩
      have q := x.cell y c e
      rw [bindC_get ndP hp hu (by show scope.names.lookup y ≠ _; rw [k]; decide)] at q
      exact q
  · exact e0.hok.fresh (Nat.le_of_lt (x.above y c (PySem.mem_of_lookup h)))
  · unfold start
    show _ = N.length
    rw [List.length_append, List.length_map, List.length_replicate]
    omega

/-- THE RULE: a def (or a method) of the text, by its body. The body's reading t is chosen for each entry; it is run at the parameters' values -/
theorem fn_of {CX : CXT} {P : Program} {w : World} {K : PySem.W.Frag} {mg : Str → Option Value} {base : Heap} {k : Nat} {f : Addr} {name qual : Str} {params : Arguments} {body : List Stmt} {scope : Scope} {dV kV doc pm cdv ct oc : Value} {an od : Option Addr}
    {osl : Array (Option Value)} {N ps : List Str} {sp : Sp} (lk : K.lookup f = some ⟨oc, od, .func (PySem.W.fnOf name qual params body scope dV kV doc pm an cdv ct), osl⟩) (hcd : PySem.W.codeIn K cdv qual = true) (S : FnScope N ps scope)
    (len : ∀ vs H Q E, sp vs H Q E → vs.length = ps.length)
    (hbody : ∀ (A : Around) (outer : List Env) (s : Shared) (H : Hp) (vs : List V) (Q : VK) (E : XK), Room k (A.deeper (envOfC qual scope s.heap.objs.size f cdv)) → sp vs H Q E →
      ∃ t, PSs (cxOf CX P w K mg base N qual scope f cdv A outer s H E) body t ∧ t { nx := fun _ H' => Q .non H', rt := Q } (start N vs) H) :
    FnOk P w K mg base CX (k + 1) f (PySem.W.fnOf name qual params body scope dV kV doc pm an cdv ct) ps sp := by
  refine ⟨len, fun A outer s H args us vs Q E hr e0 hb r hsp => ?_⟩
  have hl := len _ _ _ _ hsp
  have KX : K.In s.heap := e0.mod.kin.keeps fun b o e => (e0.bs b o e).1
  have lim : s.heap.NoLimit := e0.mod.nolimit.keeps fun b o e => (e0.bs b o e).1
  have hkind : ∀ y ∈ ps.zip us, scope.names.lookup y.1 = some .local ∨ (scope.names.lookup y.1 = some .cell ∧ ((cellsFrom (s.heap.objs.size + 1) scope.names []).lookup y.1).isSome = true) := fun ⟨n, v⟩ hy => by
    rcases S.par n (List.of_mem_zip hy).1 with q | q
    · exact .inl q
    · exact .inr ⟨q, PySem.W.cellsFrom_some _ _ _ (.inl q)⟩
  refine codeAny_call_function hr.depth (KX _ _ lk) rfl S.co S.gen rfl (PySem.W.codeRec_of KX hcd) (hb _ _ _ _ ?_)
  refine wpAny_newFunctionEnv_cells S.kind hkind fun env he s1 x => ?_
  subst he
  refine ⟨lim.keeps x.toInCall.keep, codeAny_func ?_⟩
  obtain ⟨t, ht, hq⟩ := hbody A outer s H vs Q E (hr.deeper _) hsp
  have I : Inv (cxOf CX P w K mg base N qual scope f cdv A outer s H E) [] (start N vs) H s1 := inv_start S hr.hd e0 hl r x
  refine wpAny_mono (ht [] s1 (start N vs) H _ I hq) (fun fl s' hs => ?_) fun e s' hs => hs
  have fin : ∀ {σ' : St} {H' : Hp} {v : V} {u : Value}, Inv (cxOf CX P w K mg base N qual scope f cdv A outer s H E) [] σ' H' s' → RelV v u → Q v H' → CE outer P w H s Q u s' :=
    fun {σ' H' v u} J rv q => ⟨v, H', J.os, J.bare, J.base, J.hok, rv, q⟩
  cases fl with
  | ret u =>
    obtain ⟨v, σ', H', J, rv, q⟩ := hs
    exact fin J rv q
  | next =>
    obtain ⟨σ', H', J, q⟩ := hs
    exact fin (v := V.non) (u := Value.none) J rfl q
  | brk =>
    obtain ⟨_, _, _, q⟩ := hs
    exact False.elim q
  | cont =>
    obtain ⟨_, _, _, q⟩ := hs
    exact False.elim q
end L2

namespace L2
open PySem PySem.Spec PyProof.Rows
section
variable {X : Cx} {x : Str} {p pos : Pos} {e : Expr} {es : List Expr} {t : TA} {id T : String} {r : List V → Hp → VK → Prop}

def tCB (r : List V → Hp → VK → Prop) (t : TA) : TE := fun σ H Q => t σ H fun vs H1 => r vs H1 Q
/-- f(e, ..), f a built-in function -/
theorem pe_callB (hc : CallR X (.builtin id) r) (hg : Gl X x) (hm : X.mg x = none) (hv : bootBuiltins x = some (.builtin id)) (ha : PA X (e :: es) t) (hn : x ≠ "__name__" := by decide) (hdb : (x == ("__debug__" : Str)) = false := by decide)
    (he : starEach (e :: es) X.env = (false, eval e X.env) :: starEach es X.env := by rfl) (hpl : (backTo pos (starEach es X.env)).any (·.1) = false := by rfl) : PE X (.Call (.Name x p) (e :: es) [] pos) (tCB r t) := by
  intro pins s σ H Q I h
  refine wpAny_Call_Name_kw (ld_blt I hg hm hv ?_ hn hdb)
  exact PyProof.Rows.callWith_builtin1 (thn (ha pos pins s σ H _ I h) fun us s1 ⟨vs, H1, I1, r1, q1⟩ => hc pins s1 σ H1 vs us Q I1 r1 q1) he hpl
/-- T(e, ..), T a built-in type -/
theorem pe_callTy (hc : CallR X (.type T) r) (hg : Gl X x) (hm : X.mg x = none) (hv : bootBuiltins x = some (.type T)) (ha : PA X (e :: es) t) (hn : x ≠ "__name__" := by decide) (hdb : (x == ("__debug__" : Str)) = false := by decide)
    (he : starEach (e :: es) X.env = (false, eval e X.env) :: starEach es X.env := by rfl) (hpl : (backTo pos (starEach es X.env)).any (·.1) = false := by rfl) : PE X (.Call (.Name x p) (e :: es) [] pos) (tCB r t) := by
  intro pins s σ H Q I h
  refine wpAny_Call_Name_kw (ld_blt I hg hm hv ?_ hn hdb)
  exact PyProof.Rows.callWith_type1 (thn (ha pos pins s σ H _ I h) fun us s1 ⟨vs, H1, I1, r1, q1⟩ => hc pins s1 σ H1 vs us Q I1 r1 q1) he hpl
end
end L2

namespace HT
open PySem PyProof.Rows

section
open PySem.SeqAt
open PySem.AutoSeq1 (wpAny_loadPart')
open PySem.MeetsSeq PySem.MeetsSeq2 PySem.MeetsSeq3

end

section
variable {prog : Program} {w : World} {A : Around} {E : Value → Shared → Prop} {s : Shared}

/-! ### t[a:b], not the whole -/
/-- a slice's bound as a place among n (d where it is left out) -/
def sIx (n d : Nat) : Option Int → Nat
  | none => d
  | some v => if v < 0 then (v + (n : Int)).toNat else min v.toNat n
theorem sIx_none (n d : Nat) : sIx n d none = d := rfl
theorem clip_eq (v : Int) (n d : Nat) : (if v < 0 then max (v + (n : Int)) 0 else min v (n : Int)) = ((sIx n d (some v) : Nat) : Int) := by
  show (if v < 0 then max (v + (n : Int)) 0 else min v (n : Int)) = (((if v < 0 then (v + (n : Int)).toNat else min v.toNat n) : Nat) : Int)
  by_cases hv : v < 0
  · simp only [if_pos hv]; omega
  · simp only [if_neg hv]; omega
end
end HT

namespace L2
open PySem PySem.Spec PyProof.Rows

/-! ### the parts of a slice -/
abbrev TO := St → Hp → (Option Int → Hp → Prop) → Prop
/-- a slice's part (left out, or an int) -/
def PO (X : Cx) (e : Option Expr) (t : TO) : Prop :=
  ∀ (pins : List (Addr × Obj)) (s : Shared) (σ : St) (H : Hp) (Q : Option Int → Hp → Prop), Inv X pins σ H s → t σ H Q →
    wpAny (model X.prog X.w) X.A (evalPart e X.env) (fun u s' => ∃ o H', Inv X pins σ H' s' ∧ IsPart u o ∧ Q o H') X.xe s
def tNoPart : TO := fun _ H Q => Q none H
def tPart (t : TE) : TO := fun σ H Q => t σ H fun x H1 => ∃ i, x = .int i ∧ Q (some i) H1

section
variable {X : Cx} {e : Expr} {te : TE} {lo hi : Option Expr} {tl th : TO} {pos p2 : Pos}

theorem po_none : PO X none tNoPart := by
  intro pins s σ H Q I h
  rw [evalPart_none]
  exact wpAny_pure ⟨none, H, I, .none, h⟩
theorem po_some (h : PE X e te) : PO X (some e) (tPart te) := by
  intro pins s σ H Q I hw
  rw [evalPart_some]
  refine thn (h pins s σ H _ I hw) fun u s1 ⟨x, H1, I1, r1, q1⟩ => ?_
  obtain ⟨i, rfl, q⟩ := q1
  obtain ⟨t, rfl⟩ := r1
  exact ⟨some i, H1, I1, .int i t, q⟩

/-- what a slice of a value is, by values: the slice object stands at sl -/
def SlR (X : Cx) (r : V → Option Int → Option Int → Hp → VK → Prop) : Prop :=
  ∀ (pins : List (Addr × Obj)) (s : Shared) (σ : St) (H : Hp) (x : V) (v vl vu : Value) (lo hi : Option Int) (sl : Addr) (Q : VK), Inv X pins σ H s → RelV x v → s.heap.IsSliceOf sl vl vu .none → IsPart vl lo → IsPart vu hi → r x lo hi H Q →
    ∃ T id, typeLookup (.type T) "__getitem__" = pure (some (.builtin id)) ∧ s.TypeIs v T ∧ wpAny (model X.prog X.w) X.A (getItem v (.ref sl)) (EP X pins σ Q) X.xe s
def tSl (r : V → Option Int → Option Int → Hp → VK → Prop) (te : TE) (tl th : TO) : TE := fun σ H Q => te σ H fun x H1 => tl σ H1 fun l H2 => th σ H2 fun u H3 => r x l u H3 Q
/-- a[lo:hi], any a -/
theorem pe_slice {r : V → Option Int → Option Int → Hp → VK → Prop} (hr : SlR X r) (he : PE X e te) (hl : PO X lo tl) (hu : PO X hi th) : PE X (.Subscript e (.Slice lo hi none p2) pos) (tSl r te tl th) := by
  intro pins s σ H Q I h
  refine Subscript_ (thn (he pins s σ H _ I h) fun v s1 ⟨x, H1, I1, r1, q1⟩ => ?_)
  refine wpAny_Slice (thn (hl pins s1 σ H1 _ I1 q1) fun vl s2 ⟨l, H2, I2, pl, q2⟩ => thn (hu pins s2 σ H2 _ I2 q2) fun vu s3 ⟨u, H3, I3, pu, q3⟩ => ?_)
  rw [evalPart_none]
  refine wpAny_pure ?_
  have I4 : Inv X pins σ H3 { s3 with heap := s3.heap.push { cls := .type "slice", data := .fields #[vl, vu, .none] } } := I3.kept (t' := s3.toks) fun b ob q => Heap.get?_push_of_some _ q
  obtain ⟨T, id, hT, ht, hg⟩ := hr pins { s3 with heap := s3.heap.push { cls := .type "slice", data := .fields #[vl, vu, .none] } } σ H3 x v vl vu l u s3.heap.objs.size Q I4 r1 (Heap.IsSliceOf.new ..) pl pu q3
  show wpAny (model X.prog X.w) X.A (subscriptTail e (.Slice lo hi none p2) v (.ref s3.heap.objs.size)) (EP X pins σ Q) X.xe { s3 with heap := s3.heap.push { cls := .type "slice", data := .fields #[vl, vu, .none] } }
  exact tail_any (ops := [.ref s3.heap.objs.size, v]) ht hT hg (by with_unfolding_all rfl)

/-- the items of xs[lo:hi] -/
def cutV (xs : List V) (lo hi : Option Int) : List V := (xs.drop (HT.sIx xs.length 0 lo)).take (HT.sIx xs.length xs.length hi - HT.sIx xs.length 0 lo)
theorem cutV_length (xs : List V) (lo hi : Option Int) : (cutV xs lo hi).length ≤ xs.length := by
  unfold cutV
  rw [List.length_take, List.length_drop]
  omega
/-! ### t < u, t + u -/
end
end L2

namespace L2
open PySem PySem.Spec PyProof.Rows

/-! ### places -/
/-- the place that an index of any sign means -/
def ixN (n : Nat) (i : Int) : Option Nat := if 0 ≤ i then (if i < n then some i.toNat else none) else if -(n : Int) ≤ i then some (i + n).toNat else none
def atI {α : Type} (xs : List α) (i : Int) : Option α := (ixN xs.length i).bind fun j => xs[j]?
theorem ixN_seq {n : Nat} {i : Int} {j : Nat} (h : ixN n i = some j) : seqIndex? i n = some j ∧ j < n ∧ -(n : Int) ≤ i ∧ i < n := by
  unfold ixN at h
  by_cases h0 : 0 ≤ i
  · rw [if_pos h0] at h
    by_cases h1 : i < n
    · rw [if_pos h1] at h
      have e : i.toNat = j := Option.some.inj h
      exact ⟨by rw [seqIndex_of h0 h1, e], by omega, by omega, h1⟩
    · rw [if_neg h1] at h; cases h
  · rw [if_neg h0] at h
    by_cases h1 : -(n : Int) ≤ i
    · rw [if_pos h1] at h
      have e : (i + n).toNat = j := Option.some.inj h
      exact ⟨by rw [seqIndex_neg (by omega) h1, e], by omega, h1, by omega⟩
    · rw [if_neg h1] at h; cases h
theorem atI_get {α : Type} {xs : List α} {i : Int} {v : α} (h : atI xs i = some v) : ∃ j, seqIndex? i xs.length = some j ∧ xs[j]? = some v ∧ j < xs.length ∧ -(xs.length : Int) ≤ i ∧ i < xs.length := by
  unfold atI at h
  cases e : ixN xs.length i with
  | none => rw [e] at h; cases h
  | some j =>
    rw [e] at h
    obtain ⟨h1, h2, h3, h4⟩ := ixN_seq e
    exact ⟨j, h1, h, h2, h3, h4⟩
theorem atI_nat {α : Type} {xs : List α} {j : Nat} {v : α} (h : xs[j]? = some v) : atI xs (j : Int) = some v := by
  have hj : j < xs.length := (List.getElem?_eq_some_iff.mp h).1
  have e : ixN xs.length (j : Int) = some j := by
    unfold ixN
    rw [if_pos (by omega), if_pos (by omega)]; simp
  unfold atI; rw [e]; exact h
/-! ### what may be subscripted -/
/-- what stands as an index of a plain subscript -/
def PlainIx (b : Expr) : Prop := ∀ o i, subscripted b false o i = operate [o, i] (getItem o i)
/-- a subscript by values -/
def IxR (X : Cx) (r : R2) : Prop :=
  ∀ (value slice : Expr) (pins : List (Addr × Obj)) (s : Shared) (σ : St) (H : Hp) (x y : V) (v u : Value) (Q : VK), Inv X pins σ H s → RelV x v → RelV y u → r x y H Q →
    subscripted slice false v u = operate [v, u] (getItem v u) → wpAny (model X.prog X.w) X.A (subscriptTail value slice v u) (EP X pins σ Q) X.xe s
/-- a call of a builtin's method by values: the receiver, the arguments -/
def MtR (X : Cx) (id : String) (r : V → List V → Hp → VK → Prop) : Prop :=
  ∀ (pins : List (Addr × Obj)) (s : Shared) (σ : St) (H : Hp) (x : V) (xs : List V) (v : Value) (us : List Value) (Q : VK), Inv X pins σ H s → RelV x v → Vals xs us → r x xs H Q →
    wpAny (model X.prog X.w) X.A (call (.builtin id) (v :: us)) (EP X pins σ Q) X.xe s
section
variable {X : Cx} {a b : Expr} {ta tb : TE} {pos : Pos}
/-- a[b] -/
theorem pe_ix {r : R2} (hr : IxR X r) (ha : PE X a ta) (hb : PE X b tb) (hs : PlainIx b) : PE X (.Subscript a b pos) (tOp r ta tb) := by
  intro pins s σ H Q I h
  exact Subscript_ (binT ha hb I h fun v u s2 x y H2 I2 rx ry q => hr a b pins s2 σ H2 x y v u Q I2 rx ry q (hs _ _))

def rIxL (K : PySem.W.Frag) : R2 := fun x y H Q => ∃ p xs i v, x = .ref p ∧ y = .int i ∧ SqL K H p xs ∧ atI xs i = some v ∧ Q v H
def rIxT (K : PySem.W.Frag) : R2 := fun x y H Q => ∃ p xs i v, x = .ref p ∧ y = .int i ∧ SqT K H p xs ∧ atI xs i = some v ∧ Q v H
def rIxS : R2 := fun x y H Q => ∃ z i c, x = .str z ∧ y = .int i ∧ z.length ≤ sizeLine ∧ atI z.cps.toList i = some c ∧ Q (.str ⟨#[c]⟩) H
theorem ix_list : IxR X (rIxL X.K) := by
  intro value slice pins s σ H x y v u Q I rx ry h hs
  obtain ⟨p, xs, i, z, rfl, rfl, hq, he, q⟩ := h
  cases rx
  obtain ⟨t, rfl⟩ := ry
  obtain ⟨its, r, pl, hz⟩ := I.list hq
  obtain ⟨j, h1, h2, h3, h4, h5⟩ := atI_get he
  obtain ⟨w, ew, rw'⟩ := r.get h2
  have hl := r.length
  have hn := line63
  have fin : EP X pins σ Q w s := ⟨z, H, I, rw', q⟩
  by_cases h0 : 0 ≤ i
  · have hj : i.toNat = j := by
      rw [seqIndex_of h0 h5] at h1
      exact Option.some.inj h1
    exact item_listR pl.isList h0 (by omega) (by rw [hj]; simpa using ew) fin hs
  · have hj : (i + (its.toArray.size : Int)).toNat = j := by
      rw [seqIndex_neg (by omega) h4] at h1
      rw [List.size_toArray, ← hl]
      exact Option.some.inj h1
    exact subscriptTail_builtinR (x := w) pl.isList.typeIs slot_list_getitem.lookup
      (wpAny_getItem_list_neg (Q := fun r s' => r = w ∧ EP X pins σ Q r s') pl.isList (by omega) (by rw [List.size_toArray] <;> omega) (by omega) (by rw [hj]; simpa using ew) ⟨rfl, fin⟩) hs
theorem ix_tup : IxR X (rIxT X.K) := by
  intro value slice pins s σ H x y v u Q I rx ry h hs
  obtain ⟨p, xs, i, z, rfl, rfl, hq, he, q⟩ := h
  cases rx
  obtain ⟨t, rfl⟩ := ry
  obtain ⟨its, r, pl, hz⟩ := I.tuple hq
  obtain ⟨j, h1, h2, h3, h4, h5⟩ := atI_get he
  obtain ⟨w, ew, rw'⟩ := r.get h2
  have hl := r.length
  have hn := line63
  have fin : EP X pins σ Q w s := ⟨z, H, I, rw', q⟩
  exact subscriptTail_builtinR (x := w) pl.typeIs slot_tuple_getitem.lookup
    (getItem_tuple (j := j) (Q := fun r s' => r = w ∧ EP X pins σ Q r s') pl (by omega) (by omega) (by rw [List.size_toArray, ← hl]; exact h1) (by simpa using ew) ⟨rfl, fin⟩) hs
theorem ix_str : IxR X rIxS := by
  intro value slice pins s σ H x y v u Q I rx ry h hs
  obtain ⟨z, i, c, rfl, rfl, hz, he, q⟩ := h
  obtain ⟨t, rfl⟩ := rx
  obtain ⟨t', rfl⟩ := ry
  obtain ⟨j, h1, h2, h3, h4, h5⟩ := atI_get he
  have hl : z.cps.toList.length = z.length := by simp [Str.length]
  rw [hl] at h1 h4 h5
  have hn := line63
  exact tail_any (typeIs_str s z t) slot_str_getitem.lookup (getItem_str (c := c) (by
    have e1 : decide (i < -(2 ^ 63 : Int)) = false := decide_eq_false (by omega)
    have e2 : decide (i ≥ 2 ^ 63) = false := decide_eq_false (by omega)
    rw [e1, e2, Bool.or_false]) (by rw [h1]; simpa using h2) ⟨.str ⟨#[c]⟩, H, I.tok _, ⟨_, rfl⟩, q⟩) hs
/-! ### xs[i] = v, any sign -/
/-! ### slices -/
theorem slice_bounds (lo hi : Option Int) (n : Nat) : (sliceBounds lo hi none n).1 = ((HT.sIx n 0 lo : Nat) : Int) ∧ (sliceBounds lo hi none n).2.1 = ((HT.sIx n n hi : Nat) : Int) ∧ (sliceBounds lo hi none n).2.2 = 1 := by
  refine ⟨?_, ?_, rfl⟩
  · cases lo with
    | none => simp [sliceBounds, HT.sIx]
    | some i =>
      simp only [sliceBounds, HT.sIx, Option.getD_none, show (1 : Int) > 0 by decide, if_true]
      by_cases h : i < 0
      · simp only [h, if_true] <;> omega
      · simp only [h, if_false] <;> omega
  · cases hi with
    | none => simp [sliceBounds, HT.sIx]
    | some i =>
      simp only [sliceBounds, HT.sIx, Option.getD_none, show (1 : Int) > 0 by decide, if_true]
      by_cases h : i < 0
      · simp only [h, if_true] <;> omega
      · simp only [h, if_false] <;> omega
theorem slicePick_cut (its : List Value) (lo hi : Option Int) : slicePick its.toArray lo hi none = ((its.drop (HT.sIx its.length 0 lo)).take (HT.sIx its.length its.length hi - HT.sIx its.length 0 lo)).toArray := by
  obtain ⟨h1, h2, h3⟩ := slice_bounds lo hi its.toArray.size
  unfold slicePick
  rw [h1, h2, h3]
  simp only [sliceRange_one, pick_run, List.size_toArray] <;> rfl
/-- xs[lo:hi] of a list: a new list -/
def rSlL (K : PySem.W.Frag) : V → Option Int → Option Int → Hp → VK → Prop := fun x lo hi H Q => ∃ a xs, x = .ref a ∧ SqL K H a xs ∧ ∀ p, H p = none → Q (.ref p) (upd H p (.lst (cutV xs lo hi)))
theorem sl_list : SlR X (rSlL X.K) := by
  intro pins s σ H x v vl vu lo hi sl Q I rx hs pl pu h
  obtain ⟨a, xs, rfl, hx, q⟩ := h
  cases rx
  obtain ⟨its, r, ht, hz⟩ := I.list hx
  have hlen := r.length
  refine ⟨"list", _, slot_list_getitem.lookup, ht.isList.typeIs, ?_⟩
  refine wpAny_getItem_list_slice ht.isList hs pl pu .none (by simp) ?_ (by rw [List.size_toArray] <;> omega)
  rw [slicePick_cut, ← hlen]
  refine ⟨.ref s.heap.objs.size, _, I.laid (t' := s.toks) (o := .lst (cutV xs lo hi)) (fun b ob q => Heap.get?_push_of_some _ q) (Nat.le_refl _) ?_, rfl, q _ (I.hok.fresh (Nat.le_refl _))⟩
  exact ⟨Nat.le_trans (cutV_length xs lo hi) hz, _, 0, (r.drop (HT.sIx xs.length 0 lo)).take (HT.sIx xs.length xs.length hi - HT.sIx xs.length 0 lo), Heap.get?_push_size _ rfl⟩

/-! ### in, not in: flat items -/
def flatV : V → Bool
  | .non => true
  | .bl _ => true
  | .int _ => true
  | .str _ => true
  | _ => false
/-- == of flat values -/
def eqV : V → V → Bool
  | .non, .non => true
  | .bl a, .bl b => a == b
  | .bl a, .int b => (if a then 1 else 0) == b
  | .int a, .bl b => a == (if b then 1 else 0)
  | .int a, .int b => a == b
  | .str a, .str b => a == b
  | _, _ => false
theorem eqAt_V {A : Around} {s : Shared} {y x : V} {u v : Value} (ry : RelV y u) (rx : RelV x v) (fy : flatV y = true) (fx : flatV x = true) : SeqAt.EqAt A s u v (eqV y x) := by
  cases y with
  | non =>
    cases ry
    cases x with
    | non => cases rx; exact SeqAt.EqAt.same _
    | bl b => cases rx; exact SeqAt.EqAt.none_bool b
    | int b => obtain ⟨t, rfl⟩ := rx; exact SeqAt.EqAt.none_int b t
    | str b => obtain ⟨t, rfl⟩ := rx; exact SeqAt.EqAt.none_str b t
    | _ => exact absurd (show false = true from fx) Bool.false_ne_true
  | bl a =>
    cases ry
    cases x with
    | non => cases rx; exact SeqAt.EqAt.bool_none a
    | bl b => cases rx; exact SeqAt.EqAt.bool_bool a b
    | int b => obtain ⟨t, rfl⟩ := rx; exact SeqAt.EqAt.bool_int a b t
    | str b => obtain ⟨t, rfl⟩ := rx; exact SeqAt.EqAt.bool_str a b t
    | _ => exact absurd (show false = true from fx) Bool.false_ne_true
  | int a =>
    obtain ⟨t', rfl⟩ := ry
    cases x with
    | non => cases rx; exact SeqAt.EqAt.int_none a t'
    | bl b => cases rx; exact SeqAt.EqAt.int_bool a t' b
    | int b => obtain ⟨t, rfl⟩ := rx; exact SeqAt.EqAt.int_int a t' b t
    | str b => obtain ⟨t, rfl⟩ := rx; exact SeqAt.EqAt.int_str a t' b t
    | _ => exact absurd (show false = true from fx) Bool.false_ne_true
  | str a =>
    obtain ⟨t', rfl⟩ := ry
    cases x with
    | non => cases rx; exact SeqAt.EqAt.str_none a t'
    | bl b => cases rx; exact SeqAt.EqAt.str_bool a t' b
    | int b => obtain ⟨t, rfl⟩ := rx; exact SeqAt.EqAt.str_int a t' b t
    | str b => obtain ⟨t, rfl⟩ := rx; exact SeqAt.EqAt.str_str a t' b t
    | _ => exact absurd (show false = true from fx) Bool.false_ne_true
  | _ => exact absurd (show false = true from fy) Bool.false_ne_true
/-- the items' answers, read off the values (a value's own answer does not lean on its token) -/
def eqU (x : V) (u : Value) : Bool := match u with
  | .none => eqV .non x
  | .bool b => eqV (.bl b) x
  | .int i _ => eqV (.int i) x
  | .str z _ => eqV (.str z) x
  | _ => false
theorem eqU_of {x y : V} {u : Value} (r : RelV y u) (f : flatV y = true) : eqU x u = eqV y x := by
  cases y with
  | non => cases r; rfl
  | bl b => cases r; rfl
  | int i => obtain ⟨t, rfl⟩ := r; rfl
  | str z => obtain ⟨t, rfl⟩ := r; rfl
  | _ => exact absurd (show false = true from f) Bool.false_ne_true
theorem any_eqU {x : V} : ∀ {xs : List V} {us : List Value}, Vals xs us → xs.all flatV = true → us.any (eqU x) = xs.any fun y => eqV y x
  | _, _, .nil, _ => rfl
  | y :: xs, u :: us, .cons r t, f => by
    rw [List.all_cons, Bool.and_eq_true] at f
    rw [List.any_cons, List.any_cons, eqU_of r f.1, any_eqU t f.2]
theorem mem_eqAt {A : Around} {s : Shared} {x : V} {v : Value} (rx : RelV x v) (fx : flatV x = true) : ∀ {xs : List V} {us : List Value}, Vals xs us → xs.all flatV = true → ∀ u ∈ us, SeqAt.EqAt A s u v (eqU x u)
  | _, _, .nil, _ => fun u hu => by cases hu
  | y :: xs, u :: us, .cons r t, f => fun u' hu => by
    rw [List.all_cons, Bool.and_eq_true] at f
    rcases List.mem_cons.mp hu with rfl | hu
    · rw [eqU_of r f.1]; exact eqAt_V r rx f.1 fx
    · exact mem_eqAt rx fx t f.2 u' hu
def inV (x : V) (xs : List V) : Bool := xs.any fun y => eqV y x
/-- x in a list or tuple of flat items -/
def rIn (K : PySem.W.Frag) (neg : Bool) : R2 := fun x y H Q => ∃ p xs, y = .ref p ∧ (SqL K H p xs ∨ SqT K H p xs) ∧ flatV x = true ∧ xs.all flatV = true ∧ Q (.bl (if neg then !inV x xs else inV x xs)) H
theorem op_in_seq : OpR X (compareOp .In) (rIn X.K false) := by
  intro pins s σ H x y v u Q I rx ry h
  obtain ⟨p, xs, rfl, hq, fx, fs, q⟩ := h
  cases ry
  rcases hq with hq | hq
  · obtain ⟨its, r, pl, hz⟩ := I.list hq
    refine SeqAt.in_listAt (eqU x) pl.isList (fun w hw => mem_eqAt rx fx r fs w (by simpa using hw)) ⟨.bl _, H, I, rfl, ?_⟩
    rw [show its.toArray.any (eqU x) = its.any (eqU x) by simp, any_eqU r fs]
    exact q
  · obtain ⟨its, r, pl, hz⟩ := I.tuple hq
    refine SeqAt.in_tupleAt (eqU x) pl (fun w hw => mem_eqAt rx fx r fs w (by simpa using hw)) ⟨.bl _, H, I, rfl, ?_⟩
    rw [show its.toArray.any (eqU x) = its.any (eqU x) by simp, any_eqU r fs]
    exact q
/-! ### len, list(x), tuple(x) of any list or tuple that is read -/
theorem call_len_seq : CallR X (.builtin "len") (fun xs H Q => ∃ p ys, xs = [.ref p] ∧ (SqL X.K H p ys ∨ SqT X.K H p ys) ∧ Q (.int ys.length) H) := by
  intro pins s σ H xs us Q I r h
  obtain ⟨p, ys, rfl, hq, q⟩ := h
  obtain ⟨u, rfl, rx⟩ := vals1 r
  cases rx
  have hn := line63
  rcases hq with hq | hq
  · obtain ⟨its, r', pl, hz⟩ := I.list hq
    have hlen := r'.length
    exact Calls.call_len_list pl.isList (by simp only [List.size_toArray] <;> omega) ⟨.int ys.length, H, I.tok _, ⟨s.toks + 1, by rw [List.size_toArray, hlen]⟩, q⟩
  · obtain ⟨its, r', pl, hz⟩ := I.tuple hq
    have hlen := r'.length
    exact len_tuple pl (by simp only [List.size_toArray] <;> omega) ⟨.int ys.length, H, I.tok _, ⟨s.toks + 1, by rw [List.size_toArray, hlen]⟩, q⟩
theorem call_len_str : CallR X (.builtin "len") (fun xs H Q => ∃ z, xs = [.str z] ∧ z.length ≤ sizeLine ∧ Q (.int z.length) H) := by
  intro pins s σ H xs us Q I r h
  obtain ⟨z, rfl, hz, q⟩ := h
  obtain ⟨u, rfl, t, rfl⟩ := vals1 r
  have hn := line63
  exact len_str (by omega) ⟨.int z.length, H, I.tok _, ⟨_, rfl⟩, q⟩
theorem call_tuple_of : CallR X (.type "tuple") (fun xs H Q => ∃ p ys, xs = [.ref p] ∧ ((SqL X.K H p ys ∧ ∀ l, H l = none → Q (.ref l) (upd H l (.tup ys))) ∨ (SqT X.K H p ys ∧ Q (.ref p) H))) := by
  intro pins s σ H xs us Q I r h
  obtain ⟨p, ys, rfl, h⟩ := h
  obtain ⟨u, rfl, rx⟩ := vals1 r
  cases rx
  rcases h with ⟨hq, q⟩ | ⟨hq, q⟩
  · obtain ⟨its, r', pl, hz⟩ := I.list hq
    have hlen := r'.length
    refine call_tuple_list pl.isList (fun h' kp => ?_) (by simp only [List.size_toArray] <;> omega)
    have I1 : Inv X pins σ H { s with heap := h' } := I.kept (t' := s.toks) kp
    have I2 : Inv X pins σ (upd H h'.objs.size (.tup ys)) { s with heap := h'.push { cls := .type "tuple", data := .seq its.toArray } } :=
      I1.laid (t' := s.toks) (fun b o e => Heap.get?_push_of_some _ e) (Nat.le_refl _) (show ObjOk X.prog X.w _ _ _ (.tup ys) from ⟨hz, its, r', IsTup.new _ _⟩)
    exact ⟨.ref h'.objs.size, _, I2, rfl, q _ (I1.hok.fresh (Nat.le_refl _))⟩
  · obtain ⟨its, r', pl, hz⟩ := I.tuple hq
    exact call_tuple_same pl ⟨.ref p, H, I, rfl, q⟩

/-! ### the call of a builtin's method: o.m(..) -/
/-- the value is of that builtin type -/
def tyV (K : PySem.W.Frag) (T : String) (x : V) (H : Hp) : Prop := match x with
  | .str _ => T = "str"
  | .int _ => T = "int"
  | .ref p => (T = "list" ∧ ∃ xs, SqL K H p xs) ∨ (T = "tuple" ∧ ∃ o, K.lookup p = some o ∧ o.cls = .type "tuple" ∧ o.dict = none) ∨
      (T = "dict" ∧ ((∃ kvs, H p = some (.dK kvs)) ∨ ∃ kvs, H p = some (.dT kvs))) ∨ (T = "set" ∧ ∃ S n, H p = some (.set S n))
  | _ => False
theorem tyV_is {pins : List (Addr × Obj)} {σ : St} {H : Hp} {s : Shared} {T : String} {x : V} {v : Value} (I : Inv X pins σ H s) (r : RelV x v) (ty : tyV X.K T x H) :
    s.TypeIs v T ∧ ∀ a, v = .ref a → ∃ ob, s.heap.get? a = some ob ∧ ob.dict = none := by
  cases x with
  | str z =>
    obtain ⟨t, rfl⟩ := r
    cases (show T = "str" from ty)
    exact ⟨typeIs_str s z t, fun _ e => nomatch e⟩
  | int i =>
    obtain ⟨t, rfl⟩ := r
    cases (show T = "int" from ty)
    exact ⟨typeIs_int s i t, fun _ e => nomatch e⟩
  | ref p =>
    cases r
    rcases ty with ⟨rfl, xs, hq⟩ | ⟨rfl, o, hk, hc, hd⟩ | ⟨rfl, hk⟩ | ⟨rfl, S, n, hk⟩
    · obtain ⟨its, _, pl, _⟩ := I.list hq
      refine ⟨pl.isList.typeIs, fun a e => ?_⟩
      cases e
      obtain ⟨o, n, e, c, hd, _⟩ := pl
      exact ⟨o, e, hd⟩
    · refine ⟨⟨o, I.kIn p o hk, hc⟩, fun a e => ?_⟩
      cases e
      exact ⟨o, I.kIn _ o hk, hd⟩
    · have z : ∃ o, s.heap.get? p = some o ∧ o.ExactDict := by
        rcases hk with ⟨kvs, hk⟩ | ⟨kvs, hk⟩
        · obtain ⟨_, _, _, _, o, _, _, e, ex, _⟩ := I.hok p _ hk
          exact ⟨o, e, ex⟩
        · obtain ⟨_, _, _, _, o, _, _, e, ex, _⟩ := I.hok p _ hk
          exact ⟨o, e, ex⟩
      obtain ⟨o, e, ex⟩ := z
      refine ⟨⟨o, e, ex.1⟩, fun a e2 => ?_⟩
      cases e2
      exact ⟨o, e, ex.2.1⟩
    · obtain ⟨o, _, _, _, e, ex, _⟩ := I.hok p _ hk
      refine ⟨⟨o, e, ex.1⟩, fun a e2 => ?_⟩
      cases e2
      exact ⟨o, e, ex.2.1⟩
  | _ => exact False.elim ty
def tBM0 (K : PySem.W.Frag) (T : String) (r : V → List V → Hp → VK → Prop) (to : TE) : TE := fun σ H Q => to σ H fun x H1 => tyV K T x H1 ∧ r x [] H1 Q
def tBM (K : PySem.W.Frag) (T : String) (r : V → List V → Hp → VK → Prop) (to : TE) (t : TA) : TE := fun σ H Q => to σ H fun x H1 => tyV K T x H1 ∧ t σ H1 fun xs H2 => r x xs H2 Q
variable {o e : Expr} {es : List Expr} {to : TE} {t : TA} {name : Str} {apos cpos : Pos} {T id : String} {r : V → List V → Hp → VK → Prop}
theorem pe_bm0 (pa : PlainAttrs T) (slot : Slot T name id) (hty : typeOf (.builtin id) = pure (.type "method_descriptor")) (hm : MtR X id r) (ho : PE X o to)
    (hbase : attributeBase o name X.env (eval o X.env) = eval o X.env := by rfl) (hline : (apos.endLine == cpos.line) = true := by rfl) : PE X (.Call (.Attribute o name apos) [] [] cpos) (tBM0 X.K T r to) := by
  intro pins s σ H Q I h
  refine wpAny_Call_method0_late hbase hline (thn (ho pins s σ H _ I h) fun v s1 ⟨x, H1, I1, r1, ty, q1⟩ => ?_)
  obtain ⟨h1, h2⟩ := tyV_is I1 r1 ty
  exact ⟨T, id, pa, slot, hty, h1, h2, Calls.callWith_builtin rfl (PySem.evalArgs_none (hm pins s1 σ H1 x [] v [] Q I1 r1 .nil q1))⟩
theorem pe_bm (pa : PlainAttrs T) (slot : Slot T name id) (hty : typeOf (.builtin id) = pure (.type "method_descriptor")) (hm : MtR X id r) (ho : PE X o to) (ha : PA X (e :: es) t)
    (hbase : attributeBase o name X.env (eval o X.env) = eval o X.env := by rfl)
    (hfew : ((backTo cpos (starEach (e :: es) X.env)).all (fun x => !x.1) && (backToKw cpos (keywordEach [] X.env)).all (fun x => x.1.isSome)
      && decide ((e :: es).length + ([] : List Keyword).length + (if ([] : List Keyword).isEmpty then 0 else 1) < 30)) = true := by rfl)
    (hline : (apos.endLine == cpos.line) = true := by rfl) (hs : starEach (e :: es) X.env = (false, eval e X.env) :: starEach es X.env := by rfl) (hplain : (backTo cpos (starEach es X.env)).any (·.1) = false := by rfl) :
    PE X (.Call (.Attribute o name apos) (e :: es) [] cpos) (tBM X.K T r to t) := by
  intro pins s σ H Q I h
  refine wpAny_Call_method_late hbase hfew hline rfl (thn (ho pins s σ H _ I h) fun v s1 ⟨x, H1, I1, r1, ty, q1⟩ => ?_)
  obtain ⟨h1, h2⟩ := tyV_is I1 r1 ty
  refine ⟨T, id, pa, slot, hty, h1, h2, ?_⟩
  have hA := ha cpos pins s1 σ H1 _ I1 q1
  rw [hs] at hA ⊢
  refine Calls.callWith_builtin (by show (false || (backTo cpos (starEach es X.env)).any (·.1)) = false; rw [hplain] <;> rfl) (Calls.evalArgs_plain ?_)
  exact thn hA fun us s2 ⟨vs, H2, I2, r2, q2⟩ => hm pins s2 σ H2 x vs v us Q I2 r1 r2 q2
/- xs.append(e), list.index on a module's tuple .. are MtR facts of 06m -/
end
end L2

namespace L2
open PySem PySem.Spec PyProof.Rows

def MtM (X : Cx) (id : String) (r : V → List V → Hp → VK → Prop) : Prop :=
  ∀ (pins : List (Addr × Obj)) (s : Shared) (σ : St) (H : Hp) (x : V) (xs : List V) (v : Value) (us : List Value) (Q : VK), Inv X pins σ H s → RelV x v → Vals xs us → r x xs H Q →
    wpAny (model X.prog X.w) X.A (call (.builtin id) (v :: us)) (EP X pins σ Q) X.xe s

/-! ### lists of values -/
theorem Vals.one : ∀ {x : V} {us : List Value}, Vals [x] us → ∃ u, us = [u] ∧ RelV x u
  | _, _, .cons r .nil => ⟨_, rfl, r⟩
section
variable {X : Cx} {pins : List (Addr × Obj)} {σ : St} {H : Hp} {s : Shared} {l b : Addr} {xs ys zs : List V}

/-! ### the two steps: a tracked list is rewritten, a new list is laid -/
theorem Inv.lset {its its' : List Value} {n : Nat} {f : Array Value → Array Value} {t' : Nat} (I : Inv X pins σ H s) (hH : H l = some (.lst xs))
    (e : s.heap.get? l = some { cls := .type "list", data := .seq its.toArray n }) (hf : f its.toArray = its'.toArray) (hv : Vals ys its') (hz : ys.length ≤ sizeLine) :
    Inv X pins σ (upd H l (.lst ys)) { s with heap := s.heap.update l (Obj.mapSeq f), toks := t' } := by
  have q := PySem.IsL.update e f
  rw [hf] at q
  refine I.write (x := l) (e := l) (by rw [hH]; exact trivial) (.inl rfl) (fun b' u hb hu => (Heap.get?_update_other s.heap (Obj.mapSeq f) (Ne.symm hb)).trans hu) ⟨_, q⟩ ?_
  exact ⟨hz, its', _, hv, q⟩
theorem Inv.lnew {its : List Value} {t' : Nat} (I : Inv X pins σ H s) (hv : Vals ys its) (hz : ys.length ≤ sizeLine) :
    Inv X pins σ (upd H s.heap.objs.size (.lst ys)) { s with heap := s.heap.push { cls := .type "list", data := .seq its.toArray }, toks := t' } :=
  I.laid (fun _ _ q => Heap.get?_push_of_some _ q) (Nat.le_refl _) ⟨hz, its, 0, hv, Heap.get?_push_size _ rfl⟩
theorem Inv.fresh (I : Inv X pins σ H s) : H s.heap.objs.size = none := I.hok.fresh (Nat.le_refl _)
theorem Inv.lstM (I : Inv X pins σ H s) (hH : H l = some (.lst xs)) : xs.length ≤ sizeLine ∧ ∃ (its : List Value) (n : Nat), Vals xs its ∧ xs.length = its.length ∧ s.heap.get? l = some { cls := .type "list", data := .seq its.toArray n } := by
  obtain ⟨z, its, n, r, e⟩ := I.hok l _ hH
  exact ⟨z, its, n, r, r.length, e⟩

theorem notLongL {n : Nat} (h : n ≤ sizeLine) : Builtin.List.listTooLong n = false := by
  unfold Builtin.List.listTooLong
  exact decide_eq_false (by omega)
end

section
variable {X : Cx}

/-! ### methods -/
def rAppend : V → List V → Hp → VK → Prop := fun x vs H Q => ∃ l xs y, x = .ref l ∧ vs = [y] ∧ H l = some (.lst xs) ∧ xs.length < sizeLine ∧ Q .non (upd H l (.lst (xs ++ [y])))
theorem mt_append : MtM X "list.append" rAppend := by
  intro pins s σ H x vs v us Q I rx rv h
  obtain ⟨l, xs, y, rfl, rfl, hH, hz, q⟩ := h
  cases rx
  obtain ⟨u, rfl, ru⟩ := rv.one
  obtain ⟨z, its, n, r, hl, e⟩ := I.lstM hH
  refine call_meets F.slot_list_append ⟨_, e, rfl⟩ F.entry_list_append (F.args_list_append_2 _ _) (PySem.list_append l its.toArray n u (by rw [List.size_toArray]; omega)) ⟨e, ?_⟩
  refine ⟨.non, _, I.lset (its' := its ++ [u]) hH e (by simp) (r.append (.cons ru .nil)) ?_, rfl, q⟩
  rw [List.length_append, List.length_singleton]
  omega

def rExtend : V → List V → Hp → VK → Prop := fun x vs H Q => ∃ l b xs zs, x = .ref l ∧ vs = [.ref b] ∧ H l = some (.lst xs) ∧ H b = some (.lst zs) ∧ xs.length + zs.length ≤ sizeLine ∧ Q .non (upd H l (.lst (xs ++ zs)))
theorem mt_extend : MtM X "list.extend" rExtend := by
  intro pins s σ H x vs v us Q I rx rv h
  obtain ⟨l, b, xs, zs, rfl, rfl, hH, hB, hz, q⟩ := h
  cases rx
  obtain ⟨u, rfl, ru⟩ := rv.one
  cases ru
  obtain ⟨z, its, n, r, hl, e⟩ := I.lstM hH
  obtain ⟨z2, its2, n2, r2, hl2, e2⟩ := I.lstM hB
  have hsz : its.toArray.size + its2.toArray.size ≤ sizeLine := by rw [List.size_toArray, List.size_toArray]; omega
  have hlong : ¬ (!its.toArray.isEmpty && Builtin.List.listTooLong (its.toArray.size + its2.toArray.size)) = true := by
    rw [notLongL hsz, Bool.and_false]
    exact Bool.false_ne_true
  refine call_meets F.slot_list_extend ⟨_, e, rfl⟩ F.entry_list_extend (F.args_list_extend_2 _ _)
    (AutoSeq1.list_extend_list_list_0 l its.toArray n b its2.toArray n2 hlong (by rw [List.size_toArray]; omega) (by omega)) ⟨e, e2, ?_⟩
  refine ⟨.non, _, I.lset (its' := its ++ its2) hH e (by simp) (r.append r2) ?_, rfl, q⟩
  rw [List.length_append]
  omega

/-! ### list + list, list += list, list * int -/
def rCat : R2 := fun x y H Q => ∃ l b xs zs, x = .ref l ∧ y = .ref b ∧ H l = some (.lst xs) ∧ H b = some (.lst zs) ∧ xs.length + zs.length ≤ sizeLine ∧ ∀ p, H p = none → Q (.ref p) (upd H p (.lst (xs ++ zs)))
theorem op_cat : OpR X (binaryOp .Add) rCat := by
  intro pins s σ H x y v u Q I rx ry h
  obtain ⟨l, b, xs, zs, rfl, rfl, hH, hB, hz, q⟩ := h
  cases rx
  cases ry
  obtain ⟨z, its, n, r, hl, e⟩ := I.lstM hH
  obtain ⟨z2, its2, n2, r2, hl2, e2⟩ := I.lstM hB
  refine PySem.P.add_list e e2 ?_ (by rw [List.size_toArray, List.size_toArray]; omega)
  have ea : its.toArray ++ its2.toArray = (its ++ its2).toArray := by simp
  rw [ea]
  exact ⟨.ref _, _, I.lnew (t' := s.toks) (r.append r2) (by rw [List.length_append]; omega), rfl, q _ I.fresh⟩
/-! ### del xs[i] -/
end

/-! ### xs[a:b] = ys -/
section
variable {prog : Program} {w : World} {A : Around} {E : Value → Shared → Prop} {s : Shared}
set_option maxRecDepth 100000 in
end

section
variable {X : Cx}
end
end L2

namespace L2
open PySem PySem.Spec PyProof.Rows

/-! ### lists of pairs as tables -/
section
variable {κ : Type} [DecidableEq κ]
def valV (kvs : List (κ × V)) (k : κ) : Option V := (kvs.find? fun kv => decide (kv.1 = k)).map (·.2)
/-- in its place, or at the end -/
def putK (kvs : List (κ × V)) (k : κ) (v : V) : List (κ × V) :=
  if (kvs.any fun kv => decide (kv.1 = k)) = true then kvs.map (fun kv => if kv.1 = k then (kv.1, v) else kv) else kvs ++ [(k, v)]
def dropK (kvs : List (κ × V)) (k : κ) : List (κ × V) := kvs.filter fun kv => decide (kv.1 ≠ k)

theorem valV_pos {p : κ × V} {r : List (κ × V)} {k : κ} (e : p.1 = k) : valV (p :: r) k = some p.2 := by simp [valV, List.find?_cons, e]
theorem valV_neg {p : κ × V} {r : List (κ × V)} {k : κ} (e : ¬ p.1 = k) : valV (p :: r) k = valV r k := by simp [valV, List.find?_cons, e]
theorem valV_any (k : κ) : ∀ kvs : List (κ × V), (kvs.any fun kv => decide (kv.1 = k)) = (valV kvs k).isSome
  | [] => rfl
  | p :: r => by
    rw [List.any_cons]
    by_cases e : p.1 = k
    · simp only [valV_pos e, decide_eq_true e, Bool.true_or, Option.isSome_some]
    · rw [valV_neg e, decide_eq_false e, Bool.false_or]; exact valV_any k r
theorem length_putK (kvs : List (κ × V)) (k : κ) (v : V) : (putK kvs k v).length ≤ kvs.length + 1 := by
  unfold putK
  split
  · rw [List.length_map]; omega
  · rw [List.length_append, List.length_cons, List.length_nil]; omega
theorem RelO.isSome_eq {o : Option V} {u : Option Value} (r : RelO o u) : o.isSome = u.isSome := by
  cases o with
  | none => cases u with
    | none => rfl
    | some _ => exact (show False from r).elim
  | some _ => cases u with
    | none => exact (show False from r).elim
    | some _ => rfl
theorem RelO.getD {o : Option V} {u : Option Value} {d : V} {d' : Value} (r : RelO o u) (rd : RelV d d') : RelV (o.getD d) (u.getD d') := by
  cases o with
  | none => cases u with
    | none => exact rd
    | some _ => exact (show False from r).elim
  | some _ => cases u with
    | none => exact (show False from r).elim
    | some _ => exact r

/-- raw tables of the same keys -/
theorem KV.val {kvs : List (κ × V)} {vs : List (κ × Value)} (r : KV kvs vs) (k : κ) : RelO (valV kvs k) (valueAt vs k) := by
  unfold KV at r
  induction r with
  | nil => exact True.intro
  | @cons p q ps qs h t ih =>
    obtain ⟨h1, h2⟩ := h
    by_cases e : p.1 = k
    · have e' : q.1 = k := h1.symm.trans e
      have b : valueAt (q :: qs) k = some q.2 := by simp [valueAt, List.find?_cons, e']
      rw [valV_pos e, b]; exact h2
    · have e' : ¬ q.1 = k := fun z => e (h1.trans z)
      have b : valueAt (q :: qs) k = valueAt qs k := by simp [valueAt, List.find?_cons, e']
      rw [valV_neg e, b]; exact ih
theorem KV.any {kvs : List (κ × V)} {vs : List (κ × Value)} (r : KV kvs vs) (k : κ) : (kvs.any fun kv => decide (kv.1 = k)) = vs.any fun kv => decide (kv.1 = k) := by
  unfold KV at r
  induction r with
  | nil => rfl
  | cons h t ih => rw [List.any_cons, List.any_cons, ih, h.1]
theorem KV.repl {kvs : List (κ × V)} {vs : List (κ × Value)} (r : KV kvs vs) (k : κ) {y : V} {u : Value} (ry : RelV y u) :
    KV (kvs.map fun kv => if kv.1 = k then (kv.1, y) else kv) (vs.map fun kv => if kv.1 = k then (kv.1, u) else kv) := by
  unfold KV at r ⊢
  induction r with
  | nil => exact .nil
  | @cons p q ps qs h t ih =>
    rw [List.map_cons, List.map_cons]
    refine .cons ?_ ih
    obtain ⟨h1, h2⟩ := h
    by_cases e : p.1 = k
    · rw [if_pos e, if_pos (h1.symm.trans e)]; exact ⟨h1, ry⟩
    · rw [if_neg e, if_neg (fun z => e (h1.trans z))]; exact ⟨h1, h2⟩
theorem KV.put {kvs : List (κ × V)} {vs : List (κ × Value)} (r : KV kvs vs) (k : κ) {y : V} {u : Value} (ry : RelV y u) : KV (putK kvs k y) (stored vs k u) := by
  unfold putK stored
  rw [r.any k]
  by_cases e : (vs.any fun kv => decide (kv.1 = k)) = true
  · rw [if_pos e, if_pos e]; exact r.repl k ry
  · rw [if_neg e, if_neg e]; exact Paired.snoc r ⟨rfl, ry⟩
theorem KV.drop {kvs : List (κ × V)} {vs : List (κ × Value)} (r : KV kvs vs) (k : κ) : KV (dropK kvs k) (without vs k) := by
  unfold KV at r ⊢
  unfold dropK without
  induction r with
  | nil => exact .nil
  | @cons p q ps qs h t ih =>
    obtain ⟨h1, h2⟩ := h
    rw [List.filter_cons, List.filter_cons]
    by_cases e : p.1 = k
    · have a : ¬ decide (p.1 ≠ k) = true := by simp [e]
      have b : ¬ decide (q.1 ≠ k) = true := by simp [h1.symm.trans e]
      rw [if_neg a, if_neg b]; exact ih
    · have e' : ¬ q.1 = k := fun z => e (h1.trans z)
      have a : decide (p.1 ≠ k) = true := by simp [e]
      have b : decide (q.1 ≠ k) = true := by simp [e']
      rw [if_pos a, if_pos b]; exact .cons ⟨h1, h2⟩ ih
theorem KV.length {kvs : List (κ × V)} {vs : List (κ × Value)} (r : KV kvs vs) : kvs.length = vs.length := Paired.length r
theorem dropK_le (kvs : List (κ × V)) (k : κ) : (dropK kvs k).length ≤ kvs.length := List.length_filter_le _ _
end

/-! ### a tracked dict, its keys ints and texts or tuples of these -/
theorem kV_is {P : Program} {w : World} {k : Key} {u : Value} (r : RelV (kV k) u) : (mixKind P w).is k u = true := by
  cases k with
  | inl i => obtain ⟨t, e⟩ := (show ∃ t, u = Value.int i t from r); subst e; exact mixKind_int P w i t
  | inr x => obtain ⟨t, e⟩ := (show ∃ t, u = Value.str x t from r); subst e; exact mixKind_str P w x t
theorem items_are {P : Program} {w : World} : ∀ {ks : List Key} {us : List Value}, Vals (ks.map kV) us → ItemsAre (mixKind P w) ks us
  | [], _, r => by rw [List.map_nil] at r; cases r; exact .nil
  | k :: ks, _, r => by
    rw [List.map_cons] at r
    cases r with
    | cons h t => exact .cons (kV_is h) (items_are t)

/-- raw entries of a dict with tuple keys -/
abbrev KT (H : Hp) : List (List Key × V) → List (List Key × Addr × Value) → Prop := Paired fun p q => p.1 = q.1 ∧ H q.2.1 = some (.tup (p.1.map kV)) ∧ RelV p.2 q.2.2
theorem KT.val {H : Hp} {kvs : List (List Key × V)} {xs : List (List Key × Addr × Value)} (r : KT H kvs xs) (k : List Key) : RelO (valV kvs k) ((atKey xs k).map (·.2)) := by
  induction r with
  | nil => exact True.intro
  | @cons p q ps qs h t ih =>
    obtain ⟨h1, _, h2⟩ := h
    by_cases e : p.1 = k
    · have e' : q.1 = k := h1.symm.trans e
      have b : atKey (q :: qs) k = some q.2 := by simp [atKey, List.find?_cons, e']
      rw [valV_pos e, b]; exact h2
    · have e' : ¬ q.1 = k := fun z => e (h1.trans z)
      have b : atKey (q :: qs) k = atKey qs k := by simp [atKey, List.find?_cons, e']
      rw [valV_neg e, b]; exact ih
theorem KT.repl {H : Hp} {kvs : List (List Key × V)} {xs : List (List Key × Addr × Value)} (r : KT H kvs xs) (k : List Key) {y : V} {u : Value} (ry : RelV y u) :
    KT H (kvs.map fun kv => if kv.1 = k then (kv.1, y) else kv) (xs.map (putAt k u)) := by
  induction r with
  | nil => exact .nil
  | @cons p q ps qs h t ih =>
    rw [List.map_cons, List.map_cons]
    refine .cons ?_ ih
    obtain ⟨h1, h2, h3⟩ := h
    unfold putAt
    by_cases e : p.1 = k
    · rw [if_pos e, if_pos (h1.symm.trans e)]; exact ⟨h1, h2, ry⟩
    · rw [if_neg e, if_neg (fun z => e (h1.trans z))]; exact ⟨h1, h2, h3⟩
theorem KT.put {H : Hp} {kvs : List (List Key × V)} {xs : List (List Key × Addr × Value)} (r : KT H kvs xs) (k : List Key) {b : Addr} {y : V} {u : Value} (hb : H b = some (.tup (k.map kV))) (ry : RelV y u) :
    KT H (putK kvs k y) (storedH xs k b u) := by
  have e : (kvs.any fun kv => decide (kv.1 = k)) = (atKey xs k).isSome := by
    rw [valV_any, (r.val k).isSome_eq, Option.isSome_map]
  unfold putK storedH
  rw [e]
  by_cases q : (atKey xs k).isSome = true
  · rw [if_pos q, if_pos q]; exact r.repl k ry
  · rw [if_neg q, if_neg q]; exact Paired.snoc r ⟨rfl, hb, ry⟩
theorem KT.keeps {H H' : Hp} {kvs : List (List Key × V)} {xs : List (List Key × Addr × Value)} (r : KT H kvs xs) (ht : ∀ b ys, H b = some (.tup ys) → H' b = some (.tup ys)) : KT H' kvs xs :=
  Paired.mapP r fun _ _ z => ⟨z.1, ht _ _ z.2.1, z.2.2⟩

section
variable {P : Program} {w : World} {H : Hp} {h : Heap} {a : Addr}
theorem rd_of {u : HO} (ok : HOk P w H h) (e : Rd H a u) : ObjOk P w H h a u := e.ok ok
theorem dk_rd {kvs : List (Key × V)} (ok : HOk P w H h) (e : Rd H a (.dK kvs)) : kvs.length ≤ sizeLine ∧ (a == sysModules) = false ∧ ∃ vs, KV kvs vs ∧ h.DictOf (mixKind P w) a vs :=
  show ObjOk P w H h a (.dK kvs) from rd_of ok e
theorem dk_of {kvs : List (Key × V)} (ok : HOk P w H h) (e : H a = some (.dK kvs)) : kvs.length ≤ sizeLine ∧ (a == sysModules) = false ∧ ∃ vs, KV kvs vs ∧ h.DictOf (mixKind P w) a vs := dk_rd ok (.inl e)
/-- a tracked tuple of ints and texts is a key -/
theorem key_of {ks : List Key} (ok : HOk P w H h) (e : H a = some (.tup (ks.map kV))) : (tupleKind (mixKind P w)).is h ks a := by
  obtain ⟨_, its, r, o, h1, h2, n, h3⟩ := (show ObjOk P w H h a (.tup (ks.map kV)) from ok a _ e)
  exact ⟨o, its.toArray, n, h1, h2, h3, by simpa using items_are r⟩
theorem dt_rd {kvs : List (List Key × V)} (ok : HOk P w H h) (e : Rd H a (.dT kvs)) : kvs.length ≤ sizeLine ∧ (a == sysModules) = false ∧
    ∃ xs, KT H kvs xs ∧ h.DictOfH (tupleKind (mixKind P w)) a xs := by
  obtain ⟨z, y, xs, r, o, es, ep, h1, h2, h3, h4, h5⟩ := (show ObjOk P w H h a (.dT kvs) from rd_of ok e)
  refine ⟨z, y, xs, r, o, es, ep, h1, h2, h3, h4, fun x hx => ?_, h5⟩
  have all : ∀ {l : List (List Key × V)} {m : List (List Key × Addr × Value)}, KT H l m → ∀ x ∈ m, (tupleKind (mixKind P w)).is h x.1 x.2.1 := by
    intro l m q
    induction q with
    | nil => intro x hx; exact nomatch hx
    | @cons p q ps qs hq t ih =>
      intro x hx
      rcases List.mem_cons.mp hx with e | hx
      · subst e
        exact key_of ok (by rw [← hq.1]; exact hq.2.1)
      · exact ih x hx
  exact all r x hx
theorem dt_of {kvs : List (List Key × V)} (ok : HOk P w H h) (e : H a = some (.dT kvs)) : kvs.length ≤ sizeLine ∧ (a == sysModules) = false ∧
    ∃ xs, KT H kvs xs ∧ h.DictOfH (tupleKind (mixKind P w)) a xs := dt_rd ok (.inl e)
end

/-- what the dict at a holds at the key y -/
def DGet (H : Hp) (a : Addr) (y : V) (r : Option V) : Prop :=
  (∃ kvs k, Rd H a (.dK kvs) ∧ y = kV k ∧ r = valV kvs k) ∨ ∃ kvs k b, Rd H a (.dT kvs) ∧ y = .ref b ∧ H b = some (.tup (k.map kV)) ∧ r = valV kvs k
/-- the heap behind a[y] = v -/
def DPut (H : Hp) (a : Addr) (y v : V) (H' : Hp) : Prop :=
  (∃ kvs k, H a = some (.dK kvs) ∧ y = kV k ∧ kvs.length < sizeLine ∧ H' = upd H a (.dK (putK kvs k v))) ∨
  ∃ kvs k b, H a = some (.dT kvs) ∧ y = .ref b ∧ H b = some (.tup (k.map kV)) ∧ kvs.length < sizeLine ∧ H' = upd H a (.dT (putK kvs k v))
theorem DPut.k {H : Hp} {a : Addr} {kvs : List (Key × V)} {k : Key} {v : V} (e : H a = some (.dK kvs)) (hl : kvs.length < sizeLine) : DPut H a (kV k) v (upd H a (.dK (putK kvs k v))) := .inl ⟨kvs, k, e, rfl, hl, rfl⟩
section
variable {X : Cx} {pins : List (Addr × Obj)} {σ : St} {H : Hp} {s : Shared} {a : Addr} {y v : V} {u r : Value} {o : Option V} {A : Around} {E : Value → Shared → Prop}

theorem Inv.big (I : Inv X pins σ H s) : sysModules < s.heap.objs.size := by
  have h : mainGlobals < s.heap.objs.size := (I.mod.glob.keeps I.bk).lt
  exact Nat.lt_trans (by decide) h

/-- d[y], there -/
theorem d_getItem {Q : Value → Shared → Prop} (hu : A.units + 1 < cLine) (I : Inv X pins σ H s) (g : DGet H a y (some v)) (ry : RelV y u) (h : ∀ w' s', Inv X pins σ H s' → RelV v w' → Q w' s') :
    wpAny (model X.prog X.w) A (getItem (.ref a) u) Q E s := by
  rcases g with ⟨kvs, k, e, ey, l⟩ | ⟨kvs, k, b, e, ey, eb, l⟩
  · subst ey
    obtain ⟨z, hd, vs, rel, dd⟩ := dk_rd I.hok e
    obtain ⟨w', hw, rw'⟩ := RelO.some_of (v := v) (o := valueAt vs k) (by rw [l]; exact rel.val k)
    exact wpAny_getItem_of (kV_is ry) dd.mapOf hw (h w' _ (I.tok _) rw')
  · subst ey
    cases (show u = Value.ref b from ry)
    obtain ⟨z, hd, xs, rel, dd⟩ := dt_rd I.hok e
    obtain ⟨w', hw, rw'⟩ := RelO.some_of (v := v) (o := (atKey xs k).map (·.2)) (by rw [l]; exact rel.val k)
    obtain ⟨p, hp, hp2⟩ := Option.map_eq_some_iff.mp hw
    refine wpAny_getItem_heap (tupleKind_room_in1 hu) (key_of I.hok eb) dd hp ?_
    rw [hp2]
    exact h w' _ (I.tok _) rw'
/-- a dict's object is replaced -/
theorem d_write {h' : Heap} {t' : Nat} {ob : HO} (I : Inv X pins σ H s) (mu : Mut (H a)) (hs : Heap.SameBut a s.heap h') (he : ∃ q, h'.get? a = some q) (new : ObjOk X.prog X.w (upd H a ob) h' a ob) :
    Inv X pins σ (upd H a ob) { s with heap := h', toks := t' } :=
  I.write (x := a) (e := a) mu (.inl rfl) (fun b q hb z => (hs.2 b hb).trans z) he new
theorem dk_new {P : Program} {w : World} {H' : Hp} {h' : Heap} {kvs : List (Key × V)} {vs : List (Key × Value)} (z : kvs.length ≤ sizeLine) (hd : (a == sysModules) = false) (rel : KV kvs vs) (dd : h'.DictOf (mixKind P w) a vs) :
    ObjOk P w H' h' a (.dK kvs) := ⟨z, hd, vs, rel, dd⟩
/-- d[y] = v -/
theorem d_setItem {H' : Hp} {Q : Unit → Shared → Prop} (hu : A.units + 1 < cLine) (I : Inv X pins σ H s) (g : DPut H a y v H') (ry : RelV y u) (rv : RelV v r) (h : ∀ s', Inv X pins σ H' s' → Q () s') :
    wpAny (model X.prog X.w) A (setItem (.ref a) u r) Q E s := by
  rcases g with ⟨kvs, k, e, ey, l, eH⟩ | ⟨kvs, k, b, e, ey, eb, l, eH⟩
  · subst ey eH
    obtain ⟨z, hd, vs, rel, dd⟩ := dk_of I.hok e
    have hz : vs.length ≤ sizeLine := by rw [← rel.length]; exact z
    have hl : (putK kvs k v).length ≤ sizeLine := by have := length_putK kvs k v; omega
    refine wpAny_setItem_pairs (hsz := hz) (kV_is ry) dd fun h' dd' hs => h _ ?_
    have he : ∃ q, h'.get? a = some q := let ⟨q, _, _, hq, _⟩ := dd'; ⟨q, hq⟩
    exact d_write I (by rw [e]; exact True.intro) hs he (dk_new hl hd (rel.put k rv) dd')
  · subst ey eH
    cases (show u = Value.ref b from ry)
    obtain ⟨z, hd, xs, rel, dd⟩ := dt_of I.hok e
    have hz : xs.length ≤ sizeLine := by rw [← Paired.length rel]; exact z
    have hl : (putK kvs k v).length ≤ sizeLine := by have := length_putK kvs k v; omega
    refine wpAny_setItem_heap (hsz := hz) (tupleKind_room_in1 hu) (key_of I.hok eb) dd fun h' dd' hs => h _ ?_
    obtain ⟨q, es, ep, hq, h2, h3, h4, _, h5⟩ := dd'
    refine d_write I (by rw [e]; exact True.intro) hs ⟨q, hq⟩ ⟨hl, hd, _, (rel.put k eb rv).keeps fun c ys ec => ?_, q, es, ep, hq, h2, h3, h4, h5⟩
    rw [upd_ne (ne_of ec e (fun z => nomatch z))]
    exact ec
end

section
variable {X : Cx} {pins : List (Addr × Obj)} {σ : St} {H : Hp} {s : Shared} {a : Addr} {kvs : List (Key × V)} {k : Key} {u : Value} {A : Around} {E : Value → Shared → Prop}
/-- del d[k] -/
theorem d_delItem {Q : Unit → Shared → Prop} (I : Inv X pins σ H s) (e : H a = some (.dK kvs)) (ry : RelV (kV k) u) (l : (valV kvs k).isSome = true) (h : ∀ s', Inv X pins σ (upd H a (.dK (dropK kvs k))) s' → Q () s') :
    wpAny (model X.prog X.w) A (delItem (.ref a) u) Q E s := by
  obtain ⟨z, hd, vs, rel, dd⟩ := dk_of I.hok e
  refine wpAny_delItem_slot dd.typeIs (by decide) PySem.F.slot_dict_delitem
    (call_meetsIn PySem.F.slot_dict_delitem dd.typeIs PySem.F.entry_dict_delitem (PySem.F.args_dict_delitem_2 _ _) (meets_dict_delitem_pairs (mixKind X.prog X.w) a (kV_is ry)) ⟨vs, dd, by rw [← rel.length]; exact z, by rw [← (rel.val k).isSome_eq]; exact l, fun h' dd' hs => h _ ?_⟩)
  have he : ∃ q, h'.get? a = some q := let ⟨q, _, _, hq, _⟩ := dd'; ⟨q, hq⟩
  exact d_write I (by rw [e]; exact True.intro) hs he (dk_new (Nat.le_trans (dropK_le kvs k) z) hd (rel.drop k) dd')
/-- d.pop(k[, x]), there -/
theorem d_pop {v : V} {more : List Value} {Q : Value → Shared → Prop} (I : Inv X pins σ H s) (e : H a = some (.dK kvs)) (ry : RelV (kV k) u) (l : valV kvs k = some v) (hm : more = [] ∨ ∃ x, more = [x])
    (h : ∀ w' s', Inv X pins σ (upd H a (.dK (dropK kvs k))) s' → RelV v w' → Q w' s') : wpAny (model X.prog X.w) A (call (.builtin "dict.pop") (.ref a :: u :: more)) Q E s := by
  obtain ⟨z, hd, vs, rel, dd⟩ := dk_of I.hok e
  obtain ⟨w', hw, rw'⟩ := RelO.some_of (v := v) (o := valueAt vs k) (by rw [← l]; exact rel.val k)
  have hp : (keyPart u).isSome = true := by
    cases k with
    | inl i => obtain ⟨t, q⟩ := (show ∃ t, u = Value.int i t from ry); subst q; rfl
    | inr x => obtain ⟨t, q⟩ := (show ∃ t, u = Value.str x t from ry); subst q; rfl
  have ha : argsOk "dict.pop" ⟨.ref a :: u :: more, []⟩ := by
    rcases hm with q | ⟨x, q⟩
    · subst q; exact PySem.F.args_dict_pop_2 _ _
    · subst q; exact PySem.F.args_dict_pop_3 _ _ _
  refine call_meetsIn PySem.F.slot_dict_pop dd.typeIs PySem.F.entry_dict_pop ha (meets_dict_pop_there (mixKind X.prog X.w) a (kV_is ry) more hm hp)
    ⟨vs, w', dd, by rw [← rel.length]; exact z, hw, fun h' dd' hs => h w' _ ?_ rw'⟩
  have he : ∃ q, h'.get? a = some q := let ⟨q, _, _, hq, _⟩ := dd'; ⟨q, hq⟩
  exact d_write I (by rw [e]; exact True.intro) hs he (dk_new (Nat.le_trans (dropK_le kvs k) z) hd (rel.drop k) dd')
/-- d.clear() -/
theorem d_clear {Q : Value → Shared → Prop} (I : Inv X pins σ H s) (e : H a = some (.dK kvs)) (h : ∀ s', Inv X pins σ (upd H a (.dK [])) s' → Q .none s') : wpAny (model X.prog X.w) A (call (.builtin "dict.clear") [.ref a]) Q E s := by
  obtain ⟨z, hd, vs, rel, dd⟩ := dk_of I.hok e
  refine call_meetsIn PySem.F.slot_dict_clear dd.typeIs PySem.F.entry_dict_clear (PySem.F.args_dict_clear_1 _) (meets_dict_clear (mixKind X.prog X.w) a) ⟨vs, dd, by rw [← rel.length]; exact z, fun h' dd' hs => h _ ?_⟩
  have he : ∃ q, h'.get? a = some q := let ⟨q, _, _, hq, _⟩ := dd'; ⟨q, hq⟩
  exact d_write (t' := s.toks) I (by rw [e]; exact True.intro) hs he (dk_new (Nat.zero_le _) hd .nil dd')
end

/-! ### readings and rules -/
/-- the element of a subscription, not a slice -/
def NoSl (i : Expr) : Prop := ∀ ov iv, subscripted i false ov iv = operate [ov, iv] (getItem ov iv)
theorem subD_of {prog : Program} {w : World} {A : Around} {E : Value → Shared → Prop} {s : Shared} {env : Env} {value slice : Expr} {pos : Pos} {T id : String} {Q : Value → Shared → Prop}
    (hl : typeLookup (.type T) "__getitem__" = pure (some (.builtin id))) (hs : NoSl slice)
    (h : wpAny (model prog w) A (eval value env) (fun o s₁ => wpAny (model prog w) A (eval slice env) (fun i s₂ => s₂.TypeIs o T ∧ wpAny (model prog w) A (getItem o i) Q E s₂) E s₁) E s) :
    wpAny (model prog w) A (eval (.Subscript value slice pos) env) Q E s := by
  refine Subscript_ (wpAny_mono h (fun o s₁ h₁ => wpAny_mono h₁ (fun i s₂ h₂ => ?_) fun _ _ x => x) fun _ _ x => x)
  obtain ⟨hT, h₂⟩ := h₂
  unfold subscriptTail
  refine wpAny_bind ?_
  rw [getitemInPython_of_ne hT.not_modules]
  refine wpAny_bind (wpAny_specialOf hT hl ?_)
  have fin : wpAny (model prog w) A (subscripted slice false o i) (fun r s₃ => wpAny (model prog w) A (letTemporaryGo value o r >>= fun _ => pure r) Q E s₃) E s₂ := by
    rw [hs o i]
    exact wpAny_operating (wpAny_mono h₂ (fun r s₃ h₃ => wpAny_bind (wpAny_letTemporaryGo (wpAny_pure h₃))) fun _ _ x => x)
  first
    | exact wpAny_pure (wpAny_bind fin)
    | exact wpAny_bind (wpAny_pure (wpAny_bind fin))
    | exact wpAny_bind fin

theorem dict_typeIs {X : Cx} {pins : List (Addr × Obj)} {σ : St} {H : Hp} {s : Shared} {a : Addr} {y : V} {o : Option V} (I : Inv X pins σ H s) (g : DGet H a y o) : s.TypeIs (.ref a) "dict" := by
  rcases g with ⟨kvs, k, e, _, _⟩ | ⟨kvs, k, b, e, _, _, _⟩
  · obtain ⟨_, _, vs, _, dd⟩ := dk_rd I.hok e
    exact dd.typeIs
  · obtain ⟨_, _, xs, _, dd⟩ := dt_rd I.hok e
    exact dd.typeIs
/-- d[y] -/
def tDGet (td ty : TE) : TE := fun σ H Q => td σ H fun x H1 => ty σ H1 fun y H2 => ∃ a v, x = .ref a ∧ DGet H2 a y (some v) ∧ Q v H2
/-- d[y] = v -/
def sDPut (td ty tv : TE) : TS := fun D σ H => tv σ H fun v H1 => td σ H1 fun x H2 => ty σ H2 fun y H3 => ∃ a H4, x = .ref a ∧ DPut H3 a y v H4 ∧ D.nx σ H4
section
variable {X : Cx} {o i e value : Expr} {pos pos' tpos : Pos} {td ty tv : TE}
theorem pe_dget (hu : X.A.units + 1 < cLine) (ho : PE X o td) (hi : PE X i ty) (hs : NoSl i) : PE X (.Subscript o i pos) (tDGet td ty) := by
  intro pins s σ H Q I h
  refine subD_of PySem.F.slot_dict_getitem.lookup hs (thn (ho pins s σ H _ I h) fun u s1 ⟨x, H1, I1, rx, q1⟩ => thn (hi pins s1 σ H1 _ I1 q1) fun iv s2 ⟨y, H2, I2, ry, a, v, ex, g, q2⟩ => ?_)
  subst ex
  obtain rfl : u = Value.ref a := rx
  exact ⟨dict_typeIs I2 g, d_getItem hu I2 g ry fun w' s3 I3 rw' => ⟨v, H2, I3, rw', q2⟩⟩
theorem ps_dput (hu : X.A.units + 1 < cLine) (ho : PE X o td) (hi : PE X i ty) (hv : PE X value tv) (hs : swapsWith value (some (.Subscript o i pos')) pos.line X.env = pure false) :
    PS X (.Assign [.Subscript o i pos'] value pos) (sDPut td ty tv) := by
  intro pins s σ H D I h
  refine wpAny_Assign_Subscript (thn (hv pins s σ H _ I h) fun r s1 ⟨v, H1, I1, rv, q1⟩ => thn (ho pins s1 σ H1 _ I1 q1) fun u s2 ⟨x, H2, I2, rx, q2⟩ => thn (hi pins s2 σ H2 _ I2 q2) fun iv s3 ⟨y, H3, I3, ry, a, H4, ex, g, q3⟩ => ?_) hs
  subst ex
  obtain rfl : u = Value.ref a := rx
  exact d_setItem hu I3 g ry rv fun s4 I4 => ⟨σ, H4, I4, q3⟩
end

/-! ### displays -/
theorem dk_empty {P : Program} {w : World} {H : Hp} (h : Heap) (hb : sysModules < h.objs.size) : ObjOk P w H (h.push { cls := .type "dict", data := .dict #[] }) h.objs.size (.dK []) :=
  ⟨Nat.zero_le _, beq_eq_false_iff_ne.mpr (Ne.symm (Nat.ne_of_lt hb)), [], .nil, Heap.DictOf.new h⟩
/-- {}, to be a dict of the kind that is wanted -/
def tDNewK : TE := fun _ H Q => ∀ p, H p = none → Q (.ref p) (upd H p (.dK []))
section
variable {X : Cx} {pos : Pos}
theorem pe_dnewK : PE X (.Dict [] [] pos) tDNewK := fun pins s σ H Q I h =>
  wpAny_Dict_empty ⟨.ref s.heap.objs.size, _, I.laid (a := s.heap.objs.size) (o := .dK []) (t' := s.toks) (fun _ _ q => Heap.get?_push_of_some _ q) (Nat.le_refl _) (dk_empty s.heap I.big), rfl, h _ (I.hok.fresh (Nat.le_refl _))⟩
end

/-- the pairs of a display, from the left -/
def tPairs : List (TE × TE) → St → Hp → (List (V × V) → Hp → Prop) → Prop
  | [], _, H, Q => Q [] H
  | (tk, tv) :: r, σ, H, Q => tk σ H fun x H1 => tv σ H1 fun y H2 => tPairs r σ H2 fun ps H3 => Q ((x, y) :: ps) H3
abbrev VV : List (V × V) → List (Value × Value) → Prop := Paired fun p q => RelV p.1 q.1 ∧ RelV p.2 q.2
def PPs (X : Cx) (pos : Pos) (keys : List (Option Expr)) (values : List Expr) (trs : List (TE × TE)) : Prop :=
  ∀ (pins : List (Addr × Obj)) (s : Shared) (σ : St) (H : Hp) (Q : List (V × V) → Hp → Prop), Inv X pins σ H s → tPairs trs σ H Q →
    wpAny (model X.prog X.w) X.A (evalPairs (pairTrees keys values X.env pos)) (fun vs s' => ∃ ps H', Inv X pins σ H' s' ∧ VV ps vs ∧ Q ps H') X.xe s
theorem pps_nil {X : Cx} {pos : Pos} : PPs X pos [] [] [] := fun pins s σ H Q I h => pairTrees_nil_walk ⟨[], H, I, .nil, h⟩
theorem pps_cons {X : Cx} {pos : Pos} {k v : Expr} {ks : List (Option Expr)} {vs : List Expr} {tk tv : TE} {trs : List (TE × TE)} (hk : PE X k tk) (hv : PE X v tv) (hr : PPs X pos ks vs trs) :
    PPs X pos (some k :: ks) (v :: vs) ((tk, tv) :: trs) := fun pins s σ H Q I h =>
  pairTrees_cons_walk (thn (hk pins s σ H _ I h) fun u s1 ⟨x, H1, I1, rx, q1⟩ => thn (hv pins s1 σ H1 _ I1 q1) fun w2 s2 ⟨y, H2, I2, ry, q2⟩ =>
    thn (hr pins s2 σ H2 _ I2 q2) fun ws s3 ⟨ps, H3, I3, rel, q3⟩ => ⟨(x, y) :: ps, H3, I3, .cons ⟨rx, ry⟩ rel, q3⟩)

def mergeK (kvs more : List (Key × V)) : List (Key × V) := more.foldl (fun acc kv => putK acc kv.1 kv.2) kvs
theorem KV.merge : ∀ {more : List (Key × V)} {rs : List (Key × Value)} {kvs : List (Key × V)} {vs : List (Key × Value)}, KV more rs → KV kvs vs → KV (mergeK kvs more) (merged vs rs) := by
  intro more rs kvs vs r
  unfold KV at r
  induction r generalizing kvs vs with
  | nil => intro q; exact q
  | @cons p q ps qs h t ih =>
    intro r0
    have e : KV (putK kvs p.1 p.2) (stored vs q.1 q.2) := by
      have := r0.put p.1 h.2
      rw [← h.1]; exact this
    exact ih e
theorem length_mergeK : ∀ (more kvs : List (Key × V)), (mergeK kvs more).length ≤ kvs.length + more.length
  | [], kvs => by show kvs.length ≤ kvs.length + 0; omega
  | p :: r, kvs => by
    have h1 := length_mergeK r (putK kvs p.1 p.2)
    have h2 := length_putK kvs p.1 p.2
    show (mergeK (putK kvs p.1 p.2) r).length ≤ _
    rw [List.length_cons]; omega
theorem carries_of {P : Program} {w : World} : ∀ {kvs : List (Key × V)} {ws : List (Value × Value)}, VV (kvs.map fun kv => (kV kv.1, kv.2)) ws → ∃ rs, Carries (mixKind P w) ws rs ∧ KV kvs rs
  | [], _, r => by rw [List.map_nil] at r; cases r; exact ⟨[], True.intro, .nil⟩
  | p :: kvs, _, r => by
    rw [List.map_cons] at r
    cases r with
    | @cons a b as bs h t =>
      obtain ⟨rs, c, q⟩ := carries_of (P := P) (w := w) t
      obtain ⟨b1, b2⟩ := b
      exact ⟨(p.1, b2) :: rs, ⟨kV_is h.1, rfl, c⟩, .cons ⟨rfl, h.2⟩ q⟩
/-- {k: v, ..} with keys ints and texts; the new dict stands empty while the pairs are made -/
def tDisp (trs : List (TE × TE)) : TE := fun σ H Q => ∀ p, H p = none → tPairs trs σ (upd H p (.dK [])) fun ps H2 => H2 p = some (.dK []) ∧ ∃ kvs : List (Key × V), ps = kvs.map (fun kv => (kV kv.1, kv.2)) ∧ kvs.length ≤ 15 ∧ Q (.ref p) (upd H2 p (.dK (mergeK [] kvs)))
theorem pe_disp {X : Cx} {pos : Pos} {keys : List (Option Expr)} {values : List Expr} {trs : List (TE × TE)} (h : PPs X pos keys values trs) (hall : keys.all (·.isSome) = true) (hl : keys.length = values.length) (h0 : keys ≠ [])
    (h15 : keys.length ≤ 15) : PE X (.Dict keys values pos) (tDisp trs) := by
  intro pins s σ H Q I q
  have hn := I.hok.fresh (Nat.le_refl s.heap.objs.size)
  have I1 := I.laid (a := s.heap.objs.size) (o := .dK []) (h' := s.heap.push { cls := .type "dict", data := .dict #[] }) (t' := s.toks) (fun _ _ q => Heap.get?_push_of_some _ q) (Nat.le_refl _) (dk_empty s.heap I.big)
  refine wpAny_Dict_walk (knd := mixKind X.prog X.w) hall hl h0 h15 (thn (h pins _ σ _ _ I1 (q _ hn)) fun ws s2 ⟨ps, H2, I2, rel, e, kvs, ep, lk, q2⟩ => ?_)
  subst ep
  obtain ⟨rs, c, rk⟩ := carries_of (P := X.prog) (w := X.w) rel
  obtain ⟨z, hd, vs0, r0, dd⟩ := dk_of I2.hok e
  cases r0
  refine ⟨rs, c, dd, fun h' dd' hs => ⟨.ref s.heap.objs.size, _, ?_, rfl, q2⟩⟩
  have hz : (mergeK [] kvs).length ≤ sizeLine := by
    have h1 := length_mergeK kvs []
    rw [List.length_nil] at h1
    rw [sizeLine_eq]; omega
  have he : ∃ q, h'.get? s.heap.objs.size = some q := let ⟨q, _, _, hq, _⟩ := dd'; ⟨q, hq⟩
  exact d_write I2 (by rw [e]; exact True.intro) hs he (dk_new hz hd (rk.merge .nil) dd')

/-! ### methods -/
/-- a method call o.m(e) of a built-in, with one argument: what must be seen of the text -/
structure M1 (X : Cx) (o : Expr) (m : Str) (apos : Pos) (e : Expr) (cpos : Pos) : Prop where
  base : attributeBase o m X.env (eval o X.env) = eval o X.env
  few : ((backTo cpos (starEach [e] X.env)).all (fun x => !x.1) && (backToKw cpos (keywordEach [] X.env)).all (fun x => x.1.isSome)
    && decide (([e] : List Expr).length + ([] : List Keyword).length + (if ([] : List Keyword).isEmpty then 0 else 1) < 30)) = true
  line : (apos.endLine == cpos.line) = true
  trees : backTo cpos (starEach [e] X.env) = [(false, eval e X.env)]
/-- a is a dict, whatever its keys -/
def IsD (H : Hp) (a : Addr) : Prop := (∃ kvs, Rd H a (.dK kvs)) ∨ ∃ kvs, Rd H a (.dT kvs)
theorem isD_at {X : Cx} {pins : List (Addr × Obj)} {σ : St} {H : Hp} {s : Shared} {a : Addr} (I : Inv X pins σ H s) (d : IsD H a) :
    s.TypeIs (.ref a) "dict" ∧ (∀ b, Value.ref a = .ref b → ∃ ob, s.heap.get? b = some ob ∧ ob.dict = none) ∧ (a == sysModules) = false := by
  rcases d with ⟨kvs, e⟩ | ⟨kvs, e⟩
  · obtain ⟨_, hd, vs, _, dd⟩ := dk_rd I.hok e
    refine ⟨dd.typeIs, fun b q => ?_, hd⟩
    cases q
    obtain ⟨ob, _, _, h1, h2, _⟩ := dd
    exact ⟨ob, h1, h2.2.1⟩
  · obtain ⟨_, hd, xs, _, dd⟩ := dt_rd I.hok e
    refine ⟨dd.typeIs, fun b q => ?_, hd⟩
    cases q
    obtain ⟨ob, _, _, h1, h2, _⟩ := dd
    exact ⟨ob, h1, h2.2.1⟩

section
variable {X : Cx} {pins : List (Addr × Obj)} {σ : St} {H : Hp} {s : Shared} {a : Addr} {y d : V} {u r : Value} {o : Option V} {A : Around} {E : Value → Shared → Prop}
/-- d.get(y) -/
theorem d_get1 {Q : Value → Shared → Prop} (hu : A.units + 1 < cLine) (I : Inv X pins σ H s) (g : DGet H a y o) (ry : RelV y u) (h : ∀ w' s', Inv X pins σ H s' → RelV (o.getD .non) w' → Q w' s') :
    wpAny (model X.prog X.w) A (call (.builtin "dict.get") [.ref a, u]) Q E s := by
  rcases g with ⟨kvs, k, e, ey, l⟩ | ⟨kvs, k, b, e, ey, eb, l⟩
  · subst ey
    obtain ⟨z, hd, vs, rel, dd⟩ := dk_rd I.hok e
    refine call_meetsIn PySem.F.slot_dict_get dd.typeIs PySem.F.entry_dict_get (PySem.F.args_dict_get_2 _ _) (meets_dict_get (mixKind X.prog X.w) a (kV_is ry) hd) ⟨_, dd.mapOf, h _ _ (I.tok _) ?_⟩
    rw [l]
    exact (rel.val k).getD rfl
  · subst ey
    cases (show u = Value.ref b from ry)
    obtain ⟨z, hd, xs, rel, dd⟩ := dt_rd I.hok e
    refine call_meetsIn PySem.F.slot_dict_get dd.typeIs PySem.F.entry_dict_get (PySem.F.args_dict_get_2 _ _) (meetsH_dict_get (tupleKind (mixKind X.prog X.w)) a b hd) ⟨tupleKind_room_in1 hu, k, xs, key_of I.hok eb, dd, h _ _ (I.tok _) ?_⟩
    rw [l]
    exact (rel.val k).getD rfl
end

def tDGet1 (td ty : TE) : TE := fun σ H Q => td σ H fun x H1 => ∃ a, x = .ref a ∧ IsD H1 a ∧ ty σ H1 fun y H2 => ∃ o, DGet H2 a y o ∧ Q (o.getD .non) H2
/-- d.pop(k): there; d.pop(k, x): there or not -/
def tDPop1 (td ty : TE) : TE := fun σ H Q => td σ H fun x H1 => ∃ a, x = .ref a ∧ IsD H1 a ∧ ty σ H1 fun y H2 => ∃ kvs k v, H2 a = some (.dK kvs) ∧ y = kV k ∧ valV kvs k = some v ∧ Q v (upd H2 a (.dK (dropK kvs k)))
section
variable {X : Cx} {o e f : Expr} {apos cpos : Pos} {td ty tx : TE}
theorem pe_dget1 (hu : X.A.units + 1 < cLine) (ho : PE X o td) (he : PE X e ty) (m : M1 X o "get" apos e cpos) : PE X (.Call (.Attribute o "get" apos) [e] [] cpos) (tDGet1 td ty) := by
  intro pins s σ H Q I h
  refine wpAny_Call_method m.base m.few m.line PySem.F.plainAttrs_dict PySem.F.slot_dict_get PySem.F.type_dict_get (thn (ho pins s σ H _ I h) fun u s1 ⟨x, H1, I1, rx, a, ex, d, q1⟩ => ?_)
  subst ex
  obtain rfl : u = Value.ref a := rx
  obtain ⟨t1, t2, _⟩ := isD_at I1 d
  refine ⟨t1, t2, ?_⟩
  rw [m.trees]
  refine Calls.callWith_builtin rfl (Calls.evalArgs_plain (Calls.spliced_cons (thn (he pins s1 σ H1 _ I1 q1) fun iv s2 ⟨y, H2, I2, ry, ov, g, q2⟩ => Calls.spliced_nil ?_)))
  exact d_get1 hu I2 g ry fun w' s3 I3 rw' => ⟨_, H2, I3, rw', q2⟩
theorem pe_dpop1 (ho : PE X o td) (he : PE X e ty) (m : M1 X o "pop" apos e cpos) : PE X (.Call (.Attribute o "pop" apos) [e] [] cpos) (tDPop1 td ty) := by
  intro pins s σ H Q I h
  refine wpAny_Call_method m.base m.few m.line PySem.F.plainAttrs_dict PySem.F.slot_dict_pop PySem.F.type_dict_pop (thn (ho pins s σ H _ I h) fun u s1 ⟨x, H1, I1, rx, a, ex, d, q1⟩ => ?_)
  subst ex
  obtain rfl : u = Value.ref a := rx
  obtain ⟨t1, t2, _⟩ := isD_at I1 d
  refine ⟨t1, t2, ?_⟩
  rw [m.trees]
  refine Calls.callWith_builtin rfl (Calls.evalArgs_plain (Calls.spliced_cons (thn (he pins s1 σ H1 _ I1 q1) fun iv s2 ⟨y, H2, I2, ry, kvs, k, v, ea, ey, l, q2⟩ => Calls.spliced_nil ?_)))
  subst ey
  exact d_pop I2 ea ry l (.inl rfl) fun w' s3 I3 rw' => ⟨v, _, I3, rw', q2⟩
end

/-! ### dict(d): a copy -/
section
variable {X : Cx} {pins : List (Addr × Obj)} {σ : St} {H : Hp} {s : Shared} {a : Addr} {kvs : List (Key × V)} {A : Around} {E : Value → Shared → Prop}
theorem d_copyOf {Q : Value → Shared → Prop} (I : Inv X pins σ H s) (e : Rd H a (.dK kvs)) (h : ∀ p s', H p = none → Inv X pins σ (upd H p (.dK kvs)) s' → Q (.ref p) s') : wpAny (model X.prog X.w) A (call (.type "dict") [.ref a]) Q E s := by
  obtain ⟨z, hd, vs, rel, dd⟩ := dk_rd I.hok e
  refine kt_call_dict hd dd (by rw [← rel.length]; exact z) fun h' dd' hs => ?_
  refine h _ _ (I.hok.fresh (Nat.le_refl _)) (I.laid (a := s.heap.objs.size) (o := .dK kvs) (t' := s.toks) (fun b q hq => ?_) (Nat.le_refl _) (dk_new z (beq_eq_false_iff_ne.mpr (Ne.symm (Nat.ne_of_lt I.big))) rel dd'))
  exact (hs.2 b (Nat.ne_of_lt (Heap.lt_size hq))).trans (Heap.get?_push_of_some _ hq)
end

section
variable {X : Cx} {pins : List (Addr × Obj)} {σ : St} {H : Hp} {s : Shared} {a : Addr} {y : V} {u : Value} {A : Around} {E : Value → Shared → Prop}
end
end L2

namespace Att
open PySem PySem.W PySem.Calls PyProof.Rows

/-! ### the script -/
theorem ints_of_wellAll {P : Params} {h : Heap} : ∀ (ns : List Int) (vs : List Value), WellAll P h vs (ns.map WData.int) → IntsAre vs ns := by
  intro ns
  induction ns with
  | nil =>
    intro vs w
    rw [List.map_nil] at w
    cases w
    exact .nil
  | cons n ns ih =>
    intro vs w
    rw [List.map_cons] at w
    cases w with
    | cons a b =>
      cases a
      exact .cons _ _ (ih _ b)

theorem script_of {l : OpenLaw} {n : Nat} (hn : l.most = some n) {P : Params} {h : Heap} {args : List WData} {vals : List Value}
    (hpre : l.row.toRowW.claim.pre args = true) (hwl : WellAll P h vals args) :
    ∃ a vs ns, vals = [Value.ref a] ∧ args = [WData.list (ns.map WData.int)] ∧ h.get? a = some { cls := .type "list", data := .seq vs.toArray } ∧ IntsAre vs ns ∧ ns.length ≤ n := by
  have hsh : WShape.hasAll [] args [.list .int] = true := (pre_splitW hpre).1
  have hc : l.pre.holds [] { args := args } = true := (pre_splitW hpre).2
  obtain ⟨d, r, rfl, h1, h2⟩ := hasAllW_cons hsh
  obtain rfl := hasAllW_nil h2
  obtain ⟨xs, rfl, h3⟩ := hasW_list h1
  obtain ⟨ns, rfl⟩ := items_int h3
  have hlen : ns.length ≤ n := by
    unfold OpenLaw.pre at hc
    have h4 : (WTm.not (.lt (.lit (.int (n : Int))) (.len (.arg 0)))).holds [] { args := [.list (ns.map .int)] } = true := by
      have h4 := (holds_andW hc).1
      rw [hn] at h4
      exact h4
    have h5 := condW_of h4 (w_not (w_lt w_lit (w_len_list (w_arg rfl))))
    rw [List.length_map] at h5
    refine Nat.le_of_not_lt fun q => ?_
    have q' : (n : Int) < ((ns.length : Nat) : Int) := by omega
    first
      | (rw [decide_eq_true q'] at h5; exact absurd h5 (by decide))
      | (simp at h5; omega)
  cases hwl with
  | cons w1 w2 =>
    cases w2
    cases w1 with
    | list ho hall => exact ⟨_, _, ns, rfl, rfl, ho, ints_of_wellAll ns _ hall, hlen⟩

theorem post_true (l : OpenLaw) (args : List WData) : l.row.toRowW.claim.post args (.bool true) args = true :=
  postW_of (r := l.row.toRowW) (X := (true == true))
    (show WShape.has [] (.bool true) .bool = true by first | rfl | decide | simp [WShape.has, WShape.arms, WShape.armsAll])
    (show (WTm.eq .res (.lit (.bool true))).value [] { args := args, res := some (.bool true), after := args } = some (.bool (true == true)) from w_eq_bool (w_res rfl) w_lit) rfl

/-! ### the attachment: holds_open's last premise (the goal 'hc' behind k_head) from a wpAny of the law's body -/
/-- the same from a codeAny of the CALL (for a layer whose function contracts speak of calls) -/
theorem attach_call {l : OpenLaw} {n : Nat} {q : Program} {loose : List Str} {XP : (Str → Option Value) → Heap → Prop} {YP : World → Heap → Prop} {d : DefRec}
    (hn : l.most = some n) (hdf : d.params.defaults = [])
    (call : ∀ (w : World) (s₀ s₁ : Shared) (mg mb : Str → Option Value) (fa : Addr) (o : Obj) (pm cd doc : Value) (a : Addr) (vs : List Value) (ns : List Int),
      Ground q loose [] XP w s₀ mg mb s₁.heap → YP w s₁.heap →
      s₁.heap.get? fa = some o → o.data = .func (docDef d.name d.params d.body d.scope pm cd doc) → s₁.heap.CodeRec cd d.name → mg d.name = some (.ref fa) →
      s₁.heap.get? a = some { cls := .type "list", data := .seq vs.toArray } → IntsAre vs ns → ns.length ≤ n → s₁.gens = #[] →
      codeAny (model l.prog w) callerA (.call (.ref fa) ⟨[.ref a], []⟩) (fun r s' => r = .ok (.ret (.bool true)) ∧ OldK s₁.heap s'.heap ∧ s'.os = s₁.os ∧ AllBare s'.gens) s₁) :
    WalkO q loose XP YP l.row.toRowW d [] (fun f vs => PySem.call f vs) := by
  intro w s₀ s₁ mg mb G Y fa o pm cd doc dV kV ho hd hcd hD hmg hg args vals as hpre hlay hrd hwl hlo
  obtain rfl : dV = .none := Dflts.none hD hdf
  obtain rfl : kV = .none := Dflts.noKw hD
  obtain ⟨a, vs, ns, rfl, rfl, hobj, hints, hlen⟩ := script_of hn hpre hwl
  refine enter_call (codeAny_mono (call w s₀ s₁ mg mb fa o pm cd doc a vs ns G Y ho (fd_plain hd) hcd hmg hobj hints hlen hg) fun r s' hq => ?_)
  obtain ⟨rfl, h2, h3, h4⟩ := hq
  exact ⟨.inl ⟨.bool true, .bool true, [], rfl, fun _ => rfl, .bool true, post_true l _, fun _ => ⟨List.Pairwise.nil, fun _ hm => (nomatch hm)⟩⟩, h2, h3, h4⟩

/-! ### rules over ANY heap (no ledger) from facts about the written part K: the library's own take a ledger (News) for what they write -/
section
variable {prog : Program} {w : World} {A : Around} {E : Value → Shared → Prop} {s : Shared} {K : Frag}

/-! the whole heap as the ledger: makes every rule that writes through a ledger a rule over any heap -/
end
end Att

namespace L2
open PySem PySem.Spec PyProof.Rows

theorem vals_ints : ∀ {vs : List Value} {ns : List Int}, IntsAre vs ns → Vals (ns.map V.int) vs
  | _, _, .nil => .nil
  | _, _, .cons n t h => .cons ⟨t, rfl⟩ (vals_ints h)

/-- nothing is tracked but the script, known to the object (or it is an object of the module) -/
def Only (H : Hp) : Prop := ∀ b, H b = none ∨ ∃ o xs, H b = some (.frz o (.lst xs))

/-- THE HEAD: the law's promise, at the heap behind the top. F, the promise of the law's def, may use that base is part of the heap (so K.In base, base.Ns mainGlobals mg stand in Mod) -/
theorem law_call {P : Program} {w : World} {K : PySem.W.Frag} {mg mb : Str → Option Value} {CX : CXT} {k : Nat} {fa a : Addr} {fd : FuncData} {x : Str} {sp : Sp} {s₁ : Shared} {vs : List Value} {ns : List Int}
    (KX : K.In s₁.heap) (hns : s₁.heap.Ns mainGlobals mg) (hb : s₁.heap.Ns builtinsNs mb) (hbb : ∀ x : Str, x ≠ "__name__" → mb x = bootBuiltins x) (hlim : s₁.heap.NoLimit) (hg : s₁.gens = #[])
    (ha : s₁.heap.get? a = some { cls := .type "list", data := .seq vs.toArray }) (hi : IntsAre vs ns) (hl : ns.length ≤ sizeLine) (hr : Room k callerA)
    (F : ∀ base : Heap, K.In base → base.Ns mainGlobals mg → FnOk P w K mg base CX k fa fd [x] sp) (hbind : ∀ (s : Shared) (u : Value), BindsTo s fd ⟨[u], []⟩ [(x, u)])
    (hsp : ∀ H : Hp, Only H → SqL K H a (ns.map V.int) → sp [.ref a] H (fun v _ => v = .bl true) fun _ _ _ => False)
    (hCX : ∀ H e s', CX [] H s₁ (fun _ _ _ => False) e s' → False) :
    codeAny (model P w) callerA (.call (.ref fa) ⟨[.ref a], []⟩) (fun r s' => r = .ok (.ret (.bool true)) ∧ OldK s₁.heap s'.heap ∧ s'.os = s₁.os ∧ AllBare s'.gens) s₁ := by
  have rv := vals_ints hi
  have lenV := hi.length
  -- from an abstract heap in which nothing but the script may be tracked
  have core : ∀ H : Hp, Only H → SqL K H a (ns.map V.int) → HOk P w H s₁.heap → (∀ b, H b ≠ none → b = a) → (H a ≠ none → K.lookup a = none) →
      codeAny (model P w) callerA (.call (.ref fa) ⟨[.ref a], []⟩) (fun r s' => r = .ok (.ret (.bool true)) ∧ OldK s₁.heap s'.heap ∧ s'.os = s₁.os ∧ AllBare s'.gens) s₁ := by
    intro H hO hS hok hA hK
    have base_of : ∀ {b : Addr} {o : Obj}, s₁.heap.get? b = some o → H b = none → (hidT s₁.heap H).get? b = some o := fun e n => hidT_get e n
    have noA : ∀ {b : Addr} {o : Obj} {es : Array DictEntry} {ep : Nat}, s₁.heap.get? b = some o → o.data = .dict es ep → H b = none := fun {b o es ep} e d => by
      cases q : H b with
      | none => rfl
      | some u =>
        have e' : b = a := hA b (by rw [q]; simp)
        subst e'
        rw [ha] at e; cases e
        have d' : Data.seq vs.toArray _ = Data.dict es ep := d
        cases d'
    have nsK : ∀ {b : Addr} {m : Str → Option Value}, s₁.heap.Ns b m → (hidT s₁.heap H).Ns b m := fun {b m} ⟨o, es, ep, e, d, r⟩ => ⟨o, es, ep, base_of e (noA e d), d, r⟩
    have hKb : K.In (hidT s₁.heap H) := fun b o e => base_of (KX b o e) (by
      cases q : H b with
      | none => rfl
      | some u =>
        have e' : b = a := hA b (by rw [q]; simp)
        subst e'
        rw [hK (by rw [q]; simp)] at e; cases e)
    have hM : Mod K mg (hidT s₁.heap H) := ⟨hKb, nsK hns, ⟨mb, nsK hb, hbb⟩, let ⟨mc, h1, h2⟩ := hlim; ⟨mc, nsK h1, h2⟩⟩
    have e0 : Env0 P w K mg (hidT s₁.heap H) callerA [] s₁ H := ⟨rfl, hM, fun b o e => of_hidT e, Nat.le_of_eq (hidT_size _ _), trivial, fun b hb => absurd (show b ∈ ([] : List Addr) from hb) (by simp), hok, .of_eq hg⟩
    refine codeAny_mono ((F _ hKb (nsK hns)).run callerA [] s₁ H ⟨[.ref a], []⟩ [.ref a] [.ref a] _ _ hr e0 (hbind s₁ (.ref a)) (.cons rfl .nil) (hsp H hO hS)) fun r s' h => ?_
    cases r with
    | error e => exact (hCX H e s' h).elim
    | ok fl =>
      cases fl with
      | next => exact False.elim h
      | brk => exact False.elim h
      | cont => exact False.elim h
      | ret u =>
        obtain ⟨v, H', os, bare, un, hok', r', q⟩ := h
        have q' : v = .bl true := q
        subst q'
        obtain rfl : u = Value.bool true := r'
        refine ⟨rfl, OldK.of_keep fun b o e => ?_, os, bare⟩
        cases q : H b with
        | none => exact un.keep b o e q (by intro z; exact absurd (show b ∈ ([] : List Addr) from z) (by simp)) (by simp)
        | some u =>
          rcases hO b with z | ⟨ob, xs, z⟩
          · rw [q] at z; cases z
          · have z2 := un.frzs b ob _ z
            obtain ⟨e1, _⟩ := hok b _ z
            obtain ⟨e2, _⟩ := hok' b _ z2
            rw [e] at e1; cases e1
            exact e2
  cases hk : K.lookup a with
  | some o =>
    -- the script is one of the module's own objects
    have e := KX a o hk
    rw [ha] at e
    cases e
    refine core (fun _ => none) (fun _ => .inl rfl) (.inr ⟨_, vs.toArray, _, hk, rfl, rfl, rfl, by rw [List.size_toArray, lenV]; exact hl, by simpa using rv⟩) (fun b u z => by have z' : (none : Option HO) = some u := z; cases z') (fun b z => absurd rfl z) fun z => absurd rfl z
  | none =>
    refine core (fun b => if b = a then some (.frz { cls := .type "list", data := .seq vs.toArray } (.lst (ns.map V.int))) else none) (fun b => ?_) (.inl (.inr ⟨{ cls := .type "list", data := .seq vs.toArray }, if_pos rfl⟩)) (fun b u z => ?_) (fun b z => ?_) fun _ => hk
    · by_cases hb : b = a
      · exact .inr ⟨_, _, if_pos hb⟩
      · exact .inl (if_neg hb)
    · by_cases hb : b = a
      · have z' := (if_pos hb).symm.trans z
        cases z'
        subst hb
        exact ⟨ha, by rw [List.length_map]; exact hl, vs, _, rv, ha⟩
      · have z' := (if_neg hb).symm.trans z
        cases z'
    · by_cases hb : b = a
      · exact hb
      · exact absurd (if_neg hb) z
end L2

namespace L2
open PySem PySem.Spec PyProof.Rows

/-- the goal that k_head leaves (case hc), from the law's promise. F gives the function object fd (K's own) once, then the promise over every base -/
theorem walk_of {l : PySem.W.OpenLaw} {n k : Nat} {q : Program} {loose : List Str} {XP : (Str → Option Value) → Heap → Prop} {YP : World → Heap → Prop} {d : DefRec} {K : Params → PySem.W.Frag} {CX : World → CXT} {sp : World → Sp} {x : Str}
    (hn : l.most = some n) (hn2 : n ≤ sizeLine) (hdf : d.params.defaults = []) (hr : Room k callerA)
    (hY : ∀ (w : World) (h : Heap), YP w h → (K w.params).In h)
    (F : ∀ (w : World) (mg : Str → Option Value) (fa : Addr) (h : Heap), (K w.params).In h → h.Ns mainGlobals mg → mg d.name = some (.ref fa) →
      ∃ fd : FuncData, (∀ (s : Shared) (u : Value), BindsTo s fd ⟨[u], []⟩ [(x, u)]) ∧
        ∀ base : Heap, (K w.params).In base → base.Ns mainGlobals mg → FnOk l.prog w (K w.params) mg base (CX w) k fa fd [x] (sp w))
    (hsp : ∀ (w : World) (H : Hp) (a : Addr) (ns : List Int), ns.length ≤ n → Only H → SqL (K w.params) H a (ns.map V.int) → sp w [.ref a] H (fun v _ => v = .bl true) fun _ _ _ => False)
    (hCX : ∀ (w : World) (H : Hp) (s : Shared) (e : Value) (s' : Shared), CX w [] H s (fun _ _ _ => False) e s' → False) :
    PySem.W.WalkO q loose XP YP l.row.toRowW d [] (fun f vs => PySem.call f vs) := by
  refine Att.attach_call hn hdf fun w s₀ s₁ mg mb fa o pm cd doc a vs ns G Y ho hd hcd hmg hobj hints hlen hg => ?_
  have KX := hY w _ Y
  obtain ⟨fd, hb, hF⟩ := F w mg fa _ KX G.T.g hmg
  exact law_call KX G.T.g G.T.b G.T.builtins G.T.nolimit hg hobj hints (Nat.le_trans hlen hn2) hr hF hb (fun H hO hS => hsp w H a ns hlen hO hS) fun H e s' => hCX w H s₁ e s'
end L2

/- THE LAST THEOREM (shape; LID, My.* are yours):
   My.Adr: a structure of the addresses that your layer names (classes, functions); My.Txt K t: a structure (Prop) of the equations over K;
   My.txt_mk : {K} {implicit addresses ..} (e1 : nsIn K mainGlobals "law" = some (some (.ref f))) (e2 : K.lookup f = some ⟨oc, od, .func (fnOf "law" "law" params body scope dV kV doc pm an cdv ct), sl⟩) (e3 : codeIn K cdv "law" = true) .. : ∃ t, My.Txt K t

set_option maxRecDepth 100000 in
set_option maxHeartbeats 0 in
theorem PySem.Challenge.cw_LID_holds : PySem.Challenge.rw_LID.Holds := by
  w_on; o_law; k_head; (case hw => w_witness2)
  k_fill
  refine L2.walk_of (l := PySem.Challenge.rw_LID) (n := 63) (k := 40) (x := "script") (CX := fun w => ..) (sp := fun _ => My.sp_law) rfl (by decide) rfl ⟨rfl, by decide, by decide⟩ (fun w h Y => PySem.W.kIn_of Y) ?F ?S ?C
  case F =>
    intro w mg fa h KX G hmg
    have T : ∃ t, My.Txt (L2.KOf KX) t := by
      dsimp only [L2.KOf]                          -- K must stand as «<heap const> w.params» for k_is
      refine' My.txt_mk ?e1 ?e2 ?e3 ..
      (case e1 => PySem.W.k_is)                    -- in the order: a name -> its address -> its object -> its parts
      (case e2 => PySem.W.k_is)
      ..
    obtain ⟨t, T⟩ := T
    have e0 := hmg.symm.trans (PySem.W.mg_of KX G T.law)
    cases e0                                       -- fa is the law's own address
    exact ⟨_, fun s u => .of_eq rfl, fun base kb nb => My.law_fn T kb nb⟩     -- if «.of_eq rfl» comes too early: refine' ⟨_, ?b, fun base kb nb => My.law_fn T kb nb⟩; exact fun s u => .of_eq rfl
  case S => exact fun w H a ns hl hO hS => ..
  case C => exact ..
(the tactic k_is has no namespace: write k_is) -/

/-! SHORT WORDS over the layer: a def of the text, its body, what a loop and a test want. -/
namespace L2
open PySem PySem.Spec PyProof.Rows

/-! ### the text by places -/
/-- the j-th statement of a class's body -/
def inClass (s : Stmt) (j : Nat) : Stmt := match s with
  | .ClassDef _ _ _ body _ _ _ _ _ _ _ => body.getD j (.Pass ⟨0, 0, 0, 0⟩)
  | _ => .Pass ⟨0, 0, 0, 0⟩
def defArgs (s : Stmt) : Arguments := match s with
  | .FunctionDef _ a _ _ _ _ _ _ _ _ => a
  | _ => { posonlyargs := [], args := [], vararg := none, kwonlyargs := [], kw_defaults := [], kwarg := none, defaults := [] }
def defBody (s : Stmt) : List Stmt := match s with
  | .FunctionDef _ _ b _ _ _ _ _ _ _ => b
  | _ => []
def defScope (s : Stmt) : Scope := match s with
  | .FunctionDef _ _ _ _ _ _ sc _ _ _ => sc
  | _ => { kind := .function, names := [], isGenerator := false, isCoroutine := false }

/-! ### no exception leaves a def -/
abbrev CX0 : CXT := fun _ _ _ _ _ _ => False
abbrev E0 : XK := fun _ _ _ => False
theorem pass0 {X : Cx} : Passes CX0 X E0 := fun _ _ _ _ _ _ _ h => h.elim

/-! ### a def (or method) of the text as it stands behind the top -/
structure Fun (K : PySem.W.Frag) (x qual : Str) (st : Stmt) (f : Addr) (fd : FuncData) : Prop where
  ex : ∃ (oc : Value) (od : Option Addr) (kV doc pm : Value) (an : Option Addr) (cdv ct : Value) (osl : Array (Option Value)),
    fd = PySem.W.fnOf x qual (defArgs st) (defBody st) (defScope st) .none kV doc pm an cdv ct ∧ K.lookup f = some ⟨oc, od, .func fd, osl⟩ ∧ PySem.W.codeIn K cdv qual = true
  kp : PySem.W.keepIn K (.ref f) = true
section
variable {P : Program} {w : World} {K : PySem.W.Frag} {mg : Str → Option Value} {base : Heap}
/-- THE RULE for a def: its body as a term of rules, and the reading of that term -/
theorem Fun.ok {x qual : Str} {st : Stmt} {f : Addr} {fd : FuncData} {N ps : List Str} {k : Nat} {sp : Sp} (F : Fun K x qual st f fd) (S : FnScope N ps (defScope st)) (len : ∀ vs H Q E, sp vs H Q E → vs.length = ps.length)
    (hbody : ∀ (cdv : Value) (A : Around) (outer : List Env) (s : Shared) (H : Hp) (vs : List V) (Q : VK) (E : XK), Room k (A.deeper (envOfC qual (defScope st) s.heap.objs.size f cdv)) → sp vs H Q E →
      ∃ t, PSs (cxOf CX0 P w K mg base N qual (defScope st) f cdv A outer s H E).nox (defBody st) t ∧ t { nx := fun _ H' => Q .non H', rt := Q } (start N vs) H) : FnOk P w K mg base CX0 (k + 1) f fd ps sp := by
  obtain ⟨oc, od, kV, doc, pm, an, cdv, ct, osl, rfl, lk, hcd⟩ := F.ex
  refine fn_of lk hcd S len fun A outer s H vs Q E hr hsp => ?_
  obtain ⟨t, h, q⟩ := hbody cdv A outer s H vs Q E hr hsp
  exact ⟨t, h.nox, q⟩
/-- how its arguments bind (no defaults): h is «fun _ _ _ _ _ _ us hl => by obtain ⟨v0, v1, rfl⟩ := L2.ln2 hl; rfl», one _ a parameter -/
theorem Fun.binds {x qual : Str} {st : Stmt} {f : Addr} {fd : FuncData} {ps : List Str} (F : Fun K x qual st f fd)
    (h : ∀ (kV doc pm : Value) (an : Option Addr) (cdv ct : Value) (us : List Value), us.length = ps.length → bindArgs (PySem.W.fnOf x qual (defArgs st) (defBody st) (defScope st) .none kV doc pm an cdv ct) ⟨us, []⟩ = pure (ps.zip us)) : Binds K fd ps [] := by
  obtain ⟨oc, od, kV, doc, pm, an, cdv, ct, osl, rfl, lk, hcd⟩ := F.ex
  exact .all (h kV doc pm an cdv ct)
theorem fun_mk {x qual : Str} {st : Stmt} {f : Addr} {oc : Value} {od an : Option Addr} {osl : Array (Option Value)} {kV doc pm cdv ct : Value} (l : K.lookup f = some ⟨oc, od, .func (PySem.W.fnOf x qual (defArgs st) (defBody st) (defScope st) .none kV doc pm an cdv ct), osl⟩)
    (c : PySem.W.codeIn K cdv qual = true) (k : PySem.W.keepIn K (.ref f) = true) : Fun K x qual st f (PySem.W.fnOf x qual (defArgs st) (defBody st) (defScope st) .none kV doc pm an cdv ct) := ⟨⟨oc, od, kV, doc, pm, an, cdv, ct, osl, rfl, l, c⟩, k⟩
end
theorem hu_of {A : Around} {k : Nat} (hr : Room k A) : A.units + 1 < cLine := Nat.lt_of_le_of_lt (Nat.add_le_add_left (by decide : 1 ≤ 64) _) hr.units
/-! ### expressions in short: the name that stands in the i-th slot -/
section
variable {X : Cx}
theorem pv (i : Nat) {x : Str} {pos : Pos} (hN : X.N[i]? = some x := by rfl) (hv : Vis X.env.scope x := by first | exact Or.inl rfl | exact Or.inr (Or.inl rfl) | exact Or.inr (Or.inr rfl)) (hd : (x == ("__debug__" : Str)) = false := by decide)
    (hcd : (x == ("__classdict__" : Str)) = false := by decide) : PE X (.Name x pos) (tVar i) := pe_var hN hv hd hcd
end

/-! ### tests -/
theorem iteF {A B : Prop} (h : B) : if false = true then A else B := by
  rw [if_neg Bool.false_ne_true]
  exact h
theorem iteT {A B : Prop} (h : A) : if true = true then A else B := by
  rw [if_pos rfl]
  exact h
theorem ite2 {c A B : Prop} [Decidable c] (h1 : c → A) (h2 : ¬ c → B) : if c then A else B := by
  by_cases h : c
  · rw [if_pos h]
    exact h1 h
  · rw [if_neg h]
    exact h2 h
/-! ### heaps -/
/-- all that was tracked is as it was -/
def Same (H H' : Hp) : Prop := ∀ b o, H b = some o → H' b = some o
theorem Same.refl (H : Hp) : Same H H := fun _ _ h => h
theorem Same.trans {H H1 H2 : Hp} (a : Same H H1) (b : Same H1 H2) : Same H H2 := fun c o h => b c o (a c o h)
theorem Same.seq {K : PySem.W.Frag} {H H' : Hp} {a : Addr} {xs : List V} (e : Same H H') (h : SqL K H a xs) : SqL K H' a xs := by
  rcases h with (h | ⟨o, h⟩) | h
  · exact .inl (.inl (e _ _ h))
  · exact .inl (.inr ⟨o, e _ _ h⟩)
  · exact .inr h

section
variable {X : Cx}
end
/-! ### a dict's pairs: keys that differ -/
section
variable {κ : Type} [DecidableEq κ]
end
end L2

/-! MORE OF THE HAND LAYER (own work): comprehensions, texts walked and sliced, all, any, isinstance. -/
namespace L2
open PySem PySem.Spec PyProof.Rows

/-! ### the cells that a comprehension's block takes over -/
def closF (env : Env) (cs : List (Str × Addr)) (y : Str × NameKind) : List (Str × Addr) :=
  if (y.2 == NameKind.free) = true then (y.1, (env.cells.lookup y.1).getD 0) :: cs else cs
def closL (env : Env) (names : List (Str × NameKind)) : List (Str × Addr) := names.foldl (closF env) []
theorem clos_from {env : Env} : ∀ (names : List (Str × NameKind)) (cs : List (Str × Addr)), (∀ y ∈ names, y.2 = .free → ∃ c, env.cells.lookup y.1 = some c) →
    (forIn names cs fun y r => (if (y.2 == NameKind.free) = true then do let a ← cellOf env y.1; pure (ForInStep.yield ((y.1, a) :: r)) else pure (ForInStep.yield r) : Sem (ForInStep (List (Str × Addr))))) = pure (names.foldl (closF env) cs)
  | [], cs, _ => rfl
  | y :: r, cs, h => by
    rw [List.forIn_cons, List.foldl_cons]
    by_cases hy : (y.2 == NameKind.free) = true
    · obtain ⟨c, hc⟩ := h y List.mem_cons_self (eq_of_beq hy)
      have e : cellOf env y.1 = pure c := by unfold cellOf; rw [hc]
      rw [if_pos hy, e, pure_bind, pure_bind]
      have e2 : closF env cs y = (y.1, c) :: cs := by unfold closF; rw [if_pos hy, hc]; rfl
      rw [e2]
      exact clos_from r _ fun z hz => h z (List.mem_cons_of_mem _ hz)
    · rw [if_neg hy, pure_bind]
      have e2 : closF env cs y = cs := by unfold closF; rw [if_neg hy]
      rw [e2]
      exact clos_from r _ fun z hz => h z (List.mem_cons_of_mem _ hz)
theorem clos_ok {env : Env} {scope : Scope} (h : ∀ y ∈ scope.names, y.2 = .free → ∃ c, env.cells.lookup y.1 = some c) : closureFor scope env = pure (closL env scope.names) := by
  have e := clos_from (env := env) scope.names [] h
  unfold closL
  rw [← e]
  simp only [closureFor, bind_pure_comp, map_pure, bind_pure]
theorem clos_sub {env : Env} : ∀ (names : List (Str × NameKind)) (cs : List (Str × Addr)), (∀ y ∈ names, y.2 = .free → ∃ c, env.cells.lookup y.1 = some c) → (∀ x c, cs.lookup x = some c → env.cells.lookup x = some c) →
    ∀ x c, (names.foldl (closF env) cs).lookup x = some c → env.cells.lookup x = some c
  | [], cs, _, hc, x, c, e => hc x c e
  | y :: r, cs, h, hc, x, c, e => by
    rw [List.foldl_cons] at e
    refine clos_sub r _ (fun z hz => h z (List.mem_cons_of_mem _ hz)) (fun z d q => ?_) x c e
    unfold closF at q
    by_cases hy : (y.2 == NameKind.free) = true
    · obtain ⟨c', hc'⟩ := h y List.mem_cons_self (eq_of_beq hy)
      rw [if_pos hy, List.lookup_cons, hc'] at q
      cases hz : z == y.1 with
      | true =>
        rw [hz] at q
        have q' : c' = d := Option.some.inj q
        rw [eq_of_beq hz, hc', q']
      | false =>
        rw [hz] at q
        exact hc z d q
    · rw [if_neg hy] at q
      exact hc z d q
theorem clos_has {env : Env} : ∀ (names : List (Str × NameKind)) (cs : List (Str × Addr)) (x : Str), ((x, NameKind.free) ∈ names ∨ ∃ c, cs.lookup x = some c) → ∃ c, (names.foldl (closF env) cs).lookup x = some c
  | [], cs, x, h => by
    rcases h with h | h
    · cases h
    · exact h
  | y :: r, cs, x, h => by
    rw [List.foldl_cons]
    refine clos_has r _ x ?_
    rcases h with h | ⟨c, h⟩
    · rcases List.mem_cons.mp h with e | e
      · subst e
        refine .inr ⟨(env.cells.lookup x).getD 0, ?_⟩
        unfold closF
        rw [if_pos (show ((x, NameKind.free).2 == NameKind.free) = true from rfl), List.lookup_cons, beq_self_eq_true]
      · exact .inl e
    · refine .inr ?_
      unfold closF
      by_cases hy : (y.2 == NameKind.free) = true
      · rw [if_pos hy, List.lookup_cons]
        cases hz : x == y.1 with
        | true => exact ⟨_, rfl⟩
        | false => exact ⟨c, h⟩
      · rw [if_neg hy]
        exact ⟨c, h⟩

/-! ### a comprehension's block -/
/-- the context in which its element and its tests run -/
abbrev cxComp (X : Cx) (scope : Scope) (N : List Str) (s : Shared) (H : Hp) (fp : List Addr) : Cx where
  prog := X.prog
  w := X.w
  K := X.K
  mg := X.mg
  base := X.base
  A := X.A
  N := N
  s₀ := s
  H₀ := H
  env := compEnvC scope (closL X.env scope.names) s.heap.objs.size X.env
  outer := X.stack
  stack := X.stack
  ex := fp
  fn := fun _ => false
  calm := X.calm
  pn := []
  xe := fun _ _ => False

/-- what of the text of a comprehension must be seen: xs its own names, fr the places of the names that it reads from around -/
structure CompTx (osc scope : Scope) (N0 : List Str) (xs : List Str) (fr : List Nat) : Prop where
  kind : scope.kind = .function
  nocell : ∀ y ∈ scope.names, y.2 ≠ .cell
  names : ∀ y ∈ scope.names, y.2 = .local → scope.names.lookup y.1 = some .local
  free : ∀ y ∈ scope.names, y.2 = .free → osc.names.lookup y.1 = some .cell ∨ osc.names.lookup y.1 = some .free
  fro : ∀ j ∈ fr, ∃ x, N0[j]? = some x ∧ scope.names.lookup x = some .free
  nd : (xs ++ fr.map fun j => N0.getD j "").Nodup

def compN (N0 : List Str) (xs : List Str) (fr : List Nat) : List Str := xs ++ fr.map fun j => N0.getD j ""
def compSt (xs : List Str) (fr : List Nat) (σ : St) : St := xs.map (fun _ => none) ++ fr.map fun j => (σ[j]?).join

theorem mem_of_lookup' {κ : Type} : ∀ {l : List (Str × κ)} {x : Str} {k : κ}, l.lookup x = some k → (x, k) ∈ l
  | [], _, _, h => by cases h
  | (n, k') :: r, x, k, h => by
    rw [List.lookup_cons] at h
    cases hx : x == n with
    | true =>
      rw [hx] at h
      have h' : k' = k := Option.some.inj h
      rw [eq_of_beq hx, h']
      exact List.mem_cons_self
    | false =>
      rw [hx] at h
      exact List.mem_cons_of_mem _ (mem_of_lookup' h)
/-- what a name of the block is -/
theorem relabel_look {env : Env} : ∀ {names : List (Str × NameKind)} {x : Str} {k : NameKind},
    (names.map fun (n, k) => if (k == NameKind.free && env.scope.kind == .function && env.kindOf n == some .cell) then (n, NameKind.cell) else (n, k)).lookup x = some k →
    names.lookup x = some k ∨ (k = .cell ∧ names.lookup x = some .free)
  | [], _, _, h => by cases h
  | (n, k') :: r, x, k, h => by
    have ih := @relabel_look env r x k
    rw [List.map_cons] at h
    rw [List.lookup_cons]
    by_cases hc : (k' == NameKind.free && env.scope.kind == .function && env.kindOf n == some .cell) = true
    · have h' : List.lookup x ((n, NameKind.cell) :: (r.map fun (n, k) => if (k == NameKind.free && env.scope.kind == .function && env.kindOf n == some .cell) then (n, NameKind.cell) else (n, k))) = some k := by
        rw [← h]; simp only [hc, if_true]
      rw [List.lookup_cons] at h'
      cases hx : x == n with
      | true =>
        rw [hx] at h'
        have h2 : NameKind.cell = k := Option.some.inj h'
        rw [Bool.and_eq_true, Bool.and_eq_true] at hc
        exact .inr ⟨h2.symm, congrArg some (eq_of_beq hc.1.1)⟩
      | false =>
        rw [hx] at h'
        exact ih h'
    · have h' : List.lookup x ((n, k') :: (r.map fun (n, k) => if (k == NameKind.free && env.scope.kind == .function && env.kindOf n == some .cell) then (n, NameKind.cell) else (n, k))) = some k := by
        rw [← h]; simp only [hc]; rfl
      rw [List.lookup_cons] at h'
      cases hx : x == n with
      | true =>
        rw [hx] at h'
        exact .inl h'
      | false =>
        rw [hx] at h'
        exact ih h'
theorem relabel_free {env : Env} : ∀ {names : List (Str × NameKind)} {x : Str}, names.lookup x = some .free →
    (names.map fun (n, k) => if (k == NameKind.free && env.scope.kind == .function && env.kindOf n == some .cell) then (n, NameKind.cell) else (n, k)).lookup x = some .cell ∨
    (names.map fun (n, k) => if (k == NameKind.free && env.scope.kind == .function && env.kindOf n == some .cell) then (n, NameKind.cell) else (n, k)).lookup x = some .free
  | [], _, h => by cases h
  | (n, k') :: r, x, h => by
    have ih := @relabel_free env r x
    rw [List.lookup_cons] at h
    rw [List.map_cons]
    by_cases hc : (k' == NameKind.free && env.scope.kind == .function && env.kindOf n == some .cell) = true
    · have e : (match (n, k') with | (n, k) => if (k == NameKind.free && env.scope.kind == .function && env.kindOf n == some .cell) then (n, NameKind.cell) else (n, k)) = (n, NameKind.cell) := by
        simp only [hc, if_true]
      rw [e, List.lookup_cons]
      cases hx : x == n with
      | true => exact .inl rfl
      | false => rw [hx] at h; exact ih h
    · have e : (match (n, k') with | (n, k) => if (k == NameKind.free && env.scope.kind == .function && env.kindOf n == some .cell) then (n, NameKind.cell) else (n, k)) = (n, k') := by
        simp only [hc]; rfl
      rw [e, List.lookup_cons]
      cases hx : x == n with
      | true =>
        rw [hx] at h
        exact .inr h
      | false => rw [hx] at h; exact ih h

section
variable {X : Cx}
theorem comp_free {osc scope : Scope} {N0 xs : List Str} {fr : List Nat} {pins : List (Addr × Obj)} {σ : St} {H : Hp} {s : Shared} (C : CompTx osc scope N0 xs fr) (ho : X.env.scope = osc) (I : Inv X pins σ H s) :
    ∀ y ∈ scope.names, y.2 = .free → ∃ c, X.env.cells.lookup y.1 = some c := fun y hy e => by
  refine I.ok.has y.1 ?_
  rw [← ho] at C
  exact C.free y hy e

/-- the block's entry -/
theorem comp_start {osc scope : Scope} {N0 xs : List Str} {fr : List Nat} {pins : List (Addr × Obj)} {σ : St} {H : Hp} {s : Shared} {fp : List Addr} {h₁ : Heap} {tk : Nat} (C : CompTx osc scope N0 xs fr) (ho : X.env.scope = osc) (hN0 : X.N = N0) (I : Inv X pins σ H s)
    (hf : ∀ b ∈ fp, FpOk X pins H b) (hlt : ∀ b ∈ fp, b < s.heap.objs.size) (hn : h₁.Ns s.heap.objs.size fun _ => none) (hk : ∀ b o, s.heap.get? b = some o → h₁.get? b = some o) :
    Inv (cxComp X scope (compN N0 xs fr) s H fp) [] (compSt xs fr σ) H { s with heap := h₁, toks := tk } := by
  subst hN0
  have hfree := comp_free C ho I
  have sub := clos_sub (env := X.env) scope.names [] hfree (fun x c e => by cases e)
  have nC : ∀ x c, X.env.cells.lookup x = some c → c ≠ s.heap.objs.size := fun x c e z => by
    obtain ⟨v, q⟩ := I.cell x c e
    exact absurd q.lt (by rw [z]; exact Nat.lt_irrefl _)
  refine ⟨⟨I.ok.mod, C.kind, I.ok.glob, I.ok.blt, Nat.le_refl _, fun x y c h1 h2 => I.ok.inj x y c (sub x c h1) (sub y c h2), fun x hx => ?_, fun x c h _ => (Bool.false_ne_true h).elim, I.ok.hd, I.ok.frames, .inl rfl, fun b hb => ?_, I.bs, Nat.le_trans I.ok.bsz I.sz, fun b o e hb => ?_, fun b hb hz => ?_, I.stack, I.stkFree⟩,
    rfl, I.bare, Un.kept hk, ⟨_, hn, fun i x v h1 h2 h3 => ?_⟩, fun x c h => ?_, I.hok.fresh (Nat.le_refl _), fun x c h => I.freeC x c (sub x c h), fun p hp => absurd (show p ∈ ([] : List (Addr × Obj)) from hp) (by simp), I.hok.kept hk, ?_⟩
  · have hx' : (relabel scope X.env).names.lookup x = some .cell ∨ (relabel scope X.env).names.lookup x = some .free := hx
    refine clos_has (env := X.env) scope.names [] x (.inl ?_)
    rcases hx' with q | q
    · rcases relabel_look q with z | ⟨_, z⟩
      · exact absurd rfl (C.nocell _ (mem_of_lookup' z))
      · exact mem_of_lookup' z
    · rcases relabel_look q with z | ⟨z, _⟩
      · exact mem_of_lookup' z
      · cases z
  · exact ⟨Nat.ne_of_lt (hlt b hb), fun x c h => (hf b hb).2.2.2.2.1 x c (sub x c h)⟩
  · rcases (hf b hb).2.2.2.1 with z | z
    · exact I.ok.noex b o e z
    · exact absurd (Nat.lt_of_lt_of_le (Heap.lt_size e) (Nat.le_trans I.ok.bsz z)) (Nat.lt_irrefl _)
  · rcases List.mem_cons.mp (I.stkSub b hz) with z | z
    · exact (hf b hb).2.1 z
    · exact (hf b hb).2.2.1 z
  · -- a name that is set stands behind the block's own ones
    have hi : ¬ i < xs.length := fun hi => by
      unfold compSt at h2
      rw [List.getElem?_append_left (by rw [List.length_map]; exact hi), List.getElem?_map] at h2
      cases q : xs[i]? with
      | none => rw [q] at h2; cases h2
      | some y => rw [q] at h2; cases h2
    have hi' : xs.length ≤ i := Nat.le_of_not_lt hi
    have e2 : (fr.map fun j => (σ[j]?).join)[i - xs.length]? = some (some v) := by
      have := h2
      unfold compSt at this
      rw [List.getElem?_append_right (by rw [List.length_map]; exact hi'), List.length_map] at this
      exact this
    rw [List.getElem?_map] at e2
    cases q : fr[i - xs.length]? with
    | none => rw [q] at e2; cases e2
    | some j =>
      rw [q] at e2
      have e3 : (σ[j]?).join = some v := Option.some.inj e2
      have e4 : σ[j]? = some (some v) := by
        cases z : σ[j]? with
        | none => rw [z] at e3; cases e3
        | some u => rw [z] at e3; rw [show u = some v from e3]
      obtain ⟨y, hy, hyf⟩ := C.fro j (List.mem_of_getElem? q)
      have ex : x = y := by
        have h1' : (compN X.N xs fr)[i]? = some x := h1
        unfold compN at h1'
        rw [List.getElem?_append_right hi', List.getElem?_map, q] at h1'
        have h5 : X.N.getD j "" = x := Option.some.inj h1'
        rw [← h5, List.getD_eq_getElem?_getD, hy]
        rfl
      subst ex
      obtain ⟨m, _, hl⟩ := I.loc
      have kf := C.free _ (mem_of_lookup' hyf) rfl
      rw [← ho] at kf
      have vis : Vis X.env.scope x := by
        rcases kf with z | z
        · exact .inr (.inl z)
        · exact .inr (.inr z)
      obtain ⟨u, r, l⟩ := hl j x v hy e4 vis
      refine ⟨u, r, .inr ⟨relabel_free hyf, ?_⟩⟩
      rcases l with ⟨z, _⟩ | ⟨_, c, hc, hcell⟩
      · have z' : X.env.scope.names.lookup x = some .local := z
        rcases kf with w | w
        · rw [z'] at w; cases w
        · rw [z'] at w; cases w
      · obtain ⟨c', hc'⟩ := clos_has (env := X.env) scope.names [] x (.inl (mem_of_lookup' hyf))
        have e5 := sub x c' hc'
        rw [hc] at e5
        cases e5
        refine ⟨c, hc', ?_⟩
        obtain ⟨o, ho', hd⟩ := hcell
        exact ⟨o, hk _ _ ho', hd⟩
  · obtain ⟨v, o, ho', hd⟩ := I.cell x c (sub x c h)
    exact ⟨v, o, hk _ _ ho', hd⟩
  · show (compSt xs fr σ).length = (compN X.N xs fr).length
    unfold compSt compN
    simp
end
end L2

namespace L2
open PySem PySem.Spec PyProof.Rows

/-! ### the tests of a comprehension: none, or one -/
def PIf (X : Cx) (ifs : List Expr) (t : TT) : Prop :=
  ∀ (pins : List (Addr × Obj)) (s : Shared) (σ : St) (H : Hp) (Q : Bool → Hp → Prop), Inv X pins σ H s → t σ H Q →
    wpAny (model X.prog X.w) X.A (forIn ifs true fun c r => if r = true then do let ok ← isTrue c X.env (eval c X.env); pure (ForInStep.yield ok) else pure (ForInStep.yield r)) (TP X pins σ Q) X.xe s
def tYes : TT := fun _ H Q => Q true H
theorem pif_nil {X : Cx} : PIf X [] tYes := fun _ _ σ H Q I h => wpAny_tests_nil ⟨H, I, h⟩
theorem pif_one {X : Cx} {c : Expr} {t : TT} (h : PT X c t) : PIf X [c] t := fun pins s σ H Q I hw => wpAny_tests_one (h pins s σ H Q I hw)

/-- what is wanted of a comprehension's walk over J: W by the turn, a measure, the block's names, the heap; D the list; N behind an element that is kept, M behind one that is left out -/
def CompW (J : It) (g : TG) (tt : TT) (te : TE) (R : Addr → Hp → Prop) (D : Addr) (σ0 : St) (H0 : Hp) : Prop :=
  ∃ W : Nat → Nat → St → Hp → Prop, (∃ m, W 0 m σ0 H0) ∧ ∀ i m σ H, W i m σ H →
    (J.stop i H ∧ R D H) ∨
    (J.go i H ∧ ∃ (N : St → V → Hp → Prop) (M : St → Hp → Prop), (∀ σ2 y H4, N σ2 y H4 → ∃ ys, H4 D = some (.lst ys) ∧ ys.length < sizeLine ∧ ∃ m', m' < m ∧ W (i + 1) m' σ2 (upd H4 D (.lst (ys ++ [y])))) ∧
      (∀ σ2 H3, M σ2 H3 → ∃ m', m' < m ∧ W (i + 1) m' σ2 H3) ∧
      ∀ x H', J.yld i H x H' → g x σ H' fun σ2 H2 => tt σ2 H2 fun b H3 => if b = true then te σ2 H3 (N σ2) else M σ2 H3)
/-- [elt for tg in iter if ..] -/
def tComp (xs : List Str) (fr : List Nat) (wi : TI) (g : TG) (tt : TT) (te : TE) : TE := fun σ H Q => wi σ H fun J H1 => ∀ D, H1 D = none → CompW J g tt te (fun D H2 => Q (.ref D) H2) D (compSt xs fr σ) (upd H1 D (.lst []))
/-- x = [elt for tg in iter if ..], x in the i-th slot -/
def sComp (i : Nat) (xs : List Str) (fr : List Nat) (wi : TI) (g : TG) (tt : TT) (te : TE) : TS := fun E σ H => wi σ H fun J H1 => ∀ D, H1 D = none → CompW J g tt te (fun D H2 => E.nx (σ.set i (some (.ref D))) H2) D (compSt xs fr σ) (upd H1 D (.lst []))

section
variable {X : Cx}
theorem comp_block {osc scope : Scope} {N0 xs : List Str} {fr : List Nat} {pins : List (Addr × Obj)} {σ : St} {H2 : Hp} {s2 : Shared} {fp : List Addr} {it : Addr} {tn : Nat → Heap → Prop} {J : It} {elt tg iter : Expr} {ifs : List Expr} {pos : Pos}
    {g : TG} {tt : TT} {te : TE} {E : Value → Shared → Prop} {R : Addr → Hp → Prop} {RR : Value → Addr → Result → Shared → Prop} (C : CompTx osc scope N0 xs fr) (ho : X.env.scope = osc) (hN0 : X.N = N0) (hc : X.calm = true)
    (hg : ∀ s H fp, PG (cxComp X scope (compN N0 xs fr) s H fp) tg g) (ht : ∀ s H fp, PIf (cxComp X scope (compN N0 xs fr) s H fp) ifs tt) (he : ∀ s H fp, PE (cxComp X scope (compN N0 xs fr) s H fp) elt te)
    (I2 : Inv X pins σ H2 s2) (T : Turn X.prog X.w X.K tg J fp it tn) (st2 : tn 0 s2.heap) (f2 : ∀ b ∈ fp, FpOk X pins H2 b)
    (hR : ∀ D, H2 D = none → CompW J g tt te R D (compSt xs fr σ) (upd H2 D (.lst [])))
    (hRR : ∀ (D C : Addr) (s' : Shared) (H' : Hp) (m : Str → Option Value), Inv X pins σ H' s' → s'.heap.Ns C m → FpOk X pins H' C → R D H' → RR (.ref D) C (.ok .next) s') :
    wpAny (model X.prog X.w) X.A (newList []) (fun acc s₃ => wpAny (model X.prog X.w) X.A (newFunctionEnv scope X.env.globals (closL X.env scope.names) [] X.env.qual none .none (some X.env)) (fun cenv s₄ =>
      codeAny (model X.prog X.w) X.A (.compStart (.ListComp elt [⟨tg, iter, ifs, 0⟩] scope pos) 0 (.ref it) acc { cenv with scope := relabel scope X.env }) (RR acc cenv.locals) s₄) E s₃) E s2 := by
  refine wpAny_newObj_type (wpAny_newFunctionEnv C.nocell (by intro y hy; simp at hy) (fun h₁ hns₁ hsb₁ => ?_) C.kind)
  dsimp only at hns₁ hsb₁ ⊢
  have I3 : Inv X pins σ (upd H2 s2.heap.objs.size (.lst [])) { s2 with heap := s2.heap.push { cls := .type "list", data := .seq ([] : List Value).toArray } } := I2.lnew (its := []) (t' := s2.toks) .nil (by simp)
  have flt : ∀ b ∈ fp, b < s2.heap.objs.size := fun b hb => by
    obtain ⟨o, e, _⟩ := T.obj 0 _ st2 b hb
    exact Heap.lt_size e
  have f3 : ∀ b ∈ fp, FpOk X pins (upd H2 s2.heap.objs.size (.lst [])) b := fun b hb => ⟨by rw [upd_ne (Nat.ne_of_lt (flt b hb))]; exact (f2 b hb).1, (f2 b hb).2⟩
  have flt3 : ∀ b ∈ fp, b < (s2.heap.push { cls := .type "list", data := .seq ([] : List Value).toArray }).objs.size := fun b hb => by
    rw [Heap.size_push]
    exact Nat.lt_succ_of_lt (flt b hb)
  obtain ⟨W, ⟨m0, w0⟩, turn⟩ := hR s2.heap.objs.size I2.fresh
  generalize hD : s2.heap.objs.size = D at *
  generalize hs3 : s2.heap.push { cls := .type "list", data := .seq ([] : List Value).toArray } = h3 at *
  have up2 : ∀ b o, s2.heap.get? b = some o → h3.get? b = some o := fun b o e => by rw [← hs3]; exact Heap.get?_push_of_some _ e
  have old : ∀ b o, h3.get? b = some o → h₁.get? b = some o := fun b o e => hsb₁.extBut b o (Nat.ne_of_lt (Heap.lt_size e)) (Heap.get?_push_of_some _ e)
  have Ic := comp_start (tk := s2.toks + ([] : List (Str × Value)).length) C ho hN0 I3 f3 flt3 hns₁ old
  have st4 : tn 0 h₁ := T.keep 0 _ _ st2 fun b hb o e => old b o (up2 b o e)
  have stat : ∀ {H' : Hp}, (∀ b ∈ fp, H' b = none) → ∀ b ∈ fp, FpOk (cxComp X scope (compN N0 xs fr) { s2 with heap := h3 } (upd H2 D (.lst [])) fp) [] H' b := fun hn b hb =>
    ⟨hn b hb, Nat.ne_of_lt (flt3 b hb), fun z => by
      rcases List.mem_cons.mp (I3.stkSub b z) with q | q
      · exact (f3 b hb).2.1 q
      · exact (f3 b hb).2.2.1 q, .inl hb, fun x c h => (Ic.ok.exf b hb).2 x c h, fun p hp => absurd (show p ∈ ([] : List (Addr × Obj)) from hp) (by simp)⟩
  have fin : ∀ {σ' : St} {H' : Hp} {s' : Shared}, Inv (cxComp X scope (compN N0 xs fr) { s2 with heap := h3 } (upd H2 D (.lst [])) fp) [] σ' H' s' → R D H' → RR (.ref D) h3.objs.size (.ok .next) s' := fun {σ' H' s'} I' q => by
    obtain ⟨m, hm, _⟩ := I'.loc
    refine hRR D h3.objs.size s' H' m (I3.call' I'.os I'.base I'.hok I'.bare fun b hb => ?_) hm (I3.fpOk (Nat.le_refl _) I'.free) q
    exact ⟨(f3 b hb).2.2.2.1, (f3 b hb).2.1, (f3 b hb).2.2.2.2.1, (f3 b hb).2.2.2.2.2⟩
  have loop : codeAny (model X.prog X.w) X.A (.compLoop (.ListComp elt [⟨tg, iter, ifs, 0⟩] scope pos) 0 (.ref it) (.ref D) (compEnvC scope (closL X.env scope.names) h3.objs.size X.env)) (RR (.ref D) h3.objs.size) { s2 with heap := h₁, toks := s2.toks + ([] : List (Str × Value)).length } := by
    refine codeAny_loop rfl (fun n s' => ∃ i σ' H', Inv (cxComp X scope (compN N0 xs fr) { s2 with heap := h3 } (upd H2 D (.lst [])) fp) [] σ' H' s' ∧ tn i s'.heap ∧ (∀ b ∈ fp, H' b = none) ∧ W i n σ' H') (fun n s' hI => ?_) m0 ⟨0, _, _, Ic, st4, fun b hb => (f3 b hb).1, w0⟩
    show wpAny _ X.A ((compTurn (.ListComp elt [⟨tg, iter, ifs, 0⟩] scope pos) 0 (.ref it) (.ref D) (compEnvC scope (closL X.env scope.names) h3.objs.size X.env)).onRaise (fun x => do noteFrame x (compEnvC scope (closL X.env scope.names) h3.objs.size X.env); theTreesLotGoes x)) _ _ s'
    refine wpAny_noted ?_
    rw [compTurn_list]
    obtain ⟨i, σ', H', I', st', fr', w'⟩ := hI
    refine wpAny_bind (wpAny_standAt (wpAny_bind ?_))
    rcases turn i n σ' H' w' with ⟨stop, q⟩ | ⟨go, N, M, hN, hM, step⟩
    · refine thn (T.done (cxComp X scope (compN N0 xs fr) { s2 with heap := h3 } (upd H2 D (.lst [])) fp) rfl rfl rfl hc i [] s' σ' H' _ I' (stat fr') st' stop) fun r s4 ⟨hr, I4⟩ => ?_
      subst hr
      exact wpAny_pure (fin I4 q)
    · refine thn (T.item (cxComp X scope (compN N0 xs fr) { s2 with heap := h3 } (upd H2 D (.lst [])) fp) rfl rfl rfl hc i [] s' σ' H' _ I' (stat fr') st' go) fun r s4 ⟨u, hr, h4⟩ => ?_
      subst hr
      refine wpAny_bind (thn h4 fun _ s5 ⟨x, H5, I5, r5, y5, st5, fr5⟩ => ?_)
      have I5' := I5.pinned (stat fr5) (T.obj _ _ st5)
      have again : ∀ {σ7 : St} {H7 : Hp} {s7 : Shared}, Inv (cxComp X scope (compN N0 xs fr) { s2 with heap := h3 } (upd H2 D (.lst [])) fp) ([] ++ pinsAt fp s5.heap) σ7 H7 s7 → (∃ m', m' < n ∧ W (i + 1) m' σ7 H7) →
          ∃ m, m < n ∧ ∃ i σ' H', Inv (cxComp X scope (compN N0 xs fr) { s2 with heap := h3 } (upd H2 D (.lst [])) fp) [] σ' H' s7 ∧ tn i s7.heap ∧ (∀ b ∈ fp, H' b = none) ∧ W i m σ' H' := fun {σ7 H7 s7} I7 n7 => by
        obtain ⟨m', hm, w7⟩ := n7
        refine ⟨m', hm, i + 1, σ7, H7, I7.unpinned, T.keep _ _ _ st5 fun b hb o e => (I7.pin (b, o) (List.mem_append_right _ (List.mem_append_right _ (mem_pinsAt hb e)))).1, fun b hb => ?_, w7⟩
        obtain ⟨o, e, d⟩ := T.obj _ _ st5 b hb
        exact (I7.pin (b, o) (List.mem_append_right _ (List.mem_append_right _ (mem_pinsAt hb e)))).2.1
      refine wpAny_bind (wpAny_mono (hg _ _ _ _ s5 σ' H5 x u _ I5' r5 (step x H5 y5)) (fun _ s6 ⟨σ6, H6, I6, q6⟩ => ?_) fun _ _ z => False.elim z)
      refine wpAny_bind (wpAny_mono (ht _ _ _ _ s6 σ6 H6 _ I6 q6) (fun ok s7 ⟨H7, I7, q7⟩ => ?_) fun _ _ z => False.elim z)
      cases ok with
      | false =>
        rw [if_neg Bool.false_ne_true] at q7
        exact wpAny_pure ⟨rfl, again I7 (hM _ _ q7)⟩
      | true =>
        rw [if_pos rfl] at q7
        refine wpAny_bind (wpAny_bind (wpAny_mono (he _ _ _ _ s7 σ6 H7 _ I7 q7) (fun y s8 ⟨v, H8, I8, r8, q8⟩ => ?_) fun _ _ z => False.elim z))
        obtain ⟨ys, eD, hz, q8⟩ := hN _ _ _ q8
        refine wpAny_bind (wpAny_mono (mt_append (X := cxComp X scope (compN N0 xs fr) { s2 with heap := h3 } (upd H2 D (.lst [])) fp) _ s8 σ6 H8 (.ref D) [v] (.ref D) [y] (fun _ H9 => ∃ m', m' < n ∧ W (i + 1) m' σ6 H9) I8 rfl (.cons r8 .nil) ⟨D, ys, v, rfl, rfl, eD, hz, q8⟩) (fun _ s9 ⟨_, H9, I9, _, q9⟩ => ?_) fun _ _ z => False.elim z)
        exact wpAny_pure (wpAny_pure ⟨rfl, again I9 q9⟩)
  exact codeAny_compStart_list loop (T.self X.A 0 _ _ _ st4 loop)

variable {osc scope : Scope} {N0 xs : List Str} {fr : List Nat} {elt tg iter : Expr} {ifs : List Expr} {pos : Pos} {wi : TI} {g : TG} {tt : TT} {te : TE}
theorem pe_comp (C : CompTx osc scope N0 xs fr) (ho : X.env.scope = osc) (hN0 : X.N = N0) (hc : X.calm = true) (hi : PI X tg iter wi)
    (hg : ∀ s H fp, PG (cxComp X scope (compN N0 xs fr) s H fp) tg g) (ht : ∀ s H fp, PIf (cxComp X scope (compN N0 xs fr) s H fp) ifs tt) (he : ∀ s H fp, PE (cxComp X scope (compN N0 xs fr) s H fp) elt te)
    (hs : ∀ x, foldedSetIterable iter X.env x = pure x := by intro _; rfl) : PE X (.ListComp elt [⟨tg, iter, ifs, 0⟩] scope pos) (tComp xs fr wi g tt te) := by
  intro pins s σ H Q I h
  rw [eval_ListComp]
  refine wpAny_comprehension_free (use := none) rfl hs (clos_ok (comp_free C ho I)) C.kind C.names (thn (hi pins s σ H _ I h) fun v s1 h1 => thn h1 fun itv s2 h2 => ?_)
  obtain ⟨it, fp, tn, J, H2, e, I2, T, st2, f2, hR⟩ := h2
  subst e
  refine comp_block C ho hN0 hc hg ht he I2 T st2 f2 hR fun D C s' H' m I' hm fC q => ?_
  refine ⟨m, hm, fun h' sb => ⟨.ref D, H', ?_, rfl, q⟩⟩
  exact I'.turned (t' := s'.toks) (fun b o hb e => (sb.2 b hb).trans e) fC.1 fC.2.1 fC.2.2.2.1 fC.2.2.2.2.1 fC.2.2.2.2.2
theorem ps_comp {i : Nat} {y : Str} {py spos : Pos} (C : CompTx osc scope N0 xs fr) (ho : X.env.scope = osc) (hN0 : X.N = N0) (hc : X.calm = true) (hi : PI X tg iter wi)
    (hg : ∀ s H fp, PG (cxComp X scope (compN N0 xs fr) s H fp) tg g) (ht : ∀ s H fp, PIf (cxComp X scope (compN N0 xs fr) s H fp) ifs tt) (he : ∀ s H fp, PE (cxComp X scope (compN N0 xs fr) s H fp) elt te)
    (hN : X.N.Nodup) (hy : X.N[i]? = some y) (hx : Loc X.env.scope y)
    (hsw : swapsWith (.ListComp elt [⟨tg, iter, ifs, 0⟩] scope pos) (some (.Name y py)) spos.line X.env = pure true := by rfl)
    (hf : X.fn y = true ∨ X.env.scope.names.lookup y = some .local := by first | exact .inl rfl | exact .inr rfl | assumption)
    (hs : ∀ x, foldedSetIterable iter X.env x = pure x := by intro _; rfl) : PS X (.Assign [.Name y py] (.ListComp elt [⟨tg, iter, ifs, 0⟩] scope pos) spos) (sComp i xs fr wi g tt te) := by
  intro pins s σ H D I h
  rw [exec_Assign_Name_used _ _ _ _ hsw]
  refine wpAny_bind (wpAny_standAt (wpAny_bind ?_))
  show wpAny _ X.A (do let _ ← comprehension (.ListComp elt [⟨tg, iter, ifs, 0⟩] scope pos) scope X.env _ (newList []) false (eval iter X.env) (some (assign (.Name y py) X.env))) _ _ s
  refine wpAny_bind (wpAny_mono (wpAny_comprehension_free (use := some (assign (.Name y py) X.env)) (Q := fun _ s' => SP X pins D .next s') rfl hs (clos_ok (comp_free C ho I)) C.kind C.names
    (thn (hi pins s σ H _ I h) fun v s1 h1 => thn h1 fun itv s2 h2 => ?_)) (fun _ s' hq => wpAny_pure (wpAny_pure hq)) fun _ _ e => e)
  obtain ⟨it, fp, tn, J, H2, e, I2, T, st2, f2, hR⟩ := h2
  subst e
  refine comp_block C ho hN0 hc hg ht he I2 T st2 f2 hR fun Dl C s' H' m I' hm fC q => ?_
  refine wpAny_assign_Name (store_ok2 I' hN hy hx (show RelV (.ref Dl) (.ref Dl) from rfl) (fun s3 I3 hsb => ?_) hf)
  obtain ⟨a, sb, ha⟩ := hsb
  have hCa : C ≠ a := by
    rcases ha with z | z
    · rw [z]; exact fC.2.1
    · exact fun w => fC.2.2.2.2.1 y a z w.symm
  refine ⟨m, hm.sameBut sb hCa, fun h' sb' => ⟨_, H', ?_, q⟩⟩
  exact I3.turned (t' := s3.toks) (fun b o hb e => (sb'.2 b hb).trans e) fC.1 fC.2.1 fC.2.2.2.1 fC.2.2.2.2.1 fC.2.2.2.2.2
end

/-! ### a text, walked sign by sign -/
def Its (x : Str) : It := ⟨fun i _ => i < x.cps.size, fun i H v H' => H' = H ∧ ∃ c, x.cps[i]? = some c ∧ v = .str ⟨#[c]⟩, fun i _ => x.cps.size ≤ i⟩
theorem strIter_ty (x : Str) : strIterType x = "str_ascii_iterator" ∨ strIterType x = "str_iterator" := by
  unfold strIterType
  split
  · exact .inl rfl
  · exact .inr rfl
theorem turn_str {P : Program} {w : World} {K : PySem.W.Frag} {tg : Expr} (x : Str) (t : Tok) (it : Addr) : Turn P w K tg (Its x) [it] it (fun i h => h.IsStrIter it (strIterType x) x t i) where
  mem := by simp
  obj := fun i h st b hb => by
    have e : b = it := by simpa using hb
    subst e
    obtain ⟨o, e, c, d⟩ := st
    exact ⟨o, e, fun v z => by rw [d] at z; cases z⟩
  keep := fun i h h' st k => by
    obtain ⟨o, e, r⟩ := st
    exact ⟨o, k it (by simp) o e, r⟩
  item := by
    intro X hP hw hK hc i pins s σ H E I hf st hg
    subst hP hw hK
    have hg' : i < x.cps.size := hg
    obtain ⟨f0, f1, f2, f3, f4, f5⟩ := hf it (by simp)
    have key : ∀ h', h'.IsStrIter it (strIterType x) x t (i + 1) → Heap.SameBut it s.heap h' → ∃ u, some (Value.str ⟨#[x.cps[i]]⟩ s.toks) = some u ∧
      wpAny (model X.prog X.w) X.A (letOwnedTupleGo tg (.ref it) u) (fun _ s2 => ∃ v H', Inv X pins σ H' s2 ∧ RelV v u ∧ (Its x).yld i H v H' ∧ s2.heap.IsStrIter it (strIterType x) x t (i + 1) ∧ ∀ b ∈ [it], H' b = none) E { s with heap := h', toks := s.toks + 1 } := fun h' st' sb => by
      have I1 : Inv X pins σ H { s with heap := h', toks := s.toks + 1 } := I.turned (t' := s.toks + 1) (fun b o hb e => (sb.2 b hb).trans e) f0 f1 f3 f4 f5
      obtain ⟨o, e, c, d⟩ := id st'
      refine ⟨_, rfl, go_of (s := { s with heap := h', toks := s.toks + 1 }) e c d ?_ ⟨.str ⟨#[x.cps[i]]⟩, H, I1, ⟨_, rfl⟩, ⟨rfl, _, by simp [hg'], rfl⟩, st', fun b hb => (hf b hb).1⟩⟩
      rcases strIter_ty x with z | z <;> rw [z] <;> decide
    rcases strIter_ty x with z | z
    · rw [z] at st key
      rw [z]
      exact wpAny_pyNext_ascii_item st (c := x.cps[i]) (by simp [hg']) fun h' a b => key h' a b
    · rw [z] at st key
      rw [z]
      exact wpAny_pyNext_wide_item st (c := x.cps[i]) (by simp [hg']) fun h' a b => key h' a b
  done := by
    intro X hP hw hK hc i pins s σ H E I hf st hg
    subst hP hw hK
    have hg' : x.cps.size ≤ i := hg
    obtain ⟨f0, f1, f2, f3, f4, f5⟩ := hf it (by simp)
    have hx : x.cps[i]? = none := by simp [hg']
    rcases strIter_ty x with z | z
    · rw [z] at st
      exact wpAny_pyNext_ascii_end (I.ok.hd hc) st hx fun h' eb => ⟨rfl, I.turned (t' := s.toks) (fun b o hb e => eb b o hb e) f0 f1 f3 f4 f5⟩
    · rw [z] at st
      exact wpAny_pyNext_wide_end (I.ok.hd hc) st hx fun h' eb => ⟨rfl, I.turned (t' := s.toks) (fun b o hb e => eb b o hb e) f0 f1 f3 f4 f5⟩
  self := fun A i s Q E st h => by
    rcases strIter_ty x with z | z
    · rw [z] at st
      exact wpAny_pyIter_striter_ascii st h
    · rw [z] at st
      exact wpAny_pyIter_striter_wide st h
section
variable {X : Cx} {tg : Expr}
def iStr (tl : TE) : TI := fun σ H R => tl σ H fun x H1 => ∃ z, x = .str z ∧ R (Its z) H1
theorem pi_str {l : Expr} {tl : TE} (hl : PE X l tl) : PI X tg l (iStr tl) := by
  intro pins s σ H R I h
  refine thn (hl pins s σ H _ I h) fun v s1 ⟨x, H1, I1, r1, q1⟩ => ?_
  obtain ⟨z, e, q⟩ := q1
  subst e
  obtain ⟨t, rfl⟩ := r1
  refine wpAny_pyIter_strU ?_
  refine ⟨s1.heap.objs.size, [s1.heap.objs.size], _, _, H1, rfl, I1.kept (t' := s1.toks) fun b o e => Heap.get?_push_of_some _ e, turn_str z t _, ⟨_, Heap.get?_push_size _ rfl, rfl, rfl⟩, fun b hb => ?_, q⟩
  have e : b = s1.heap.objs.size := by simpa using hb
  subst e
  exact I1.fpOk (Nat.le_refl _) (I1.hok.fresh (Nat.le_refl _))

/-! ### all, any of a list of truths -/
theorem bools_of : ∀ {bs : List Bool} {us : List Value}, Vals (bs.map V.bl) us → LSm.BoolsAre us bs
  | [], _, r => by rw [List.map_nil] at r; cases r; exact .nil
  | b :: bs, _, r => by
    rw [List.map_cons] at r
    cases r with
    | cons h t =>
      cases h
      exact .cons b (bools_of t)
theorem call_all (hc : X.calm = true) : CallR X (.builtin "all") (fun xs H Q => ∃ (p : Addr) (bs : List Bool), xs = [.ref p] ∧ SqL X.K H p (bs.map V.bl) ∧ Q (.bl (bs.all id)) H) := by
  intro pins s σ H xs us Q I r h
  obtain ⟨l, bs, rfl, hq, q⟩ := h
  obtain ⟨u, rfl, rx⟩ := vals1 r
  cases rx
  obtain ⟨vs, r', pl, hz⟩ := I.list hq
  have hb : LSm.BoolsAre vs bs := bools_of r'
  have hl := pl.isList
  have hlt : l < s.heap.objs.size := by obtain ⟨_, e, _⟩ := hl; exact Heap.lt_size e
  refine call_all_walk (wpAny_pyIter_list hl ?_)
  refine ⟨s.heap.objs.size, [s.heap.objs.size, l], [s.heap.objs.size], vs.toArray.size, _, _, fun i => (bs[i]?).getD true, rfl, Walks.list (A := X.A.in1) (I.ok.hd hc) _ l (Nat.ne_of_lt hlt) vs.toArray,
    ⟨⟨_, Heap.get?_push_size _ rfl, rfl, rfl⟩, hl.push _⟩, fun i v s' Q' E' hP hQ => ?_, fun h' tk hk => ?_⟩
  · obtain ⟨b, e, rfl⟩ := hb.get i v (by simpa using hP)
    simp only [e, Option.getD_some] at hQ
    exact wpAny_truthy_bool hQ
  · have e : ((List.range vs.toArray.size).all fun i => (bs[i]?).getD true) = bs.all id := by
      rw [List.size_toArray, hb.length]; exact LSm.range_all bs
    rw [e]
    exact ⟨.bl (bs.all id), H, I.kept (LSm.kept_iter hk), rfl, q⟩
/-! ### isinstance(x, T), T a built-in type -/
theorem call_isi : CallR X (.builtin "isinstance") (fun xs H Q => ∃ x n t b, xs = [x, .ty n] ∧ TyOf X.K H x t ∧ PySem.W.kitOne X.K t (.type n) = some b ∧ Q (.bl b) H) := by
  intro pins s σ H xs us Q I r h
  obtain ⟨x, n, t, b, rfl, ty, e, q⟩ := h
  obtain ⟨u, w', rfl, rx, rc⟩ := vals2 r
  cases (show w' = Value.type n from rc)
  exact isinst_ok I rx ty e fun tk => ⟨.bl b, H, I.tok tk, rfl, q⟩

/-! ### products of any two ints that the model multiplies -/
end

/-! ### slices of a text -/
section
variable {X : Cx}
theorem sl_str : SlR X (fun x lo hi H Q => ∃ z, x = .str z ∧ z.length ≤ sizeLine ∧ Q (.str (Txt.slice z lo hi)) H) := by
  intro pins s σ H x v vl vu lo hi sl Q I rx hs pl pu h
  obtain ⟨z, rfl, hz, q⟩ := h
  obtain ⟨t, rfl⟩ := rx
  refine ⟨"str", _, F.slot_str_getitem.lookup, typeIs_str _ _ _, ?_⟩
  obtain ⟨o, e1, e2, e3⟩ := hs
  have fin : ∀ (l u : Option (Int × Tok)), vl = partValue l → vu = partValue u → l.map (·.1) = lo → u.map (·.1) = hi → wpAny (model X.prog X.w) X.A (getItem (.str z t) (.ref sl)) (EP X pins σ Q) X.xe s := by
    intro l u h1 h2 h3 h4
    subst h1 h2 h3 h4
    refine wpAny_getItem_str_slice (l := l) (u := u) (st := none) ⟨o, e1, e2, e3⟩ rfl (post_val_or_str ⟨Nat.le_trans (Txt.slice_le z (l.map (·.1)) (u.map (·.1))) hz, fun t' k => ?_⟩)
    exact ⟨.str (Txt.slice z (l.map (·.1)) (u.map (·.1))), H, I.tok k, ⟨t', rfl⟩, q⟩
  cases pl with
  | none =>
    cases pu with
    | none => exact fin none none rfl rfl rfl rfl
    | int j tj => exact fin none (some (j, tj)) rfl rfl rfl rfl
  | int i ti =>
    cases pu with
    | none => exact fin (some (i, ti)) none rfl rfl rfl rfl
    | int j tj => exact fin (some (i, ti)) (some (j, tj)) rfl rfl rfl rfl
end
theorem slice_to (x : Str) {k : Int} (h0 : 0 ≤ k) (h1 : k ≤ x.length) : (Txt.slice x none (some k)).cps.toList = x.cps.toList.take k.toNat := by
  have e : Txt.slice x none (some k) = StrLaws.sliceText x none (some k) := rfl
  rw [e, StrLaws.sliceText_to ⟨h0, by simpa [Str.length] using h1⟩]
  simp
theorem slice_from (x : Str) {k : Int} (h0 : 0 ≤ k) (h1 : k ≤ x.length) : (Txt.slice x (some k) none).cps.toList = x.cps.toList.drop k.toNat := by
  have e : Txt.slice x (some k) none = StrLaws.sliceText x (some k) none := rfl
  rw [e, StrLaws.sliceText_from ⟨h0, by simpa [Str.length] using h1⟩]
  show (((x.cps.toList.drop k.toNat).take ((x.cps.toList.length : Int) - k).toNat).toArray).toList = _
  rw [List.toList_toArray]
  refine List.take_of_length_le ?_
  rw [List.length_drop]
  omega

/-! ### a comprehension without tests whose i-th item is ev i -/
theorem compW_map {J : It} {g : TG} {te : TE} {R : Addr → Hp → Prop} {D : Addr} {σ0 : St} {H0 : Hp} (n : Nat) (ev : Nat → V) (Pv : Nat → St → Hp → Prop) (hn : n ≤ sizeLine) (h0 : Pv 0 σ0 H0) (hD0 : H0 D = some (.lst []))
    (hs : ∀ i σ H, i < n → Pv i σ H → H D = some (.lst ((List.range i).map ev)) → J.go i H ∧ ∀ x H', J.yld i H x H' → g x σ H' fun σ2 H2 => te σ2 H2 fun y H4 => y = ev i ∧ H4 D = some (.lst ((List.range i).map ev)) ∧ Pv (i + 1) σ2 (upd H4 D (.lst ((List.range (i + 1)).map ev))))
    (hd : ∀ σ H, Pv n σ H → H D = some (.lst ((List.range n).map ev)) → J.stop n H ∧ R D H) : CompW J g tYes te R D σ0 H0 := by
  refine ⟨fun i m σ H => m = n - i ∧ i ≤ n ∧ Pv i σ H ∧ H D = some (.lst ((List.range i).map ev)), ⟨n, by omega, Nat.zero_le _, h0, hD0⟩, ?_⟩
  rintro i m σ H ⟨rfl, hi, p, hD⟩
  by_cases hlt : i < n
  · obtain ⟨go, st⟩ := hs i σ H hlt p hD
    refine .inr ⟨go, fun σ2 y H4 => y = ev i ∧ H4 D = some (.lst ((List.range i).map ev)) ∧ Pv (i + 1) σ2 (upd H4 D (.lst ((List.range (i + 1)).map ev))), fun _ _ => False, ?_, fun _ _ z => z.elim, st⟩
    rintro σ2 y H4 ⟨rfl, e, p'⟩
    refine ⟨_, e, by simp; omega, n - (i + 1), by omega, rfl, hlt, ?_, ?_⟩
    · rw [List.range_succ, List.map_append] at p'
      exact p'
    · rw [upd_same, List.range_succ, List.map_append]
      rfl
  · have e : i = n := by omega
    subst e
    exact .inl (hd σ H p hD)
/-! ### types under a grown heap -/
theorem Same.upd {H : Hp} {D : Addr} {o : HO} (h : H D = none) : Same H (L2.upd H D o) := fun b u e => by
  rw [upd_ne (ne_of_none e h)]
  exact e
theorem Same.seqT {K : PySem.W.Frag} {H H' : Hp} {a : Addr} {xs : List V} (e : Same H H') (h : SqT K H a xs) : SqT K H' a xs := by
  rcases h with (h | ⟨o, h⟩) | h
  · exact .inl (.inl (e _ _ h))
  · exact .inl (.inr ⟨o, e _ _ h⟩)
  · exact .inr h

/-! ### a block in two parts -/
end L2

namespace L2
open PySem PySem.Spec PyProof.Rows
/-! ### isinstance by two built-in types -/
def kitTy (a b : String) : Option Bool := if (Value.type a == Value.type b) = true then some true else if PySem.W.kitMeta b = true then (fastBuiltinMro a).map (·.contains (.type b)) else none
theorem kit_eq {K : PySem.W.Frag} {a b : String} : PySem.W.kitOne K (.type a) (.type b) = kitTy a b := rfl
/-! ### a def of the top -/
def DefIn (K : PySem.W.Frag) (x : Str) (st : Stmt) : Prop := ∃ (f : Addr) (oc : Value) (od : Option Addr) (kV doc pm : Value) (an : Option Addr) (cdv ct : Value) (osl : Array (Option Value)),
  PySem.W.nsIn K mainGlobals x = some (some (.ref f)) ∧ K.lookup f = some ⟨oc, od, .func (PySem.W.fnOf x x (defArgs st) (defBody st) (defScope st) .none kV doc pm an cdv ct), osl⟩ ∧ PySem.W.codeIn K cdv x = true ∧ PySem.W.keepIn K (.ref f) = true
theorem defIn_mk {K : PySem.W.Frag} {x : Str} {st : Stmt} {f : Addr} {oc : Value} {od an : Option Addr} {osl : Array (Option Value)} {kV doc pm cdv ct : Value} (a : PySem.W.nsIn K mainGlobals x = some (some (.ref f)))
    (l : K.lookup f = some ⟨oc, od, .func (PySem.W.fnOf x x (defArgs st) (defBody st) (defScope st) .none kV doc pm an cdv ct), osl⟩) (c : PySem.W.codeIn K cdv x = true) (k : PySem.W.keepIn K (.ref f) = true) : DefIn K x st :=
  ⟨f, oc, od, kV, doc, pm, an, cdv, ct, osl, a, l, c, k⟩
/-- .. as a body that calls it sees it -/
structure Df (K : PySem.W.Frag) (mg : Str → Option Value) (x : Str) (st : Stmt) (f : Addr) (fd : FuncData) : Prop where
  fn : Fun K x x st f fd
  mg : mg x = some (.ref f)
theorem DefIn.df {K : PySem.W.Frag} {h : Heap} {mg : Str → Option Value} {x : Str} {st : Stmt} (d : DefIn K x st) (X : K.In h) (G : h.Ns mainGlobals mg) : ∃ f fd, Df K mg x st f fd := by
  obtain ⟨f, oc, od, kV, doc, pm, an, cdv, ct, osl, a, l, c, k⟩ := d
  exact ⟨f, _, fun_mk l c k, PySem.W.mg_of X G a⟩
end L2

namespace PySem.SeqAt
open MeetsSeq
open AutoSeq1 (wpAny_loadPart')
/-! ### a dict and a text are never equal -/
section
variable {A : Around} {s : Shared}
end
end PySem.SeqAt

namespace L2
open PySem PySem.Spec PyProof.Rows
/-! ### things, without the heap -/
section
variable {X : Cx} {pins : List (Addr × Obj)} {σ : St} {H : Hp} {s : Shared}
end
end L2

namespace My
open PySem L2 PyProof.Rows
theorem pos {j : Int} (h : decide ((0 : Int) < j) = true) : 0 < j := of_decide_eq_true h
/-! ### the law's cells -/
theorem item_ints {ns : List Int} {k : Int} (h0 : 0 ≤ k) (h1 : k < ns.length) : atI (ns.map V.int) k = some (.int (ns.getD k.toNat 0)) := by
  obtain ⟨j, rfl⟩ := Int.eq_ofNat_of_zero_le h0
  refine atI_nat ?_
  have hj : j < ns.length := by omega
  rw [List.getElem?_map, List.getElem?_eq_getElem hj]
  simp [List.getD_eq_getElem?_getD, List.getElem?_eq_getElem hj]

theorem boot_isi : bootBuiltins "isinstance" = some (.builtin "isinstance") := by decide +kernel
theorem boot_int : bootBuiltins "int" = some (.type "int") := by decide +kernel
theorem boot_bool : bootBuiltins "bool" = some (.type "bool") := by decide +kernel
theorem boot_str : bootBuiltins "str" = some (.type "str") := by decide +kernel
theorem boot_list : bootBuiltins "list" = some (.type "list") := by decide +kernel
theorem boot_tuple : bootBuiltins "tuple" = some (.type "tuple") := by decide +kernel
theorem boot_dict : bootBuiltins "dict" = some (.type "dict") := by decide +kernel
/-- the built-ins are not the text's own -/
structure Bl (mg : Str → Option Value) : Prop where
  len : mg "len" = none
  isi : mg "isinstance" = none
  int : mg "int" = none
  bool : mg "bool" = none
  str : mg "str" = none
  all : mg "all" = none
  range : mg "range" = none
  abs : mg "abs" = none
  ord : mg "ord" = none
  list : mg "list" = none
  tuple : mg "tuple" = none
  dict : mg "dict" = none
  any : mg "any" = none
  sorted : mg "sorted" = none
  set : mg "set" = none
  enum : mg "enumerate" = none

/-- .. as the top has left them -/
structure BlK (K : PySem.W.Frag) : Prop where
  len : PySem.W.nsIn K mainGlobals "len" = some none
  isi : PySem.W.nsIn K mainGlobals "isinstance" = some none
  int : PySem.W.nsIn K mainGlobals "int" = some none
  bool : PySem.W.nsIn K mainGlobals "bool" = some none
  str : PySem.W.nsIn K mainGlobals "str" = some none
  all : PySem.W.nsIn K mainGlobals "all" = some none
  range : PySem.W.nsIn K mainGlobals "range" = some none
  abs : PySem.W.nsIn K mainGlobals "abs" = some none
  ord : PySem.W.nsIn K mainGlobals "ord" = some none
  list : PySem.W.nsIn K mainGlobals "list" = some none
  tuple : PySem.W.nsIn K mainGlobals "tuple" = some none
  dict : PySem.W.nsIn K mainGlobals "dict" = some none
  any : PySem.W.nsIn K mainGlobals "any" = some none
  sorted : PySem.W.nsIn K mainGlobals "sorted" = some none
  set : PySem.W.nsIn K mainGlobals "set" = some none
  enum : PySem.W.nsIn K mainGlobals "enumerate" = some none

theorem BlK.bl {K : PySem.W.Frag} {h : Heap} {mg : Str → Option Value} (b : BlK K) (X : K.In h) (G : h.Ns mainGlobals mg) : Bl mg :=
  ⟨PySem.W.mg_none_of X G b.len, PySem.W.mg_none_of X G b.isi, PySem.W.mg_none_of X G b.int, PySem.W.mg_none_of X G b.bool, PySem.W.mg_none_of X G b.str, PySem.W.mg_none_of X G b.all, PySem.W.mg_none_of X G b.range, PySem.W.mg_none_of X G b.abs, PySem.W.mg_none_of X G b.ord, PySem.W.mg_none_of X G b.list, PySem.W.mg_none_of X G b.tuple, PySem.W.mg_none_of X G b.dict, PySem.W.mg_none_of X G b.any, PySem.W.mg_none_of X G b.sorted, PySem.W.mg_none_of X G b.set, PySem.W.mg_none_of X G b.enum⟩
theorem iteB {b : Bool} {A B : Prop} (h : b = true) (a : A) : if b = true then A else B := by rw [if_pos h]; exact a
theorem iteC {b : Bool} {A B : Prop} (h : b = false) (a : B) : if b = true then A else B := by rw [h, if_neg Bool.false_ne_true]; exact a
def spLaw (K : PySem.W.Frag) : Sp := fun vs H Q _ => ∃ (a : Addr) (ns : List Int), vs = [.ref a] ∧ SqL K H a (ns.map V.int) ∧ ns.length ≤ 63 ∧ ∀ H', Q (.bl true) H'
theorem walk (k : Nat) {l : PySem.W.OpenLaw} {q : Program} {loose : List Str} {XP : (Str → Option Value) → Heap → Prop} {YP : World → Heap → Prop} {d : DefRec} {K : Params → PySem.W.Frag} (hk : Room k callerA) (hn : l.most = some 63) (hdf : d.params.defaults = [])
    (hY : ∀ (w : World) (h : Heap), YP w h → (K w.params).In h)
    (F : ∀ (w : World) (mg : Str → Option Value) (fa : Addr) (h : Heap), (K w.params).In h → h.Ns mainGlobals mg → mg d.name = some (.ref fa) →
      ∃ fd : FuncData, (∀ (s : Shared) (u : Value), BindsTo s fd ⟨[u], []⟩ [("_law_script", u)]) ∧ ∀ base : Heap, (K w.params).In base → base.Ns mainGlobals mg → FnOk l.prog w (K w.params) mg base CX0 k fa fd ["_law_script"] (spLaw (K w.params))) :
    PySem.W.WalkO q loose XP YP l.row.toRowW d [] (fun f vs => PySem.call f vs) :=
  L2.walk_of (n := 63) (k := k) (x := "_law_script") (CX := fun _ => CX0) (sp := fun w => spLaw (K w.params)) hn (by decide) hdf hk hY F (fun _ _ a ns hl _ hS => ⟨a, ns, rfl, hS, hl, fun _ => rfl⟩) fun _ _ _ _ _ z => z
end My

namespace L2
open PySem PySem.Spec PyProof.Rows
section
variable {X : Cx}
/-- text * n, n from 2 on -/
theorem op_mulSI : OpR X (binaryOp .Mult) (fun x y H Q => ∃ (z : Str) (n : Nat), x = .str z ∧ y = .int n ∧ 1 < n ∧ n < 1000 ∧ 0 < z.length ∧ z.length ≤ 10000 ∧ Q (.str ⟨(List.replicate n z.cps).foldl (· ++ ·) #[]⟩) H) := by
  intro pins s σ H x y v u Q I rx ry h
  obtain ⟨z, n, rfl, rfl, h1, h2, h3, h4, q⟩ := h
  obtain ⟨t, rfl⟩ := rx
  obtain ⟨t', rfl⟩ := ry
  have e1 : ¬ ((n : Int) < 1) := by omega
  have e2 : ((n : Int) == 1 || z.length == 0) = false := by
    rw [Bool.or_eq_false_iff, beq_eq_false_iff_ne, beq_eq_false_iff_ne]
    exact ⟨by omega, by omega⟩
  have hT : Builtin.Str.tooLong (z.length * (n : Int).toNat) = false := by
    have hm : z.length * (n : Int).toNat ≤ 10000 * 1000 := Nat.mul_le_mul h4 (by omega)
    have hs : sizeLine = 16777216 := sizeLine_eq
    unfold PySem.Builtin.Str.tooLong
    exact decide_eq_false (by omega)
  refine P.mul_str (by rw [decide_eq_false (by omega), decide_eq_false (by omega)]; rfl) (fun _ _ => ?_) (fun _ _ => ?_) ?_
  · have : (1000 : Int) ≤ (2 ^ 63 - 1) / (n : Int) / 10 := by
      rw [Int.ediv_ediv_of_nonneg (by omega)]
      apply Int.le_ediv_of_mul_le (by omega)
      omega
    omega
  · exact hT
  · rw [if_neg e1, if_neg (by rw [e2]; decide)]
    refine ⟨fits_reps ?_, .str _, H, I.tok _, ⟨_, rfl⟩, q⟩
    exact hT
end
end L2

/-! text * n, ANY SMALL n (own work). -/
namespace L2
open PySem PySem.Spec PyProof.Rows
theorem fold_app : ∀ (l : List (Array Nat)) (a : Array Nat), (l.foldl (· ++ ·) a).toList = a.toList ++ (l.map (·.toList)).flatten
  | [], a => by simp
  | x :: r, a => by
    rw [List.foldl_cons, fold_app r (a ++ x), Array.toList_append, List.map_cons, List.flatten_cons, List.append_assoc]
section
variable {X : Cx}
theorem op_mulSN : OpR X (binaryOp .Mult) (fun x y H Q => ∃ (z : Str) (n : Nat), x = .str z ∧ y = .int n ∧ n < 1000 ∧ 0 < z.length ∧ z.length ≤ 10000 ∧ ∀ r : Str, r.cps.toList = (List.replicate n z.cps.toList).flatten → Q (.str r) H) := by
  intro pins s σ H x y v u Q I rx ry h
  obtain ⟨z, n, rfl, rfl, h2, h3, h4, q⟩ := h
  by_cases e0 : n = 0
  · subst e0
    obtain ⟨t, rfl⟩ := rx
    obtain ⟨t', rfl⟩ := ry
    exact P.mul_str_none (by decide) (by decide) ⟨.str Str.empty, H, I.tok _, ⟨_, rfl⟩, q _ rfl⟩
  by_cases e1 : n = 1
  · subst e1
    obtain ⟨t, rfl⟩ := rx
    obtain ⟨t', rfl⟩ := ry
    refine P.mul_str (by decide) (fun _ h => ?_) (fun _ h => ?_) ?_
    · rw [Bool.or_eq_false_iff] at h; exact absurd h.1 (by decide)
    · rw [Bool.or_eq_false_iff] at h; exact absurd h.1 (by decide)
    · rw [if_neg (by decide), if_pos (by rw [Bool.or_eq_true]; exact .inl (by decide))]
      exact ⟨.str z, H, I, ⟨t, rfl⟩, q _ (by simp)⟩
  · refine op_mulSI pins s σ H _ _ v u Q I rx ry ⟨z, n, rfl, rfl, by omega, h2, h3, h4, q _ ?_⟩
    show ((List.replicate n z.cps).foldl (· ++ ·) #[]).toList = _
    rw [fold_app, List.map_replicate]
    rfl
end
end L2

/-! EXCEPTIONS WITH A DICT OF THEIR OWN (own work): what a frame that is left writes. -/
namespace L2
open PySem
section
variable {M : Model} {A : Around} {E : Value → Shared → Prop} {s : Shared} {base : Heap} {env : Env} {outer : List Env} {L x : Addr} {P : Addr → Prop} {C : Value} {od : Option Addr}
end
end L2

/-! EXCEPTIONS IN THE LAYER (own work): how one lies behind a call, how it passes, raise, try. -/
namespace L2
open PySem PySem.Spec PyProof.Rows
/-- an address of ours: new since the entry, no name's, no pin's, untracked -/
structure Our (X : Cx) (pins : List (Addr × Obj)) (H : Hp) (b : Addr) : Prop where
  new : X.s₀.heap.objs.size ≤ b
  loc : b ≠ X.env.locals
  cel : ∀ y c, X.env.cells.lookup y = some c → c ≠ b
  pin : ∀ p ∈ X.pn ++ pins, p.1 ≠ b
  unt : H b = none
section
variable {X : Cx} {pins : List (Addr × Obj)} {σ : St} {H H' : Hp} {s s' : Shared} {x b : Addr} {C : Value} {od : Option Addr}
theorem Inv.our' (I : Inv X pins σ H s) (h : s.heap.objs.size ≤ b) (hn : H' b = none) : Our X pins H' b := by
  have lt : ∀ c o, s.heap.get? c = some o → c ≠ b := fun c o e z => by
    subst z
    exact absurd (Nat.lt_of_lt_of_le (Heap.lt_size e) h) (Nat.lt_irrefl _)
  refine ⟨Nat.le_trans I.sz h, fun z => ?_, fun y c e => ?_, fun p hp => ?_, hn⟩
  · obtain ⟨m, ⟨o, _, _, ho, _⟩, _⟩ := I.loc
    exact lt _ o ho z.symm
  · obtain ⟨v, o, ho, _⟩ := I.cell y c e
    exact lt c o ho
  · exact lt p.1 _ (I.pin p hp).1
theorem Inv.our (I : Inv X pins σ H s) (h : s.heap.objs.size ≤ b) : Our X pins H b := I.our' h (I.hok.fresh h)
end
section
variable {X : Cx} {k : Nat} {f C : Addr} {fd : FuncData} {ps : List Str} {sp : Sp} {dvs : List V} {ds : List Value} {E : XS} {x m : Str} {p pos apos : Pos} {e o : Expr} {es : List Expr} {ta : TE} {t : TA}
end
end L2

/-! OWN EXCEPTIONS OVER ValueError (own work): made with an __init__ of the text's, with fields. -/
namespace L2
open PySem PySem.Spec PyProof.Rows Builtin Builtin.ObjectAttr
abbrev bmV : List Value := [.type "ValueError", .type "Exception", .type "BaseException", .type "object"]
/-- own classes ahead of ValueError's line -/
def tailV : List Value → Bool
  | [] => false
  | v :: r => (v :: r) == bmV || match v with | .ref _ => tailV r | _ => false
/-- what of the text an exception's class must have -/
structure XCl (K : PySem.W.Frag) (C : Addr) : Prop where
  at_ : ∃ (nm q : Str) (N : Addr) (bs bm : List Value) (sn : List Str) (sub : List Value) (ab : Bool) (col : Option Bool) (dd : Option Addr) (k0 k1 k2 k3 k5 : Option Value), K.lookup C = some (excClassObj nm q C N bs bm true sn sub ab col dd k0 k1 k2 k3 k5 "ValueError.__new__") ∧ tailV bm = true
  ga : PySem.W.findIn K (.ref C) "__getattribute__" = some (some (.builtin "BaseException.__getattribute__"))
  gx : PySem.W.findIn K (.ref C) "__getattr__" = some none
  sa : PySem.W.findIn K (.ref C) "__setattr__" = some (some (.builtin "object.__setattr__"))
  kp : PySem.W.keepIn K (.ref C) = true
theorem xcl_mk {K : PySem.W.Frag} {C N : Addr} {nm q : Str} {bs bm : List Value} {sn : List Str} {sub : List Value} {ab : Bool} {col : Option Bool} {dd : Option Addr} {k0 k1 k2 k3 k5 : Option Value}
    (l : K.lookup C = some (excClassObj nm q C N bs bm true sn sub ab col dd k0 k1 k2 k3 k5 "ValueError.__new__")) (t : tailV bm = true) (ga : PySem.W.findIn K (.ref C) "__getattribute__" = some (some (.builtin "BaseException.__getattribute__")))
    (gx : PySem.W.findIn K (.ref C) "__getattr__" = some none) (sa : PySem.W.findIn K (.ref C) "__setattr__" = some (some (.builtin "object.__setattr__"))) (kp : PySem.W.keepIn K (.ref C) = true) : XCl K C :=
  ⟨⟨nm, q, N, bs, bm, sn, sub, ab, col, dd, k0, k1, k2, k3, k5, l, t⟩, ga, gx, sa, kp⟩
section
variable {prog : Program} {w : World} {A : Around} {E : Value → Shared → Prop} {h : Heap} {g : Array GenState} {d : Drawn} {t : Nat} {os : OsState}
variable {nm q : Str} {C N : Addr} {bs bm : List Value} {sn : List Str} {sub : List Value} {ab : Bool} {col : Option Bool} {dd : Option Addr} {k0 k1 k2 k3 k5 : Option Value}
end
section
variable {prog : Program} {w : World} {A : Around} {E : Value → Shared → Prop} {s : Shared} {K : PySem.W.Frag} {x C dx t0 : Addr} {name : Str} {v : Value}
end
end L2

/-! RAISE, TRY, FIELDS OF EXCEPTIONS (own work). -/
namespace L2
open PySem PySem.Spec PyProof.Rows Builtin Builtin.ObjectAttr
section
variable {P : Program} {w : World} {H : Hp} {h : Heap} {x C dx t : Addr} {od : Option Addr}
end
section
variable {X : Cx} {pins : List (Addr × Obj)} {σ : St} {H : Hp} {s : Shared} {x dx C : Addr} {φ : Heap → Prop} {od : Option Addr}
/-- something of ours is looked after from now on -/
theorem Inv.track {o : HO} (I : Inv X pins σ H s) (hx : Our X pins H x) (new : ObjOk X.prog X.w (upd H x o) s.heap x o) : Inv X pins σ (upd H x o) s := by
  have ne : ∀ b u, H b = some u → b ≠ x := fun b u q z => by rw [z, hx.unt] at q; cases q
  refine I.step (h' := s.heap) (g' := s.gens) (d' := s.drawn) (t' := s.toks) (ch := [x]) (fun b hb => ?_) (fun b o _ _ _ e _ => e) (fun b o _ _ _ e _ => ⟨o.slots, e⟩) (fun b o hc e n => ?_) (fun b o _ e => ⟨o, e⟩) (fun b xs e => ?_) (fun b u xs e => ?_) (fun b ps e => ⟨#[], ?_⟩) (fun m hm => hm) (fun b u q => ?_) I.bare
  · rw [List.mem_singleton.mp hb]
    exact ⟨.inr hx.new, hx.loc, hx.cel, hx.pin⟩
  · rw [upd_ne fun z => hc (by rw [z]; exact List.mem_singleton.mpr rfl)]
    exact n
  · rw [upd_ne (ne b _ e)]; exact e
  · rw [upd_ne (ne b _ e)]; exact e
  · rw [upd_ne (ne b _ e), e]; simp
  · by_cases hb : b = x
    · subst hb
      rw [upd_same] at q
      cases q
      exact new
    · rw [upd_ne hb] at q
      exact (I.hok b u q).stay (fun _ _ _ r => r) (fun c r => by rw [upd_ne (ne c _ r)]; exact r) fun c xs r => by rw [upd_ne (ne c _ r)]; exact r
end
section
variable {X : Cx} {k : Nat} {f C : Addr} {fd : FuncData} {ps : List Str} {sp : Sp} {dvs : List V} {ds : List Value} {E : XS} {x m : Str} {p pos apos : Pos} {e o : Expr} {es : List Expr} {ta te : TE} {t : TA}
end
end L2

/-! FIELDS OF EXCEPTIONS, THEIR BASE'S __init__, TRY (own work). -/
namespace L2
open PySem PySem.Spec PyProof.Rows Builtin Builtin.ObjectAttr
section
variable {X : Cx} {o e value : Expr} {f : Str} {pos pos' tpos : Pos} {ta tv : TE}
end
/-! ### B.__init__(self, ..), B an own class whose __init__ is ValueError's -/
section
variable {prog : Program} {w : World} {A : Around} {E : Value → Shared → Prop} {h : Heap} {g : Array GenState} {d : Drawn} {t : Nat} {os : OsState}
variable {nm q : Str} {C N x t0 : Addr} {bs bm : List Value} {sn : List Str} {sub : List Value} {ab : Bool} {col : Option Bool} {dd : Option Addr} {k0 k1 k2 k3 k5 : Option Value}
end
section
variable {X : Cx} {B : Addr} {y : Str} {p pos apos : Pos} {e : Expr} {es : List Expr} {t : TA}
end
/-! ### try .. except C as n -/
section
variable {X : Cx} {pins : List (Addr × Obj)} {σ : St} {H : Hp} {s : Shared} {x : Addr} {E : Value → Shared → Prop}
end
section
variable {X : Cx} {body : List Stmt} {cx n : Str} {b₀ : Stmt} {suite : List Stmt} {np hp pos : Pos} {CN : Addr} {i : Nat} {tb : Ends → TS} {ts : Addr → TS}
end
end L2

/-! OWN EXCEPTIONS WITHOUT AN __init__ OF THEIR OWN (own work). -/
namespace L2
open PySem PySem.Spec PyProof.Rows Builtin Builtin.ObjectAttr
section
variable {prog : Program} {w : World} {A : Around} {E : Value → Shared → Prop} {h : Heap} {g : Array GenState} {d : Drawn} {t : Nat} {os : OsState}
variable {nm q : Str} {C N : Addr} {bs bm : List Value} {sn : List Str} {sub : List Value} {ab : Bool} {col : Option Bool} {dd : Option Addr} {k0 k1 k2 k3 k5 : Option Value}
end
section
variable {X : Cx} {C : Addr} {x : Str} {p pos : Pos} {e : Expr} {es : List Expr} {t : TA}
end
end L2

/-! isinstance OF EXCEPTIONS, except OF A CLASS ABOVE (own work). -/
namespace L2
open PySem PySem.Spec PyProof.Rows Builtin Builtin.ObjectAttr
section
variable {prog : Program} {w : World} {A : Around} {E : Value → Shared → Prop} {s : Shared} {K : PySem.W.Frag} {x C : Addr} {ox : Obj} {od : Option Obj}
end
section
variable {X : Cx} {pins : List (Addr × Obj)} {σ : St} {H : Hp} {s : Shared} {a C : Addr} {od : Option Addr}
end
/-! ### except of a class above -/
section
variable {M : Model} {A : Around} {E : Value → Shared → Prop} {h : Heap} {g : Array GenState} {d : Drawn} {t : Nat} {os : OsState}
variable {nm q : Str} {C N : Addr} {bs bm : List Value} {sn : List Str} {sub : List Value} {ab : Bool} {col : Option Bool} {dd : Option Addr} {k0 k1 k2 k3 k5 : Option Value}
variable {nm' q' : Str} {D N' : Addr} {bs' bm' : List Value} {sn' : List Str} {sub' : List Value} {ab' : Bool} {col' : Option Bool} {dd' : Option Addr} {j0 j1 j2 j3 j5 : Option Value}
end
section
variable {X : Cx} {body : List Stmt} {cx n : Str} {b₀ : Stmt} {suite : List Stmt} {np hp pos : Pos} {CN : Addr} {i : Nat} {tb : Ends → TS} {tc : Addr → Addr → TS} {ts : Addr → TS}
end
end L2

/-! DICTS WALKED (own work): a dict stands frozen while it is walked. -/
namespace L2
open PySem PySem.Spec PyProof.Rows
section
variable {X : Cx} {pins : List (Addr × Obj)} {σ : St} {H : Hp} {s : Shared} {a : Addr} {kvs : List (Key × V)} {o : Obj}
theorem Inv.freeze (I : Inv X pins σ H s) (e : H a = some (.dK kvs)) (ho : s.heap.get? a = some o) : Inv X pins σ (upd H a (.frz o (.dK kvs))) s := by
  have ne : ∀ b u, H b = some u → u ≠ .dK kvs → b ≠ a := fun b u q n z => by
    subst z
    rw [e] at q
    exact n (Option.some.inj q).symm
  have nn : ∀ b, H b = none → b ≠ a := fun b q z => by subst z; rw [e] at q; cases q
  refine ⟨I.ok, I.os, I.bare, ⟨I.base.keep, I.base.slot, fun b ob q n hx => ?_, I.base.there, fun b xs q => ?_, fun b ob u q => ?_, fun b ps q => ?_⟩, I.loc, I.cell, ?_, fun x c q => ?_, fun p hp => ?_, fun b u q => ?_, I.len⟩
  · have h := I.base.free b ob q n hx
    rw [upd_ne (nn b h)]
    exact h
  · have h := I.base.tups b xs q
    rw [upd_ne (ne b _ h (by simp))]
    exact h
  · have h := I.base.frzs b ob u q
    rw [upd_ne (ne b _ h (by simp))]
    exact h
  · obtain ⟨m, h⟩ := I.base.tbls b ps q
    exact ⟨m, by rw [upd_ne (ne b _ h (by simp))]; exact h⟩
  · rw [upd_ne (nn _ I.free)]
    exact I.free
  · rw [upd_ne (nn _ (I.freeC x c q))]
    exact I.freeC x c q
  · obtain ⟨h1, h2, h3⟩ := I.pin p hp
    exact ⟨h1, by rw [upd_ne (nn _ h2)]; exact h2, h3⟩
  · by_cases hb : b = a
    · subst hb
      rw [upd_same] at q
      cases q
      exact ⟨ho, I.hok b _ e⟩
    · rw [upd_ne hb] at q
      exact (I.hok b u q).stay (fun c v _ r => r) (fun c r => by rw [upd_ne (ne c _ r (by simp))]; exact r) fun c xs r => by rw [upd_ne (ne c _ r (by simp))]; exact r
theorem Inv.thaw (I : Inv X pins σ H s) (n0 : ∀ ob u, X.H₀ a ≠ some (.frz ob u)) (e : H a = some (.frz o (.dK kvs))) : Inv X pins σ (upd H a (.dK kvs)) s := by
  have ne : ∀ b u, H b = some u → u ≠ .frz o (.dK kvs) → b ≠ a := fun b u q n z => by
    subst z
    rw [e] at q
    exact n (Option.some.inj q).symm
  have nn : ∀ b, H b = none → b ≠ a := fun b q z => by subst z; rw [e] at q; cases q
  refine ⟨I.ok, I.os, I.bare, ⟨I.base.keep, I.base.slot, fun b ob q n hx => ?_, I.base.there, fun b xs q => ?_, fun b ob u q => ?_, fun b ps q => ?_⟩, I.loc, I.cell, ?_, fun x c q => ?_, fun p hp => ?_, fun b u q => ?_, I.len⟩
  · have h := I.base.free b ob q n hx
    rw [upd_ne (nn b h)]
    exact h
  · have h := I.base.tups b xs q
    rw [upd_ne (ne b _ h (by simp))]
    exact h
  · have h := I.base.frzs b ob u q
    rw [upd_ne (fun z => by subst z; exact n0 _ _ q)]
    exact h
  · obtain ⟨m, h⟩ := I.base.tbls b ps q
    exact ⟨m, by rw [upd_ne (ne b _ h (by simp))]; exact h⟩
  · rw [upd_ne (nn _ I.free)]
    exact I.free
  · rw [upd_ne (nn _ (I.freeC x c q))]
    exact I.freeC x c q
  · obtain ⟨h1, h2, h3⟩ := I.pin p hp
    exact ⟨h1, by rw [upd_ne (nn _ h2)]; exact h2, h3⟩
  · by_cases hb : b = a
    · subst hb
      rw [upd_same] at q
      cases q
      exact (I.hok b _ e).2
    · rw [upd_ne hb] at q
      exact (I.hok b u q).stay (fun c v _ r => r) (fun c r => by rw [upd_ne (ne c _ r (by simp))]; exact r) fun c xs r => by rw [upd_ne (ne c _ r (by simp))]; exact r
theorem Inv.dk_obj (I : Inv X pins σ H s) (e : H a = some (.dK kvs)) : ∃ o, s.heap.get? a = some o := by
  obtain ⟨_, _, _, _, o, _, _, g, _⟩ := I.hok a _ e
  exact ⟨o, g⟩
theorem Inv.not_frz (I : Inv X pins σ H s) (e : H a = some (.dK kvs)) : ∀ ob u, X.H₀ a ≠ some (.frz ob u) := fun ob u q => by
  have := I.base.frzs a ob u q
  rw [e] at this
  cases this
/-- a statement, an expression, while a dict stands frozen -/
def frzE (a : Addr) (o : Obj) (kvs : List (Key × V)) (D : Ends) : Ends where
  nx := fun σ' H' => H' a = some (.frz o (.dK kvs)) ∧ D.nx σ' (upd H' a (.dK kvs))
  rt := fun v H' => H' a = some (.frz o (.dK kvs)) ∧ D.rt v (upd H' a (.dK kvs))
  bk := fun σ' H' => H' a = some (.frz o (.dK kvs)) ∧ D.bk σ' (upd H' a (.dK kvs))
  ct := fun σ' H' => H' a = some (.frz o (.dK kvs)) ∧ D.ct σ' (upd H' a (.dK kvs))
def sFrz (t : TS) : TS := fun D σ H => ∃ a kvs, H a = some (.dK kvs) ∧ ∀ o, t (frzE a o kvs D) σ (upd H a (.frz o (.dK kvs)))
theorem ps_frz {st : Stmt} {t : TS} (h : PS X st t) : PS X st (sFrz t) := by
  intro pins s σ H D I hq
  obtain ⟨a, kvs, e, q⟩ := hq
  obtain ⟨o, ho⟩ := I.dk_obj e
  have n0 := I.not_frz e
  refine thn (h pins s σ _ _ (I.freeze e ho) (q o)) fun f s' hs => ?_
  cases f with
  | next => obtain ⟨σ', H', I', e', z⟩ := hs; exact ⟨σ', _, I'.thaw n0 e', z⟩
  | brk => obtain ⟨σ', H', I', e', z⟩ := hs; exact ⟨σ', _, I'.thaw n0 e', z⟩
  | cont => obtain ⟨σ', H', I', e', z⟩ := hs; exact ⟨σ', _, I'.thaw n0 e', z⟩
  | ret u => obtain ⟨v, σ', H', I', r, e', z⟩ := hs; exact ⟨v, σ', _, I'.thaw n0 e', r, z⟩
end

/-! ### the keys of a frozen dict, one by one -/
def epOf (o : Obj) : Nat := match o.data with
  | .dict _ ep => ep
  | _ => 0
theorem is_kV {P : Program} {w : World} : ∀ {k : Key} {u : Value}, (mixKind P w).is k u = true → RelV (kV k) u := by
  intro k u h
  rcases keyIs_shape (k := k) (v := u) h with ⟨i, t, rfl, rfl⟩ | ⟨x, t, rfl, rfl⟩
  · exact ⟨t, rfl⟩
  · exact ⟨t, rfl⟩
section
variable {X : Cx}
theorem kv_get : ∀ {kvs : List (Key × V)} {vs : List (Key × Value)} {i : Nat} {p : Key × V}, KV kvs vs → kvs[i]? = some p → ∃ u, vs[i]? = some (p.1, u) ∧ RelV p.2 u
  | _, _, _, _, .nil, e => by simp at e
  | _, _, 0, _, .cons (b := q) r _, e => by
    simp at e
    subst e
    obtain ⟨q1, q2⟩ := q
    obtain ⟨r1, r2⟩ := r
    exact ⟨q2, by rw [List.getElem?_cons_zero]; exact congrArg (fun z => some (z, q2)) r1.symm, r2⟩
  | _, _, i + 1, p, .cons _ t, e => by
    obtain ⟨u, h1, h2⟩ := kv_get (i := i) (p := p) t (by simpa using e)
    exact ⟨u, by simpa using h1, h2⟩
theorem Inv.dictAt {pins : List (Addr × Obj)} {σ : St} {H : Hp} {s : Shared} {a : Addr} {o : Obj} {kvs : List (Key × V)} (I : Inv X pins σ H s) (e : H a = some (.frz o (.dK kvs))) :
    ∃ vs, KV kvs vs ∧ s.heap.DictAt (mixKind X.prog X.w) a vs (epOf o) ∧ (a == sysModules) = false := by
  obtain ⟨g, _, hs, vs, kv, o', es, ep, g', ex, hd, hk, hp, hn⟩ := I.hok a _ e
  rw [g] at g'
  cases g'
  have he : epOf o = ep := by unfold epOf; rw [hd]
  exact ⟨vs, kv, ⟨o, es, g, ex, by rw [he]; exact hd, hk, hp, hn⟩, hs⟩
theorem KV.len {kvs : List (Key × V)} {vs : List (Key × Value)} (r : KV kvs vs) : kvs.length = vs.length := Paired.length r
end
end L2

namespace L2
open PySem PySem.Spec PyProof.Rows
theorem strs_of : ∀ {zs : List Str} {us : List Value}, Vals (zs.map V.str) us → StrsAre us zs
  | [], _, r => by rw [List.map_nil] at r; cases r; exact .nil
  | z :: zs, _, r => by
    rw [List.map_cons] at r
    cases r with
    | cons h t =>
      obtain ⟨k, rfl⟩ := h
      exact .cons _ _ (strs_of t)
theorem vals_strs : ∀ {us : List Value} {zs : List Str}, StrsAre us zs → Vals (zs.map V.str) us
  | _, _, .nil => .nil
  | _, _, .cons _ k t => .cons ⟨_, rfl⟩ (vals_strs t)
section
variable {X : Cx}
end
end L2

namespace L2
open PySem PySem.Spec PyProof.Rows
/-! ### for (k, v) in d.items(): a frozen dict's pairs, each as a new tuple -/
theorem entry_itemiter_iter : entryFor table "dict_itemiterator.__iter__" = some Builtin.«dict_keyiterator.__iter__» :=
  entryFor_alias (id' := "dict_keyiterator.__iter__") (by kernel_rfl) rfl (by decide +kernel) (by kernel_rfl)
theorem iter_itemiter {prog : Program} {w : World} {A : Around} {E : Value → Shared → Prop} {s : Shared} {it d : Addr} {i n ep : Nat} {ok ov : Value} {Q : Value → Shared → Prop} (hit : IsItemIter s.heap it d i n ep ok ov) (h : Q (.ref it) s) : wpAny (model prog w) A (pyIter (.ref it)) Q E s := by
  have hT : s.TypeIs (.ref it) "dict_itemiterator" := ⟨_, hit, rfl⟩
  refine wpAny_pyIter_slot hT F.slot_dict_itemiterator_iter (wpAny_call_entry F.slot_dict_itemiterator_iter hT entry_itemiter_iter ?_ (F.args_dict_itemiterator_iter_1 _))
  show wpAny _ _ (ret (.ref it)) _ _ s
  exact wpAny_pure ⟨_, rfl, "dict_itemiterator", _, hT, F.slot_dict_itemiterator_next.lookup, h⟩
def Itm (a : Addr) (o : Obj) (kvs : List (Key × V)) : It :=
  ⟨fun i H => i < kvs.length ∧ H a = some (.frz o (.dK kvs)), fun i H x H' => ∃ k v p, kvs[i]? = some (k, v) ∧ x = .ref p ∧ H p = none ∧ H' = upd H p (.tup [kV k, v]), fun i H => kvs.length ≤ i ∧ H a = some (.frz o (.dK kvs))⟩
section
variable {X : Cx}
theorem turn_items {P : Program} {w : World} {K : PySem.W.Frag} {es : List Expr} {x1 : Nat} {tp : Pos} (a it : Addr) (o : Obj) (kvs : List (Key × V)) : Turn P w K (.Tuple es x1 tp) (Itm a o kvs) [it] it (fun i h => ∃ ok ov, IsItemIter h it a i kvs.length (epOf o) ok ov) where
  mem := by simp
  obj := fun i h st b hb => by
    have e : b = it := by simpa using hb
    subst e
    obtain ⟨ok, ov, st⟩ := st
    exact ⟨_, st, fun v z => by cases z⟩
  keep := fun i h h' st k => by
    obtain ⟨ok, ov, st⟩ := st
    exact ⟨ok, ov, k it (by simp) _ st⟩
  item := by
    intro X hP hw hK hc i pins s σ H E I hf st hg
    subst hP hw hK
    obtain ⟨hi, hq⟩ := hg
    obtain ⟨ok, ov, st⟩ := st
    obtain ⟨vs, kv, da, _⟩ := I.dictAt hq
    have hl := kv.len
    obtain ⟨u, hu, ru⟩ := kv_get kv (show kvs[i]? = some (kvs[i].1, kvs[i].2) by simp [hi])
    obtain ⟨f0, f1, f2, f3, f4, f5⟩ := hf it (by simp)
    have hit : it < s.heap.objs.size := Heap.lt_size st
    rw [hl] at st
    refine wpAny_pyNext_items_item st da hu fun key h' hkey st' ht hsz kp => ?_
    refine ⟨_, rfl, ?_⟩
    refine wpAny_letOwnedTupleGo_items (s := { s with heap := h' }) st' fun h'' st'' sb => ?_
    rw [← hl] at st''
    have I0 : Inv X pins σ H { s with heap := s.heap.update it fun _ => { cls := .type "dict_itemiterator", dict := none, data := .fields #[.none, .bool false, .ref a, .int (i + 1 : Nat) 0, .int kvs.length 0, .int (epOf o) 0, key, u], slots := #[] } } :=
      I.turned (t' := s.toks) (fun b ob hb e => by rw [Heap.get?_update_ne _ _ _ _ hb]; exact e) f0 f1 f3 f4 f5
    have hp : H s.heap.objs.size = none := I.hok.fresh (Nat.le_refl _)
    refine ⟨.ref s.heap.objs.size, upd H s.heap.objs.size (.tup [kV kvs[i].1, kvs[i].2]), I0.laid (t' := s.toks) (h' := h'') (fun b ob e => ?_) (by rw [Heap.size_update]; exact Nat.le_refl _) ?_, rfl, ⟨_, _, _, by simp [hi], rfl, hp, rfl⟩, ⟨key, u, st''⟩, fun b hb => ?_⟩
    · by_cases hb : b = it
      · subst hb
        rw [Heap.get?_update_self _ st rfl] at e
        rw [← e]
        exact st''
      · rw [Heap.get?_update_ne _ _ _ _ hb] at e
        exact (sb.2 b hb).trans (kp b ob hb e)
    · refine ⟨(show 2 ≤ sizeLine by decide), [key, u], .cons (is_kV hkey) (.cons ru .nil), ⟨_, (sb.2 _ (Nat.ne_of_gt hit)).trans ht, rfl, _, rfl⟩⟩
    · have e : b = it := by simpa using hb
      subst e
      rw [upd_ne (Nat.ne_of_lt hit)]
      exact f0
  done := by
    intro X hP hw hK hc i pins s σ H E I hf st hg
    subst hP hw hK
    obtain ⟨hi, hq⟩ := hg
    obtain ⟨ok, ov, st⟩ := st
    obtain ⟨vs, kv, da, _⟩ := I.dictAt hq
    have hl := kv.len
    obtain ⟨f0, f1, f2, f3, f4, f5⟩ := hf it (by simp)
    rw [hl] at st
    exact wpAny_pyNext_items_end (I.ok.hd hc) st da (by simp; omega) fun h' eb => ⟨rfl, I.turned (t' := s.toks) (fun b o hb e => eb b o hb e) f0 f1 f3 f4 f5⟩
  self := fun A i s Q E st h => by
    obtain ⟨ok, ov, st⟩ := st
    exact iter_itemiter st h
/-- d.items(), d frozen -/
def iItems (tl : TE) : TI := fun σ H R => tl σ H fun x H1 => ∃ a o kvs, x = .ref a ∧ H1 a = some (.frz o (.dK kvs)) ∧ R (Itm a o kvs) H1
theorem pi_items {es : List Expr} {x1 : Nat} {tp : Pos} {l : Expr} {tl : TE} {apos cpos : Pos} (hl : PE X l tl) (hbase : attributeBase l "items" X.env (eval l X.env) = eval l X.env := by rfl) (hline : (apos.endLine == cpos.line) = true := by rfl) :
    PI X (.Tuple es x1 tp) (.Call (.Attribute l "items" apos) [] [] cpos) (iItems tl) := by
  intro pins s σ H R I h
  refine wpAny_Call_method0_late hbase hline (thn (hl pins s σ H _ I h) fun v s1 ⟨x, H1, I1, r1, q1⟩ => ?_)
  obtain ⟨a, o, kvs, e, hq, q⟩ := q1
  subst e
  cases r1
  obtain ⟨vs, kv, da, hs⟩ := I1.dictAt hq
  obtain ⟨g, _⟩ := I1.hok a _ hq
  have ex : o.ExactDict := by
    obtain ⟨o', es', g', x', _⟩ := id da
    rw [g] at g'
    cases g'
    exact x'
  refine ⟨"dict", "dict.items", F.plainAttrs_dict, F.slot_dict_items, F.type_dict_items, da.dictOf.typeIs, (fun b e => by cases e; exact ⟨o, g, ex.2.1⟩), Calls.callWith_builtin rfl (PySem.evalArgs_none ?_)⟩
  refine call_meetsIn F.slot_dict_items da.dictOf.typeIs F.entry_dict_items (F.args_dict_items_1 _) (meets_dict_items (mixKind X.prog X.w) a hs) ⟨⟨vs, da.dictOf⟩, ?_⟩
  have I2 : Inv X pins σ H1 { s1 with heap := s1.heap.push { cls := .type "dict_items", data := .fields #[.ref a] } } := I1.kept (t' := s1.toks) fun b o e => Heap.get?_push_of_some _ e
  refine wpAny_pyIter_items (s := { s1 with heap := s1.heap.push { cls := .type "dict_items", data := .fields #[.ref a] } }) (knd := mixKind X.prog X.w) (kvs := vs) (ep := epOf o) ⟨_, Heap.get?_push_size _ rfl, rfl, rfl⟩ (da.push _) ?_
  refine ⟨_, [_], _, _, H1, rfl, I2.kept (t' := s1.toks) fun b o e => Heap.get?_push_of_some _ e, turn_items a _ o kvs, ⟨.none, .none, by rw [kv.len]; exact Heap.get?_push_size _ rfl⟩, fun b hb => ?_, q⟩
  have e := List.mem_singleton.mp hb
  subst e
  exact I2.fpOk (Nat.le_refl _) (I2.hok.fresh (Nat.le_refl _))
/-- the loop -/
theorem for_items {a : Addr} {o : Obj} {kvs : List (Key × V)} {g : TG} {tb : TS} {D : Ends} {σ : St} {H : Hp} (Pv : Nat → St → Hp → Prop) (h0 : Pv 0 σ H) (hl : ∀ i σ H, i ≤ kvs.length → Pv i σ H → H a = some (.frz o (.dK kvs)))
    (hs : ∀ i k v p σ H, kvs[i]? = some (k, v) → Pv i σ H → H p = none → g (.ref p) σ (upd H p (.tup [kV k, v])) fun σ2 H2 => tb { D with nx := Pv (i + 1), ct := Pv (i + 1), bk := D.nx } σ2 H2) (hd : ∀ σ H, Pv kvs.length σ H → D.nx σ H) :
    ∃ W : Nat → Nat → St → Hp → Prop, (∃ m, W 0 m σ H) ∧ ∀ i m σ H, W i m σ H →
      ((Itm a o kvs).stop i H ∧ D.nx σ H) ∨ ((Itm a o kvs).go i H ∧ ∃ N : St → Hp → Prop, (∀ σ' H', N σ' H' → ∃ m', m' < m ∧ W (i + 1) m' σ' H') ∧ ∀ x H', (Itm a o kvs).yld i H x H' → g x σ H' fun σ2 H2 => tb { D with nx := N, ct := N, bk := D.nx } σ2 H2) := by
  refine ⟨fun i m σ H => m = kvs.length - i ∧ i ≤ kvs.length ∧ Pv i σ H, ⟨kvs.length, by simp, Nat.zero_le _, h0⟩, ?_⟩
  rintro i m σ H ⟨rfl, hi, p⟩
  have q := hl i σ H hi p
  by_cases hlt : i < kvs.length
  · refine .inr ⟨⟨hlt, q⟩, Pv (i + 1), fun σ' H' p' => ⟨kvs.length - (i + 1), by omega, rfl, hlt, p'⟩, fun x H' y => ?_⟩
    obtain ⟨k, v, pa, hk, ex, hn, e⟩ := y
    subst e ex
    exact hs i k v pa σ H hk p hn
  · have e : i = kvs.length := by omega
    subst e
    exact .inl ⟨⟨Nat.le_refl _, q⟩, hd σ H p⟩
/-- d.clear(), dict(d) -/
theorem mt_dclear : MtR X "dict.clear" (fun x xs H Q => ∃ a kvs, x = .ref a ∧ xs = [] ∧ H a = some (.dK kvs) ∧ Q .non (upd H a (.dK []))) := by
  intro pins s σ H x xs v us Q I rx r h
  obtain ⟨a, kvs, rfl, rfl, e, q⟩ := h
  cases rx
  cases r
  exact d_clear I e fun s' I' => ⟨.non, _, I', rfl, q⟩
theorem call_dict_of : CallR X (.type "dict") (fun xs H Q => ∃ a kvs, xs = [.ref a] ∧ Rd H a (.dK kvs) ∧ ∀ p, H p = none → Q (.ref p) (upd H p (.dK kvs))) := by
  intro pins s σ H xs us Q I r h
  obtain ⟨a, kvs, rfl, e, q⟩ := h
  obtain ⟨u, rfl, rx⟩ := vals1 r
  cases rx
  exact d_copyOf I e fun p s' hp I' => ⟨.ref p, _, I', rfl, q p hp⟩
end
end L2

namespace L2
open PySem PySem.Spec PyProof.Rows
theorem ObjOk.there {P : Program} {w : World} {H : Hp} {h : Heap} {a : Addr} {o : HO} (x : ObjOk P w H h a o) : ∃ ob, h.get? a = some ob := by
  cases o with
  | lst xs => obtain ⟨_, _, _, _, e⟩ := x; exact ⟨_, e⟩
  | tup xs => obtain ⟨_, _, _, o, e, _⟩ := x; exact ⟨_, e⟩
  | dK kvs => obtain ⟨_, _, _, _, o, _, _, e, _⟩ := x; exact ⟨_, e⟩
  | dT kvs => obtain ⟨_, _, _, _, o, _, _, e, _⟩ := x; exact ⟨_, e⟩
  | set S n => obtain ⟨o, _, _, _, e, _⟩ := x; exact ⟨_, e⟩
  | ins C dx fs => obtain ⟨_, _, _, e, _⟩ := x; exact ⟨_, e⟩
  | own y => exact x
  | xd fs => obtain ⟨_, ⟨_, _, _, e, _⟩, _⟩ := x; exact ⟨_, e⟩
  | met f y => exact ⟨_, x⟩
  | rng lo hi => obtain ⟨_, _, _, e⟩ := x; exact ⟨_, e⟩
  | frz ob u => exact ⟨_, x.1⟩
  | tbl ps => exact ⟨_, x⟩
  | ext φ => exact x.2.1
section
variable {X : Cx} {pins : List (Addr × Obj)} {σ : St} {H : Hp} {s : Shared} {h' : Heap} {a : Addr} {o : HO}
theorem Inv.none_at (I : Inv X pins σ H s) (hn : s.heap.get? a = none) : H a = none := by
  cases e : H a with
  | none => rfl
  | some u =>
    obtain ⟨ob, q⟩ := (I.hok a u e).there
    rw [hn] at q
    cases q
/-- a new object at an address where nothing stood -/
theorem Inv.laidAt {t' : Nat} (I : Inv X pins σ H s) (k : ∀ b u, s.heap.get? b = some u → h'.get? b = some u) (hn : s.heap.get? a = none) (new : ObjOk X.prog X.w (upd H a o) h' a o) : Inv X pins σ (upd H a o) { s with heap := h', toks := t' } := by
  have hH := I.none_at hn
  have ne : ∀ b u, s.heap.get? b = some u → b ≠ a := fun b u q z => by subst z; rw [hn] at q; cases q
  refine I.un ⟨fun b u q _ _ _ => k b u q, fun b u q _ _ _ => ⟨u.slots, k b u q⟩, fun b u q n _ => by rw [upd_ne (ne b u q)]; exact n, fun b u q _ => ⟨u, k b u q⟩,
    fun b xs q => by rw [upd_ne (ne_of_none q hH)]; exact q, fun b u xs q => by rw [upd_ne (ne_of_none q hH)]; exact q, fun b ps q => ⟨#[], by rw [upd_ne (ne_of_none q hH), q]; simp⟩⟩ fun b u q => ?_
  by_cases hb : b = a
  · subst hb
    rw [upd_same] at q
    cases q
    exact new
  · rw [upd_ne hb] at q
    exact (I.hok b u q).stay (fun c v _ r => k c v r) (fun c r => by rw [upd_ne (ne_of_none r hH)]; exact r) fun c xs r => by rw [upd_ne (ne_of_none r hH)]; exact r
end
theorem strs_at : ∀ (us : List Value) (zs : List Str), us.length = zs.length → (∀ (j : Nat) (v : Value) (z : Str), us[j]? = some v → zs[j]? = some z → ∃ t, v = Value.str z t) → StrsAre us zs
  | [], [], _, _ => .nil
  | [], _ :: _, h, _ => by simp at h
  | _ :: _, [], h, _ => by simp at h
  | u :: us, z :: zs, h, f => by
    obtain ⟨t, rfl⟩ := f 0 u z rfl rfl
    exact .cons _ _ (strs_at us zs (by simpa using h) fun j v y h1 h2 => f (j + 1) v y (by simpa using h1) (by simpa using h2))
theorem kv_key : ∀ {kvs : List (Key × V)} {vs : List (Key × Value)} {i : Nat} {q : Key × Value}, KV kvs vs → vs[i]? = some q → (kvs.map (·.1))[i]? = some q.1
  | _, _, _, _, .nil, e => by simp at e
  | _, _, 0, _, .cons r _, e => by
    simp at e
    subst e
    simp [r.1]
  | _, _, i + 1, q, .cons _ t, e => by
    have h := kv_key (i := i) (q := q) t (by simpa using e)
    simpa using h
section
variable {X : Cx}
/-- sorted(a dict whose keys are texts) -/
theorem call_sortedD (hc : X.calm = true) : CallR X (.builtin "sorted") (fun xs H Q => ∃ p kvs zs, xs = [.ref p] ∧ Rd H p (.dK kvs) ∧ kvs.map (·.1) = zs.map Sum.inr ∧ zs.length < 64 ∧ ∀ l ys, H l = none → ys.Perm zs → sortedS ys = true → Q (.ref l) (upd H l (.lst (ys.map V.str)))) := by
  intro pins s σ H xs us Q I r h
  obtain ⟨p, kvs, zs, rfl, hq, hz, h64, q⟩ := h
  obtain ⟨u, rfl, rx⟩ := vals1 r
  cases rx
  obtain ⟨hlen, lo, vs, kv, dd⟩ := hq.ok I.hok
  obtain ⟨ep, da⟩ := dd.dictAt
  have hl := kv.len
  have hl2 : kvs.length = zs.length := by simpa using congrArg List.length hz
  refine Calls.call_function_entry kind_sorted plain_sorted entry_sorted (args_sorted1 _) ?_
  unfold Builtin.«sorted»
  refine wpAny_bind (m := checkCount "sorted" 1 1 _) (wpAny_pure ?_)
  refine wpAny_bind (PySem.W.kdu_collect (PySem.W.kdl_dict (knd := mixKind X.prog X.w) (kvs := vs) (ep := ep) lo) (I.ok.hd hc) da (by rw [← hl]; exact hlen) fun h' tk acc hk hacc => ?_)
  have hS : StrsAre acc.toList zs := by
    refine strs_at _ _ (by rw [Array.length_toList, hacc.1, ← hl, hl2]) fun j v z h1 h2 => ?_
    obtain ⟨k, x, hx, hkv⟩ := hacc.2 j v (by rw [← Array.getElem?_toList]; exact h1)
    have hk' := kv_key kv hx
    rw [hz, List.getElem?_map, h2] at hk'
    have e : Sum.inr z = k := by simpa using hk'
    subst e
    exact is_kV hkv
  have hal : acc.toList.length = zs.length := by
    rw [Array.length_toList, hacc.1, ← hl, hl2]
  refine wpAny_bind (wpAny_newList ?_ (by rw [hal, ← hl2]; exact hlen))
  have hoL : (h'.push (seqObj "list" acc.toList.toArray 0)).get? h'.objs.size = some (seqObj "list" acc.toList.toArray 0) := Heap.get?_push_size _ rfl
  refine wpAny_bind (wpAny_holding (wpAny_call_entry slot_list_sort ⟨_, hoL, rfl⟩ entry_list_sort (list_sort_treeK (s := { s with heap := h'.push (seqObj "list" acc.toList.toArray 0), toks := tk }) strKind_oneLt hoL hS.keysOf (fun v₁ v₂ rest e => keyKind_strs (by rw [← e]; exact hS)) (by rw [hal]; exact h64) fun st' hp hs => ⟨_, rfl, ?_⟩) (args_list_sort _)))
  obtain ⟨ss', h1, h2, h3⟩ := sorted_out_str hS hp hs
  obtain ⟨e, he⟩ := sortedHeap_at (out := (arrOf st').map (·.2)) hoL
  have hn : s.heap.get? h'.objs.size = none := by
    cases q : s.heap.get? h'.objs.size with
    | none => rfl
    | some ob => exact absurd (Heap.lt_size (hk _ _ q)) (Nat.lt_irrefl _)
  refine wpAny_pure ⟨_, rfl, .ref h'.objs.size, _, I.laidAt (t' := tk) (o := .lst (ss'.map V.str)) (fun b ob q => ?_) hn ?_, rfl, q _ ss' (I.none_at hn) h2 h3⟩
  · have q' := hk b ob q
    have hlt := Heap.lt_size q'
    rw [sortedHeap_old (Nat.ne_of_lt hlt) (by rw [size_push']; exact Nat.lt_succ_of_lt hlt)]
    exact Heap.get?_push_of_some _ q'
  · exact ⟨by rw [List.length_map, h2.length_eq, ← hl2]; exact hlen, _, e, vals_strs h1, he⟩
end
end L2

namespace L2
open PySem PySem.Spec PyProof.Rows
/-! ### for (i, x) in enumerate(a list) -/
def Ite (K : PySem.W.Frag) (a : Addr) : It :=
  ⟨fun i H => ∃ xs x, SqL K H a xs ∧ xs[i]? = some x, fun i H x H' => ∃ y p, (∀ xs, SqL K H a xs → xs[i]? = some y) ∧ x = .ref p ∧ H p = none ∧ H' = upd H p (.tup [.int i, y]), fun i H => ∃ xs, SqL K H a xs ∧ xs.length ≤ i⟩
theorem turn_enum {P : Program} {w : World} {K : PySem.W.Frag} {es : List Expr} {x1 : Nat} {tp : Pos} (a e it : Addr) (ne : e ≠ it) : Turn P w K (.Tuple es x1 tp) (Ite K a) [e, it] e (fun i h => (∃ old, IsEnum h e it i old) ∧ h.IsListIter it a i) where
  mem := by simp
  obj := fun i h st b hb => by
    obtain ⟨⟨old, s1⟩, s2⟩ := st
    rcases List.mem_cons.mp hb with z | z
    · subst z
      exact ⟨_, s1, fun v z => by cases z⟩
    · have z := List.mem_singleton.mp z
      subst z
      obtain ⟨o, e, c, d⟩ := s2
      exact ⟨o, e, fun v z => by rw [d] at z; cases z⟩
  keep := fun i h h' st k => by
    obtain ⟨⟨old, s1⟩, s2⟩ := st
    exact ⟨⟨old, k e (by simp) _ s1⟩, s2.at fun o e => k it (by simp) o e⟩
  item := by
    intro X hP hw hK hc i pins s σ H E I hf st hg
    subst hP hw hK
    obtain ⟨⟨old, s1⟩, s2⟩ := st
    obtain ⟨xs, x, hq, hx⟩ := hg
    obtain ⟨its, rv, p, hz⟩ := I.list hq
    obtain ⟨u, hu, ru⟩ := rv.get hx
    obtain ⟨f0, f1, f2, f3, f4, f5⟩ := hf e (by simp)
    obtain ⟨g0, g1, g2, g3, g4, g5⟩ := hf it (by simp)
    have le : e < s.heap.objs.size := Heap.lt_size s1
    have li : it < s.heap.objs.size := by obtain ⟨o, e, _⟩ := s2; exact Heap.lt_size e
    refine wpAny_pyNext_enum_item s1 s2 p.isList (x := u) (by simpa using hu) ne fun h' st' si' ht hsz kp => ?_
    refine ⟨_, rfl, ?_⟩
    refine wpAny_letOwnedTupleGo_enum (s := { s with heap := h', toks := s.toks + 1 }) st' fun h'' st'' sb => ?_
    have si'' : h''.IsListIter it a (i + 1) := si'.at fun o q => (sb.2 it (Ne.symm ne)).trans q
    obtain ⟨oi, ei, ci, di⟩ := id si''
    obtain ⟨oi0, ei0, _⟩ := id s2
    have I0 : Inv X pins σ H { s with heap := s.heap.update e fun _ => { cls := .type "enumerate", dict := none, data := .fields #[.none, .bool false, .ref it, rawInt ((i : Int) + 1), .none, u], slots := #[] } } :=
      I.turned (t' := s.toks) (fun b ob hb q => by rw [Heap.get?_update_ne _ _ _ _ hb]; exact q) f0 f1 f3 f4 f5
    have I1 : Inv X pins σ H { s with heap := (s.heap.update e fun _ => { cls := .type "enumerate", dict := none, data := .fields #[.none, .bool false, .ref it, rawInt ((i : Int) + 1), .none, u], slots := #[] }).update it fun _ => oi } :=
      I0.turned (t' := s.toks) (fun b ob hb q => by rw [Heap.get?_update_ne _ _ _ _ hb]; exact q) g0 g1 g3 g4 g5
    have hp : H s.heap.objs.size = none := I.hok.fresh (Nat.le_refl _)
    have foi : oi.isFreed = false := (Heap.get?_some_iff.mp ei).2
    refine ⟨.ref s.heap.objs.size, upd H s.heap.objs.size (.tup [.int i, x]), I1.laid (t' := s.toks + 1) (h' := h'') (fun b ob q => ?_) (by rw [Heap.size_update, Heap.size_update]; exact Nat.le_refl _) ?_, rfl, ⟨x, _, fun ys hy => by rw [I.list_inj hy hq]; exact hx, rfl, hp, rfl⟩, ⟨⟨u, ?_⟩, si''⟩, fun b hb => ?_⟩
    · by_cases hb : b = it
      · subst hb
        rw [Heap.get?_update_self _ (show (s.heap.update e _).get? b = some oi0 by rw [Heap.get?_update_ne _ _ _ _ (Ne.symm ne)]; exact ei0) foi] at q
        rw [← q]
        exact ei
      · rw [Heap.get?_update_ne _ _ _ _ hb] at q
        by_cases hb2 : b = e
        · subst hb2
          rw [Heap.get?_update_self _ s1 rfl] at q
          rw [← q]
          exact st''
        · rw [Heap.get?_update_ne _ _ _ _ hb2] at q
          exact (sb.2 b hb2).trans (kp b ob hb2 hb q)
    · exact ⟨(show 2 ≤ sizeLine by decide), [.int i s.toks, u], .cons ⟨_, rfl⟩ (.cons ru .nil), ⟨_, (sb.2 _ (Nat.ne_of_gt le)).trans ht, rfl, _, rfl⟩⟩
    · exact st''
    · rcases List.mem_cons.mp hb with z | z
      · subst z
        rw [upd_ne (Nat.ne_of_lt le)]
        exact f0
      · have z := List.mem_singleton.mp z
        subst z
        rw [upd_ne (Nat.ne_of_lt li)]
        exact g0
  done := by
    intro X hP hw hK hc i pins s σ H E I hf st hg
    subst hP hw hK
    obtain ⟨⟨old, s1⟩, s2⟩ := st
    obtain ⟨xs, hq, hx⟩ := hg
    obtain ⟨its, rv, p, hz⟩ := I.list hq
    obtain ⟨g0, g1, g2, g3, g4, g5⟩ := hf it (by simp)
    have hl := rv.length
    exact wpAny_pyNext_enum_end (I.ok.hd hc) s1 s2 p.isList (by simp; omega) fun h' eb => ⟨rfl, I.turned (t' := s.toks) (fun b o hb e => eb b o hb e) g0 g1 g3 g4 g5⟩
  self := fun A i s Q E st h => by
    obtain ⟨⟨old, s1⟩, _⟩ := st
    exact wpAny_pyIter_enum s1 h
section
variable {X : Cx}
theorem boot_enum : bootBuiltins "enumerate" = some (.type "enumerate") := by decide +kernel
def iEnum (K : PySem.W.Frag) (ta : TA) : TI := fun σ H R => ta σ H fun vs H1 => ∃ a, vs = [.ref a] ∧ (∃ xs, SqL K H1 a xs) ∧ R (Ite K a) H1
theorem pi_enum {es : List Expr} {x1 : Nat} {tp : Pos} {l : Expr} {ta : TA} {p pos : Pos} (hg : Gl X "enumerate") (hm : X.mg "enumerate" = none) (ha : PA X [l] ta) (hs : starEach [l] X.env = [(false, eval l X.env)] := by rfl) :
    PI X (.Tuple es x1 tp) (.Call (.Name "enumerate" p) [l] [] pos) (iEnum X.K ta) := by
  intro pins s σ H R I h
  refine Call_ (ld_blt I hg hm boot_enum (PyProof.Rows.callWith_type1 (thn (ha pos pins s σ H _ I h) fun us s1 ⟨vs, H1, I1, r1, q1⟩ => ?_) hs rfl))
  obtain ⟨a, e, ⟨xs, hq⟩, q⟩ := q1
  subst e
  obtain ⟨u, rfl, rx⟩ := vals1 r1
  cases rx
  obtain ⟨its, rv, pl, hz⟩ := I1.list hq
  refine call_enumerate_list pl.isList fun h' he hi hsz hk => ?_
  have I2 : Inv X pins σ H1 { s1 with heap := h' } := I1.kept (t' := s1.toks) hk
  refine wpAny_pyIter_enum (s := { s1 with heap := h' }) he ?_
  refine ⟨s1.heap.objs.size + 1, [s1.heap.objs.size + 1, s1.heap.objs.size], _, _, H1, rfl, I2, turn_enum a _ _ (Nat.succ_ne_self _), ⟨⟨_, he⟩, hi⟩, fun b hb => ?_, q⟩
  have nb : s1.heap.objs.size ≤ b := by
    rcases List.mem_cons.mp hb with z | z
    · rw [z]; exact Nat.le_succ _
    · rw [List.mem_singleton.mp z]; exact Nat.le_refl _
  exact I1.fpOk nb (I1.hok.fresh nb)
/-- the loop -/
theorem for_enum {K : PySem.W.Frag} {a : Addr} {xs : List V} {g : TG} {tb : TS} {D : Ends} {σ : St} {H : Hp} (Pv : Nat → St → Hp → Prop) (h0 : Pv 0 σ H) (hl : ∀ i σ H, i ≤ xs.length → Pv i σ H → SqL K H a xs)
    (hs : ∀ i x p σ H, xs[i]? = some x → Pv i σ H → H p = none → g (.ref p) σ (upd H p (.tup [.int i, x])) fun σ2 H2 => tb { D with nx := Pv (i + 1), ct := Pv (i + 1), bk := D.nx } σ2 H2) (hd : ∀ σ H, Pv xs.length σ H → D.nx σ H) :
    ∃ W : Nat → Nat → St → Hp → Prop, (∃ m, W 0 m σ H) ∧ ∀ i m σ H, W i m σ H →
      ((Ite K a).stop i H ∧ D.nx σ H) ∨ ((Ite K a).go i H ∧ ∃ N : St → Hp → Prop, (∀ σ' H', N σ' H' → ∃ m', m' < m ∧ W (i + 1) m' σ' H') ∧ ∀ x H', (Ite K a).yld i H x H' → g x σ H' fun σ2 H2 => tb { D with nx := N, ct := N, bk := D.nx } σ2 H2) := by
  refine ⟨fun i m σ H => m = xs.length - i ∧ i ≤ xs.length ∧ Pv i σ H, ⟨xs.length, by simp, Nat.zero_le _, h0⟩, ?_⟩
  rintro i m σ H ⟨rfl, hi, p⟩
  have q := hl i σ H hi p
  by_cases hlt : i < xs.length
  · refine .inr ⟨⟨xs, xs[i], q, by simp [hlt]⟩, Pv (i + 1), fun σ' H' p' => ⟨xs.length - (i + 1), by omega, rfl, hlt, p'⟩, fun x H' y => ?_⟩
    obtain ⟨z, pa, hk, ex, hn, e⟩ := y
    subst e ex
    exact hs i z pa σ H (hk xs q) p hn
  · have e : i = xs.length := by omega
    subst e
    exact .inl ⟨⟨xs, q, Nat.le_refl _⟩, hd σ H p⟩
end
end L2

namespace L2
open PySem PySem.Spec PyProof.Rows
def isTx (z : Str) : Value → Bool
  | .str a _ => a == z
  | _ => false
theorem count_tx {z : Str} : ∀ {us : List Value} {zs : List Str}, StrsAre us zs → us.countP (isTx z) = zs.count z
  | _, _, .nil => rfl
  | _, _, .cons y t r => by
    rw [List.countP_cons, count_tx r, List.count_cons]
    rfl
section
variable {X : Cx}
/-- a list of texts: .count(a text) -/
theorem mt_count : MtR X "list.count" (fun x xs H Q => ∃ (p : Addr) (zs : List Str) (z : Str), x = .ref p ∧ xs = [.str z] ∧ SqL X.K H p (zs.map V.str) ∧ Q (.int (zs.count z : Nat)) H) := by
  intro pins s σ H x xs v us Q I rx r h
  obtain ⟨p, zs, z, rfl, rfl, hq, q⟩ := h
  cases rx
  obtain ⟨u, rfl, t, rfl⟩ := vals1 r
  obtain ⟨its, r', pl, hz⟩ := I.list hq
  have hS := strs_of r'
  obtain ⟨⟨c, dd, dt, sl⟩, e, hc, n, hd⟩ := pl.isList
  simp only at hc hd
  subst hc hd
  refine call_meets F.slot_list_count ⟨_, e, rfl⟩ F.entry_list_count (F.args_list_count_2 _ _) (SeqAt.list_countAt p its.toArray n dd sl (.str z t) (isTx z)) ⟨e, fun y hy => ?_, ?_⟩
  · obtain ⟨a, ta, rfl⟩ := hS.all y (by simpa using hy)
    exact SeqAt.EqAt.str_str a ta z t
  · refine ⟨.int (zs.count z : Nat), H, I.tok _, ⟨s.toks, ?_⟩, q⟩
    show Value.int (its.toArray.toList.countP (isTx z) : Nat) s.toks = Value.int (zs.count z : Nat) s.toks
    rw [List.toList_toArray, count_tx hS]
theorem strs_get : ∀ {us : List Value} {zs : List Str} {j : Nat}, StrsAre us zs → (h : j < us.length) → ∃ a t, us[j] = .str a t ∧ zs[j]? = some a
  | _, _, _, .nil, h => by simp at h
  | _, _, 0, .cons y t _, _ => ⟨y, t, rfl, rfl⟩
  | _, _, j + 1, .cons y t r, h => by
    obtain ⟨a, t', h1, h2⟩ := strs_get (j := j) r (by simpa using h)
    exact ⟨a, t', by simpa using h1, by simpa using h2⟩
end
end L2

/-! SORTING BY KEYS THAT DIFFER (own work): what the asking sort does, whoever answers. -/
namespace Srt
open PySem PySem.W PyProof.Rows
structure Ord (N : Nat) (r : Nat → Nat → Bool) : Prop where
  asym : ∀ a b, a < N → b < N → r a b = true → r b a = false
  trans : ∀ a b c, a < N → b < N → c < N → r b a = false → r c b = false → r c a = false
  dist : ∀ a b, a < N → b < N → a ≠ b → r a b = true ∨ r b a = true
def Cmp (N : Nat) (r : Nat → Nat → Bool) (cmp : Nat → Nat → (Bool → Shared → Prop) → Shared → Prop) (P : Shared → Prop) : Prop :=
  ∀ (i j : Nat) (C : Bool → Shared → Prop) (s : Shared), i < N → j < N → i ≠ j → P s → (∀ s', P s' → C (r i j) s') → cmp i j C s
def PN (N : Nat) (p : Array Nat) : Prop := p.toList.Perm (List.range N)
def Up (r : Nat → Nat → Bool) (p : Array Nat) (k : Nat) : Prop := ∀ i j, i ≤ j → j < k → r (p.getD j 0) (p.getD i 0) = false
def Dn (r : Nat → Nat → Bool) (p : Array Nat) (k : Nat) : Prop := ∀ i j, i ≤ j → j < k → r (p.getD i 0) (p.getD j 0) = false
section
variable {N : Nat} {r : Nat → Nat → Bool} {cmp : Nat → Nat → (Bool → Shared → Prop) → Shared → Prop} {P : Shared → Prop} {p : Array Nat}
theorem Ord.refl (O : Ord N r) {a : Nat} (h : a < N) : r a a = false := by
  cases e : r a a with
  | false => rfl
  | true => exact (O.asym a a h h e).symm.trans e |>.symm
theorem PN.size (h : PN N p) : p.size = N := by
  have := h.length_eq
  simpa using this
theorem getD_get {i : Nat} (hi : i < p.size) : p.getD i 0 = p[i] := by simp [Array.getD, hi]
theorem PN.lt (h : PN N p) {i : Nat} (hi : i < N) : p.getD i 0 < N := by
  have hs := h.size
  rw [getD_get (by omega)]
  have : p[i]'(by omega) ∈ p.toList := by simp
  exact List.mem_range.mp (h.mem_iff.mp this)
theorem PN.inj (h : PN N p) {i j : Nat} (hi : i < N) (hj : j < N) (e : p.getD i 0 = p.getD j 0) : i = j := by
  have hs := h.size
  rw [getD_get (by omega), getD_get (by omega)] at e
  have nd : p.toList.Nodup := h.nodup_iff.mpr List.nodup_range
  rcases Nat.lt_trichotomy i j with h1 | h1 | h1
  · exact absurd (show p.toList[i]'(by simp; omega) = p.toList[j]'(by simp; omega) by rw [Array.getElem_toList, Array.getElem_toList]; exact e) (List.pairwise_iff_getElem.mp nd i j (by simp; omega) (by simp; omega) h1)
  · exact h1
  · exact absurd (show p.toList[j]'(by simp; omega) = p.toList[i]'(by simp; omega) by rw [Array.getElem_toList, Array.getElem_toList]; exact e.symm) (List.pairwise_iff_getElem.mp nd j i (by simp; omega) (by simp; omega) h1)
theorem asc (O : Ord N r) (hc : Cmp N r cmp P) (hp : PN N p) : ∀ (f n : Nat) (s : Shared) (Q : Nat → Shared → Prop), 1 ≤ n → n + f ≤ N → Up r p n → P s →
    (∀ m s', n ≤ m → m ≤ n + f → (m = n + f ∨ r (p.getD m 0) (p.getD (m - 1) 0) = true) → Up r p m → P s' → Q m s') → (kas_asc p f n).kasWp cmp Q s
  | 0, n, s, Q, h1, hn, hu, hP, hq => hq n s (Nat.le_refl _) (Nat.le_refl _) (.inl rfl) hu hP
  | f + 1, n, s, Q, h1, hn, hu, hP, hq => by
    show cmp _ _ _ s
    refine hc _ _ _ s (hp.lt (by omega)) (hp.lt (by omega)) (fun z => by have := hp.inj (by omega) (by omega) z; omega) hP fun s' hs' => ?_
    cases e : r (p.getD n 0) (p.getD (n - 1) 0) with
    | true =>
      dsimp only
      rw [if_pos rfl]
      exact hq n s' (Nat.le_refl _) (by omega) (.inr e) hu hs'
    | false =>
      dsimp only
      rw [if_neg (by decide)]
      refine asc O hc hp f (n + 1) s' Q (by omega) (by omega) (fun i j hij hj => ?_) hs' fun m s'' h2 h3 h4 h5 h6 => hq m s'' (by omega) (by omega) (h4.imp (fun z => by omega) id) h5 h6
      by_cases hjn : j < n
      · exact hu i j hij hjn
      · have ej : j = n := by omega
        subst ej
        by_cases hi : i = j
        · subst hi
          exact O.refl (hp.lt (by omega))
        · exact O.trans _ _ _ (hp.lt (by omega)) (hp.lt (by omega)) (hp.lt (by omega)) (hu i (j - 1) (by omega) (by omega)) e
theorem desc (O : Ord N r) (hc : Cmp N r cmp P) (hp : PN N p) : ∀ (f n : Nat) (s : Shared) (Q : Array Nat × Nat × Nat → Shared → Prop), 1 ≤ n → n + f ≤ N → Dn r p n → P s →
    (∀ m s', n ≤ m → m ≤ n + f → Dn r p m → P s' → Q (p, m, 0) s') → (kas_desc f p n 0).kasWp cmp Q s
  | 0, n, s, Q, h1, hn, hu, hP, hq => hq n s (Nat.le_refl _) (Nat.le_refl _) hu hP
  | f + 1, n, s, Q, h1, hn, hu, hP, hq => by
    show cmp _ _ _ s
    refine hc _ _ _ s (hp.lt (by omega)) (hp.lt (by omega)) (fun z => by have := hp.inj (by omega) (by omega) z; omega) hP fun s' hs' => ?_
    cases e : r (p.getD n 0) (p.getD (n - 1) 0) with
    | true =>
      dsimp only
      rw [if_pos rfl, if_neg (by omega)]
      refine desc O hc hp f (n + 1) s' Q (by omega) (by omega) (fun i j hij hj => ?_) hs' fun m s'' h2 h3 h5 h6 => hq m s'' (by omega) (by omega) h5 h6
      by_cases hjn : j < n
      · exact hu i j hij hjn
      · have ej : j = n := by omega
        subst ej
        by_cases hi : i = j
        · subst hi
          exact O.refl (hp.lt (by omega))
        · exact O.trans _ _ _ (hp.lt (by omega)) (hp.lt (by omega)) (hp.lt (by omega)) (O.asym _ _ (hp.lt (by omega)) (hp.lt (by omega)) e) (hu i (j - 1) (by omega) (by omega))
    | false =>
      dsimp only
      rw [if_neg (by decide)]
      show cmp _ _ _ s'
      refine hc _ _ _ s' (hp.lt (by omega)) (hp.lt (by omega)) (fun z => by have := hp.inj (by omega) (by omega) z; omega) hs' fun s'' hs'' => ?_
      have hd : r (p.getD (n - 1) 0) (p.getD n 0) = true := by
        rcases O.dist _ _ (hp.lt (i := n - 1) (by omega)) (hp.lt (i := n) (by omega)) (fun z => by have := hp.inj (by omega) (by omega) z; omega) with h | h
        · exact h
        · rw [e] at h; cases h
      dsimp only
      rw [hd, if_pos rfl]
      exact hq n s'' (Nat.le_refl _) (by omega) hu hs''
theorem rev_at {i j : Nat} (hj : j ≤ p.size) (k : Nat) : (kas_rev p i j).getD k 0 = if i ≤ k ∧ k < j then p.getD (i + j - 1 - k) 0 else p.getD k 0 := by
  have h := getElem?_mirror_all (xs := p) (i := i) (j := j) hj k
  unfold kas_rev
  rw [Array.getD_eq_getD_getElem?, h]
  split <;> rw [Array.getD_eq_getD_getElem?]
theorem rev_pn {i j : Nat} (h : PN N p) : PN N (kas_rev p i j) := (Array.perm_iff_toList_perm.mp (mirror_perm p i j _)).trans h
theorem tail3 (O : Ord N r) (hc : Cmp N r cmp P) (hp : PN N p) {n : Nat} {s : Shared} {Q : Nat × Array Nat → Shared → Prop} (h1 : 1 ≤ n) (hn : n ≤ N) (hd : Dn r p n) (hP : P s)
    (hq : ∀ m p' s', n ≤ m → m ≤ N → PN N p' → Up r p' m → P s' → Q (m, p') s') : (kas_tail3 n N p).kasWp cmp Q s := by
  unfold kas_tail3
  rw [KasT.kasWp_bind]
  have hs := hp.size
  refine asc O hc (rev_pn hp) (N - n) n s _ h1 (by omega) (fun i j hij hj => ?_) hP fun m s' h2 h3 _ h5 h6 => hq m _ s' h2 (by omega) (rev_pn hp) h5 h6
  rw [rev_at (by omega), rev_at (by omega), if_pos (by omega), if_pos (by omega)]
  exact hd _ _ (by omega) (by omega)
theorem count (O : Ord N r) (hc : Cmp N r cmp P) (hp : PN N p) {s : Shared} {Q : Nat × Array Nat → Shared → Prop} (h1 : 1 ≤ N) (hP : P s)
    (hq : ∀ m p' s', 1 ≤ m → m ≤ N → PN N p' → Up r p' m → P s' → Q (m, p') s') : (kas_count N p).kasWp cmp Q s := by
  unfold kas_count
  rw [KasT.kasWp_bind]
  refine asc O hc hp (N - 1) 1 s _ (Nat.le_refl _) (by omega) (fun i j hij hj => ?_) hP fun m s' h2 h3 h4 h5 h6 => ?_
  · have ei : i = 0 := by omega
    have ej : j = 0 := by omega
    subst ei ej
    exact O.refl (hp.lt (by omega))
  · by_cases hm : m = N
    · rw [if_pos (by rw [hm]; exact beq_self_eq_true N)]
      exact hq m p s' h2 (by omega) hp h5 h6
    · rw [if_neg (by rw [beq_iff_eq]; exact hm)]
      have hr : r (p.getD m 0) (p.getD (m - 1) 0) = true := h4.resolve_left (by omega)
      by_cases hm1 : m > 1
      · rw [if_pos hm1]
        show cmp _ _ _ s'
        refine hc _ _ _ s' (hp.lt (by omega)) (hp.lt (by omega)) (fun z => by have := hp.inj (by omega) (by omega) z; omega) h6 fun s'' hs'' => ?_
        have hd : r (p.getD 0 0) (p.getD (m - 1) 0) = true := by
          rcases O.dist _ _ (hp.lt (i := 0) (by omega)) (hp.lt (i := m - 1) (by omega)) (fun z => by have := hp.inj (by omega) (by omega) z; omega) with h | h
          · exact h
          · rw [h5 0 (m - 1) (by omega) (by omega)] at h; cases h
        dsimp only
        rw [hd, if_pos rfl]
        exact hq m p s'' h2 (by omega) hp h5 hs''
      · rw [if_neg hm1]
        have em : m = 1 := by omega
        subst em
        unfold kas_descPart
        rw [KasT.kasWp_bind]
        refine desc O hc hp (N - (1 + 1)) (1 + 1) s' _ (by omega) (by omega) (fun i j hij hj => ?_) h6 fun m s'' g2 g3 g5 g6 => ?_
        · by_cases hi : i = j
          · subst hi
            exact O.refl (hp.lt (by omega))
          · have ei : i = 0 := by omega
            have ej : j = 1 := by omega
            subst ei ej
            exact O.asym _ _ (hp.lt (by omega)) (hp.lt (by omega)) hr
        · rw [if_neg (by show ¬ (0 > 0); omega)]
          exact tail3 O hc hp (by show 1 ≤ m; omega) (by show m ≤ N; omega) g5 g6 fun m' p' s3 a1 a2 a3 a4 a5 => hq m' p' s3 (by have : m ≤ m' := a1; omega) a2 a3 a4 a5
theorem place (O : Ord N r) (hc : Cmp N r cmp P) (hp : PN N p) {k : Nat} (hk : k < N) (hu : Up r p k) : ∀ (f l q : Nat) (s : Shared) (Q : Nat → Shared → Prop), l ≤ q → q ≤ k → q - l ≤ f → (∀ i, i < l → r (p.getD k 0) (p.getD i 0) = false) →
    (∀ i, q ≤ i → i < k → r (p.getD k 0) (p.getD i 0) = true) → P s →
    (∀ m s', m ≤ k → (∀ i, i < m → r (p.getD k 0) (p.getD i 0) = false) → (∀ i, m ≤ i → i < k → r (p.getD k 0) (p.getD i 0) = true) → P s' → Q m s') → (kas_place p k f l q).kasWp cmp Q s
  | 0, l, q, s, Q, hl, hq, hf, lo, hi, hP, h => h l s (by omega) lo (fun i h1 h2 => hi i (by omega) h2) hP
  | f + 1, l, q, s, Q, hl, hq, hf, lo, hi, hP, h => by
    unfold kas_place
    by_cases e : l ≥ q
    · rw [if_pos e]
      exact h l s (by omega) lo (fun i h1 h2 => hi i (by omega) h2) hP
    · rw [if_neg e]
      show cmp _ _ _ s
      have hm : (l + q) / 2 < q := by omega
      have hm2 : l ≤ (l + q) / 2 := by omega
      refine hc _ _ _ s (hp.lt (by omega)) (hp.lt (by omega)) (fun z => by have := hp.inj (by omega) (by omega) z; omega) hP fun s' hs' => ?_
      cases c : r (p.getD k 0) (p.getD ((l + q) / 2) 0) with
      | true =>
        dsimp only
        rw [if_pos rfl]
        refine place O hc hp hk hu f l ((l + q) / 2) s' Q (by omega) (by omega) (by omega) lo (fun i h1 h2 => ?_) hs' h
        cases d : r (p.getD k 0) (p.getD i 0) with
        | true => rfl
        | false =>
          have := O.trans _ _ _ (hp.lt (i := (l + q) / 2) (by omega)) (hp.lt (i := i) (by omega)) (hp.lt (i := k) (by omega)) (hu _ i h1 h2) d
          rw [this] at c
          cases c
      | false =>
        dsimp only
        rw [if_neg (by decide)]
        refine place O hc hp hk hu f ((l + q) / 2 + 1) q s' Q (by omega) (by omega) (by omega) (fun i h1 => ?_) hi hs' h
        exact O.trans _ _ _ (hp.lt (by omega)) (hp.lt (by omega)) (hp.lt (by omega)) (hu i ((l + q) / 2) (by omega) (by omega)) c
theorem bub_at {src d : Nat} (hs : src < p.size) (hd : d ≤ src) (k : Nat) : (bubble p src d).getD k 0 = if k = src - d then p.getD src 0 else if src - d < k ∧ k ≤ src then p.getD (k - 1) 0 else p.getD k 0 := by
  have h := getElem?_bubble hs d hd k
  rw [Array.getD_eq_getD_getElem?, h, Array.getD_eq_getD_getElem?, Array.getD_eq_getD_getElem?, Array.getD_eq_getD_getElem?]
  by_cases e1 : k = src - d
  · rw [if_pos e1, if_pos e1]
  · rw [if_neg e1, if_neg e1]
    by_cases e2 : src - d < k ∧ k ≤ src
    · rw [if_pos e2, if_pos e2]
    · rw [if_neg e2, if_neg e2]
theorem bin (O : Ord N r) (hc : Cmp N r cmp P) : ∀ (f : Nat) (p : Array Nat) (k : Nat) (s : Shared) (Q : Array Nat → Shared → Prop), PN N p → k + f = N → Up r p k → P s →
    (∀ p' s', PN N p' → Up r p' N → P s' → Q p' s') → (kas_bin f p k).kasWp cmp Q s
  | 0, p, k, s, Q, hp, hk, hu, hP, h => h p s hp ((show k = N from hk) ▸ hu) hP
  | f + 1, p, k, s, Q, hp, hk, hu, hP, h => by
    unfold kas_bin
    rw [KasT.kasWp_bind]
    have hs := hp.size
    refine place O hc hp (k := k) (by omega) hu k 0 k s _ (Nat.zero_le _) (Nat.le_refl _) (by omega) (fun i hi => absurd hi (Nat.not_lt_zero _)) (fun i h1 h2 => absurd h2 (by omega)) hP fun m s' h1 lo hi hs' => ?_
    refine bin O hc f _ (k + 1) s' Q ((Array.perm_iff_toList_perm.mp (bubble_perm p k _)).trans hp) (by omega) (fun i j hij hj => ?_) hs' h
    rw [bub_at (by omega) (by omega), bub_at (by omega) (by omega)]
    have e : k - (k - m) = m := by omega
    rw [e]
    have hi' : ∀ i, m ≤ i → i < k → r (p.getD i 0) (p.getD k 0) = false := fun i a b => O.asym _ _ (hp.lt (by omega)) (hp.lt (by omega)) (hi i a b)
    by_cases ej : j = m
    · rw [if_pos ej]
      by_cases ei : i = m
      · rw [if_pos ei]
        exact O.refl (hp.lt (by omega))
      · rw [if_neg ei, if_neg (by omega)]
        exact lo i (by omega)
    · rw [if_neg ej]
      by_cases ei : i = m
      · rw [if_pos ei, if_pos (by omega)]
        exact hi' (j - 1) (by omega) (by omega)
      · rw [if_neg ei]
        by_cases bj : m < j ∧ j ≤ k
        · rw [if_pos bj]
          by_cases bi : m < i ∧ i ≤ k
          · rw [if_pos bi]
            exact hu _ _ (by omega) (by omega)
          · rw [if_neg bi]
            exact hu _ _ (by omega) (by omega)
        · rw [if_neg bj, if_neg (by omega)]
          exact hu _ _ hij (by omega)
/-- the asking sort, by an order in which no two are alike -/
theorem sort (O : Ord N r) (hc : Cmp N r cmp P) {s : Shared} {Q : Array Nat → Shared → Prop} (h1 : 1 ≤ N) (hP : P s) (h : ∀ p' s', PN N p' → Up r p' N → P s' → Q p' s') : (kas_sort N).kasWp cmp Q s := by
  unfold kas_sort
  rw [KasT.kasWp_bind]
  refine count O hc (by unfold PN; simp) h1 hP fun m p' s' a1 a2 a3 a4 a5 => ?_
  show (if m < N then kas_bin (N - max m 1) p' (max m 1) else .ret p').kasWp cmp Q s'
  have em : max m 1 = m := by omega
  rw [em]
  by_cases hm : m < N
  · rw [if_pos hm]
    exact bin O hc _ p' m s' Q a3 (by omega) a4 a5 h
  · rw [if_neg hm]
    have : m = N := by omega
    subst this
    exact h p' s' a3 a4 a5
end
end Srt

/-! sorted OF A LIST OF TUPLES WHOSE FIRST THINGS ARE TEXTS THAT DIFFER (own work). -/
namespace Srt
open PySem PySem.W PyProof.Rows
def rz (zs : List Str) (i j : Nat) : Bool := decide ((zs.getD i "").cps.toList < (zs.getD j "").cps.toList)
theorem str_ext {a b : Str} (h : a.cps.toList = b.cps.toList) : a = b := by
  cases a
  cases b
  simp at h
  rw [h]
theorem ord_z {zs : List Str} (nd : zs.Nodup) : Ord zs.length (rz zs) where
  asym := fun a b _ _ h => by
    unfold rz at h ⊢
    rw [decide_eq_true_iff] at h
    rw [decide_eq_false_iff_not]
    exact List.lt_asymm h
  trans := fun a b c _ _ _ h1 h2 => by
    unfold rz at h1 h2 ⊢
    rw [decide_eq_false_iff_not] at h1 h2 ⊢
    rw [List.not_lt] at h1 h2 ⊢
    exact List.le_trans h1 h2
  dist := fun a b ha hb n => by
    unfold rz
    rw [decide_eq_true_iff, decide_eq_true_iff]
    apply Classical.byContradiction
    intro h
    rw [not_or, List.not_lt, List.not_lt] at h
    have e := str_ext (List.le_antisymm h.2 h.1)
    simp only [List.getD_eq_getElem?_getD, List.getElem?_eq_getElem ha, List.getElem?_eq_getElem hb, Option.getD_some] at e
    rcases Nat.lt_trichotomy a b with q | q | q
    · exact List.pairwise_iff_getElem.mp nd a b ha hb q e
    · exact n q
    · exact List.pairwise_iff_getElem.mp nd b a hb ha q e.symm
section
variable {prog : Program} {w : World} {A : Around} {E : Value → Shared → Prop} {s : Shared}
end
end Srt
namespace L2
open PySem PySem.Spec PyProof.Rows
theorem vals_map {xs : List V} {us : List Value} (r : Vals xs us) : ∀ (q : List Nat), (∀ i ∈ q, i < xs.length) → Vals (q.map fun i => xs.getD i .non) (q.map fun i => us.getD i Value.none)
  | [], _ => .nil
  | i :: q, h => by
    refine .cons ?_ (vals_map r q fun j hj => h j (List.mem_cons_of_mem _ hj))
    have hi := h i List.mem_cons_self
    have hu : i < us.length := by rw [← r.length]; exact hi
    obtain ⟨u, e, ru⟩ := r.get (i := i) (x := xs[i]) (by simp [hi])
    simp only [List.getD_eq_getElem?_getD, List.getElem?_eq_getElem hi, e, Option.getD_some]
    exact ru
/-- these texts rise -/
def Rise (zs : List Str) : Prop := zs.Pairwise fun a b => ¬ b.cps.toList < a.cps.toList
section
variable {X : Cx}
end
end L2

/-! == OF TWO DICTS, where they are alike (own work). -/
namespace L2
open PySem PySem.Spec PyProof.Rows PySem.Builtin PySem.Builtin.Dict
theorem dict_eq_tree (a b : Value) : Builtin.«dict.__eq__» ⟨[a, b], []⟩ = (do
    let (self, other) ← dictSlotArgs "__eq__" ⟨[a, b], []⟩
    if !(← isInstance other (.type "dict")) then rule s!"dict.{("__eq__" : String)}.not-a-dict"; return ← ret .notImplemented
    ret (.bool ((← Dict.samePairs s!"dict.{("__eq__" : String)}" (← addrOf self) (← addrOf other)) == true))) := rfl
theorem sub_dict_dict : isSubtype (.type "dict") (.type "dict") = pure true := by rw [isSubtype_type]; kernel_rfl
section
variable {prog : Program} {w : World} {A : Around} {E : Value → Shared → Prop} {s : Shared} {a b : Addr} {oa ob : Obj} {es fs : Array DictEntry} {ep fp : Nat}
theorem same_pairs {id : String} {Q : Bool → Shared → Prop} (ha : s.heap.get? a = some oa) (da : oa.data = .dict es ep) (hb : s.heap.get? b = some ob) (db : ob.data = .dict fs fp) (na : (a == sysModules) = false) (nb : (b == sysModules) = false) (hsz : es.size = fs.size)
    (hf : ∀ (i : Nat) (e : DictEntry), es[i]? = some e → ∃ (j : Nat) (f : DictEntry), fs[j]? = some f ∧ (∀ (R : Option Nat → Shared → Prop), R (some j) s → wpAny (model prog w) A (dictFind b e.key e.hash) R E s) ∧ ∀ (R : Bool → Shared → Prop), R true s → wpAny (model prog w) A (eqBool e.val f.val) R E s)
    (hq : Q true s) : wpAny (model prog w) A (Dict.samePairs id a b) Q E s := by
  unfold Dict.samePairs Dict.showsAll
  simp only [na, nb, Bool.false_eq_true, if_false]
  refine wpAny_bind (wpAny_pure (wpAny_bind (wpAny_pure ?_)))
  refine wpAny_bind (wpAny_dictEntries ha da ?_)
  refine wpAny_bind (wpAny_dictEntries hb db ?_)
  rw [if_neg (by rw [hsz]; simp)]
  refine wpAny_bind (wpAny_dictEpoch ha da ?_)
  rw [Std.Legacy.Range.forIn_eq_forIn_range']
  refine wpAny_bind (wpAny_forIn_list _ (fun rest b s' => b = (none, ()) ∧ s' = s ∧ ∀ x ∈ rest, x < es.size) _ (fun i rest b s' hI => ?_) (fun b s' hI => ?_) _ _ ⟨rfl, rfl, fun x hx => ?_⟩)
  · obtain ⟨rfl, rfl, hl⟩ := hI
    have hi := hl i List.mem_cons_self
    obtain ⟨j, f, hj, h1, h2⟩ := hf i es[i] (by simp [hi])
    refine wpAny_bind (wpAny_dictEntries ha da ?_)
    have ei : es[i]? = some es[i] := by simp [hi]
    rw [ei]
    dsimp only
    refine wpAny_bind (wpAny_holding (wpAny_bind (h1 _ ?_)))
    dsimp only
    refine wpAny_bind (wpAny_dictEntries hb db ?_)
    rw [hj]
    dsimp only
    refine wpAny_holding (h2 _ ?_)
    rw [if_neg (by decide)]
    refine wpAny_bind (wpAny_dictEpoch ha da ?_)
    rw [if_neg (by simp)]
    exact wpAny_pure ⟨rfl, rfl, fun x hx => hl x (List.mem_cons_of_mem _ hx)⟩
  · obtain ⟨rfl, rfl, _⟩ := hI
    exact wpAny_pure hq
  · have := List.mem_range'.mp hx
    obtain ⟨k, hk, rfl⟩ := this
    simp [Std.Legacy.Range.size] at hk ⊢
    omega
end
end L2

namespace L2
open PySem PySem.Spec PyProof.Rows PySem.Builtin PySem.Builtin.Dict
theorem pairs_len {P : Program} {w : World} : ∀ {es : List DictEntry} {kvs : List (Key × Value)}, Pairs (mixKind P w) es kvs → es.length = kvs.length
  | _, _, .nil => rfl
  | _, _, .cons _ _ r => by simp [pairs_len r]
theorem find_str {prog : Program} {w : World} {A : Around} {E : Value → Shared → Prop} {s : Shared} {d : Addr} {o : Obj} {es : Array DictEntry} {ep j : Nat} {x : Str} {t : Tok} {hs : Int} {Q : Option Nat → Shared → Prop} (ho : s.heap.get? d = some o) (hd : o.data = .dict es ep)
    (hall : ∀ e ∈ es, ∃ z t, e.key = Value.str z t) (hj : es.findIdx? (fun e => e.key.isStr x) = some j) (h : Q (some j) s) : wpAny (model prog w) A (dictFind d (.str x t) hs) Q E s := by
  obtain ⟨hjs, hjt, _⟩ := Array.findIdx?_eq_some_iff_getElem.mp hj
  have ha : (es.all fun e => isExactStrKey e.key) = true := by
    rw [Array.all_eq_true']
    intro e he
    obtain ⟨z, t, q⟩ := hall e he
    rw [q]
    rfl
  obtain ⟨z, tz, ez⟩ := hall es[j] (Array.getElem_mem hjs)
  have zx : z = x := by
    rw [ez] at hjt
    exact eq_of_beq hjt
  subst zx
  unfold dictFind
  refine wpAny_holding ?_
  refine wpAny_bind (wpAny_dictEntries ho hd ?_)
  dsimp only
  rw [if_pos ha]
  unfold foundByValue
  rw [hj]
  dsimp only
  rw [Array.getElem?_eq_getElem hjs]
  dsimp only
  rw [ez]
  refine wpAny_bind (wpAny_dictEpoch ho hd (wpAny_bind (wpAny_eqBool_str (wpAny_bind (wpAny_dictEpoch ho hd ?_)))))
  rw [if_neg (by simp), if_pos (by simp)]
  exact wpAny_bind (wpAny_rule (wpAny_pure h))
section
variable {A : Around} {s : Shared} {P : Program} {w : World}
/-- two dicts, each key of the one in the other, the values equal -/
theorem eqAt_dicts {a b : Addr} {kvs kws : List (Key × Value)} (da : s.heap.DictOf (mixKind P w) a kvs) (db : s.heap.DictOf (mixKind P w) b kws) (na : (a == sysModules) = false) (nb : (b == sysModules) = false) (hl : kvs.length = kws.length) (tx : ∀ (k : Key) (v : Value), (k, v) ∈ kws → ∃ x, k = .inr x)
    (he : ∀ (k : Key) (v : Value), (k, v) ∈ kvs → ∃ v', (k, v') ∈ kws ∧ SeqAt.EqAt A.in1 s v v' true) (hu : A.units < cLine) : SeqAt.EqAt A s (.ref a) (.ref b) true := by
  by_cases hab : a = b
  · rw [hab]
    exact SeqAt.EqAt.same _
  refine SeqAt.EqAt.of_refs hab fun prog w' E Q hq => ?_
  obtain ⟨oa, es, ep, ha, xa, dda, ka, pa, nda⟩ := da
  obtain ⟨ob, fs, fp, hb, xb, ddb, kb, pb, ndb⟩ := db
  have Ta : s.TypeIs (.ref a) "dict" := ⟨oa, ha, xa.1⟩
  have Tb : s.TypeIs (.ref b) "dict" := ⟨ob, hb, xb.1⟩
  have la : es.size = kvs.length := by have := pairs_len pa; simpa using this
  have lb : fs.size = kws.length := by have := pairs_len pb; simpa using this
  have kb' : ∀ e ∈ fs, ∃ z t, e.key = Value.str z t := fun e he' => by
    obtain ⟨m, hm, rfl⟩ := Array.mem_iff_getElem.mp he'
    obtain ⟨⟨k, v⟩, hk⟩ : ∃ kv, kws[m]? = some kv := ⟨_, List.getElem?_eq_getElem (by omega)⟩
    obtain ⟨g1, _⟩ := pb.get? (i := m) (e := fs[m]) (by simp [hm]) hk
    obtain ⟨x, rfl⟩ := tx k v (List.mem_of_getElem? hk)
    rcases keyIs_shape (k := .inr x) (v := fs[m].key) g1 with ⟨i, t, q, _⟩ | ⟨z, t, q, q2⟩
    · cases q
    · exact ⟨z, t, q2⟩
  refine wpAny_richCompare_same_room Ta Tb F.slot_dict_eq (wpAny_call_entry F.slot_dict_eq Ta F.entry_dict_eq ?_ (F.args_dict_eq_2 _ _)) hu
  rw [dict_eq_tree]
  refine wpAny_bind ?_
  show wpAny _ _ (pure (Value.ref a, Value.ref b)) _ _ _
  refine wpAny_pure ?_
  dsimp only
  refine wpAny_bind (wpAny_isInstance (T := "dict") (b := true) Tb sub_dict_dict ?_)
  simp only [Bool.not_true, Bool.false_eq_true, if_false]
  refine wpAny_bind (wpAny_pure (wpAny_bind (wpAny_pure (wpAny_bind (same_pairs ha dda hb ddb na nb (by omega) (fun i e ei => ?_) ?_)))))
  · have hi : i < es.size := (Array.getElem?_eq_some_iff.mp ei).1
    obtain ⟨⟨k, v⟩, hk⟩ : ∃ kv, kvs[i]? = some kv := ⟨_, List.getElem?_eq_getElem (by omega)⟩
    obtain ⟨g1, g2⟩ := pa.get? (i := i) (e := e) (by simpa using ei) hk
    obtain ⟨k2, g3, g4⟩ := ka e (Array.mem_of_getElem? ei)
    have ek : k2 = k := (mixKind P w).inj _ _ _ g3 g1
    subst ek
    obtain ⟨v', hv', eq⟩ := he k2 v (List.mem_of_getElem? hk)
    obtain ⟨x, rfl⟩ := tx k2 v' hv'
    obtain ⟨t0, ek0⟩ : ∃ t, e.key = Value.str x t := by
      rcases keyIs_shape (k := .inr x) (v := e.key) g1 with ⟨i, t, q, _⟩ | ⟨z, t, q, q2⟩
      · cases q
      · cases q
        exact ⟨t, q2⟩
    obtain ⟨m, hm⟩ := List.getElem?_of_mem hv'
    have hm' : m < fs.size := by have := (List.getElem?_eq_some_iff.mp hm).1; omega
    have em : fs.toList[m]? = some fs[m] := by simp [hm']
    obtain ⟨q1, q2⟩ := pb.get? em hm
    obtain ⟨j, hj⟩ : ∃ j, fs.findIdx? (fun e => e.key.isStr x) = some j := by
      cases z : fs.findIdx? (fun e => e.key.isStr x) with
      | some j => exact ⟨j, rfl⟩
      | none =>
        have := Array.findIdx?_eq_none_iff.mp z fs[m] (Array.getElem_mem hm')
        have q1' : fs[m].key.isStr x = true := by
          rcases keyIs_shape (k := .inr x) (v := fs[m].key) q1 with ⟨i, t, q, _⟩ | ⟨z, t, q, q2⟩
          · cases q
          · cases q
            rw [q2]
            exact beq_self_eq_true x
        rw [q1'] at this
        cases this
    obtain ⟨hjs, hjt, _⟩ := Array.findIdx?_eq_some_iff_getElem.mp hj
    obtain ⟨⟨k3, v3⟩, hk3⟩ : ∃ kv, kws[j]? = some kv := ⟨_, List.getElem?_eq_getElem (by omega)⟩
    obtain ⟨r1, r2⟩ := pb.get? (i := j) (e := fs[j]) (by simp [hjs]) hk3
    have hjk : (mixKind P w).is (.inr x) fs[j].key = true := by
      obtain ⟨z, t, q⟩ := kb' fs[j] (Array.getElem_mem hjs)
      rw [q] at hjt ⊢
      have zx : z = x := eq_of_beq hjt
      rw [zx]
      rw [(mixKind P w).strs (.inr x) x t0 _ (by rw [← ek0]; exact g1)]
      exact beq_self_eq_true x
    have e3 : k3 = .inr x := (mixKind P w).inj _ _ _ r1 hjk
    subst e3
    have jm : j = m := by
      have hj1 : (kws.map (·.1))[j]? = some (Sum.inr x) := by rw [List.getElem?_map, hk3]; rfl
      have hm1 : (kws.map (·.1))[m]? = some (Sum.inr x) := by rw [List.getElem?_map, hm]; rfl
      obtain ⟨x1, y1⟩ := List.getElem?_eq_some_iff.mp hj1
      obtain ⟨x2, y2⟩ := List.getElem?_eq_some_iff.mp hm1
      rcases Nat.lt_trichotomy j m with z | z | z
      · exact absurd (y1.trans y2.symm) (List.pairwise_iff_getElem.mp ndb j m x1 x2 z)
      · exact z
      · exact absurd (y2.trans y1.symm) (List.pairwise_iff_getElem.mp ndb m j x2 x1 z)
    subst jm
    rw [hm] at hk3
    cases hk3
    refine ⟨j, fs[j], by simp [hjs], fun R hR => ?_, fun R hR => ?_⟩
    · rw [ek0]
      exact find_str hb ddb kb' hj hR
    · rw [g2, r2]
      exact eq prog w' E R hR
  · exact wpAny_pure ⟨_, rfl, (fun z => nomatch z), hq⟩
end
end L2

/-! == AND != OF THINGS THAT ARE ALIKE ALL THE WAY DOWN (own work). -/
namespace L2
open PySem PySem.Spec PyProof.Rows
inductive Dq (H : Hp) : Nat → V → V → Prop
  | non {n : Nat} : Dq H n .non .non
  | bl {n : Nat} {b : Bool} : Dq H n (.bl b) (.bl b)
  | int {n : Nat} {i : Int} : Dq H n (.int i) (.int i)
  | str {n : Nat} {z : Str} : Dq H n (.str z) (.str z)
  | ref {n : Nat} {a : Addr} : Dq H n (.ref a) (.ref a)
  | tup {n : Nat} {a b : Addr} {xs ys : List V} (ha : H a = some (.tup xs)) (hb : H b = some (.tup ys)) (hl : xs.length = ys.length) (h : ∀ (i : Nat) (x y : V), xs[i]? = some x → ys[i]? = some y → Dq H n x y) : Dq H (n + 1) (.ref a) (.ref b)
  | lst {n : Nat} {a b : Addr} {xs ys : List V} (ha : H a = some (.lst xs)) (hb : H b = some (.lst ys)) (hl : xs.length = ys.length) (h : ∀ (i : Nat) (x y : V), xs[i]? = some x → ys[i]? = some y → Dq H n x y) : Dq H (n + 1) (.ref a) (.ref b)
  | dct {n : Nat} {a b : Addr} {kvs kws : List (Key × V)} (f : Key → V) (ha : Rd H a (.dK kvs)) (hb : Rd H b (.dK kws)) (hl : kvs.length = kws.length) (tx : ∀ (k : Key) (v : V), (k, v) ∈ kws → ∃ x, k = .inr x)
      (hf : ∀ (k : Key) (v : V), (k, v) ∈ kvs → (k, f k) ∈ kws) (h : ∀ (k : Key) (v : V), (k, v) ∈ kvs → Dq H n v (f k)) : Dq H (n + 1) (.ref a) (.ref b)
theorem kv_back : ∀ {kvs : List (Key × V)} {vs : List (Key × Value)} {k : Key} {u : Value} {i : Nat}, KV kvs vs → vs[i]? = some (k, u) → ∃ v, kvs[i]? = some (k, v) ∧ RelV v u
  | _, _, _, _, _, .nil, e => by simp at e
  | _, _, k, u, 0, .cons (a := p) r _, e => by
    simp at e
    subst e
    obtain ⟨p1, p2⟩ := p
    obtain ⟨r1, r2⟩ := r
    simp only at r1
    subst r1
    exact ⟨p2, rfl, r2⟩
  | _, _, k, u, i + 1, .cons _ t, e => by
    obtain ⟨v, h1, h2⟩ := kv_back (i := i) t (by simpa using e)
    exact ⟨v, by simpa using h1, h2⟩
section
variable {X : Cx} {pins : List (Addr × Obj)} {σ : St} {H : Hp} {s : Shared}
theorem eqAt_Dq (I : Inv X pins σ H s) {n : Nat} {x y : V} (d : Dq H n x y) : ∀ {u u' : Value} {A : Around}, RelV x u → RelV y u' → A.units + n < cLine → SeqAt.EqAt A s u u' true := by
  induction d with
  | non => intro u u' A r r' _; cases r; cases r'; exact SeqAt.EqAt.same _
  | bl => intro u u' A r r' _; cases r; cases r'; exact SeqAt.EqAt.same _
  | @int n i =>
    intro u u' A r r' _
    obtain ⟨t, rfl⟩ := r
    obtain ⟨t', rfl⟩ := r'
    have h := SeqAt.EqAt.int_int (A := A) (s := s) i t i t'
    rwa [beq_self_eq_true] at h
  | @str n z =>
    intro u u' A r r' _
    obtain ⟨t, rfl⟩ := r
    obtain ⟨t', rfl⟩ := r'
    have h := SeqAt.EqAt.str_str (A := A) (s := s) z t z t'
    rwa [beq_self_eq_true] at h
  | ref => intro u u' A r r' _; cases r; cases r'; exact SeqAt.EqAt.same _
  | @tup n a b xs ys ha hb hl h ih =>
    intro u u' A r r' hu
    cases r
    cases r'
    by_cases hab : a = b
    · rw [hab]; exact SeqAt.EqAt.same _
    obtain ⟨its, r1, pl, _⟩ := I.tuple (SqT.of (K := X.K) ha)
    obtain ⟨jts, r2, ql, _⟩ := I.tuple (SqT.of (K := X.K) hb)
    have l1 := r1.length
    have l2 := r2.length
    have h0 := SeqAt.RcAt.tuples (A := A) (e := fun _ => true) pl ql (by omega) (fun j g1 g2 => ?_)
    · have e : ((List.range (min its.toArray.size jts.toArray.size)).all (fun _ => true) && its.toArray.size == jts.toArray.size) = true := by
        simp
        omega
      rw [e] at h0
      exact SeqAt.EqAt.of_refs hab h0
    · have g1' : j < its.length := by simpa using g1
      have g2' : j < jts.length := by simpa using g2
      obtain ⟨u1, e1, k1⟩ := r1.get (i := j) (x := xs[j]'(by omega)) (by simp)
      obtain ⟨u2, e2, k2⟩ := r2.get (i := j) (x := ys[j]'(by omega)) (by simp)
      have w1 : its.toArray[j] = u1 := by have := (List.getElem?_eq_some_iff.mp e1).2; simpa using this
      have w2 : jts.toArray[j] = u2 := by have := (List.getElem?_eq_some_iff.mp e2).2; simpa using this
      rw [w1, w2]
      exact ih j _ _ (by simp) (by simp) k1 k2 (by show A.units + 1 + n < cLine; omega)
  | @lst n a b xs ys ha hb hl h ih =>
    intro u u' A r r' hu
    cases r
    cases r'
    by_cases hab : a = b
    · rw [hab]; exact SeqAt.EqAt.same _
    obtain ⟨its, r1, pl, _⟩ := I.list (xs := xs) (.inl (.inl ha))
    obtain ⟨jts, r2, ql, _⟩ := I.list (xs := ys) (.inl (.inl hb))
    have l1 := r1.length
    have l2 := r2.length
    have h0 := SeqAt.RcAt.lists (A := A) (e := fun _ => true) pl.isList ql.isList (by simp; omega) (by omega) (fun j g1 g2 => ?_)
    · have e : ((List.range its.toArray.size).all (fun _ => true)) = true := by simp
      rw [e] at h0
      exact SeqAt.EqAt.of_refs hab h0
    · have g1' : j < its.length := by simpa using g1
      have g2' : j < jts.length := by simpa using g2
      obtain ⟨u1, e1, k1⟩ := r1.get (i := j) (x := xs[j]'(by omega)) (by simp)
      obtain ⟨u2, e2, k2⟩ := r2.get (i := j) (x := ys[j]'(by omega)) (by simp)
      have w1 : its.toArray[j] = u1 := by have := (List.getElem?_eq_some_iff.mp e1).2; simpa using this
      have w2 : jts.toArray[j] = u2 := by have := (List.getElem?_eq_some_iff.mp e2).2; simpa using this
      rw [w1, w2]
      exact ih j _ _ (by simp) (by simp) k1 k2 (by show A.units + 1 + n < cLine; omega)
  | @dct n a b kvs kws f ha hb hl tx hf h ih =>
    intro u u' A r r' hu
    cases r
    cases r'
    obtain ⟨_, na, vs, kv, da⟩ := dk_rd I.hok ha
    obtain ⟨_, nb, ws, kw, db⟩ := dk_rd I.hok hb
    have l1 := kv.length
    have l2 := kw.length
    refine eqAt_dicts da db na nb (by omega) (fun k v hk => ?_) (fun k v hk => ?_) (by omega)
    · obtain ⟨i, hi⟩ := List.getElem?_of_mem hk
      obtain ⟨v0, e0, _⟩ := kv_back kw hi
      exact tx k v0 (List.mem_of_getElem? e0)
    · obtain ⟨i, hi⟩ := List.getElem?_of_mem hk
      obtain ⟨v0, e0, rv⟩ := kv_back kv hi
      have m0 := List.mem_of_getElem? e0
      obtain ⟨m, hm⟩ := List.getElem?_of_mem (hf k v0 m0)
      obtain ⟨u', e1, rv'⟩ := kv_get kw hm
      exact ⟨u', List.mem_of_getElem? e1, ih k v0 m0 rv rv' (by show A.units + 1 + n < cLine; omega)⟩
/-- == of two lists that are alike; != of them -/
theorem rc_lists {A : Around} (I : Inv X pins σ H s) {n : Nat} {a b : Addr} {xs ys : List V} (ha : SqL X.K H a xs) (hb : SqL X.K H b ys) (hl : xs.length = ys.length) (h : ∀ (i : Nat) (x y : V), xs[i]? = some x → ys[i]? = some y → Dq H n x y) (hu : A.units + n + 1 < cLine) :
    SeqAt.RcAt A s (.ref a) (.ref b) true ∧ SeqAt.RcNeAt A s (.ref a) (.ref b) false := by
  obtain ⟨its, r1, pl, _⟩ := I.list ha
  obtain ⟨jts, r2, ql, _⟩ := I.list hb
  have l1 := r1.length
  have l2 := r2.length
  have el : ∀ j (g1 : j < its.toArray.size) (g2 : j < jts.toArray.size), SeqAt.EqAt A.in1 s its.toArray[j] jts.toArray[j] true := fun j g1 g2 => by
    have g1' : j < its.length := by simpa using g1
    have g2' : j < jts.length := by simpa using g2
    obtain ⟨u1, e1, k1⟩ := r1.get (i := j) (x := xs[j]'(by omega)) (by simp)
    obtain ⟨u2, e2, k2⟩ := r2.get (i := j) (x := ys[j]'(by omega)) (by simp)
    have w1 : its.toArray[j] = u1 := by have := (List.getElem?_eq_some_iff.mp e1).2; simpa using this
    have w2 : jts.toArray[j] = u2 := by have := (List.getElem?_eq_some_iff.mp e2).2; simpa using this
    rw [w1, w2]
    exact eqAt_Dq I (h j _ _ (by simp) (by simp)) k1 k2 (by show A.units + 1 + n < cLine; omega)
  have e : ((List.range its.toArray.size).all (fun _ => true)) = true := by simp
  have h1 := SeqAt.RcAt.lists (A := A) (e := fun _ => true) pl.isList ql.isList (by simp; omega) (by omega) el
  have h2 := SeqAt.RcNeAt.lists (A := A) (e := fun _ => true) pl.isList ql.isList (by simp; omega) (by omega) el
  rw [e] at h1 h2
  exact ⟨h1, h2⟩
theorem op_neL : OpR X (compareOp .NotEq) (fun x y H Q => ∃ (n : Nat) (a b : Addr) (xs ys : List V), x = .ref a ∧ y = .ref b ∧ SqL X.K H a xs ∧ SqL X.K H b ys ∧ xs.length = ys.length ∧ (∀ (i : Nat) (x y : V), xs[i]? = some x → ys[i]? = some y → Dq H n x y) ∧ X.A.units + n + 1 < cLine ∧ Q (.bl false) H) := by
  intro pins s σ H x y v u Q I rx ry h
  obtain ⟨n, a, b, xs, ys, rfl, rfl, ha, hb, hl, hd, hu, q⟩ := h
  cases rx
  cases ry
  exact (rc_lists I ha hb hl hd hu).2 X.prog X.w X.xe _ ⟨.bl false, H, I, rfl, q⟩
end
end L2

/-! != OF LISTS OF TEXTS, != OF TWO DICTS THAT ARE ALIKE (own work). -/
namespace L2
open PySem PySem.Spec PyProof.Rows PySem.Builtin PySem.Builtin.Dict
section
variable {X : Cx}
end
theorem dict_ne_tree (a b : Value) : Builtin.«dict.__ne__» ⟨[a, b], []⟩ = (do
    let (self, other) ← dictSlotArgs "__ne__" ⟨[a, b], []⟩
    if !(← isInstance other (.type "dict")) then rule s!"dict.{("__ne__" : String)}.not-a-dict"; return ← ret .notImplemented
    ret (.bool ((← Dict.samePairs s!"dict.{("__ne__" : String)}" (← addrOf self) (← addrOf other)) == false))) := rfl
section
variable {A : Around} {s : Shared} {P : Program} {w : World}
end
section
variable {X : Cx}
end
end L2

/-! == OF TWO DICTS THAT ARE ALIKE (own work). -/
namespace L2
open PySem PySem.Spec PyProof.Rows PySem.Builtin PySem.Builtin.Dict
section
variable {A : Around} {s : Shared} {P : Program} {w : World}
end
section
variable {X : Cx}
end
end L2

namespace L2
open PySem PySem.Spec PyProof.Rows
/-- a comprehension whose items are told by what has come so far -/
theorem compW_idx {J : It} {g : TG} {te : TE} {R : Addr → Hp → Prop} {D : Addr} {σ0 : St} {H0 : Hp} (n : Nat) (Pv : Nat → List V → St → Hp → Prop) (hn : n ≤ sizeLine) (h0 : Pv 0 [] σ0 H0) (hD0 : H0 D = some (.lst []))
    (hs : ∀ i σ H ys, i < n → Pv i ys σ H → ys.length = i → H D = some (.lst ys) → J.go i H ∧ ∀ x H', J.yld i H x H' → g x σ H' fun σ2 H2 => te σ2 H2 fun y H4 => H4 D = some (.lst ys) ∧ Pv (i + 1) (ys ++ [y]) σ2 (upd H4 D (.lst (ys ++ [y]))))
    (hd : ∀ σ H ys, Pv n ys σ H → H D = some (.lst ys) → ys.length = n → J.stop n H ∧ R D H) : CompW J g tYes te R D σ0 H0 := by
  refine ⟨fun i m σ H => m = n - i ∧ i ≤ n ∧ ∃ ys, Pv i ys σ H ∧ H D = some (.lst ys) ∧ ys.length = i, ⟨n, by omega, Nat.zero_le _, [], h0, hD0, rfl⟩, ?_⟩
  rintro i m σ H ⟨rfl, hi, ys, p, hD, hl⟩
  by_cases hlt : i < n
  · obtain ⟨go, st⟩ := hs i σ H ys hlt p hl hD
    refine .inr ⟨go, fun σ2 y H4 => H4 D = some (.lst ys) ∧ Pv (i + 1) (ys ++ [y]) σ2 (upd H4 D (.lst (ys ++ [y]))), fun _ _ => False, ?_, fun _ _ z => z.elim, st⟩
    rintro σ2 y H4 ⟨e, p'⟩
    exact ⟨_, e, by rw [hl]; omega, n - (i + 1), by omega, rfl, hlt, _, p', upd_same, by simp [hl]⟩
  · have e : i = n := by omega
    subst e
    exact .inl (hd σ H ys p hD hl)
theorem back_same {H H1 : Hp} {a : Addr} {o : Obj} {kvs : List (Key × V)} (hc : H a = some (.dK kvs)) (e : Same (L2.upd H a (.frz o (.dK kvs))) H1) : Same H (L2.upd H1 a (.dK kvs)) := fun b u hb => by
  by_cases eb : b = a
  · subst eb
    rw [hc] at hb
    rw [← hb]
    exact upd_same
  · rw [upd_ne eb]
    exact e b u (by rw [upd_ne eb]; exact hb)
end L2

/-! TRY WITH TWO HANDLERS (own work). -/
namespace L2
open PySem PySem.Spec PyProof.Rows
section
variable {X : Cx} {body : List Stmt} {cx cy n : Str} {b₀ b₁ : Stmt} {suite suite' : List Stmt} {np hp np' hp' pos : Pos} {CN CM Cx : Addr} {i : Nat} {tb : Ends → TS} {tc td : Addr → Addr → TS} {ts : Addr → TS} {pins : List (Addr × Obj)} {σ1 : St} {H1 : Hp} {s : Shared} {x : Addr} {od : Option Addr} {D : Ends} {rest : List ExceptHandler}
end
end L2

/-! VALUES WITHOUT ADDRESSES, WHERE DICTS AND LISTS ARE STILL ONE'S OWN (own work). -/
namespace L2
open PySem PySem.Spec PyProof.Rows
/-- no address -/
def flt : V → Bool
  | .non => true
  | .bl _ => true
  | .int _ => true
  | .str _ => true
  | _ => false
inductive Dp where
  | fl (v : V)
  | tup (ds : List Dp)
  | lst (ds : List Dp)
  | dic (kds : List (Str × Dp))
/-- v stands for d in H, n levels deep -/
inductive Dv (H : Hp) : Nat → Dp → V → Prop
  | fl {n : Nat} {v : V} (h : flt v = true) : Dv H n (.fl v) v
  | tup {n : Nat} {a : Addr} {vs : List V} {ds : List Dp} (ha : H a = some (.tup vs)) (hl : vs.length = ds.length) (h : ∀ (i : Nat) (v : V) (d : Dp), vs[i]? = some v → ds[i]? = some d → Dv H n d v) : Dv H (n + 1) (.tup ds) (.ref a)
  | lst {n : Nat} {a : Addr} {vs : List V} {ds : List Dp} (ha : H a = some (.lst vs)) (hl : vs.length = ds.length) (h : ∀ (i : Nat) (v : V) (d : Dp), vs[i]? = some v → ds[i]? = some d → Dv H n d v) : Dv H (n + 1) (.lst ds) (.ref a)
  | dic {n : Nat} {a : Addr} {vs : List V} {kds : List (Str × Dp)} (ha : H a = some (.dK ((kds.map (·.1)).zipWith (fun z v => ((Sum.inr z : Key), v)) vs))) (nd : (kds.map (·.1)).Nodup) (hl : vs.length = kds.length) (h : ∀ (i : Nat) (v : V) (k : Str × Dp), vs[i]? = some v → kds[i]? = some k → Dv H n k.2 v) : Dv H (n + 1) (.dic kds) (.ref a)
theorem Dv.same {H H' : Hp} (s : Same H H') : ∀ {n : Nat} {d : Dp} {v : V}, Dv H n d v → Dv H' n d v := fun {n d v} h => by
  induction h with
  | fl h => exact .fl h
  | tup ha hl _ ih => exact .tup (s _ _ ha) hl ih
  | lst ha hl _ ih => exact .lst (s _ _ ha) hl ih
  | dic ha nd hl _ ih => exact .dic (s _ _ ha) nd hl ih
theorem zw_get {zs : List Str} {vs : List V} {i : Nat} : (zs.zipWith (fun z v => ((Sum.inr z : Key), v)) vs)[i]? = match zs[i]?, vs[i]? with | some z, some v => some (.inr z, v) | _, _ => none := by
  rw [List.getElem?_zipWith]
  cases zs[i]? <;> cases vs[i]? <;> rfl
theorem zw_len {zs : List Str} {vs : List V} (h : vs.length = zs.length) : (zs.zipWith (fun z v => ((Sum.inr z : Key), v)) vs).length = zs.length := by
  rw [List.length_zipWith]; omega
theorem zw_mem {zs : List Str} {vs : List V} {k : Key} {v : V} (h : (k, v) ∈ zs.zipWith (fun z v => ((Sum.inr z : Key), v)) vs) : ∃ (i : Nat) (z : Str), zs[i]? = some z ∧ vs[i]? = some v ∧ k = .inr z := by
  obtain ⟨i, hi⟩ := List.getElem?_of_mem h
  rw [zw_get] at hi
  cases h1 : zs[i]? with
  | none => rw [h1] at hi; cases hi
  | some z =>
    cases h2 : vs[i]? with
    | none => rw [h1, h2] at hi; cases hi
    | some u =>
      rw [h1, h2] at hi
      injection hi with hi
      injection hi with e1 e2
      exact ⟨i, z, h1, by rw [h2, e2], e1.symm⟩
end L2

/-! == AND != OF CONTENTS, BOTH ANSWERS (own work): dicts with the same text keys, lists, tuples, plain things. -/
namespace L2
open PySem PySem.Spec PyProof.Rows PySem.Builtin PySem.Builtin.Dict
theorem all_split {f : Nat → Bool} {n : Nat} (h : ∀ i, i < n → f i = true) : (List.range n).all f = true := List.all_eq_true.mpr fun i hi => h i (List.mem_range.mp hi)
theorem all_stop {f : Nat → Bool} {n i : Nat} (hi : i < n) (h : f i = false) : (List.range n).all f = false := by
  cases e : (List.range n).all f with
  | false => rfl
  | true => rw [List.all_eq_true.mp e i (List.mem_range.mpr hi)] at h; cases h
section
variable {prog : Program} {w : World} {A : Around} {E : Value → Shared → Prop} {s : Shared} {a b : Addr} {oa ob : Obj} {es fs : Array DictEntry} {ep fp : Nat}
theorem same_pairsB {id : String} {Q : Bool → Shared → Prop} (g : Nat → Bool) (ha : s.heap.get? a = some oa) (da : oa.data = .dict es ep) (hb : s.heap.get? b = some ob) (db : ob.data = .dict fs fp) (na : (a == sysModules) = false) (nb : (b == sysModules) = false) (hsz : es.size = fs.size)
    (hf : ∀ (i : Nat) (e : DictEntry), es[i]? = some e → ∃ (j : Nat) (f : DictEntry), fs[j]? = some f ∧ (∀ (R : Option Nat → Shared → Prop), R (some j) s → wpAny (model prog w) A (dictFind b e.key e.hash) R E s) ∧ ∀ (R : Bool → Shared → Prop), R (g i) s → wpAny (model prog w) A (eqBool e.val f.val) R E s)
    (hq : Q ((List.range es.size).all g) s) : wpAny (model prog w) A (Dict.samePairs id a b) Q E s := by
  unfold Dict.samePairs Dict.showsAll
  simp only [na, nb, Bool.false_eq_true, if_false]
  refine wpAny_bind (wpAny_pure (wpAny_bind (wpAny_pure ?_)))
  refine wpAny_bind (wpAny_dictEntries ha da ?_)
  refine wpAny_bind (wpAny_dictEntries hb db ?_)
  rw [if_neg (by rw [hsz]; simp)]
  refine wpAny_bind (wpAny_dictEpoch ha da ?_)
  rw [Std.Legacy.Range.forIn_eq_forIn_range']
  refine wpAny_bind (wpAny_mono (wpAny_forIn_list _ (fun rest b s' => b = (none, ()) ∧ s' = s ∧ (∃ m, rest = List.range' m (es.size - m) 1 ∧ m ≤ es.size ∧ ∀ x, x < m → g x = true)) (fun b s' => s' = s ∧ ((b = (none, ()) ∧ ∀ x, x < es.size → g x = true) ∨ (b = (some false, ()) ∧ ∃ x, x < es.size ∧ g x = false))) (fun i rest b s' hI => ?_) (fun b s' hI => ?_) _ _ ⟨rfl, rfl, 0, ?_⟩) (fun b s' hI => ?_) fun _ _ h => h)
  · obtain ⟨rfl, rfl, m, hr, hm, hg⟩ := hI
    have hlt : m < es.size := by
      rcases Nat.lt_or_ge m es.size with h | h
      · exact h
      · rw [Nat.sub_eq_zero_of_le h] at hr
        cases hr
    have e0 : es.size - m = (es.size - (m + 1)) + 1 := by omega
    rw [e0, List.range'_succ] at hr
    injection hr with h1 h2
    subst h1
    obtain ⟨j, f, hj, h1, h3⟩ := hf i es[i] (by simp [hlt])
    refine wpAny_bind (wpAny_dictEntries ha da ?_)
    have ei : es[i]? = some es[i] := by simp [hlt]
    rw [ei]
    dsimp only
    refine wpAny_bind (wpAny_holding (wpAny_bind (h1 _ ?_)))
    dsimp only
    refine wpAny_bind (wpAny_dictEntries hb db ?_)
    rw [hj]
    dsimp only
    refine wpAny_holding (h3 _ ?_)
    cases hgi : g i with
    | false =>
      rw [if_pos (by decide)]
      exact wpAny_pure ⟨rfl, .inr ⟨rfl, i, hlt, hgi⟩⟩
    | true =>
      rw [if_neg (by decide)]
      refine wpAny_bind (wpAny_dictEpoch ha da ?_)
      rw [if_neg (by simp)]
      refine wpAny_pure ⟨rfl, rfl, i + 1, h2, by omega, fun x hx => ?_⟩
      rcases Nat.lt_or_ge x i with h | h
      · exact hg x h
      · obtain rfl : x = i := by omega
        exact hgi
  · obtain ⟨rfl, rfl, m, hr, hm, hg⟩ := hI
    refine ⟨rfl, .inl ⟨rfl, fun x hx => hg x ?_⟩⟩
    have : es.size - m = 0 := by
      have := congrArg List.length hr
      simpa using this.symm
    omega
  · exact ⟨by simp [Std.Legacy.Range.size], Nat.zero_le _, fun x hx => absurd hx (Nat.not_lt_zero x)⟩
  · obtain ⟨rfl, ⟨rfl, hg⟩ | ⟨rfl, x, hx, hg⟩⟩ := hI
    · rw [all_split hg] at hq
      exact wpAny_pure hq
    · rw [all_stop hx hg] at hq
      exact wpAny_pure hq
end

section
variable {A : Around} {s : Shared} {P : Program} {w : World}
/-- two dicts, each key of the one in the other, the values compared with answers g -/
theorem pairs_B {a b : Addr} {kvs kws : List (Key × Value)} (g : Nat → Bool) (da : s.heap.DictOf (mixKind P w) a kvs) (db : s.heap.DictOf (mixKind P w) b kws) (na : (a == sysModules) = false) (nb : (b == sysModules) = false) (hl : kvs.length = kws.length) (tx : ∀ (k : Key) (v : Value), (k, v) ∈ kws → ∃ x, k = .inr x)
    (he : ∀ (i : Nat) (k : Key) (v : Value), kvs[i]? = some (k, v) → ∃ v', (k, v') ∈ kws ∧ SeqAt.EqAt A s v v' (g i)) : ∀ (prog : Program) (w' : World) (E : Value → Shared → Prop) (id : String) (Q : Bool → Shared → Prop), Q ((List.range kvs.length).all g) s → wpAny (model prog w') A (Dict.samePairs id a b) Q E s := fun prog w' E id Q hq => by
  obtain ⟨oa, es, ep, ha, xa, dda, ka, pa, nda⟩ := da
  obtain ⟨ob, fs, fp, hb, xb, ddb, kb, pb, ndb⟩ := db
  have la : es.size = kvs.length := by have := pairs_len pa; simpa using this
  have lb : fs.size = kws.length := by have := pairs_len pb; simpa using this
  have kb' : ∀ e ∈ fs, ∃ z t, e.key = Value.str z t := fun e he' => by
    obtain ⟨m, hm, rfl⟩ := Array.mem_iff_getElem.mp he'
    obtain ⟨⟨k, v⟩, hk⟩ : ∃ kv, kws[m]? = some kv := ⟨_, List.getElem?_eq_getElem (by omega)⟩
    obtain ⟨g1, _⟩ := pb.get? (i := m) (e := fs[m]) (by simp [hm]) hk
    obtain ⟨x, rfl⟩ := tx k v (List.mem_of_getElem? hk)
    rcases keyIs_shape (k := .inr x) (v := fs[m].key) g1 with ⟨i, t, q, _⟩ | ⟨z, t, q, q2⟩
    · cases q
    · exact ⟨z, t, q2⟩
  refine same_pairsB g ha dda hb ddb na nb (by omega) (fun i e ei => ?_) (by rw [la]; exact hq)
  have hi : i < es.size := (Array.getElem?_eq_some_iff.mp ei).1
  obtain ⟨⟨k, v⟩, hk⟩ : ∃ kv, kvs[i]? = some kv := ⟨_, List.getElem?_eq_getElem (by omega)⟩
  obtain ⟨g1, g2⟩ := pa.get? (i := i) (e := e) (by simpa using ei) hk
  obtain ⟨k2, g3, g4⟩ := ka e (Array.mem_of_getElem? ei)
  have ek : k2 = k := (mixKind P w).inj _ _ _ g3 g1
  subst ek
  obtain ⟨v', hv', eq⟩ := he i k2 v hk
  obtain ⟨x, rfl⟩ := tx k2 v' hv'
  obtain ⟨t0, ek0⟩ : ∃ t, e.key = Value.str x t := by
    rcases keyIs_shape (k := .inr x) (v := e.key) g1 with ⟨i, t, q, _⟩ | ⟨z, t, q, q2⟩
    · cases q
    · cases q
      exact ⟨t, q2⟩
  obtain ⟨m, hm⟩ := List.getElem?_of_mem hv'
  have hm' : m < fs.size := by have := (List.getElem?_eq_some_iff.mp hm).1; omega
  have em : fs.toList[m]? = some fs[m] := by simp [hm']
  obtain ⟨q1, q2⟩ := pb.get? em hm
  obtain ⟨j, hj⟩ : ∃ j, fs.findIdx? (fun e => e.key.isStr x) = some j := by
    cases z : fs.findIdx? (fun e => e.key.isStr x) with
    | some j => exact ⟨j, rfl⟩
    | none =>
      have := Array.findIdx?_eq_none_iff.mp z fs[m] (Array.getElem_mem hm')
      have q1' : fs[m].key.isStr x = true := by
        rcases keyIs_shape (k := .inr x) (v := fs[m].key) q1 with ⟨i, t, q, _⟩ | ⟨z, t, q, q2⟩
        · cases q
        · cases q
          rw [q2]
          exact beq_self_eq_true x
      rw [q1'] at this
      cases this
  obtain ⟨hjs, hjt, _⟩ := Array.findIdx?_eq_some_iff_getElem.mp hj
  obtain ⟨⟨k3, v3⟩, hk3⟩ : ∃ kv, kws[j]? = some kv := ⟨_, List.getElem?_eq_getElem (by omega)⟩
  obtain ⟨r1, r2⟩ := pb.get? (i := j) (e := fs[j]) (by simp [hjs]) hk3
  have hjk : (mixKind P w).is (.inr x) fs[j].key = true := by
    obtain ⟨z, t, q⟩ := kb' fs[j] (Array.getElem_mem hjs)
    rw [q] at hjt ⊢
    have zx : z = x := eq_of_beq hjt
    rw [zx]
    rw [(mixKind P w).strs (.inr x) x t0 _ (by rw [← ek0]; exact g1)]
    exact beq_self_eq_true x
  have e3 : k3 = .inr x := (mixKind P w).inj _ _ _ r1 hjk
  subst e3
  have jm : j = m := by
    have hj1 : (kws.map (·.1))[j]? = some (Sum.inr x) := by rw [List.getElem?_map, hk3]; rfl
    have hm1 : (kws.map (·.1))[m]? = some (Sum.inr x) := by rw [List.getElem?_map, hm]; rfl
    obtain ⟨x1, y1⟩ := List.getElem?_eq_some_iff.mp hj1
    obtain ⟨x2, y2⟩ := List.getElem?_eq_some_iff.mp hm1
    rcases Nat.lt_trichotomy j m with z | z | z
    · exact absurd (y1.trans y2.symm) (List.pairwise_iff_getElem.mp ndb j m x1 x2 z)
    · exact z
    · exact absurd (y2.trans y1.symm) (List.pairwise_iff_getElem.mp ndb m j x2 x1 z)
  subst jm
  rw [hm] at hk3
  cases hk3
  refine ⟨j, fs[j], by simp [hjs], fun R hR => ?_, fun R hR => ?_⟩
  · rw [ek0]
    exact find_str hb ddb kb' hj hR
  · rw [g2, r2]
    exact eq prog w' E R hR
theorem rc_dictsB {a b : Addr} {kvs kws : List (Key × Value)} (g : Nat → Bool) (da : s.heap.DictOf (mixKind P w) a kvs) (db : s.heap.DictOf (mixKind P w) b kws) (na : (a == sysModules) = false) (nb : (b == sysModules) = false) (hl : kvs.length = kws.length) (tx : ∀ (k : Key) (v : Value), (k, v) ∈ kws → ∃ x, k = .inr x)
    (he : ∀ (i : Nat) (k : Key) (v : Value), kvs[i]? = some (k, v) → ∃ v', (k, v') ∈ kws ∧ SeqAt.EqAt A.in1 s v v' (g i)) (hu : A.units < cLine) : SeqAt.RcAt A s (.ref a) (.ref b) ((List.range kvs.length).all g) ∧ SeqAt.RcNeAt A s (.ref a) (.ref b) (!(List.range kvs.length).all g) := by
  have key := fun prog w' E id Q => pairs_B (A := A.in1) g da db na nb hl tx he prog w' E id Q
  obtain ⟨oa, es, ep, ha, xa, dda, ka, pa, nda⟩ := da
  obtain ⟨ob, fs, fp, hb, xb, ddb, kb, pb, ndb⟩ := db
  have Ta : s.TypeIs (.ref a) "dict" := ⟨oa, ha, xa.1⟩
  have Tb : s.TypeIs (.ref b) "dict" := ⟨ob, hb, xb.1⟩
  constructor
  · intro prog w' E Q hq
    refine wpAny_richCompare_same_room Ta Tb F.slot_dict_eq (wpAny_call_entry F.slot_dict_eq Ta F.entry_dict_eq ?_ (F.args_dict_eq_2 _ _)) hu
    rw [dict_eq_tree]
    refine wpAny_bind ?_
    show wpAny _ _ (pure (Value.ref a, Value.ref b)) _ _ _
    refine wpAny_pure ?_
    dsimp only
    refine wpAny_bind (wpAny_isInstance (T := "dict") (b := true) Tb sub_dict_dict ?_)
    simp only [Bool.not_true, Bool.false_eq_true, if_false]
    refine wpAny_bind (wpAny_pure (wpAny_bind (wpAny_pure (wpAny_bind (key prog w' _ _ _ ?_)))))
    refine wpAny_pure ⟨_, rfl, (fun z => nomatch z), ?_⟩
    have e : ∀ b : Bool, (b == true) = b := by decide
    rw [e]
    exact hq
  · intro prog w' E Q hq
    refine wpAny_richCompare_same_room Ta Tb F.slot_dict_ne (wpAny_call_entry F.slot_dict_ne Ta F.entry_dict_ne ?_ (F.args_dict_ne_2 _ _)) hu
    rw [dict_ne_tree]
    refine wpAny_bind ?_
    show wpAny _ _ (pure (Value.ref a, Value.ref b)) _ _ _
    refine wpAny_pure ?_
    dsimp only
    refine wpAny_bind (wpAny_isInstance (T := "dict") (b := true) Tb sub_dict_dict ?_)
    simp only [Bool.not_true, Bool.false_eq_true, if_false]
    refine wpAny_bind (wpAny_pure (wpAny_bind (wpAny_pure (wpAny_bind (key prog w' _ _ _ ?_)))))
    refine wpAny_pure ⟨_, rfl, (fun z => nomatch z), ?_⟩
    have e : ∀ b : Bool, (b == false) = !b := by decide
    rw [e]
    exact hq
end
/-- v stands for d in H, n levels deep; tuples may stand frozen -/
inductive Dw (H : Hp) : Nat → Dp → V → Prop
  | fl {n : Nat} {v : V} (h : flt v = true) : Dw H n (.fl v) v
  | tup {n : Nat} {a : Addr} {vs : List V} {ds : List Dp} (ha : Rd H a (.tup vs)) (hl : vs.length = ds.length) (h : ∀ (i : Nat) (v : V) (d : Dp), vs[i]? = some v → ds[i]? = some d → Dw H n d v) : Dw H (n + 1) (.tup ds) (.ref a)
  | lst {n : Nat} {a : Addr} {vs : List V} {ds : List Dp} (ha : H a = some (.lst vs)) (hl : vs.length = ds.length) (h : ∀ (i : Nat) (v : V) (d : Dp), vs[i]? = some v → ds[i]? = some d → Dw H n d v) : Dw H (n + 1) (.lst ds) (.ref a)
  | dic {n : Nat} {a : Addr} {vs : List V} {kds : List (Str × Dp)} (ha : Rd H a (.dK ((kds.map (·.1)).zipWith (fun z v => ((Sum.inr z : Key), v)) vs))) (hl : vs.length = kds.length) (h : ∀ (i : Nat) (v : V) (k : Str × Dp), vs[i]? = some v → kds[i]? = some k → Dw H n k.2 v) : Dw H (n + 1) (.dic kds) (.ref a)
/-- nothing but tables of code has changed -/
def Ntb (H H' : Hp) : Prop := ∀ b o, H b = some o → (∀ zs, o ≠ .tbl zs) → H' b = some o
theorem Ntb.of {H H' : Hp} (s : Same H H') : Ntb H H' := fun b o e _ => s b o e
theorem Ntb.trans {H H' H2 : Hp} (s : Ntb H H') (t : Ntb H' H2) : Ntb H H2 := fun b o e h => t b o (s b o e h) h
theorem Ntb.rd {H H' : Hp} (s : Ntb H H') {a : Addr} {xs : List V} (e : Rd H a (.tup xs)) : Rd H' a (.tup xs) := by
  rcases e with e | ⟨o, e⟩
  · exact .inl (s _ _ e (fun zs h => by cases h))
  · exact .inr ⟨o, s _ _ e (fun zs h => by cases h)⟩
theorem Ntb.rdK {H H' : Hp} (s : Ntb H H') {a : Addr} {kvs : List (Key × V)} (e : Rd H a (.dK kvs)) : Rd H' a (.dK kvs) := by
  rcases e with e | ⟨o, e⟩
  · exact .inl (s _ _ e (fun zs h => by cases h))
  · exact .inr ⟨o, s _ _ e (fun zs h => by cases h)⟩
theorem rd_dk_inj {H : Hp} {a : Addr} {xs ys : List (Key × V)} (h : Rd H a (.dK xs)) (g : Rd H a (.dK ys)) : xs = ys := by
  rcases h with h | ⟨o, h⟩ <;> rcases g with g | ⟨o', g⟩ <;> rw [h] at g <;> cases g <;> rfl
theorem Dw.nt {H H' : Hp} (s : Ntb H H') {n : Nat} {d : Dp} {v : V} (h : Dw H n d v) : Dw H' n d v := by
  induction h with
  | fl h => exact .fl h
  | tup ha hl _ ih => exact .tup (s.rd ha) hl ih
  | lst ha hl _ ih => exact .lst (s _ _ ha (fun zs h => by cases h)) hl ih
  | dic ha hl _ ih => exact .dic (s.rdK ha) hl ih
theorem Dw.same {H H' : Hp} (s : Same H H') {n : Nat} {d : Dp} {v : V} (h : Dw H n d v) : Dw H' n d v := h.nt (.of s)
theorem Dw.up {H : Hp} {n : Nat} {d : Dp} {v : V} (h : Dw H n d v) : ∀ m, n ≤ m → Dw H m d v := by
  induction h with
  | fl h => exact fun m _ => .fl h
  | tup ha hl _ ih => intro m hm; match m, hm with | m + 1, hm => exact .tup ha hl fun i v d a b => ih i v d a b m (by omega)
  | lst ha hl _ ih => intro m hm; match m, hm with | m + 1, hm => exact .lst ha hl fun i v d a b => ih i v d a b m (by omega)
  | dic ha hl _ ih => intro m hm; match m, hm with | m + 1, hm => exact .dic ha hl fun i v d a b => ih i v d a b m (by omega)
/-- compared: b says whether they are the same -/
inductive Deq : Dp → Dp → Bool → Prop
  | non : Deq (.fl .non) (.fl .non) true
  | bl {b : Bool} : Deq (.fl (.bl b)) (.fl (.bl b)) true
  | int {i j : Int} : Deq (.fl (.int i)) (.fl (.int j)) (i == j)
  | str {x y : Str} : Deq (.fl (.str x)) (.fl (.str y)) (x == y)
  | tup {ds es : List Dp} (f : Nat → Bool) (hl : ds.length = es.length) (h : ∀ (i : Nat) (d e : Dp), ds[i]? = some d → es[i]? = some e → Deq d e (f i)) : Deq (.tup ds) (.tup es) ((List.range ds.length).all f)
  | lst {ds es : List Dp} (f : Nat → Bool) (hl : ds.length = es.length) (h : ∀ (i : Nat) (d e : Dp), ds[i]? = some d → es[i]? = some e → Deq d e (f i)) : Deq (.lst ds) (.lst es) ((List.range ds.length).all f)
  | dic {ds es : List (Str × Dp)} (f : Nat → Bool) (hl : ds.map (·.1) = es.map (·.1)) (h : ∀ (i : Nat) (d e : Str × Dp), ds[i]? = some d → es[i]? = some e → Deq d.2 e.2 (f i)) : Deq (.dic ds) (.dic es) ((List.range ds.length).all f)
theorem Deq.to {d e : Dp} {b c : Bool} (h : Deq d e b) (hb : b = c) : Deq d e c := hb ▸ h
theorem rd_tup_inj {H : Hp} {a : Addr} {xs ys : List V} (h : Rd H a (.tup xs)) (g : Rd H a (.tup ys)) : xs = ys := by
  rcases h with h | ⟨o, h⟩ <;> rcases g with g | ⟨o', g⟩ <;> rw [h] at g <;> cases g <;> rfl
theorem Deq.self {H : Hp} {d e : Dp} {b : Bool} (h : Deq d e b) : ∀ {n m : Nat} {v : V}, Dw H n d v → Dw H m e v → b = true := by
  induction h with
  | non => intros; rfl
  | bl => intros; rfl
  | int =>
    intro n m v h1 h2
    cases h1; cases h2
    exact beq_self_eq_true _
  | str =>
    intro n m v h1 h2
    cases h1; cases h2
    exact beq_self_eq_true _
  | tup f hl h ih =>
    intro n m v h1 h2
    cases h1 with
    | tup ha hla h1 =>
      cases h2 with
      | tup hb hlb h2 =>
        obtain rfl := rd_tup_inj ha hb
        refine all_split fun i hi => ?_
        exact ih i _ _ (List.getElem?_eq_getElem hi) (List.getElem?_eq_getElem (by omega)) (h1 i _ _ (List.getElem?_eq_getElem (by omega)) (List.getElem?_eq_getElem hi)) (h2 i _ _ (List.getElem?_eq_getElem (by omega)) (List.getElem?_eq_getElem (by omega)))
  | lst f hl h ih =>
    intro n m v h1 h2
    cases h1 with
    | lst ha hla h1 =>
      cases h2 with
      | lst hb hlb h2 =>
        rw [ha] at hb
        cases hb
        refine all_split fun i hi => ?_
        exact ih i _ _ (List.getElem?_eq_getElem hi) (List.getElem?_eq_getElem (by omega)) (h1 i _ _ (List.getElem?_eq_getElem (by omega)) (List.getElem?_eq_getElem hi)) (h2 i _ _ (List.getElem?_eq_getElem (by omega)) (List.getElem?_eq_getElem (by omega)))
  | @dic ds es f hl h ih =>
    intro n m v h1 h2
    have hl2 : ds.length = es.length := by have := congrArg List.length hl; simpa using this
    cases h1 with
    | @dic _ _ vs _ ha hla h1 =>
      cases h2 with
      | @dic _ _ ws _ hb hlb h2 =>
        have hb := rd_dk_inj ha hb
        refine all_split fun i hi => ?_
        have e1 : (List.zipWith (fun z v => ((Sum.inr z : Key), v)) (ds.map (·.1)) vs)[i]? = some (.inr ds[i].1, vs[i]'(by omega)) := by
          rw [zw_get, List.getElem?_map, List.getElem?_eq_getElem hi, List.getElem?_eq_getElem (by omega)]; rfl
        have e2 : (List.zipWith (fun z v => ((Sum.inr z : Key), v)) (es.map (·.1)) ws)[i]? = some (.inr (es[i]'(by omega)).1, ws[i]'(by omega)) := by
          rw [zw_get, List.getElem?_map, List.getElem?_eq_getElem (by omega), List.getElem?_eq_getElem (by omega)]; rfl
        rw [hb, e2] at e1
        injection e1 with e1
        injection e1 with e3 e4
        exact ih i _ _ (List.getElem?_eq_getElem hi) (List.getElem?_eq_getElem (by omega)) (h1 i _ _ (List.getElem?_eq_getElem (by omega)) (List.getElem?_eq_getElem hi)) (by rw [← e4]; exact h2 i _ _ (List.getElem?_eq_getElem (by omega)) (List.getElem?_eq_getElem (by omega)))
theorem vals_at {vs : List V} {us : List Value} (r : Vals vs us) {j : Nat} (h : j < us.toArray.size) : ∃ hj : j < vs.length, RelV vs[j] us.toArray[j] := by
  have h' : j < us.length := by simpa using h
  have hj : j < vs.length := by rw [r.length]; exact h'
  obtain ⟨u1, e1, k1⟩ := r.get (i := j) (x := vs[j]) (by simp)
  have w1 : us.toArray[j] = u1 := by have := (List.getElem?_eq_some_iff.mp e1).2; simpa using this
  exact ⟨hj, by rw [w1]; exact k1⟩
section
variable {X : Cx} {pins : List (Addr × Obj)} {σ : St} {H : Hp} {s : Shared}
def RcB (A : Around) (s : Shared) (u u' : Value) (b : Bool) : Prop := SeqAt.RcAt A s u u' b ∧ SeqAt.RcNeAt A s u u' (!b)
theorem eqAt_Dw (I : Inv X pins σ H s) {d e : Dp} {b : Bool} (h : Deq d e b) : ∀ {n : Nat} {x y : V} {u u' : Value} {A : Around}, Dw H n d x → Dw H n e y → RelV x u → RelV y u' → A.units + n < cLine → SeqAt.EqAt A s u u' b ∧ ∀ a c, u = .ref a → u' = .ref c → RcB A s u u' b := by
  induction h with
  | non => intro n x y u u' A h1 h2 r1 r2 hu; cases h1; cases h2; cases r1; cases r2; exact ⟨SeqAt.EqAt.same _, fun a c e => by cases e⟩
  | bl => intro n x y u u' A h1 h2 r1 r2 hu; cases h1; cases h2; cases r1; cases r2; exact ⟨SeqAt.EqAt.same _, fun a c e => by cases e⟩
  | @int i j =>
    intro n x y u u' A h1 h2 r1 r2 hu
    cases h1; cases h2
    obtain ⟨t, rfl⟩ := r1
    obtain ⟨t', rfl⟩ := r2
    exact ⟨SeqAt.EqAt.int_int (A := A) (s := s) i t j t', fun a c e => by cases e⟩
  | @str i j =>
    intro n x y u u' A h1 h2 r1 r2 hu
    cases h1; cases h2
    obtain ⟨t, rfl⟩ := r1
    obtain ⟨t', rfl⟩ := r2
    exact ⟨SeqAt.EqAt.str_str (A := A) (s := s) i t j t', fun a c e => by cases e⟩
  | @tup ds es f hl h ih =>
    intro n x y u u' A h1 h2 r1 r2 hu
    have self := (Deq.tup f hl h).self (H := H) (n := n) (m := n) (v := x) h1
    cases h1 with
    | @tup n a vs _ ha hla h1 =>
      cases h2 with
      | @tup _ b ws _ hb hlb h2 =>
        cases r1
        cases r2
        obtain ⟨its, q1, pl, _⟩ := I.tuple (xs := vs) (.inl ha)
        obtain ⟨jts, q2, ql, _⟩ := I.tuple (xs := ws) (.inl hb)
        have l1 := q1.length
        have l2 := q2.length
        have el : ∀ j (g1 : j < its.toArray.size) (g2 : j < jts.toArray.size), SeqAt.EqAt A.in1 s its.toArray[j] jts.toArray[j] (f j) := fun j g1 g2 => by
          obtain ⟨j1, k1⟩ := vals_at q1 g1
          obtain ⟨j2, k2⟩ := vals_at q2 g2
          exact (ih j _ _ (List.getElem?_eq_getElem (by omega)) (List.getElem?_eq_getElem (by omega)) (h1 j _ _ (List.getElem?_eq_getElem j1) (List.getElem?_eq_getElem (by omega))) (h2 j _ _ (List.getElem?_eq_getElem j2) (List.getElem?_eq_getElem (by omega))) k1 k2 (by show A.units + 1 + n < cLine; omega)).1
        have e1 := SeqAt.RcAt.tuples (A := A) (e := f) pl ql (by omega) el
        have e2 := SeqAt.RcNeAt.tuples (A := A) (e := f) pl ql (by omega) el
        have hz : its.toArray.size = jts.toArray.size := by simp; omega
        have hd : jts.toArray.size = ds.length := by simp; omega
        rw [hz, Nat.min_self, beq_self_eq_true, Bool.and_true, hd] at e1 e2
        refine ⟨?_, fun _ _ _ _ => ⟨e1, e2⟩⟩
        by_cases hab : a = b
        · subst hab
          rw [self (.tup hb hlb h2)]
          exact SeqAt.EqAt.same _
        · exact SeqAt.EqAt.of_refs hab e1
  | @lst ds es f hl h ih =>
    intro n x y u u' A h1 h2 r1 r2 hu
    have self := (Deq.lst f hl h).self (H := H) (n := n) (m := n) (v := x) h1
    cases h1 with
    | @lst n a vs _ ha hla h1 =>
      cases h2 with
      | @lst _ b ws _ hb hlb h2 =>
        cases r1
        cases r2
        obtain ⟨its, q1, pl, _⟩ := I.list (xs := vs) (.inl (.inl ha))
        obtain ⟨jts, q2, ql, _⟩ := I.list (xs := ws) (.inl (.inl hb))
        have l1 := q1.length
        have l2 := q2.length
        have el : ∀ j (g1 : j < its.toArray.size) (g2 : j < jts.toArray.size), SeqAt.EqAt A.in1 s its.toArray[j] jts.toArray[j] (f j) := fun j g1 g2 => by
          obtain ⟨j1, k1⟩ := vals_at q1 g1
          obtain ⟨j2, k2⟩ := vals_at q2 g2
          exact (ih j _ _ (List.getElem?_eq_getElem (by omega)) (List.getElem?_eq_getElem (by omega)) (h1 j _ _ (List.getElem?_eq_getElem j1) (List.getElem?_eq_getElem (by omega))) (h2 j _ _ (List.getElem?_eq_getElem j2) (List.getElem?_eq_getElem (by omega))) k1 k2 (by show A.units + 1 + n < cLine; omega)).1
        have e1 := SeqAt.RcAt.lists (A := A) (e := f) pl.isList ql.isList (by simp; omega) (by omega) el
        have e2 := SeqAt.RcNeAt.lists (A := A) (e := f) pl.isList ql.isList (by simp; omega) (by omega) el
        have hd : its.toArray.size = ds.length := by simp; omega
        rw [hd] at e1 e2
        refine ⟨?_, fun _ _ _ _ => ⟨e1, e2⟩⟩
        by_cases hab : a = b
        · subst hab
          rw [self (.lst hb hlb h2)]
          exact SeqAt.EqAt.same _
        · exact SeqAt.EqAt.of_refs hab e1
  | @dic ds es f hl h ih =>
    intro n x y u u' A h1 h2 r1 r2 hu
    have hl2 : ds.length = es.length := by have := congrArg List.length hl; simpa using this
    have self := (Deq.dic f hl h).self (H := H) (n := n) (m := n) (v := x) h1
    cases h1 with
    | @dic n a vs _ ha hla h1 =>
      cases h2 with
      | @dic _ b ws _ hb hlb h2 =>
        cases r1
        cases r2
        obtain ⟨_, na, us, kv, da⟩ := dk_rd I.hok ha
        obtain ⟨_, nb, us', kw, db⟩ := dk_rd I.hok hb
        have l1 := kv.length
        have l2 := kw.length
        have z1 : (List.zipWith (fun z v => ((Sum.inr z : Key), v)) (ds.map (·.1)) vs).length = ds.length := by rw [zw_len (by rw [List.length_map]; exact hla), List.length_map]
        have z2 : (List.zipWith (fun z v => ((Sum.inr z : Key), v)) (es.map (·.1)) ws).length = es.length := by rw [zw_len (by rw [List.length_map]; exact hlb), List.length_map]
        have e0 := rc_dictsB (A := A) f da db na nb (by omega) (fun k v hk => ?_) (fun i k v hk => ?_) (by omega)
        · have hd : us.length = ds.length := by omega
          rw [hd] at e0
          refine ⟨?_, fun _ _ _ _ => e0⟩
          by_cases hab : a = b
          · subst hab
            rw [self (.dic hb hlb h2)]
            exact SeqAt.EqAt.same _
          · exact SeqAt.EqAt.of_refs hab e0.1
        · obtain ⟨i, hi⟩ := List.getElem?_of_mem hk
          obtain ⟨v0, e0, _⟩ := kv_back kw hi
          obtain ⟨_, z, _, _, ez⟩ := zw_mem (List.mem_of_getElem? e0)
          exact ⟨z, ez⟩
        · obtain ⟨v0, e0, rv⟩ := kv_back kv hk
          have hi : i < ds.length := by have := (List.getElem?_eq_some_iff.mp e0).1; omega
          rw [zw_get, List.getElem?_map, List.getElem?_eq_getElem hi, List.getElem?_eq_getElem (by omega)] at e0
          have e0 := Option.some.inj e0
          injection e0 with ek ev
          subst ek
          subst ev
          have hk2 : ds[i].1 = (es[i]'(by omega)).1 := by
            have := congrArg (fun l : List Str => l[i]?) hl
            simp only [List.getElem?_map] at this
            rw [List.getElem?_eq_getElem hi, List.getElem?_eq_getElem (by omega)] at this
            exact Option.some.inj this
          have hm : (List.zipWith (fun z v => ((Sum.inr z : Key), v)) (es.map (·.1)) ws)[i]? = some (.inr ds[i].1, ws[i]'(by omega)) := by
            rw [zw_get, List.getElem?_map, List.getElem?_eq_getElem (by omega), List.getElem?_eq_getElem (by omega), hk2]
            rfl
          obtain ⟨u2, e2, rv2⟩ := kv_get kw hm
          exact ⟨u2, List.mem_of_getElem? e2, (ih i _ _ (List.getElem?_eq_getElem hi) (List.getElem?_eq_getElem (by omega)) (h1 i _ _ (List.getElem?_eq_getElem (by omega)) (List.getElem?_eq_getElem hi)) (h2 i _ _ (List.getElem?_eq_getElem (by omega)) (List.getElem?_eq_getElem (by omega))) rv rv2 (by show A.units + 1 + n < cLine; omega)).1⟩
theorem op_eqW (hu : X.A.units + 20 < cLine) : OpR X (compareOp .Eq) (fun x y H Q => ∃ (n : Nat) (a c : Addr) (d e : Dp) (b : Bool), x = .ref a ∧ y = .ref c ∧ Dw H n d x ∧ Dw H n e y ∧ Deq d e b ∧ n ≤ 16 ∧ Q (.bl b) H) := by
  intro pins s σ H x y v u Q I rx ry h
  obtain ⟨n, a, c, d, e, b, rfl, rfl, h1, h2, hd, hn, q⟩ := h
  cases rx
  cases ry
  exact ((eqAt_Dw I hd h1 h2 rfl rfl (A := X.A) (by omega)).2 _ _ rfl rfl).1 X.prog X.w X.xe _ ⟨.bl b, H, I, rfl, q⟩
theorem op_neW (hu : X.A.units + 20 < cLine) : OpR X (compareOp .NotEq) (fun x y H Q => ∃ (n : Nat) (a c : Addr) (d e : Dp) (b : Bool), x = .ref a ∧ y = .ref c ∧ Dw H n d x ∧ Dw H n e y ∧ Deq d e b ∧ n ≤ 16 ∧ Q (.bl (!b)) H) := by
  intro pins s σ H x y v u Q I rx ry h
  obtain ⟨n, a, c, d, e, b, rfl, rfl, h1, h2, hd, hn, q⟩ := h
  cases rx
  cases ry
  exact ((eqAt_Dw I hd h1 h2 rfl rfl (A := X.A) (by omega)).2 _ _ rfl rfl).2 X.prog X.w X.xe _ ⟨.bl (!b), H, I, rfl, q⟩
end

theorem Dw.refl {H : Hp} {n : Nat} {d : Dp} {v : V} (h : Dw H n d v) : Deq d d true := by
  induction h with
  | @fl n v h =>
    cases v with
    | non => exact .non
    | bl b => exact .bl
    | int i => exact Deq.int.to (beq_self_eq_true i)
    | str z => exact Deq.str.to (beq_self_eq_true z)
    | _ => cases h
  | @tup n a vs ds ha hl h ih => exact (Deq.tup (fun _ => true) rfl fun i d e h1 h2 => by
      rw [h1] at h2
      cases h2
      have hi := (List.getElem?_eq_some_iff.mp h1).1
      exact ih i _ d (List.getElem?_eq_getElem (by omega)) h1).to (all_split fun _ _ => rfl)
  | @lst n a vs ds ha hl h ih => exact (Deq.lst (fun _ => true) rfl fun i d e h1 h2 => by
      rw [h1] at h2
      cases h2
      have hi := (List.getElem?_eq_some_iff.mp h1).1
      exact ih i _ d (List.getElem?_eq_getElem (by omega)) h1).to (all_split fun _ _ => rfl)
  | @dic n a vs ds ha hl h ih => exact (Deq.dic (fun _ => true) rfl fun i d e h1 h2 => by
      rw [h1] at h2
      cases h2
      have hi := (List.getElem?_eq_some_iff.mp h1).1
      exact ih i _ d (List.getElem?_eq_getElem (by omega)) h1).to (all_split fun _ _ => rfl)
inductive DeqL : List Dp → List Dp → Bool → Prop
  | nil : DeqL [] [] true
  | cons {d e : Dp} {ds es : List Dp} {b c : Bool} (h : Deq d e b) (t : DeqL ds es c) : DeqL (d :: ds) (e :: es) (b && c)
theorem DeqL.fn {ds es : List Dp} {b : Bool} (h : DeqL ds es b) : ∃ f : Nat → Bool, ds.length = es.length ∧ (∀ (i : Nat) (d e : Dp), ds[i]? = some d → es[i]? = some e → Deq d e (f i)) ∧ (List.range ds.length).all f = b := by
  induction h with
  | nil => exact ⟨fun _ => true, rfl, (fun i d e h => by simp at h), rfl⟩
  | @cons d e ds es b c h t ih =>
    obtain ⟨f, h1, h2, h3⟩ := ih
    refine ⟨fun i => match i with | 0 => b | i + 1 => f i, by simp [h1], fun i d' e' a1 a2 => ?_, ?_⟩
    · match i, a1, a2 with
      | 0, a1, a2 =>
        cases a1
        cases a2
        exact h
      | i + 1, a1, a2 => exact h2 i d' e' a1 a2
    · rw [List.length_cons, List.range_succ_eq_map, List.all_cons, List.all_map]
      show (b && (List.range ds.length).all f) = _
      rw [h3]
theorem DeqL.lst {ds es : List Dp} {b : Bool} (h : DeqL ds es b) : Deq (.lst ds) (.lst es) b := by
  obtain ⟨f, h1, h2, h3⟩ := h.fn
  exact (Deq.lst f h1 h2).to h3
theorem DeqL.dic {ks : List Str} {ds es : List Dp} {b : Bool} (h : DeqL ds es b) (hk : ks.length = ds.length) : Deq (.dic (ks.zip ds)) (.dic (ks.zip es)) b := by
  obtain ⟨f, h1, h2, h3⟩ := h.fn
  have l1 : (ks.zip ds).length = ds.length := by rw [List.length_zip]; omega
  refine (Deq.dic f ?_ fun i d e a1 a2 => ?_).to (by rw [l1]; exact h3)
  · rw [List.map_fst_zip (by omega), List.map_fst_zip (by omega)]
  · obtain ⟨x1, y1⟩ := List.getElem?_zip_eq_some.mp a1
    obtain ⟨x2, y2⟩ := List.getElem?_zip_eq_some.mp a2
    exact h2 i _ _ y1 y2
inductive DwL (H : Hp) (n : Nat) : List Dp → List V → Prop
  | nil : DwL H n [] []
  | cons {d : Dp} {v : V} {ds : List Dp} {vs : List V} (h : Dw H n d v) (t : DwL H n ds vs) : DwL H n (d :: ds) (v :: vs)
theorem DwL.at_ {H : Hp} {n : Nat} {ds : List Dp} {vs : List V} (h : DwL H n ds vs) : vs.length = ds.length ∧ ∀ (i : Nat) (v : V) (d : Dp), vs[i]? = some v → ds[i]? = some d → Dw H n d v := by
  induction h with
  | nil => exact ⟨rfl, (fun i v d h => by simp at h)⟩
  | cons h t ih =>
    refine ⟨by simp [ih.1], fun i v d a1 a2 => ?_⟩
    match i, a1, a2 with
    | 0, a1, a2 =>
      cases a1
      cases a2
      exact h
    | i + 1, a1, a2 => exact ih.2 i v d a1 a2
theorem DwL.tup {H : Hp} {n : Nat} {a : Addr} {ds : List Dp} {vs : List V} (ha : Rd H a (.tup vs)) (h : DwL H n ds vs) : Dw H (n + 1) (.tup ds) (.ref a) := .tup ha h.at_.1 h.at_.2
theorem DwL.lst {H : Hp} {n : Nat} {a : Addr} {ds : List Dp} {vs : List V} (ha : H a = some (.lst vs)) (h : DwL H n ds vs) : Dw H (n + 1) (.lst ds) (.ref a) := .lst ha h.at_.1 h.at_.2
theorem DwL.dic {H : Hp} {n : Nat} {a : Addr} {ks : List Str} {ds : List Dp} {vs : List V} (ha : Rd H a (.dK (ks.zipWith (fun z v => ((Sum.inr z : Key), v)) vs))) (h : DwL H n ds vs) (hk : ks.length = ds.length) : Dw H (n + 1) (.dic (ks.zip ds)) (.ref a) := by
  obtain ⟨h1, h2⟩ := h.at_
  refine .dic (vs := vs) (by rw [List.map_fst_zip (by omega)]; exact ha) (by rw [List.length_zip]; omega) fun i v k a1 a2 => ?_
  obtain ⟨_, y⟩ := List.getElem?_zip_eq_some.mp a2
  exact h2 i v _ a1 y
end L2

/-! zip OF TWO TUPLES (own work, on the pattern of the library's zip of two lists). -/
namespace L2
open PySem
section
variable {prog : Program} {w : World} {A : Around} {E : Value → Shared → Prop} {s : Shared}
end
end L2

/-! for (x, y) in zip(t, u), t and u tuples (own work). -/
namespace L2
open PySem PySem.Spec PyProof.Rows
section
variable {X : Cx} {pins : List (Addr × Obj)} {σ : St} {H : Hp} {s : Shared} {h' : Heap}
/-- several records of ours have turned -/
theorem Inv.turnedL {t' : Nat} {ch : List Addr} (I : Inv X pins σ H s) (k : ∀ b o, b ∉ ch → s.heap.get? b = some o → h'.get? b = some o) (f : ∀ b ∈ ch, FpOk X pins H b) : Inv X pins σ H { s with heap := h', toks := t' } := by
  have nit : ∀ b u, H b = some u → b ∉ ch := fun b u e z => by rw [(f b z).1] at e; cases e
  refine I.step (g' := s.gens) (d' := s.drawn) (ch := ch) (fun b hb => ?_) (fun b o _ _ hc e _ => k b o hc e) (fun b o _ _ hc e _ => ⟨o.slots, k b o hc e⟩) (fun _ _ _ _ n => n) (fun b o hc e => ⟨o, k b o hc e⟩) (fun _ _ e => e) (fun _ _ _ e => e) (fun b ps e => ⟨#[], by rw [e]; simp⟩) (fun m hm => ?_) (fun b u e => ?_) I.bare
  · obtain ⟨f0, f1, f2, f3, f4, f5⟩ := f b hb
    exact ⟨f3, f1, f4, f5⟩
  · obtain ⟨o, es, ep, ho, r⟩ := hm
    refine ⟨o, es, ep, k _ o (fun z => ?_) ho, r⟩
    obtain ⟨f0, f1, _⟩ := f _ z
    exact f1 rfl
  · refine (I.hok b u e).stay (fun c v hc q => k c v ?_ q) (fun _ q => q) fun _ _ q => q
    rcases hc with z | z
    · rw [z]; exact nit b u e
    · exact nit c _ z
end
section
variable {X : Cx}
theorem boot_zip : bootBuiltins "zip" = some (.type "zip") := by decide +kernel
end
end L2

/-! range(n) as a value, list(range(n)); defs with defaults; defs that raise (own work). -/
namespace L2
open PySem PySem.Spec PyProof.Rows
section
variable {X : Cx}
end
/-- a def of the text, perhaps with defaults -/
structure FunX (K : PySem.W.Frag) (x qual : Str) (st : Stmt) (f : Addr) (fd : FuncData) : Prop where
  ex : ∃ (oc : Value) (od : Option Addr) (dV kV doc pm : Value) (an : Option Addr) (cdv ct : Value) (osl : Array (Option Value)),
    fd = PySem.W.fnOf x qual (defArgs st) (defBody st) (defScope st) dV kV doc pm an cdv ct ∧ K.lookup f = some ⟨oc, od, .func fd, osl⟩ ∧ PySem.W.codeIn K cdv qual = true
  kp : PySem.W.keepIn K (.ref f) = true
theorem funX_mk {K : PySem.W.Frag} {x qual : Str} {st : Stmt} {f : Addr} {oc : Value} {od an : Option Addr} {osl : Array (Option Value)} {dV kV doc pm cdv ct : Value} (l : K.lookup f = some ⟨oc, od, .func (PySem.W.fnOf x qual (defArgs st) (defBody st) (defScope st) dV kV doc pm an cdv ct), osl⟩)
    (c : PySem.W.codeIn K cdv qual = true) (k : PySem.W.keepIn K (.ref f) = true) : FunX K x qual st f (PySem.W.fnOf x qual (defArgs st) (defBody st) (defScope st) dV kV doc pm an cdv ct) := ⟨⟨oc, od, dV, kV, doc, pm, an, cdv, ct, osl, rfl, l, c⟩, k⟩
section
variable {P : Program} {w : World} {K : PySem.W.Frag} {mg : Str → Option Value} {base : Heap}
theorem FunX.ok {x qual : Str} {st : Stmt} {f : Addr} {fd : FuncData} {N ps : List Str} {k : Nat} {sp : Sp} (F : FunX K x qual st f fd) (S : FnScope N ps (defScope st)) (len : ∀ vs H Q E, sp vs H Q E → vs.length = ps.length)
    (hbody : ∀ (cdv : Value) (A : Around) (outer : List Env) (s : Shared) (H : Hp) (vs : List V) (Q : VK) (E : XK), Room k (A.deeper (envOfC qual (defScope st) s.heap.objs.size f cdv)) → sp vs H Q E →
      ∃ t, PSs (cxOf CX0 P w K mg base N qual (defScope st) f cdv A outer s H E).nox (defBody st) t ∧ t { nx := fun _ H' => Q .non H', rt := Q } (start N vs) H) : FnOk P w K mg base CX0 (k + 1) f fd ps sp := by
  obtain ⟨oc, od, dV, kV, doc, pm, an, cdv, ct, osl, rfl, lk, hcd⟩ := F.ex
  refine fn_of lk hcd S len fun A outer s H vs Q E hr hsp => ?_
  obtain ⟨t, h, q⟩ := hbody cdv A outer s H vs Q E hr hsp
  exact ⟨t, h.nox, q⟩
end
end L2

/-! for (x, y) in zip(l, m), l and m lists (own work). -/
namespace L2
open PySem PySem.Spec PyProof.Rows
/-- the records of a zip at place k -/
structure ZL (h : Heap) (z TI TO i1 i2 a b : Addr) (k : Nat) : Prop where
  zp : IsZip h z TI TO .none
  ti : IsPair h TI (.ref i1) (.ref i2)
  to : ∃ u v, IsPair h TO u v
  j1 : h.IsListIter i1 a k
  j2 : h.IsListIter i2 b k
def ItY (K : PySem.W.Frag) (a b : Addr) : It :=
  ⟨fun i H => ∃ xs ys x y, SqL K H a xs ∧ SqL K H b ys ∧ xs[i]? = some x ∧ ys[i]? = some y, fun i H x H' => ∃ u v p, (∀ xs ys, SqL K H a xs → SqL K H b ys → xs[i]? = some u ∧ ys[i]? = some v) ∧ x = .ref p ∧ H p = none ∧ H' = upd H p (.tup [u, v]), fun i H => ∃ xs ys, SqL K H a xs ∧ SqL K H b ys ∧ xs.length ≤ i⟩
theorem turn_zipL {P : Program} {w : World} {K : PySem.W.Frag} {es : List Expr} {x1 : Nat} {tp : Pos} (a b z TI TO i1 i2 : Addr) (D : ZipApart z TI TO i1 i2 a b) : Turn P w K (.Tuple es x1 tp) (ItY K a b) [z, TI, TO, i1, i2] z (fun i h => ZL h z TI TO i1 i2 a b i) where
  mem := by simp
  obj := fun i h st c hc => by
    obtain ⟨s1, s2, ⟨u, v, s3⟩, s4, s5⟩ := st
    simp only [List.mem_cons, List.not_mem_nil, or_false] at hc
    rcases hc with q | q | q | q | q
    · subst q; exact ⟨_, s1, fun v z => by cases z⟩
    · subst q; exact ⟨_, s2, fun v z => by cases z⟩
    · subst q; exact ⟨_, s3, fun v z => by cases z⟩
    · subst q; obtain ⟨o, e, _, d⟩ := s4; exact ⟨o, e, fun v z => by rw [d] at z; cases z⟩
    · subst q; obtain ⟨o, e, _, d⟩ := s5; exact ⟨o, e, fun v z => by rw [d] at z; cases z⟩
  keep := fun i h h' st k => by
    obtain ⟨s1, s2, ⟨u, v, s3⟩, ⟨o4, e4, r4⟩, ⟨o5, e5, r5⟩⟩ := st
    exact ⟨k z (by simp) _ s1, k TI (by simp) _ s2, ⟨u, v, k TO (by simp) _ s3⟩, ⟨o4, k i1 (by simp) _ e4, r4⟩, ⟨o5, k i2 (by simp) _ e5, r5⟩⟩
  item := by
    intro X hP hw hK hc i pins s σ H E I hf st hg
    subst hP hw hK
    obtain ⟨s1, s2, s3, s4, s5⟩ := st
    obtain ⟨xs, ys, x, y, hq1, hq2, hx, hy⟩ := hg
    obtain ⟨its, rv, p, hz⟩ := I.list hq1
    obtain ⟨jts, rw', p', hz'⟩ := I.list hq2
    obtain ⟨u, hu, ru⟩ := rv.get hx
    obtain ⟨v, hv, rv'⟩ := rw'.get hy
    obtain ⟨t3a, t3b, t3⟩ := id s3
    refine wpAny_pyNext_zip_item D s1 s2 t3 s4 s5 p.isList p'.isList (x := u) (y := v) (by simpa using hu) (by simpa using hv) fun h' z1 z3 z4 z5 ht hsz kp => ?_
    refine ⟨_, rfl, ?_⟩
    refine wpAny_letOwnedTupleGo_zip (s := { s with heap := h' }) z1 fun h'' zp'' sb => ?_
    have zlt : z < s.heap.objs.size := Heap.lt_size s1
    have kp2 : ∀ c o, c ∉ [z, TI, TO, i1, i2] → s.heap.get? c = some o → h''.get? c = some o := fun c o hc e => by
      simp only [List.mem_cons, List.not_mem_nil, or_false, not_or] at hc
      exact (sb.2 c hc.1).trans (kp c o hc.1 hc.2.2.1 hc.2.2.2.1 hc.2.2.2.2 e)
    have I1 : Inv X pins σ H { s with heap := h'' } := I.turnedL (t' := s.toks) kp2 hf
    have hp : H s.heap.objs.size = none := I.hok.fresh (Nat.le_refl _)
    have e2 : h''.get? s.heap.objs.size = some { cls := .type "tuple", data := .seq #[u, v] } := (sb.2 _ (Nat.ne_of_gt zlt)).trans ht
    have I2 : Inv X pins σ (upd H s.heap.objs.size (.tup [x, y])) { s with heap := h'' } := I1.track (I.our (Nat.le_refl _)) ⟨(show 2 ≤ sizeLine by decide), [u, v], .cons ru (.cons rv' .nil), ⟨_, e2, rfl, _, rfl⟩⟩
    refine ⟨.ref s.heap.objs.size, _, I2, rfl, ⟨x, y, _, fun ws us h1 h2 => ?_, rfl, hp, rfl⟩, ?_, fun c hc => ?_⟩
    · rw [I.list_inj h1 hq1, I.list_inj h2 hq2]
      exact ⟨hx, hy⟩
    · have up : ∀ c o, c ≠ z → h'.get? c = some o → h''.get? c = some o := fun c o hc e => (sb.2 c hc).trans e
      obtain ⟨o4, e4, r4⟩ := z4
      obtain ⟨o5, e5, r5⟩ := z5
      exact ⟨zp'', up _ _ D.TIz (kp _ _ D.TIz D.TITO D.TIi1 D.TIi2 s2), ⟨_, _, up _ _ D.TOz z3⟩, ⟨o4, up _ _ D.i1z e4, r4⟩, ⟨o5, up _ _ D.i2z e5, r5⟩⟩
    · obtain ⟨f0, _⟩ := hf c hc
      rw [upd_ne fun q => ?_]
      · exact f0
      · have lt : ∀ c o, s.heap.get? c = some o → c ≠ s.heap.objs.size := fun c o e => Nat.ne_of_lt (Heap.lt_size e)
        obtain ⟨q3a, q3b, q3⟩ := s3
        obtain ⟨o4, e4, _⟩ := s4
        obtain ⟨o5, e5, _⟩ := s5
        simp only [List.mem_cons, List.not_mem_nil, or_false] at hc
        rcases hc with r | r | r | r | r
        · exact lt z _ s1 (r ▸ q)
        · exact lt TI _ s2 (r ▸ q)
        · exact lt TO _ q3 (r ▸ q)
        · exact lt i1 _ e4 (r ▸ q)
        · exact lt i2 _ e5 (r ▸ q)
  done := by
    intro X hP hw hK hc i pins s σ H E I hf st hg
    subst hP hw hK
    obtain ⟨s1, s2, s3, s4, s5⟩ := st
    obtain ⟨xs, ys, hq1, hq2, hx⟩ := hg
    obtain ⟨its, rv, p, hz⟩ := I.list hq1
    obtain ⟨jts, rw', p', hz'⟩ := I.list hq2
    have hl := rv.length
    obtain ⟨t3a, t3b, t3⟩ := id s3
    refine wpAny_pyNext_zip_end (I.ok.hd hc) D s1 s2 t3 s4 s5 p.isList p'.isList (.inl (by simp; omega)) fun h' kp => ⟨rfl, I.turnedL (t' := s.toks) (fun c o hc e => ?_) hf⟩
    simp only [List.mem_cons, List.not_mem_nil, or_false, not_or] at hc
    exact kp c o hc.1 hc.2.2.1 hc.2.2.2.1 hc.2.2.2.2 e
  self := fun A i s Q E st h => wpAny_pyIter_zip st.zp h
section
variable {X : Cx}
def iZipL (K : PySem.W.Frag) (ta : TA) : TI := fun σ H R => ta σ H fun vs H1 => ∃ a b, vs = [.ref a, .ref b] ∧ (∃ xs, SqL K H1 a xs) ∧ (∃ ys, SqL K H1 b ys) ∧ R (ItY K a b) H1
theorem pi_zipL {es : List Expr} {x1 : Nat} {tp : Pos} {l m : Expr} {ta : TA} {p pos : Pos} (hg : Gl X "zip") (hm : X.mg "zip" = none) (ha : PA X [l, m] ta) (hs : starEach [l, m] X.env = (false, eval l X.env) :: starEach [m] X.env := by rfl) (hpl : (backTo pos (starEach [m] X.env)).any (·.1) = false := by rfl) :
    PI X (.Tuple es x1 tp) (.Call (.Name "zip" p) [l, m] [] pos) (iZipL X.K ta) := by
  intro pins s σ H R I h
  refine Call_ (ld_blt I hg hm boot_zip (PyProof.Rows.callWith_type1 (thn (ha pos pins s σ H _ I h) fun us s1 ⟨vs, H1, I1, r1, q1⟩ => ?_) hs hpl))
  obtain ⟨a, b, e, ⟨xs, hq1⟩, ⟨ys, hq2⟩, q⟩ := q1
  subst e
  obtain ⟨u, v, rfl, rx, ry⟩ := vals2 r1
  cases rx
  cases ry
  obtain ⟨its, rv, p1, hz⟩ := I1.list hq1
  obtain ⟨jts, rw', p2, hz'⟩ := I1.list hq2
  have la : a < s1.heap.objs.size := by obtain ⟨o, e, _⟩ := p1.isList; exact Heap.lt_size e
  have lb : b < s1.heap.objs.size := by obtain ⟨o, e, _⟩ := p2.isList; exact Heap.lt_size e
  have D : ZipApart (s1.heap.objs.size + 4) (s1.heap.objs.size + 2) (s1.heap.objs.size + 3) s1.heap.objs.size (s1.heap.objs.size + 1) a b := by
    generalize s1.heap.objs.size = n at la lb
    constructor <;> (intro z; simp only [Addr] at *; omega)
  refine call_zip_2 p1.isList p2.isList fun h' z1 z2 z3 z4 z5 hsz hk => ?_
  have I2 : Inv X pins σ H1 { s1 with heap := h' } := I1.kept (t' := s1.toks) hk
  refine wpAny_pyIter_zip (s := { s1 with heap := h' }) z1 ?_
  refine ⟨s1.heap.objs.size + 4, [s1.heap.objs.size + 4, s1.heap.objs.size + 2, s1.heap.objs.size + 3, s1.heap.objs.size, s1.heap.objs.size + 1], _, _, H1, rfl, I2, turn_zipL a b _ _ _ _ _ D, ⟨z1, z2, ⟨_, _, z3⟩, z4, z5⟩, fun c hc => ?_, q⟩
  have nb : s1.heap.objs.size ≤ c := by
    simp only [List.mem_cons, List.not_mem_nil, or_false] at hc
    rcases hc with r | r | r | r | r <;> (rw [r]; first | exact Nat.le_refl _ | exact Nat.le_add_right _ _)
  exact I1.fpOk nb (I1.hok.fresh nb)
/-- the loop -/
theorem for_zipL {K : PySem.W.Frag} {a b : Addr} {xs ys : List V} {g : TG} {tb : TS} {D : Ends} {σ : St} {H : Hp} (Pv : Nat → St → Hp → Prop) (hlen : xs.length = ys.length) (h0 : Pv 0 σ H) (hl : ∀ i σ H, i ≤ xs.length → Pv i σ H → SqL K H a xs ∧ SqL K H b ys)
    (hs : ∀ i x y p σ H, xs[i]? = some x → ys[i]? = some y → Pv i σ H → H p = none → g (.ref p) σ (upd H p (.tup [x, y])) fun σ2 H2 => tb { D with nx := Pv (i + 1), ct := Pv (i + 1), bk := D.nx } σ2 H2) (hd : ∀ σ H, Pv xs.length σ H → D.nx σ H) :
    ∃ W : Nat → Nat → St → Hp → Prop, (∃ m, W 0 m σ H) ∧ ∀ i m σ H, W i m σ H →
      ((ItY K a b).stop i H ∧ D.nx σ H) ∨ ((ItY K a b).go i H ∧ ∃ N : St → Hp → Prop, (∀ σ' H', N σ' H' → ∃ m', m' < m ∧ W (i + 1) m' σ' H') ∧ ∀ x H', (ItY K a b).yld i H x H' → g x σ H' fun σ2 H2 => tb { D with nx := N, ct := N, bk := D.nx } σ2 H2) := by
  refine ⟨fun i m σ H => m = xs.length - i ∧ i ≤ xs.length ∧ Pv i σ H, ⟨xs.length, by simp, Nat.zero_le _, h0⟩, ?_⟩
  rintro i m σ H ⟨rfl, hi, p⟩
  obtain ⟨q1, q2⟩ := hl i σ H hi p
  by_cases hlt : i < xs.length
  · have hlt2 : i < ys.length := by omega
    refine .inr ⟨⟨xs, ys, xs[i], ys[i], q1, q2, by simp [hlt], by simp [hlt2]⟩, Pv (i + 1), fun σ' H' p' => ⟨xs.length - (i + 1), by omega, rfl, hlt, p'⟩, fun x H' y => ?_⟩
    obtain ⟨u, v, pa, hk, ex, hn, e⟩ := y
    subst e ex
    exact hs i u v pa σ H (hk xs ys q1 q2).1 (hk xs ys q1 q2).2 p hn
  · have e : i = xs.length := by omega
    subst e
    exact .inl ⟨⟨xs, ys, q1, q2, Nat.le_refl _⟩, hd σ H p⟩
end
end L2

/-! THE HEAD WHERE DEFS MAKE FUNCTIONS (own work): the tables of their code objects are tracked from the start. -/
namespace L2
open PySem PySem.Spec PyProof.Rows
/-- nothing is tracked but the script and the tables -/
def OnlyT (tabs : List Addr) (H : Hp) : Prop := (∀ b, H b = none ∨ (∃ o xs, H b = some (.frz o (.lst xs))) ∨ (b ∈ tabs ∧ H b = some (.tbl #[]))) ∧ ∀ b ∈ tabs, H b = some (.tbl #[])
/-- the module of the built-ins, as the globals name it -/
def BMain (h : Heap) (mg : Str → Option Value) : Prop := ∃ bm ob, mg "__builtins__" = some (.ref bm) ∧ bm ≠ builtinsNs ∧ h.get? bm = some ob ∧ ob.cls = .type "module" ∧ ob.dict = some builtinsNs ∧ ob.data = .plain
theorem law_callT {P : Program} {w : World} {K : PySem.W.Frag} {mg mb : Str → Option Value} {CX : CXT} {k : Nat} {fa a : Addr} {fd : FuncData} {x : Str} {sp : Sp} {s₁ : Shared} {vs : List Value} {ns : List Int} {tabs : List Addr}
    (KX : K.In s₁.heap) (hns : s₁.heap.Ns mainGlobals mg) (hb : s₁.heap.Ns builtinsNs mb) (hbb : ∀ x : Str, x ≠ "__name__" → mb x = bootBuiltins x) (hlim : s₁.heap.NoLimit) (hg : s₁.gens = #[])
    (ha : s₁.heap.get? a = some { cls := .type "list", data := .seq vs.toArray }) (hi : IntsAre vs ns) (hl : ns.length ≤ sizeLine) (hr : Room k callerA)
    (hT : ∀ b ∈ tabs, (∃ c, s₁.heap.TableAt c b #[]) ∧ K.lookup b = none)
    (hbm : BMain s₁.heap mg)
    (F : ∀ base : Heap, K.In base → base.Ns mainGlobals mg → BMain base mg → FnOk P w K mg base CX k fa fd [x] sp) (hbind : ∀ (s : Shared) (u : Value), BindsTo s fd ⟨[u], []⟩ [(x, u)])
    (hsp : ∀ H : Hp, OnlyT tabs H → SqL K H a (ns.map V.int) → sp [.ref a] H (fun v _ => v = .bl true) fun _ _ _ => False)
    (hCX : ∀ H e s', CX [] H s₁ (fun _ _ _ => False) e s' → False) :
    codeAny (model P w) callerA (.call (.ref fa) ⟨[.ref a], []⟩) (fun r s' => r = .ok (.ret (.bool true)) ∧ OldK s₁.heap s'.heap ∧ s'.os = s₁.os ∧ AllBare s'.gens) s₁ := by
  have rv := vals_ints hi
  have lenV := hi.length
  have tabG : ∀ b ∈ tabs, s₁.heap.get? b = some (PySem.W.tabObj #[]) := fun b hb => (hT b hb).1.elim fun c h => h.2
  have core : ∀ H : Hp, OnlyT tabs H → SqL K H a (ns.map V.int) → HOk P w H s₁.heap → (∀ b, H b ≠ none → b = a ∨ b ∈ tabs) → (H a ≠ none → K.lookup a = none) →
      codeAny (model P w) callerA (.call (.ref fa) ⟨[.ref a], []⟩) (fun r s' => r = .ok (.ret (.bool true)) ∧ OldK s₁.heap s'.heap ∧ s'.os = s₁.os ∧ AllBare s'.gens) s₁ := by
    intro H hO hS hok hA hK
    have base_of : ∀ {b : Addr} {o : Obj}, s₁.heap.get? b = some o → H b = none → (hidT s₁.heap H).get? b = some o := fun e n => hidT_get e n
    have noA : ∀ {b : Addr} {o : Obj} {es : Array DictEntry} {ep : Nat}, s₁.heap.get? b = some o → o.data = .dict es ep → H b = none := fun {b o es ep} e d => by
      cases q : H b with
      | none => rfl
      | some u =>
        rcases hA b (by rw [q]; simp) with e' | e'
        · subst e'
          rw [ha] at e; cases e
          have d' : Data.seq vs.toArray _ = Data.dict es ep := d
          cases d'
        · rw [tabG b e'] at e; cases e
          have d' : Data.fields #[] = Data.dict es ep := d
          cases d'
    have nsK : ∀ {b : Addr} {m : Str → Option Value}, s₁.heap.Ns b m → (hidT s₁.heap H).Ns b m := fun {b m} ⟨o, es, ep, e, d, r⟩ => ⟨o, es, ep, base_of e (noA e d), d, r⟩
    have hKb : K.In (hidT s₁.heap H) := fun b o e => base_of (KX b o e) (by
      cases q : H b with
      | none => rfl
      | some u =>
        rcases hA b (by rw [q]; simp) with e' | e'
        · subst e'
          rw [hK (by rw [q]; simp)] at e; cases e
        · rw [(hT b e').2] at e; cases e)
    have hM : Mod K mg (hidT s₁.heap H) := ⟨hKb, nsK hns, ⟨mb, nsK hb, hbb⟩, let ⟨mc, h1, h2⟩ := hlim; ⟨mc, nsK h1, h2⟩⟩
    have e0 : Env0 P w K mg (hidT s₁.heap H) callerA [] s₁ H := ⟨rfl, hM, fun b o e => of_hidT e, Nat.le_of_eq (hidT_size _ _), trivial, fun b hb => absurd (show b ∈ ([] : List Addr) from hb) (by simp), hok, .of_eq hg⟩
    have hB : BMain (hidT s₁.heap H) mg := by
      obtain ⟨bm, ob, b1, b2, b3, b4, b5, b6⟩ := hbm
      refine ⟨bm, ob, b1, b2, base_of b3 ?_, b4, b5, b6⟩
      cases q : H bm with
      | none => rfl
      | some u =>
        rcases hA bm (by rw [q]; simp) with e' | e'
        · rw [e', ha] at b3
          cases b3
          cases b6
        · rw [tabG bm e'] at b3
          cases b3
          cases b6
    refine codeAny_mono ((F _ hKb (nsK hns) hB).run callerA [] s₁ H ⟨[.ref a], []⟩ [.ref a] [.ref a] _ _ hr e0 (hbind s₁ (.ref a)) (.cons rfl .nil) (hsp H hO hS)) fun r s' h => ?_
    cases r with
    | error e => exact (hCX H e s' h).elim
    | ok fl =>
      cases fl with
      | next => exact False.elim h
      | brk => exact False.elim h
      | cont => exact False.elim h
      | ret u =>
        obtain ⟨v, H', os, bare, un, hok', r', q⟩ := h
        have q' : v = .bl true := q
        subst q'
        obtain rfl : u = Value.bool true := r'
        refine ⟨rfl, ⟨fun b o e => ?_, fun b o e => un.there b o e (by simp)⟩, os, bare⟩
        cases q : H b with
        | none => exact .inl (un.keep b o e q (by intro z; exact absurd (show b ∈ ([] : List Addr) from z) (by simp)) (by simp))
        | some u =>
          rcases hO.1 b with z | ⟨ob, xs, z⟩ | ⟨hb, z⟩
          · rw [q] at z; cases z
          · have z2 := un.frzs b ob _ z
            obtain ⟨e1, _⟩ := hok b _ z
            obtain ⟨e2, _⟩ := hok' b _ z2
            rw [e] at e1; cases e1
            exact .inl e2
          · obtain ⟨more, z2⟩ := un.tbls b _ z
            have e2 := hok' b _ z2
            obtain ⟨c, ht⟩ := (hT b hb).1
            rw [tabG b hb] at e
            cases e
            exact .inr (.inl ⟨ht.isCodeTable, rfl, #[], more, rfl, e2⟩)
  have na : a ∉ tabs := fun z => by
    have e := tabG a z
    rw [ha] at e
    have e' := congrArg Obj.data (Option.some.inj e)
    have e2 : Data.seq vs.toArray 0 = Data.fields #[] := e'
    cases e2
  cases hk : K.lookup a with
  | some o =>
    have e := KX a o hk
    rw [ha] at e
    cases e
    refine core (fun b => if b ∈ tabs then some (.tbl #[]) else none) ⟨fun b => ?_, fun b hb => if_pos hb⟩ (.inr ⟨_, vs.toArray, _, hk, rfl, rfl, rfl, by rw [List.size_toArray, lenV]; exact hl, by simpa using rv⟩) (fun b u z => ?_) (fun b z => ?_) (fun z => absurd (if_neg na) z)
    · by_cases hb : b ∈ tabs
      · exact .inr (.inr ⟨hb, if_pos hb⟩)
      · exact .inl (if_neg hb)
    · by_cases hb : b ∈ tabs
      · have z' := (if_pos hb).symm.trans z
        cases z'
        exact tabG b hb
      · have z' := (if_neg hb).symm.trans z
        cases z'
    · by_cases hb : b ∈ tabs
      · exact .inr hb
      · exact absurd (if_neg hb) z
  | none =>
    refine core (fun b => if b ∈ tabs then some (.tbl #[]) else if b = a then some (.frz { cls := .type "list", data := .seq vs.toArray } (.lst (ns.map V.int))) else none) ⟨fun b => ?_, fun b hb => if_pos hb⟩ (.inl (.inr ⟨{ cls := .type "list", data := .seq vs.toArray }, by
      show (if a ∈ tabs then _ else if a = a then _ else _) = _
      rw [if_neg na, if_pos rfl]⟩)) (fun b u z => ?_) (fun b z => ?_) (fun _ => hk)
    · by_cases hb : b ∈ tabs
      · exact .inr (.inr ⟨hb, if_pos hb⟩)
      · by_cases hb2 : b = a
        · refine .inr (.inl ⟨{ cls := .type "list", data := .seq vs.toArray }, ns.map V.int, ?_⟩)
          show (if b ∈ tabs then _ else if b = a then _ else _) = _
          rw [if_neg hb, if_pos hb2]
        · refine .inl ?_
          show (if b ∈ tabs then _ else if b = a then _ else _) = _
          rw [if_neg hb, if_neg hb2]
    · have z0 : (if b ∈ tabs then some (HO.tbl #[]) else if b = a then some (.frz { cls := .type "list", data := .seq vs.toArray } (.lst (ns.map V.int))) else none) = some u := z
      by_cases hb : b ∈ tabs
      · rw [if_pos hb] at z0
        cases z0
        exact tabG b hb
      · rw [if_neg hb] at z0
        by_cases hb2 : b = a
        · rw [if_pos hb2] at z0
          cases z0
          subst hb2
          exact ⟨ha, by rw [List.length_map]; exact hl, vs, _, rv, ha⟩
        · rw [if_neg hb2] at z0
          cases z0
    · by_cases hb : b ∈ tabs
      · exact .inr hb
      · by_cases hb2 : b = a
        · exact .inl hb2
        · refine absurd ?_ z
          show (if b ∈ tabs then _ else if b = a then _ else _) = _
          rw [if_neg hb, if_neg hb2]
/-- a table, as k_fill's hook tells of it -/
theorem tab_is {K : PySem.W.Frag} {h : Heap} {c P : Addr} (X : K.In h) (g : h.get? P = some (PySem.W.tabObj #[])) (e : PySem.W.codeHdIn K c P = true) (n : K.lookup P = none) : (∃ c, h.TableAt c P #[]) ∧ K.lookup P = none :=
  ⟨⟨c, (PySem.W.codeHd_of_K X e).tab g⟩, n⟩
/-- as walk_of, with the tables of the defs in tx -/
theorem walk_ofT {l : PySem.W.OpenLaw} {n k : Nat} {q : Program} {loose : List Str} {XP : (Str → Option Value) → Heap → Prop} {YP : World → Heap → Prop} {d : DefRec} {K : Params → PySem.W.Frag} {CX : World → CXT} {sp : World → Sp} {x : Str} {tx : World → List Addr}
    (hn : l.most = some n) (hn2 : n ≤ sizeLine) (hdf : d.params.defaults = []) (hr : Room k callerA)
    (hY : ∀ (w : World) (h : Heap), YP w h → (K w.params).In h)
    (hT : ∀ (w : World) (h : Heap), YP w h → ∀ b ∈ tx w, (∃ c, h.TableAt c b #[]) ∧ (K w.params).lookup b = none)
    (F : ∀ (w : World) (mg : Str → Option Value) (fa : Addr) (h : Heap), (K w.params).In h → h.Ns mainGlobals mg → mg d.name = some (.ref fa) →
      ∃ fd : FuncData, (∀ (s : Shared) (u : Value), BindsTo s fd ⟨[u], []⟩ [(x, u)]) ∧
        ∀ base : Heap, (K w.params).In base → base.Ns mainGlobals mg → BMain base mg → FnOk l.prog w (K w.params) mg base (CX w) k fa fd [x] (sp w))
    (hsp : ∀ (w : World) (H : Hp) (a : Addr) (ns : List Int), ns.length ≤ n → OnlyT (tx w) H → SqL (K w.params) H a (ns.map V.int) → sp w [.ref a] H (fun v _ => v = .bl true) fun _ _ _ => False)
    (hCX : ∀ (w : World) (H : Hp) (s : Shared) (e : Value) (s' : Shared), CX w [] H s (fun _ _ _ => False) e s' → False) :
    PySem.W.WalkO q loose XP YP l.row.toRowW d [] (fun f vs => PySem.call f vs) := by
  refine Att.attach_call hn hdf fun w s₀ s₁ mg mb fa o pm cd doc a vs ns G Y ho hd hcd hmg hobj hints hlen hg => ?_
  have KX := hY w _ Y
  obtain ⟨fd, hb, hF⟩ := F w mg fa _ KX G.T.g hmg
  exact law_callT KX G.T.g G.T.b G.T.builtins G.T.nolimit hg hobj hints (Nat.le_trans hlen hn2) hr (hT w _ Y) G.T.bmain hF hb (fun H hO hS => hsp w H a ns hlen hO hS) fun H e s' => hCX w H s₁ e s'
end L2

/-! LAMBDAS WITHOUT NAMES FROM AROUND (own work): made, called. -/
namespace L2
open PySem PySem.Spec PyProof.Rows
def codeP (c : Addr) (q : Str) (h : Heap) : Prop := h.CodeRec (.ref c) q
def lamP (f : Addr) (q : Str) (params : Arguments) (body : Expr) (scope : Scope) (pm : Value) (c' : Addr) (h : Heap) : Prop := ∃ ctv, h.get? f = some (PySem.W.kla_obj "<lambda>" q params body scope [] pm c' ctv)
section
variable {P : Program} {w : World} {H : Hp} {h : Heap} {f c : Addr} {q : Str} {params : Arguments} {body : Expr} {scope : Scope} {pm : Value}
theorem codeP_ok (e : h.CodeRec (.ref c) q) : ObjOk P w H h c (.ext (codeP c q)) := by
  refine ⟨e, ?_, fun h1 h2 x k => ?_⟩
  · obtain ⟨c', o, vs, t, e1, e2, _⟩ := e
    cases e1
    exact ⟨o, e2⟩
  · obtain ⟨c', o, vs, t, e1, e2, e3⟩ := x
    cases e1
    exact ⟨c, o, vs, t, rfl, k o e2, e3⟩
theorem lamP_ok {ctv : Value} (e : h.get? f = some (PySem.W.kla_obj "<lambda>" q params body scope [] pm c ctv)) : ObjOk P w H h f (.ext (lamP f q params body scope pm c)) := ⟨⟨ctv, e⟩, ⟨_, e⟩, fun _ _ ⟨ctv, e⟩ k => ⟨ctv, k _ e⟩⟩
end
/-- what a table holds at a place: nothing, or the code object that stands there -/
def tLam (P : Addr) (pos : Pos) (q : Str) (params : Arguments) (body : Expr) (scope : Scope) (pm : Value) : TE := fun σ H Q => ∃ ps, H P = some (.tbl ps) ∧ TriplesOk ps.toList ∧
  ((codeAmong pos ps.toList = none ∧ ∀ c' f, H c' = none → H f = none → c' ≠ f → c' ≠ P → f ≠ P → Q (.ref f) (upd (upd (upd H P (.tbl (ps ++ #[rawInt pos.line, rawInt pos.col, .ref c']))) c' (.ext (codeP c' q))) f (.ext (lamP f q params body scope pm c')))) ∨
   ∃ c', codeAmong pos ps.toList = some (.ref c') ∧ ∀ f, H f = none → Q (.ref f) (upd H f (.ext (lamP f q params body scope pm c'))))
section
variable {X : Cx} {params : Arguments} {body : Expr} {scope : Scope} {pos : Pos} {c P : Addr}
theorem pe_lam (hcode : X.env.code = .ref c) (hC : PySem.W.codeHdIn X.K c P = true) (hB : BMain X.base X.mg) (hcl : closureFor scope X.env = pure [] := by rfl) (hdef : defaultsOf params X.env = ([], []) := by rfl) :
    PE X (.Lambda params body scope pos) (tLam P pos (X.env.qual ++ "<lambda>") params body scope ((X.mg "__name__").getD .none)) := by
  intro pins s σ H Q I h
  obtain ⟨ps, hp, tr, h⟩ := h
  have hg : s.heap.Ns mainGlobals X.mg := I.mod.glob.keeps I.bk
  have C := PySem.W.codeHd_of_K I.kIn hC
  have hP : s.heap.get? P = some (PySem.W.tabObj ps) := I.hok P _ hp
  have hgP : mainGlobals ≠ P := fun z => by
    obtain ⟨o, es, ep, e, d, _⟩ := id hg
    rw [z, hP] at e
    cases e
    cases d
  have hb : s.heap.BuiltinsAt X.mg P := by
    obtain ⟨bm, ob, b1, b2, b3, b4, b5, b6⟩ := hB
    have b3' := I.bk _ _ b3
    refine ⟨bm, ob, b1, b2, fun z => ?_, fun z => ?_, b3', b4, b5, b6⟩
    · obtain ⟨o, es, ep, e, d, _⟩ := id hg
      rw [z, e] at b3'
      cases b3'
      rw [d] at b6
      cases b6
    · rw [z, hP] at b3'
      cases b3'
      cases b6
  refine PySem.W.kla_eval hdef ?_
  rcases h with ⟨hnf, q⟩ | ⟨c', hf, q⟩
  · refine PySem.W.kla_makeFunction hcl I.ok.glob hg hcode C hP tr hnf hgP hb fun c' ctv h' tk hx hge hlt hrec htb => ?_
    have hcN : H c' = none := I.hok.fresh hge
    have hfN : H h'.objs.size = none := I.hok.fresh (Nat.le_trans hge (Nat.le_of_lt hlt))
    have cf : c' ≠ h'.objs.size := Nat.ne_of_lt hlt
    have cP : c' ≠ P := fun z => by rw [z, hp] at hcN; cases hcN
    have fP : h'.objs.size ≠ P := fun z => by rw [z, hp] at hfN; cases hfN
    have keep : ∀ b o, b ≠ P → s.heap.get? b = some o → (h'.push (PySem.W.kla_obj "<lambda>" (X.env.qual ++ "<lambda>") params body scope [] ((X.mg "__name__").getD .none) c' ctv)).get? b = some o := fun b o hb e => Heap.get?_push_of_some _ (hx b o hb e)
    have nP : ∀ b, H b = none → b ≠ P := fun b n z => by rw [z, hp] at n; cases n
    have old : ∀ b u, H b = some u → b ≠ P → upd (upd (upd H P (.tbl (ps ++ #[rawInt pos.line, rawInt pos.col, .ref c']))) c' (.ext (codeP c' (X.env.qual ++ "<lambda>")))) h'.objs.size (.ext (lamP h'.objs.size (X.env.qual ++ "<lambda>") params body scope ((X.mg "__name__").getD .none) c')) b = some u := fun b u e hb => by
      rw [upd_ne (fun z => by rw [z, hfN] at e; cases e), upd_ne (fun z => by rw [z, hcN] at e; cases e), upd_ne hb]
      exact e
    have atP : upd (upd (upd H P (.tbl (ps ++ #[rawInt pos.line, rawInt pos.col, .ref c']))) c' (.ext (codeP c' (X.env.qual ++ "<lambda>")))) h'.objs.size (.ext (lamP h'.objs.size (X.env.qual ++ "<lambda>") params body scope ((X.mg "__name__").getD .none) c')) P = some (.tbl (ps ++ #[rawInt pos.line, rawInt pos.col, .ref c'])) := by
      rw [upd_ne (Ne.symm fP), upd_ne (Ne.symm cP), upd_same]
    have noT : ∀ b u, H b = some u → (∀ zs, u ≠ .tbl zs) → b ≠ P := fun b u e hu z => by
      rw [z, hp] at e
      cases e
      exact hu ps rfl
    refine ⟨.ref h'.objs.size, _, I.un (t' := tk) ⟨fun b o e n _ _ => keep b o (nP b n) e, fun b o e n _ _ => ⟨o.slots, keep b o (nP b n) e⟩, fun b o e n _ => ?_, fun b o e _ => ?_, fun b xs e => old b _ e (noT b _ e fun zs z => by cases z), fun b o u e => old b _ e (noT b _ e fun zs z => by cases z), fun b zs e => ?_⟩ fun b u e => ?_, rfl, q c' h'.objs.size hcN hfN cf cP fP⟩
    · have hlt' : b < s.heap.objs.size := Heap.lt_size e
      rw [upd_ne (Nat.ne_of_lt (Nat.lt_of_lt_of_le hlt' (Nat.le_trans hge (Nat.le_of_lt hlt)))), upd_ne (Nat.ne_of_lt (Nat.lt_of_lt_of_le hlt' hge)), upd_ne (nP b n)]
      exact n
    · by_cases hbP : b = P
      · rw [hbP]
        exact ⟨_, Heap.get?_push_of_some _ htb⟩
      · exact ⟨o, keep b o hbP e⟩
    · by_cases hbP : b = P
      · subst hbP
        rw [hp] at e
        cases e
        exact ⟨_, atP⟩
      · exact ⟨#[], by rw [old b _ e hbP]; simp⟩
    · by_cases hbf : b = h'.objs.size
      · subst hbf
        rw [upd_same] at e
        cases e
        exact lamP_ok (Heap.get?_push_size _ rfl)
      · rw [upd_ne hbf] at e
        by_cases hbc : b = c'
        · subst hbc
          rw [upd_same] at e
          cases e
          exact codeP_ok (hrec.push _)
        · rw [upd_ne hbc] at e
          by_cases hbP : b = P
          · subst hbP
            rw [upd_same] at e
            cases e
            exact Heap.get?_push_of_some _ htb
          · rw [upd_ne hbP] at e
            refine (I.hok b u e).stay (fun d v hd r => keep d v ?_ r) (fun d r => old d _ r (noT d _ r fun zs z => by cases z)) fun d xs r => old d _ r (noT d _ r fun zs z => by cases z)
            rcases hd with rfl | hd
            · exact hbP
            · exact noT d _ hd fun zs z => by cases z
  · refine PySem.W.kla_makeFunctionHit hcl I.ok.glob hg hcode C hP tr hf hb fun ctv h' tk hk hsz => ?_
    have hfN : H h'.objs.size = none := I.hok.fresh hsz
    exact ⟨.ref h'.objs.size, _, I.laid (a := h'.objs.size) (t' := tk) (fun b o e => Heap.get?_push_of_some _ (hk b o e)) hsz (lamP_ok (Heap.get?_push_size _ rfl)), rfl, q _ hfN⟩
end
end L2

/-! LAMBDAS CALLED, sorted BY A LAMBDA (own work). -/
namespace L2
open PySem PySem.Spec PyProof.Rows
section
variable {X : Cx} {pins : List (Addr × Obj)} {σ : St} {H : Hp} {s : Shared} {Q : VK} {f c' : Addr} {q x : Str} {params : Arguments} {body : Expr} {scope : Scope} {pm : Value} {u : Value} {v : V} {k : Nat}
/-- a lambda of one parameter is called: its body's reading at the argument -/
theorem code_lam {t : TE} {A : Around} {outer : List Env} (e0 : Env0 X.prog X.w X.K X.mg X.base A outer s H) (hr : Room (k + 1) A) (hf : H f = some (.ext (lamP f q params body scope pm c'))) (hc : H c' = some (.ext (codeP c' q))) (S : FnScope [x] [x] scope)
    (hb : ∀ (ctv u : Value), bindArgs (PySem.W.kla_fn "<lambda>" q params body scope [] pm (.ref c') ctv) ⟨[u], []⟩ = pure [(x, u)])
    (hbody : PE (cxOf CX0 X.prog X.w X.K X.mg X.base [x] q scope f (.ref c') A outer s H E0).nox body t) (r : RelV v u) (ht : t [some v] H Q) :
    codeAny (model X.prog X.w) A (.call (.ref f) ⟨[u], []⟩) (CR CX0 outer X.prog X.w H s Q E0) s := by
  obtain ⟨⟨ctv, ho⟩, _⟩ := e0.hok f _ hf
  obtain ⟨hcd, _⟩ := e0.hok c' _ hc
  have lim : s.heap.NoLimit := e0.mod.nolimit.keeps fun b o e => (e0.bs b o e).1
  have hkind : ∀ y ∈ ([x].zip [u]), scope.names.lookup y.1 = some .local ∨ (scope.names.lookup y.1 = some .cell ∧ ((cellsFrom (s.heap.objs.size + 1) scope.names []).lookup y.1).isSome = true) := fun ⟨n, v⟩ hy => by
    rcases S.par n (List.of_mem_zip hy).1 with q | q
    · exact .inl q
    · exact .inr ⟨q, PySem.W.cellsFrom_some _ _ _ (.inl q)⟩
  refine PySem.W.kla_callFunE hr.depth ho rfl S.co S.gen rfl hcd ?_
  rw [hb]
  refine wpAny_pure (wpAny_newFunctionEnv_cells (binds := [x].zip [u]) S.kind hkind fun env he s1 z => ?_)
  subst he
  refine ⟨lim.keeps z.toInCall.keep, PySem.W.kla_codeExpr ?_⟩
  have I : Inv (cxOf CX0 X.prog X.w X.K X.mg X.base [x] q scope f (.ref c') A outer s H E0) [] (start [x] [v]) H s1 := inv_start S hr.hd e0 rfl (.cons r .nil) z
  refine wpAny_mono (hbody.nox [] s1 (start [x] [v]) H Q I ht) (fun u' s' hs => ?_) fun e s' hs => hs
  obtain ⟨v', H', J, rv, q'⟩ := hs
  exact ⟨v', H', J.os, J.bare, J.base, J.hok, rv, q'⟩
end
end L2

/-! LAMBDAS THAT KEEP A CELL (own work): made, lent to a callee, called through a name. -/
namespace L2
open PySem PySem.Spec PyProof.Rows
def lamC (f : Addr) (q : Str) (params : Arguments) (body : Expr) (scope : Scope) (clos : List (Str × Addr)) (pm : Value) (c' : Addr) (h : Heap) : Prop := ∃ ctv, h.get? f = some (PySem.W.kla_obj "<lambda>" q params body scope clos pm c' ctv)
section
variable {P : Program} {w : World} {H : Hp} {h : Heap} {f c : Addr} {q : Str} {params : Arguments} {body : Expr} {scope : Scope} {pm : Value} {clos : List (Str × Addr)}
theorem lamC_ok {ctv : Value} (e : h.get? f = some (PySem.W.kla_obj "<lambda>" q params body scope clos pm c ctv)) : ObjOk P w H h f (.ext (lamC f q params body scope clos pm c)) := ⟨⟨ctv, e⟩, ⟨_, e⟩, fun _ _ ⟨ctv, e⟩ k => ⟨ctv, k _ e⟩⟩
end
/-- as tLam, with cells taken over -/
def tLamC (P : Addr) (pos : Pos) (q : Str) (params : Arguments) (body : Expr) (scope : Scope) (clos : List (Str × Addr)) (pm : Value) : TE := fun σ H Q => ∃ ps, H P = some (.tbl ps) ∧ TriplesOk ps.toList ∧
  ((codeAmong pos ps.toList = none ∧ ∀ c' f, H c' = none → H f = none → c' ≠ f → c' ≠ P → f ≠ P → Q (.ref f) (upd (upd (upd H P (.tbl (ps ++ #[rawInt pos.line, rawInt pos.col, .ref c']))) c' (.ext (codeP c' q))) f (.ext (lamC f q params body scope clos pm c')))) ∨
   ∃ c', codeAmong pos ps.toList = some (.ref c') ∧ ∀ f, H f = none → Q (.ref f) (upd H f (.ext (lamC f q params body scope clos pm c'))))
section
variable {X : Cx} {params : Arguments} {body : Expr} {scope : Scope} {pos : Pos} {c P : Addr} {clos : List (Str × Addr)}
theorem pe_lamC (hcode : X.env.code = .ref c) (hC : PySem.W.codeHdIn X.K c P = true) (hB : BMain X.base X.mg) (hcl : closureFor scope X.env = pure clos) (hdef : defaultsOf params X.env = ([], []) := by rfl) :
    PE X (.Lambda params body scope pos) (tLamC P pos (X.env.qual ++ "<lambda>") params body scope clos ((X.mg "__name__").getD .none)) := by
  intro pins s σ H Q I h
  obtain ⟨ps, hp, tr, h⟩ := h
  have hg : s.heap.Ns mainGlobals X.mg := I.mod.glob.keeps I.bk
  have C := PySem.W.codeHd_of_K I.kIn hC
  have hP : s.heap.get? P = some (PySem.W.tabObj ps) := I.hok P _ hp
  have hgP : mainGlobals ≠ P := fun z => by
    obtain ⟨o, es, ep, e, d, _⟩ := id hg
    rw [z, hP] at e
    cases e
    cases d
  have hb : s.heap.BuiltinsAt X.mg P := by
    obtain ⟨bm, ob, b1, b2, b3, b4, b5, b6⟩ := hB
    have b3' := I.bk _ _ b3
    refine ⟨bm, ob, b1, b2, fun z => ?_, fun z => ?_, b3', b4, b5, b6⟩
    · obtain ⟨o, es, ep, e, d, _⟩ := id hg
      rw [z, e] at b3'
      cases b3'
      rw [d] at b6
      cases b6
    · rw [z, hP] at b3'
      cases b3'
      cases b6
  refine PySem.W.kla_eval hdef ?_
  rcases h with ⟨hnf, q⟩ | ⟨c', hf, q⟩
  · refine PySem.W.kla_makeFunction hcl I.ok.glob hg hcode C hP tr hnf hgP hb fun c' ctv h' tk hx hge hlt hrec htb => ?_
    have hcN : H c' = none := I.hok.fresh hge
    have hfN : H h'.objs.size = none := I.hok.fresh (Nat.le_trans hge (Nat.le_of_lt hlt))
    have cf : c' ≠ h'.objs.size := Nat.ne_of_lt hlt
    have cP : c' ≠ P := fun z => by rw [z, hp] at hcN; cases hcN
    have fP : h'.objs.size ≠ P := fun z => by rw [z, hp] at hfN; cases hfN
    have keep : ∀ b o, b ≠ P → s.heap.get? b = some o → (h'.push (PySem.W.kla_obj "<lambda>" (X.env.qual ++ "<lambda>") params body scope clos ((X.mg "__name__").getD .none) c' ctv)).get? b = some o := fun b o hb e => Heap.get?_push_of_some _ (hx b o hb e)
    have nP : ∀ b, H b = none → b ≠ P := fun b n z => by rw [z, hp] at n; cases n
    have old : ∀ b u, H b = some u → b ≠ P → upd (upd (upd H P (.tbl (ps ++ #[rawInt pos.line, rawInt pos.col, .ref c']))) c' (.ext (codeP c' (X.env.qual ++ "<lambda>")))) h'.objs.size (.ext (lamC h'.objs.size (X.env.qual ++ "<lambda>") params body scope clos ((X.mg "__name__").getD .none) c')) b = some u := fun b u e hb => by
      rw [upd_ne (fun z => by rw [z, hfN] at e; cases e), upd_ne (fun z => by rw [z, hcN] at e; cases e), upd_ne hb]
      exact e
    have atP : upd (upd (upd H P (.tbl (ps ++ #[rawInt pos.line, rawInt pos.col, .ref c']))) c' (.ext (codeP c' (X.env.qual ++ "<lambda>")))) h'.objs.size (.ext (lamC h'.objs.size (X.env.qual ++ "<lambda>") params body scope clos ((X.mg "__name__").getD .none) c')) P = some (.tbl (ps ++ #[rawInt pos.line, rawInt pos.col, .ref c'])) := by
      rw [upd_ne (Ne.symm fP), upd_ne (Ne.symm cP), upd_same]
    have noT : ∀ b u, H b = some u → (∀ zs, u ≠ .tbl zs) → b ≠ P := fun b u e hu z => by
      rw [z, hp] at e
      cases e
      exact hu ps rfl
    refine ⟨.ref h'.objs.size, _, I.un (t' := tk) ⟨fun b o e n _ _ => keep b o (nP b n) e, fun b o e n _ _ => ⟨o.slots, keep b o (nP b n) e⟩, fun b o e n _ => ?_, fun b o e _ => ?_, fun b xs e => old b _ e (noT b _ e fun zs z => by cases z), fun b o u e => old b _ e (noT b _ e fun zs z => by cases z), fun b zs e => ?_⟩ fun b u e => ?_, rfl, q c' h'.objs.size hcN hfN cf cP fP⟩
    · have hlt' : b < s.heap.objs.size := Heap.lt_size e
      rw [upd_ne (Nat.ne_of_lt (Nat.lt_of_lt_of_le hlt' (Nat.le_trans hge (Nat.le_of_lt hlt)))), upd_ne (Nat.ne_of_lt (Nat.lt_of_lt_of_le hlt' hge)), upd_ne (nP b n)]
      exact n
    · by_cases hbP : b = P
      · rw [hbP]
        exact ⟨_, Heap.get?_push_of_some _ htb⟩
      · exact ⟨o, keep b o hbP e⟩
    · by_cases hbP : b = P
      · subst hbP
        rw [hp] at e
        cases e
        exact ⟨_, atP⟩
      · exact ⟨#[], by rw [old b _ e hbP]; simp⟩
    · by_cases hbf : b = h'.objs.size
      · subst hbf
        rw [upd_same] at e
        cases e
        exact lamC_ok (Heap.get?_push_size _ rfl)
      · rw [upd_ne hbf] at e
        by_cases hbc : b = c'
        · subst hbc
          rw [upd_same] at e
          cases e
          exact codeP_ok (hrec.push _)
        · rw [upd_ne hbc] at e
          by_cases hbP : b = P
          · subst hbP
            rw [upd_same] at e
            cases e
            exact Heap.get?_push_of_some _ htb
          · rw [upd_ne hbP] at e
            refine (I.hok b u e).stay (fun d v hd r => keep d v ?_ r) (fun d r => old d _ r (noT d _ r fun zs z => by cases z)) fun d xs r => old d _ r (noT d _ r fun zs z => by cases z)
            rcases hd with rfl | hd
            · exact hbP
            · exact noT d _ hd fun zs z => by cases z
  · refine PySem.W.kla_makeFunctionHit hcl I.ok.glob hg hcode C hP tr hf hb fun ctv h' tk hk hsz => ?_
    have hfN : H h'.objs.size = none := I.hok.fresh hsz
    exact ⟨.ref h'.objs.size, _, I.laid (a := h'.objs.size) (t' := tk) (fun b o e => Heap.get?_push_of_some _ (hk b o e)) hsz (lamC_ok (Heap.get?_push_size _ rfl)), rfl, q _ hfN⟩
end
end L2

/-! A CELL LENT (own work): the callee sees it tracked, the lambda's body has it as its own. -/
namespace L2
open PySem PySem.Spec PyProof.Rows
/-- the object at c is just o -/
def atP (c : Addr) (o : Obj) (h : Heap) : Prop := h.get? c = some o
def del (H : Hp) (c : Addr) : Hp := fun b => if b = c then none else H b
theorem del_same {H : Hp} {c : Addr} : del H c c = none := if_pos rfl
theorem del_ne {H : Hp} {b c : Addr} (h : b ≠ c) : del H c b = H b := if_neg h
theorem upd_del {H : Hp} {c : Addr} {o : HO} (h : H c = some o) : upd (del H c) c o = H := by
  funext b
  by_cases e : b = c
  · rw [e, upd_same, h]
  · rw [upd_ne e, del_ne e]
section
variable {P : Program} {w : World} {H H' : Hp} {h h' : Heap} {c : Addr} {o : Obj} {fs : List Addr}
theorem HOk.del (x : HOk P w H h) (hc : ∃ φ, H c = some (.ext φ)) : HOk P w (del H c) h := fun b u e => by
  obtain ⟨φ, hc⟩ := hc
  have hb : b ≠ c := fun z => by rw [z, del_same] at e; cases e
  rw [del_ne hb] at e
  exact (x b u e).stay (fun _ _ _ q => q) (fun d r => by rw [del_ne fun z => by rw [z, hc] at r; cases r]; exact r) fun d xs r => by rw [del_ne fun z => by rw [z, hc] at r; cases r]; exact r
theorem HOk.lend (x : HOk P w H h) (hc : H c = none) (ho : h.get? c = some o) : HOk P w (upd H c (.ext (atP c o))) h := fun b u e => by
  by_cases hb : b = c
  · subst hb
    rw [upd_same] at e
    cases e
    exact ⟨ho, ⟨o, ho⟩, fun h1 h2 p k => k _ p⟩
  · rw [upd_ne hb] at e
    exact (x b u e).stay (fun _ _ _ q => q) (fun d r => by rw [upd_ne fun z => by rw [z, hc] at r; cases r]; exact r) fun d xs r => by rw [upd_ne fun z => by rw [z, hc] at r; cases r]; exact r
/-- behind the lambda's body: the cell is tracked again -/
theorem Un.back (u : Un fs [] (del H c) H' h h') (hc : H c = some (.ext (atP c o))) : Un fs [] H (upd H' c (.ext (atP c o))) h h' := by
  have ne : ∀ b, H b = none → b ≠ c := fun b n z => by rw [z, hc] at n; cases n
  exact {
    keep := fun b v q n hb hx => u.keep b v q (by rw [del_ne (ne b n)]; exact n) hb hx
    slot := fun b v q n hb hx => u.slot b v q (by rw [del_ne (ne b n)]; exact n) hb hx
    free := fun b v q n hx => by rw [upd_ne (ne b n)]; exact u.free b v q (by rw [del_ne (ne b n)]; exact n) hx
    there := u.there
    tups := fun b xs q => by
      have hbc : b ≠ c := fun z => by rw [z, hc] at q; cases q
      rw [upd_ne hbc]
      exact u.tups b xs (by rw [del_ne hbc]; exact q)
    frzs := fun b v y q => by
      have hbc : b ≠ c := fun z => by rw [z, hc] at q; cases q
      rw [upd_ne hbc]
      exact u.frzs b v y (by rw [del_ne hbc]; exact q)
    tbls := fun b xs q => by
      have hbc : b ≠ c := fun z => by rw [z, hc] at q; cases q
      obtain ⟨m, r⟩ := u.tbls b xs (by rw [del_ne hbc]; exact q)
      exact ⟨m, by rw [upd_ne hbc]; exact r⟩ }
end
section
variable {X : Cx} {pins : List (Addr × Obj)} {σ : St} {H : Hp} {s : Shared} {c : Addr} {y : Str} {o : Obj}
end
section
variable {X : Cx} {k i : Nat} {f c : Addr} {fd : FuncData} {ps : List Str} {sp : Sp} {dvs : List V} {ds : List Value} {x y : Str} {p pos : Pos} {e : Expr} {es : List Expr} {t : TA}
end
end L2

/-! A LAMBDA THAT KEEPS A CELL IS CALLED (own work). -/
namespace L2
open PySem PySem.Spec PyProof.Rows
/-- the lambda's frame -/
abbrev lamEnv (q : Str) (scope : Scope) (L f : Addr) (cd : Value) (clos : List (Str × Addr)) : Env := newEnv scope L mainGlobals clos (q ++ ".<locals>.") (some f) cd none builtinsNs
def cxLam (P : Program) (w : World) (K : PySem.W.Frag) (mg : Str → Option Value) (base : Heap) (N : List Str) (q : Str) (scope : Scope) (f : Addr) (cd : Value) (clos : List (Str × Addr)) (A : Around) (outer : List Env) (s : Shared) (H : Hp) : Cx where
  prog := P
  w := w
  K := K
  mg := mg
  base := base
  A := A.deeper (lamEnv q scope s.heap.objs.size f cd clos)
  N := N
  s₀ := s
  H₀ := H
  env := lamEnv q scope s.heap.objs.size f cd clos
  outer := outer
  stack := lamEnv q scope s.heap.objs.size f cd clos :: outer
  ex := []
  calm := true
  fn := fun _ => false
  pn := []
  xe := fun _ _ => False
/-- the names of a lambda of one parameter and one cell -/
structure LamScope (x y : Str) (sc : Scope) : Prop where
  kind : sc.kind = .function
  co : sc.isCoroutine = false
  gen : sc.isGenerator = false
  ne : x ≠ y
  par : sc.names.lookup x = some .local
  fre : sc.names.lookup y = some .free
  nocell : ∀ z ∈ sc.names, z.2 ≠ .cell
  one : ∀ z ∈ sc.names, z.2 = .free → z.1 = y
section
variable {P : Program} {w : World} {K : PySem.W.Frag} {mg : Str → Option Value} {base : Heap} {q x y : Str} {scope : Scope} {f c : Addr} {cd : Value} {A : Around} {outer : List Env} {s : Shared} {H : Hp} {o : Obj} {v vy : V} {u uy : Value} {h1 : Heap} {tk : Nat}
theorem inv_lam (S : LamScope x y scope) (hd : A.handled = none) (e0 : Env0 P w K mg base A outer s H) (hn : H c = none) (ho : s.heap.get? c = some o) (hoc : o.data = .cell (some uy)) (r : RelV v u) (ry : RelV vy uy)
    (ns : h1.Ns s.heap.objs.size (fun z => [(x, u)].reverse.lookup z)) (hk : ∀ b ob, s.heap.get? b = some ob → h1.get? b = some ob) :
    Inv (cxLam P w K mg base [x, y] q scope f cd [(y, c)] A outer s H) [] [some v, some vy] H { s with heap := h1, toks := tk } := by
  have noA : ∀ b : Addr, b ∉ (cxLam P w K mg base [x, y] q scope f cd [(y, c)] A outer s H).ex := fun b z => absurd (show b ∈ ([] : List Addr) from z) (by simp)
  have one : ∀ z c', (cxLam P w K mg base [x, y] q scope f cd [(y, c)] A outer s H).env.cells.lookup z = some c' → z = y ∧ c' = c := fun z c' e => by
    have e : List.lookup z [(y, c)] = some c' := e
    rw [List.lookup_cons] at e
    cases hz : z == y with
    | true =>
      rw [hz] at e
      exact ⟨eq_of_beq hz, (Option.some.inj e).symm⟩
    | false =>
      rw [hz] at e
      cases e
  have at_ : (cxLam P w K mg base [x, y] q scope f cd [(y, c)] A outer s H).env.cells.lookup y = some c := by
    show List.lookup y [(y, c)] = some c
    simp
  refine ⟨⟨e0.mod, S.kind, rfl, rfl, Nat.le_refl _, fun z z' c' e1 e2 => (one _ _ e1).1.trans (one _ _ e2).1.symm, fun z hz => ?_, fun z c' hf => (Bool.noConfusion hf), fun _ => hd, Around.frames_deeper e0.frames, .inr ⟨rfl, rfl⟩, fun b z => absurd z (noA b), e0.bs, e0.bsz, fun b _ _ => noA b, fun b z => absurd z (noA b), e0.funs, e0.frf⟩,
    rfl, e0.bare, Un.kept hk, ⟨_, ns, fun i z vv e1 e2 e3 => ?_⟩, fun z c' e => ?_, e0.hok.fresh (Nat.le_refl _), fun z c' e => ?_, fun p hp => absurd (show p ∈ ([] : List (Addr × Obj)) from hp) (by simp), e0.hok.kept hk, rfl⟩
  · rcases hz with hz | hz
    · exact absurd rfl (S.nocell _ (PySem.mem_of_lookup hz))
    · have := S.one _ (PySem.mem_of_lookup hz) rfl
      have e : z = y := this
      exact ⟨c, by rw [e]; exact at_⟩
  · match i, e1, e2 with
    | 0, e1, e2 =>
      have e1 : x = z := Option.some.inj e1
      have e2 : v = vv := Option.some.inj (Option.some.inj e2)
      subst e1; subst e2
      exact ⟨u, r, .inl ⟨S.par, by simp⟩⟩
    | 1, e1, e2 =>
      have e1 : y = z := Option.some.inj e1
      have e2 : vy = vv := Option.some.inj (Option.some.inj e2)
      subst e1; subst e2
      exact ⟨uy, ry, .inr ⟨.inr S.fre, c, at_, o, hk _ _ ho, hoc⟩⟩
    | i + 2, e1, e2 => cases e1
  · obtain ⟨_, rfl⟩ := one z c' e
    exact ⟨some uy, o, hk _ _ ho, hoc⟩
  · obtain ⟨_, rfl⟩ := one z c' e
    exact hn
end
section
variable {X : Cx} {pins : List (Addr × Obj)} {σ : St} {H : Hp} {s : Shared} {Q : VK} {f c c' : Addr} {q x y : Str} {params : Arguments} {body : Expr} {scope : Scope} {pm : Value} {u uy : Value} {v vy : V} {k : Nat} {o : Obj}
/-- it is called: its body's reading without the cell tracked -/
theorem code_lamC {t : TE} {A : Around} {outer : List Env} (e0 : Env0 X.prog X.w X.K X.mg X.base A outer s H) (hr : Room (k + 1) A) (hf : H f = some (.ext (lamC f q params body scope [(y, c)] pm c'))) (hc' : H c' = some (.ext (codeP c' q)))
    (hc : H c = some (.ext (atP c o))) (hoc : o.data = .cell (some uy)) (S : LamScope x y scope)
    (hb : ∀ (ctv u : Value), bindArgs (PySem.W.kla_fn "<lambda>" q params body scope [(y, c)] pm (.ref c') ctv) ⟨[u], []⟩ = pure [(x, u)])
    (hbody : PE (cxLam X.prog X.w X.K X.mg X.base [x, y] q scope f (.ref c') [(y, c)] A outer s (del H c)) body t) (r : RelV v u) (ry : RelV vy uy) (ht : t [some v, some vy] (del H c) (fun z H' => Q z (upd H' c (.ext (atP c o))))) :
    codeAny (model X.prog X.w) A (.call (.ref f) ⟨[u], []⟩) (CR CX0 outer X.prog X.w H s Q E0) s := by
  obtain ⟨⟨ctv, ho⟩, _⟩ := e0.hok f _ hf
  obtain ⟨hcd, _⟩ := e0.hok c' _ hc'
  have hco : s.heap.get? c = some o := (e0.hok c _ hc).1
  have lim : s.heap.NoLimit := e0.mod.nolimit.keeps fun b o e => (e0.bs b o e).1
  have e1 : Env0 X.prog X.w X.K X.mg X.base A outer s (del H c) := ⟨e0.frames, e0.mod, fun b ob e => ⟨(e0.bs b ob e).1, by
      have := (e0.bs b ob e).2
      have hb : b ≠ c := fun z => by rw [z, hc] at this; cases this
      rw [del_ne hb]; exact this⟩, e0.bsz, e0.funs, fun b hb => by
      have := e0.frf b hb
      have hb : b ≠ c := fun z => by rw [z, hc] at this; cases this
      rw [del_ne hb]; exact this, e0.hok.del ⟨_, hc⟩, e0.bare⟩
  have cfr : c ∉ frs outer := fun z => by
    have := e0.frf c z
    rw [hc] at this; cases this
  refine PySem.W.kla_callFunE hr.depth ho rfl S.co S.gen rfl hcd ?_
  rw [hb]
  refine wpAny_pure (wpAny_newFunctionEnv (binds := [(x, u)]) S.nocell (fun z hz => by
    have : z = (x, u) := by simpa using hz
    rw [this]; exact S.par) (fun h1 ns sb => ?_) S.kind)
  have hk : ∀ b ob, s.heap.get? b = some ob → h1.get? b = some ob := fun b ob e => by
    have hl := Heap.lt_size e
    rw [sb.2 b (Nat.ne_of_lt hl)]
    exact Heap.get?_push_of_some _ e
  refine ⟨lim.keeps hk, PySem.W.kla_codeExpr ?_⟩
  have I : Inv (cxLam X.prog X.w X.K X.mg X.base [x, y] q scope f (.ref c') [(y, c)] A outer s (del H c)) [] [some v, some vy] (del H c) { s with heap := h1, toks := s.toks + 1 } := inv_lam S hr.hd e1 del_same hco hoc r ry ns hk
  refine wpAny_mono (hbody [] _ _ _ _ I ht) (fun u' s' hs => ?_) fun e s' hs => False.elim hs
  obtain ⟨v', H', J, rv, q'⟩ := hs
  have jc : s'.heap.get? c = some o := J.base.keep c o hco del_same cfr (by simp [cxLam])
  have jn : H' c = none := J.base.free c o hco del_same (by simp [cxLam])
  exact ⟨v', upd H' c (.ext (atP c o)), J.os, J.bare, Un.back J.base hc, J.hok.lend jn jc, rv, q'⟩
end
/-- what a call of the function at f with one argument does: by R -/
def WayR (P : Program) (w : World) (K : PySem.W.Frag) (mg : Str → Option Value) (base : Heap) (k : Nat) (R : Addr → V → Hp → VK → Prop) : Prop := ∀ (A : Around) (outer : List Env) (s : Shared) (H : Hp) (f : Addr) (u : Value) (v : V) (Q : VK),
  Room k A → Env0 P w K mg base A outer s H → RelV v u → R f v H Q → PySem.W.FnAt f s.heap ∧ codeAny (model P w) A (.call (.ref f) ⟨[u], []⟩) (CR CX0 outer P w H s Q E0) s
theorem wayR_lam {P : Program} {w : World} {K : PySem.W.Frag} {mg : Str → Option Value} {base : Heap} {k : Nat} {q x y : Str} {params : Arguments} {body : Expr} {scope : Scope} {pm : Value} {t : TE} (S : LamScope x y scope)
    (hb : ∀ (c : Addr) (cd ctv u : Value), bindArgs (PySem.W.kla_fn "<lambda>" q params body scope [(y, c)] pm cd ctv) ⟨[u], []⟩ = pure [(x, u)])
    (hbody : ∀ (A : Around) (outer : List Env) (s : Shared) (H : Hp) (f c c' : Addr), Room k (A.deeper (lamEnv q scope s.heap.objs.size f (.ref c') [(y, c)])) → PE (cxLam P w K mg base [x, y] q scope f (.ref c') [(y, c)] A outer s H) body t) :
    WayR P w K mg base (k + 1) (fun f v H Q => ∃ (c c' a : Addr) (o : Obj), H f = some (.ext (lamC f q params body scope [(y, c)] pm c')) ∧ H c' = some (.ext (codeP c' q)) ∧ H c = some (.ext (atP c o)) ∧ o.data = .cell (some (.ref a)) ∧
      t [some v, some (.ref a)] (del H c) fun z H' => Q z (upd H' c (.ext (atP c o)))) := fun A outer s H f u v Q hr e r ⟨c, c', a, o, hf, hc', hc, ho, ht⟩ => by
  obtain ⟨⟨ctv, hof⟩, _⟩ := e.hok f _ hf
  exact ⟨⟨_, _, _, _, hof⟩, code_lamC (X := cxLam P w K mg base [x, y] q scope f (.ref c') [(y, c)] A outer s H) (vy := .ref a) e hr hf hc' hc ho S (fun _ _ => hb _ _ _ _) (hbody A outer s _ f c c' (hr.deeper _)) r rfl ht⟩
/-- way(e), way a local name -/
def tWay (i : Nat) (R : Addr → V → Hp → VK → Prop) (t : TA) : TE := fun σ H Q => ∃ f, σ[i]? = some (some (.ref f)) ∧ t σ H fun vs H1 => ∃ v, vs = [v] ∧ R f v H1 Q
section
variable {X : Cx} {k i : Nat} {R : Addr → V → Hp → VK → Prop} {x : Str} {p pos : Pos} {e : Expr} {es : List Expr} {t : TA}
theorem pe_callWay (W : WayR X.prog X.w X.K X.mg X.base k R) (hr : Room k X.A) (hN : X.N[i]? = some x) (hv : Vis X.env.scope x) (ha : PA X (e :: es) t)
    (hd : (x == ("__debug__" : Str)) = false := by decide) (hcd : (x == ("__classdict__" : Str)) = false := by decide) (he : starEach (e :: es) X.env = (false, eval e X.env) :: starEach es X.env := by rfl) (hpl : (backTo pos (starEach es X.env)).any (·.1) = false := by rfl) :
    PE X (.Call (.Name x p) (e :: es) [] pos) (tWay i R t) := by
  intro pins s σ H Q I h
  obtain ⟨f, ef, h⟩ := h
  refine wpAny_Call_Name_kw (thn (pe_var (X := X) (i := i) hN hv hd hcd pins s σ H (fun z H' => z = .ref f ∧ t σ H' fun vs H1 => ∃ v, vs = [v] ∧ R f v H1 Q) I ⟨_, ef, rfl, h⟩) fun u s0 ⟨z, H0, I0, rz, ez, h⟩ => ?_)
  subst ez
  obtain rfl : u = Value.ref f := rz
  have key : wpAny (model X.prog X.w) X.A (spliced (backTo pos (starEach (e :: es) X.env))) (fun vs s₁ => PySem.W.FnAt f s₁.heap ∧ wpAny (model X.prog X.w) X.A (call (.ref f) ([] ++ vs)) (EP X pins σ Q) X.xe s₁) X.xe s0 := by
    refine thn (ha pos pins s0 σ H0 _ I0 h) fun us s1 ⟨vs, H1, I1, r, v, ev, q⟩ => ?_
    subst ev
    cases r with
    | cons ru rn =>
      cases rn with
      | nil =>
        obtain ⟨fn, q⟩ := W X.A X.stack s1 H1 f _ v Q hr I1.env0 ru q
        refine ⟨fn, wpAny_call (codeAny_mono q fun r s' hq => ?_)⟩
        cases r with
        | error e => exact False.elim hq
        | ok fl =>
          cases fl with
          | ret u => exact I1.after hq
          | next => exact False.elim hq
          | brk => exact False.elim hq
          | cont => exact False.elim hq
  rw [he] at key ⊢
  exact PySem.W.callWith_of (P := PySem.W.FnAt f) (by show ((false || (backTo pos (starEach es X.env)).any (·.1)) || false) = false; rw [hpl]; rfl) PySem.W.keeps_F (Calls.evalArgs_plain key)
end
end L2

/-! A DEF THAT RETURNS A LAMBDA WITH ITS CELL (own work): behind it the cell is tracked. -/
namespace L2
open PySem PySem.Spec PyProof.Rows
structure FunC (K : PySem.W.Frag) (x qual : Str) (st : Stmt) (f : Addr) (fd : FuncData) (c : Addr) : Prop where
  ex : ∃ (oc : Value) (od : Option Addr) (kV doc pm : Value) (an : Option Addr) (ct : Value) (osl : Array (Option Value)),
    fd = PySem.W.fnOf x qual (defArgs st) (defBody st) (defScope st) .none kV doc pm an (.ref c) ct ∧ K.lookup f = some ⟨oc, od, .func fd, osl⟩ ∧ PySem.W.codeIn K (.ref c) qual = true
  kp : PySem.W.keepIn K (.ref f) = true
section
variable {P : Program} {w : World} {K : PySem.W.Frag} {mg : Str → Option Value} {base : Heap}
theorem FunC.fn {x qual : Str} {st : Stmt} {f c : Addr} {fd : FuncData} (F : FunC K x qual st f fd c) : Fun K x qual st f fd := by
  obtain ⟨⟨oc, od, kV, doc, pm, an, ct, osl, h1, h2, h3⟩, kp⟩ := F
  exact ⟨⟨oc, od, kV, doc, pm, an, .ref c, ct, osl, h1, h2, h3⟩, kp⟩
theorem FunC.ok {x qual : Str} {st : Stmt} {f c : Addr} {fd : FuncData} {N ps : List Str} {k : Nat} {sp : Sp} (F : FunC K x qual st f fd c) (S : FnScope N ps (defScope st)) (len : ∀ vs H Q E, sp vs H Q E → vs.length = ps.length)
    (hbody : ∀ (A : Around) (outer : List Env) (s : Shared) (H : Hp) (vs : List V) (Q : VK) (E : XK), Room k (A.deeper (envOfC qual (defScope st) s.heap.objs.size f (.ref c))) → sp vs H Q E →
      ∃ t, PSs (cxOf CX0 P w K mg base N qual (defScope st) f (.ref c) A outer s H E).nox (defBody st) t ∧ t { nx := fun _ H' => Q .non H', rt := Q } (start N vs) H) : FnOk P w K mg base CX0 (k + 1) f fd ps sp := by
  obtain ⟨oc, od, kV, doc, pm, an, ct, osl, rfl, lk, hcd⟩ := F.ex
  refine fn_of lk hcd S len fun A outer s H vs Q E hr hsp => ?_
  obtain ⟨t, h, q⟩ := hbody A outer s H vs Q E hr hsp
  exact ⟨t, h.nox, q⟩
end
section
variable {P : Program} {w : World} {K : PySem.W.Frag} {mg : Str → Option Value} {base : Heap}
theorem FunC.okG {x qual y : Str} {st : Stmt} {f c0 : Addr} {fd : FuncData} {N ps : List Str} {k i : Nat} {sp : Sp} {e : Expr} {pos : Pos} (F : FunC K x qual st f fd c0) (S : FnScope N ps (defScope st)) (len : ∀ vs H Q E, sp vs H Q E → vs.length = ps.length)
    (hst : defBody st = [.Return (some e) pos]) (hN : N[i]? = some y) (hk : (defScope st).names.lookup y = some .cell) (hcell : ∀ n, (envOfC qual (defScope st) n f (.ref c0)).cells.lookup y = some (n + 1))
    (hbody : ∀ (A : Around) (outer : List Env) (s : Shared) (H : Hp) (vs : List V) (Q : VK) (E : XK), Room k (A.deeper (envOfC qual (defScope st) s.heap.objs.size f (.ref c0))) → sp vs H Q E →
      ∃ t v0, PE (cxOf CX0 P w K mg base N qual (defScope st) f (.ref c0) A outer s H E) e t ∧ (start N vs)[i]? = some (some v0) ∧ t (start N vs) H fun v H' => ∀ (o : Obj) (u0 : Value), RelV v0 u0 → o.data = .cell (some u0) → H' (s.heap.objs.size + 1) = none → Q v (upd H' (s.heap.objs.size + 1) (.ext (atP (s.heap.objs.size + 1) o)))) :
    FnOk P w K mg base CX0 (k + 1) f fd ps sp := by
  obtain ⟨oc, od, kV, doc, pm, an, ct, osl, rfl, lk, hcd⟩ := F.ex
  refine ⟨len, fun A outer s H args us vs Q E hr e0 hb r hsp => ?_⟩
  have hl := len _ _ _ _ hsp
  have KX : K.In s.heap := e0.mod.kin.keeps fun b o e => (e0.bs b o e).1
  have lim : s.heap.NoLimit := e0.mod.nolimit.keeps fun b o e => (e0.bs b o e).1
  have hkind : ∀ y ∈ ps.zip us, (defScope st).names.lookup y.1 = some .local ∨ ((defScope st).names.lookup y.1 = some .cell ∧ ((cellsFrom (s.heap.objs.size + 1) (defScope st).names []).lookup y.1).isSome = true) := fun ⟨n, v⟩ hy => by
    rcases S.par n (List.of_mem_zip hy).1 with q | q
    · exact .inl q
    · exact .inr ⟨q, PySem.W.cellsFrom_some _ _ _ (.inl q)⟩
  refine codeAny_call_function hr.depth (KX _ _ lk) rfl S.co S.gen rfl (PySem.W.codeRec_of KX hcd) (hb _ _ _ _ ?_)
  refine wpAny_newFunctionEnv_cells S.kind hkind fun env he s1 x => ?_
  subst he
  refine ⟨lim.keeps x.toInCall.keep, codeAny_func ?_⟩
  obtain ⟨t, v0, ht, hv0, hq⟩ := hbody A outer s H vs Q E (hr.deeper _) hsp
  have I : Inv (cxOf CX0 P w K mg base N qual (defScope st) f (.ref c0) A outer s H E) [] (start N vs) H s1 := inv_start S hr.hd e0 hl r x
  rw [hst]
  refine wpAny_mono (wpAny_execs_cons (wpAny_Return_some (thn (ht [] s1 (start N vs) H _ I hq) fun u s' hs => ?_))) (fun fl s' hs => hs) fun e s' hs => hs
  obtain ⟨v, H', J, rv, q⟩ := hs
  obtain ⟨m, hn, hl'⟩ := id J.loc
  obtain ⟨u0, r0, l⟩ := hl' i y v0 hN hv0 (.inr (.inl hk))
  have hc : (cxOf CX0 P w K mg base N qual (defScope st) f (.ref c0) A outer s H E).env.cells.lookup y = some (s.heap.objs.size + 1) := hcell _
  rcases l with ⟨hk', _⟩ | ⟨_, c2, hc2, o, ho, hd⟩
  · have hk'' : (defScope st).names.lookup y = some .local := hk'
    rw [hk] at hk''; cases hk''
  · obtain rfl : s.heap.objs.size + 1 = c2 := Option.some.inj (hc.symm.trans hc2)
    have jn := J.freeC y _ hc
    have q2 := q o u0 r0 hd jn
    have U := J.base
    have new : ∀ b ob, s.heap.get? b = some ob → b ≠ s.heap.objs.size + 1 := fun b ob e z => by
      have := Heap.lt_size e
      rw [z] at this
      exact absurd this (Nat.not_lt.mpr (Nat.le_succ _))
    refine ⟨v, _, J.os, J.bare, ⟨U.keep, U.slot, fun b ob e n hx => ?_, U.there, fun b xs e => ?_, fun b ob y' e => ?_, fun b zs e => ?_⟩, J.hok.lend jn ho, rv, q2⟩
    · rw [upd_ne (new b ob e)]
      exact U.free b ob e n hx
    · have e1 := U.tups b xs e
      rw [upd_ne fun z => by rw [z, jn] at e1; cases e1]
      exact e1
    · have e1 := U.frzs b ob y' e
      rw [upd_ne fun z => by rw [z, jn] at e1; cases e1]
      exact e1
    · obtain ⟨ms, e1⟩ := U.tbls b zs e
      exact ⟨ms, by rw [upd_ne fun z => by rw [z, jn] at e1; cases e1]; exact e1⟩
end
end L2

/-! dict(A TUPLE OF PAIRS) (own work). -/
namespace L2
open PySem PySem.Spec PyProof.Rows PySem.Builtin PySem.Builtin.Dict
theorem tup_no_keys : typeLookup (.type "tuple") "keys" = pure none := am_miss_of_fast (by decide +kernel)
theorem miss_keys {prog : Program} {w : World} {A : Around} {E : Value → Shared → Prop} {s : Shared} {a : Addr} {o : Obj} {xs : Array Value} {k : Nat} {Q : Option Value → Shared → Prop}
    (hx : s.heap.get? a = some o) (hc : o.cls = .type "tuple") (hdat : o.data = .seq xs k) (hd : o.dict = none) (hA : A.handled = none)
    (h : ∀ h' tk, (∀ b ob, s.heap.get? b = some ob → h'.get? b = some ob) → Q none { s with heap := h', toks := tk }) : wpAny (model prog w) A (getAttr? (.ref a) "keys") Q E s := by
  obtain ⟨c, dct, dat, sl⟩ := o
  simp only at hc hdat hd
  subst hc hdat hd
  obtain ⟨hp, g, d, tk, os⟩ := s
  have hT : ∀ tk', (⟨hp, g, d, tk', os⟩ : Shared).TypeIs (.ref a) "tuple" := fun _ => ⟨_, hx, rfl⟩
  have f1 := sub_AttributeError
  have f3 := F.slot_tuple_getattribute.lookup
  have f4 := F.slot_tuple_getattribute.bind (.ref a)
  have f5 := am_tuple_getattr_none
  unfold getAttr? getAttrBy? getAttrBy
  repeat (any_goals (first | assumption | exact hT _ | ((with_reducible show wpAny _ _ (call (Value.builtin "tuple.__getattribute__") _ _) _ _ _); refine call_meets F.slot_tuple_getattribute (hT _) am_entry_tuple_getattribute (F.args_tuple_getattribute_2 _ _) (meets_getattribute_miss_tuple a xs k sl "keys" _ tup_no_keys (by decide +kernel) (by size_fits)) ⟨hx, hA, fun h' tk' e hx' => ?_⟩) | wp_step))
  obtain ⟨t', u', he⟩ := hx'.there
  show wpAny _ _ (getattributeRaised _ _ _ _ _ _ _) _ _ _
  unfold getattributeRaised
  repeat (any_goals (first | assumption | wp_step))
  exact h _ _ hx'.keeps
theorem entry_upd_loop : entryFor table "dict.update.loop" = some Builtin.«dict.update.loop» := entryFor_of_tree (by kernel_rfl)
section
variable {prog : Program} {w : World} {A : Around} {R : Result → Shared → Prop}
/-- the pairs, one by one -/
theorem upd_loop {h0 : Heap} {d it t : Addr} {items : Array Value} {ps : List (Key × Value)} (hh : A.handled = none) (ht : h0.IsTuple t items) (tne : t ≠ it ∧ t ≠ d) (idne : it ≠ d) (hl : ps.length = items.size) (hz : items.size ≤ 1000)
    (hp : ∀ (j : Nat) (k : Key) (v : Value), ps[j]? = some (k, v) → ∃ a o key n, items[j]? = some (.ref a) ∧ h0.get? a = some o ∧ o.cls = .type "tuple" ∧ o.data = .seq #[key, v] n ∧ (mixKind prog w).is k key = true ∧ a ≠ it ∧ a ≠ d)
    (nd : (ps.map (·.1)).Nodup) : ∀ (m i : Nat) (tk : Tok) (s : Shared), i + m = items.size → s.heap.IsTupleIter it t i → s.heap.DictOf (mixKind prog w) d (ps.take i) → (∀ b o, b ≠ it → b ≠ d → h0.get? b = some o → s.heap.get? b = some o) →
    (∀ (h' : Heap) (k : Nat), h'.DictOf (mixKind prog w) d ps → (∀ b o, b ≠ it → b ≠ d → h0.get? b = some o → h'.get? b = some o) → R (.ok (.ret .none)) { s with heap := h', toks := k }) →
    codeAny (model prog w) A (.builtin "dict.update.loop" ⟨[.ref d, .ref it, .int i tk, .none], []⟩) R s
  | 0, i, tk, s, hi, hit, hd, kp, hq => by
    refine codeAny_builtin entry_upd_loop ?_
    unfold Builtin.«dict.update.loop»
    dsimp only
    obtain ⟨o, ho, hc, n, hdt⟩ := id ht
    refine wpAny_bind (wpAny_pyNext_tuple_end (items := items) hh hit ⟨o, kp t o tne.1 tne.2 ho, hc, n, hdt⟩ (by rw [Array.getElem?_eq_none (by omega)]) fun h' ex => ?_)
    dsimp only
    refine wpAny_bind (wpAny_pure (wpAny_pure ?_))
    have e : ps.take i = ps := List.take_of_length_le (by omega)
    rw [e] at hd
    exact hq h' s.toks (hd.extBut ex idne.symm) fun b o hb1 hb2 q => ex b o hb1 (kp b o hb1 hb2 q)
  | m + 1, i, tk, s, hi, hit, hd, kp, hq => by
    refine codeAny_builtin entry_upd_loop ?_
    unfold Builtin.«dict.update.loop»
    dsimp only
    obtain ⟨o, ho, hc, n, hdt⟩ := id ht
    obtain ⟨⟨k, v⟩, hk⟩ : ∃ kv, ps[i]? = some kv := ⟨_, List.getElem?_eq_getElem (by omega)⟩
    obtain ⟨a, oa, key, na, e1, e2, e3, e4, e5, e6, e7⟩ := hp i k v hk
    refine wpAny_bind (wpAny_pyNext_tuple_item (items := items) hit ⟨o, kp t o tne.1 tne.2 ho, hc, n, hdt⟩ e1 fun h1 it1 sb => ?_)
    dsimp only
    have ha1 : h1.get? a = some oa := (sb.2 a e6).trans (kp a oa e6 e7 e2)
    have hd1 : h1.DictOf (mixKind prog w) d (ps.take i) := by
      obtain ⟨od, es, ep, g, r⟩ := hd
      exact ⟨od, es, ep, (sb.2 d idne.symm).trans g, r⟩
    refine wpAny_bind (wpAny_holding (wpAny_bind (wpAny_tryCatch ?_)))
    unfold Dict.pairItems
    refine wpAny_bind (wpAny_typeOf (T := "tuple") ⟨oa, ha1, e3⟩ ?_)
    rw [if_pos (by decide)]
    refine wpAny_bind (wpAny_seqItems ha1 e4 (wpAny_pure ?_))
    show wpAny _ _ (holding [key, v] (dictSet d key v)) _ _ _
    refine wpAny_holding (wpAny_dictSet_pairs (knd := mixKind prog w) (k := k) e5 hd1 (fun h2 hd2 sb2 => ?_) (by rw [List.length_take, sizeLine_eq]; omega))
    refine wpAny_pure ⟨Code.quiet_builtin _ (by decide +kernel), ?_⟩
    have es : stored (ps.take i) k v = ps.take (i + 1) := by
      have no : ((ps.take i).any fun kv => decide (kv.1 = k)) = false := by
        rw [List.any_eq_false]
        intro kv hkv
        rw [decide_eq_true_iff]
        intro ek
        obtain ⟨j, hj, ej⟩ := List.mem_take_iff_getElem.mp hkv
        have hj2 : j < ps.length := by omega
        have hij : j < i := by omega
        have hi2 : i < ps.length := by omega
        have ei : ps[i] = (k, v) := (List.getElem?_eq_some_iff.mp hk).2
        refine List.pairwise_iff_getElem.mp nd j i (by simpa using hj2) (by simpa using hi2) hij ?_
        rw [List.getElem_map, List.getElem_map, ej, ei, ek]
      unfold stored
      rw [if_neg (by rw [no]; decide), List.take_add_one, hk]
      rfl
    rw [es] at hd2
    exact upd_loop hh ht tne idne hl hz hp nd m (i + 1) _ _ (by omega) (by
      obtain ⟨oi, g1, g2⟩ := it1
      exact ⟨oi, (sb2.2 it idne).trans g1, g2⟩) hd2 (fun b o hb1 hb2 q => (sb2.2 b hb2).trans ((sb.2 b hb1).trans (kp b o hb1 hb2 q))) fun h' k' x y => hq h' k' x y
end
theorem pick {α β : Type} : ∀ (l : List α) (P : Nat → α → β → Prop), (∀ (j : Nat) (x : α), l[j]? = some x → ∃ u, P j x u) → ∃ us : List β, us.length = l.length ∧ ∀ (j : Nat) (x : α), l[j]? = some x → ∃ u, us[j]? = some u ∧ P j x u
  | [], _, _ => ⟨[], rfl, fun j x e => by simp at e⟩
  | y :: l, P, h => by
    obtain ⟨u, hu⟩ := h 0 y rfl
    obtain ⟨us, hl, hs⟩ := pick l (fun j => P (j + 1)) fun j x e => h (j + 1) x (by simpa using e)
    refine ⟨u :: us, by simp [hl], fun j x e => ?_⟩
    cases j with
    | zero =>
      simp at e
      subst e
      exact ⟨u, rfl, hu⟩
    | succ j =>
      obtain ⟨v, h1, h2⟩ := hs j x (by simpa using e)
      exact ⟨v, by simpa using h1, h2⟩
theorem kv_of : ∀ {kvs : List (Key × V)} {ps : List (Key × Value)}, ps.length = kvs.length → (∀ (j : Nat) (k : Key) (v : V), kvs[j]? = some (k, v) → ∃ u, ps[j]? = some (k, u) ∧ RelV v u) → KV kvs ps
  | [], [], _, _ => .nil
  | [], _ :: _, h, _ => by simp at h
  | _ :: _, [], h, _ => by simp at h
  | (k, v) :: kvs, (k', u') :: ps, h, f => by
    obtain ⟨u, e, r⟩ := f 0 k v rfl
    simp at e
    obtain ⟨rfl, rfl⟩ := e
    exact .cons ⟨rfl, r⟩ (kv_of (by simpa using h) fun j k v e => f (j + 1) k v (by simpa using e))
end L2

/-! dict(A TUPLE OF PAIRS), THE CALL (own work). -/
namespace L2
open PySem PySem.Spec PyProof.Rows PySem.Builtin PySem.Builtin.Dict
section
variable {X : Cx}
theorem call_dictT (hc : X.calm = true) : CallR X (.type "dict") (fun xs H Q => ∃ (t : Addr) (o : Obj) (ys : List V) (kvs : List (Key × V)), xs = [.ref t] ∧ H t = some (.frz o (.tup ys)) ∧ o.dict = none ∧ ys.length ≤ 1000 ∧ kvs.length = ys.length ∧
    (∀ (j : Nat) (k : Key) (v : V), kvs[j]? = some (k, v) → ∃ a, ys[j]? = some (.ref a) ∧ SqT X.K H a [kV k, v]) ∧ (kvs.map (·.1)).Nodup ∧ ∀ p, H p = none → Q (.ref p) (upd H p (.dK kvs))) := by
  intro pins s σ H xs us Q I r h
  obtain ⟨t, o, ys, kvs, rfl, ht, hod, hys, hkl, hp, nd, q⟩ := h
  obtain ⟨u, rfl, rx⟩ := vals1 r
  cases rx
  obtain ⟨g, hz, its, r', tp⟩ := I.hok t _ ht
  obtain ⟨o', g', hcl, n, hdat⟩ := tp
  rw [g] at g'
  cases g'
  have hlen := r'.length
  have hh := I.ok.hd hc
  -- the pairs as values
  have hpk : ∃ ps : List (Key × Value), ps.length = kvs.length ∧ ∀ (j : Nat) (kv : Key × V), kvs[j]? = some kv → ∃ u, ps[j]? = some u ∧ (u.1 = kv.1 ∧ RelV kv.2 u.2 ∧ ∃ a oa key na, its[j]? = some (.ref a) ∧ s.heap.get? a = some oa ∧ oa.cls = .type "tuple" ∧ oa.data = .seq #[key, u.2] na ∧ (mixKind X.prog X.w).is kv.1 key = true) := by
    refine pick kvs (fun (j : Nat) (kv : Key × V) (u : Key × Value) => u.1 = kv.1 ∧ RelV kv.2 u.2 ∧ ∃ a oa key na, its[j]? = some (.ref a) ∧ s.heap.get? a = some oa ∧ oa.cls = .type "tuple" ∧ oa.data = .seq #[key, u.2] na ∧ (mixKind X.prog X.w).is kv.1 key = true) fun j kv hj => ?_
    obtain ⟨k, v⟩ := kv
    obtain ⟨a, ea, sq⟩ := hp j k v hj
    obtain ⟨jts, rj, pj, _⟩ := I.tuple sq
    cases rj with
    | @cons _ j1 _ jr rk rr => cases rr with
      | @cons _ j2 _ jr2 rv rr2 =>
        cases rr2
        obtain ⟨oa, ga, ca, na, da⟩ := pj
        refine ⟨(k, j2), rfl, rv, a, oa, j1, na, ?_, ga, ca, da, kV_is rk⟩
        obtain ⟨w, ew, rw1⟩ := Vals.get r' ea
        cases rw1
        exact ew
  obtain ⟨ps, hpl, hps⟩ := hpk
  have gt : s.heap.get? t = some o := g
  have tlt : t < s.heap.objs.size := Heap.lt_size gt
  refine callType_codes (Q₁ := fun obj s₁ => obj = .ref s.heap.objs.size ∧ s₁ = { s with heap := s.heap.push { cls := .type "dict", data := .dict #[] } }) F.kt_called_dict (F.kt_typeCall_dict_1 _) F.entry_dict_init (kt_code_dict_new _ ⟨rfl, rfl⟩) ?_
  rintro obj s₁ ⟨rfl, rfl⟩
  have hnew : (s.heap.push { cls := .type "dict", data := .dict #[] }).DictOf (mixKind X.prog X.w) s.heap.objs.size [] := Heap.DictOf.new s.heap
  have gt1 : (s.heap.push { cls := .type "dict", data := .dict #[] }).get? t = some o := Heap.get?_push_of_some _ gt
  refine ⟨hnew.typeIs, F.args_dict_init_2 _ _, ?_⟩
  unfold Builtin.«dict.__init__»
  refine wpAny_bind ?_
  unfold Builtin.Dict.selfAndRest
  refine wpAny_bind (wpAny_notOrdered_dict hnew.typeIs ?_)
  show wpAny _ _ (pure (s.heap.objs.size, [Value.ref t])) _ _ _
  refine wpAny_pure ?_
  show wpAny _ _ (Builtin.Dict.updateFrom "dict.__init__" s.heap.objs.size (.ref t) [] .none) _ _ _
  unfold Builtin.Dict.updateFrom
  refine wpAny_bind (wpAny_typeOf (T := "tuple") ⟨o, gt1, hcl⟩ ?_)
  rw [if_pos (by decide)]
  refine wpAny_bind (miss_keys (o := o) (xs := its.toArray) (k := n) gt1 hcl hdat hod hh fun h1 tk1 kp1 => ?_)
  rw [if_pos (show (none : Option Value).isNone = true from rfl)]
  have kp : ∀ b ob, s.heap.get? b = some ob → h1.get? b = some ob := fun b ob e => kp1 b ob (Heap.get?_push_of_some _ e)
  have gt2 := kp t o gt
  have gd2 : h1.get? s.heap.objs.size = some { cls := .type "dict", data := .dict #[] } := kp1 _ _ (Heap.get?_push_size _ rfl)
  have dlt : s.heap.objs.size < h1.objs.size := Heap.lt_size gd2
  have dd1 : h1.DictOf (mixKind X.prog X.w) s.heap.objs.size [] := by
    obtain ⟨od, es, ep, gg, rr⟩ := hnew
    exact ⟨od, es, ep, kp1 _ _ gg, rr⟩
  refine wpAny_bind (wpAny_rule ?_)
  refine wpAny_bind (wpAny_pyIter_tuple (items := its.toArray) ⟨o, gt2, hcl, n, hdat⟩ ?_)
  refine wpAny_pure ⟨Code.quiet_builtin _ (by decide +kernel), ?_⟩
  have epl : ps.length = its.toArray.size := by simp; omega
  have fsts : ps.map (·.1) = kvs.map (·.1) := by
    refine List.ext_getElem (by simp [hpl]) fun j h1 h2 => ?_
    rw [List.getElem_map, List.getElem_map]
    rw [List.length_map] at h1 h2
    obtain ⟨u, eu, e1, _⟩ := hps j kvs[j] (List.getElem?_eq_getElem h2)
    rw [List.getElem?_eq_getElem h1] at eu
    cases eu
    exact e1
  refine upd_loop (A := X.A.in1) (ps := ps) (items := its.toArray) (h0 := h1.push { cls := .type "tuple_iterator", data := .fields #[.ref t, .int 0 0] }) (t := t) (d := s.heap.objs.size) (it := h1.objs.size) (show X.A.in1.handled = none from hh) ⟨o, Heap.get?_push_of_some _ gt2, hcl, n, hdat⟩ ⟨Nat.ne_of_lt (Nat.lt_trans tlt dlt), Nat.ne_of_lt tlt⟩ (Nat.ne_of_gt dlt) epl (by rw [← epl, hpl, hkl]; exact hys) (fun j k v hj => ?_) (by rw [fsts]; exact nd) its.toArray.size 0 _ { s with heap := h1.push { cls := .type "tuple_iterator", data := .fields #[.ref t, .int 0 0] }, toks := tk1 } (by omega) ⟨_, Heap.get?_push_size _ rfl, rfl, rfl⟩ (dd1.push _) (fun b o _ _ e => e) (fun h2 k2 dd2 kp2 => ?_)
  · have hjl : j < kvs.length := by
      have := (List.getElem?_eq_some_iff.mp hj).1
      omega
    obtain ⟨u, eu, e1, e2, a, oa, key, na, e3, e4, e5, e6, e7⟩ := hps j kvs[j] (List.getElem?_eq_getElem hjl)
    rw [hj] at eu
    cases eu
    have alt := Heap.lt_size e4
    refine ⟨a, oa, key, na, by simpa using e3, Heap.get?_push_of_some _ (kp a oa e4), e5, e6, ?_, Nat.ne_of_lt (Nat.lt_trans alt dlt), Nat.ne_of_lt alt⟩
    rw [show k = kvs[j].1 from e1]
    exact e7
  · refine ⟨rfl, .ref s.heap.objs.size, _, ?_, rfl, q s.heap.objs.size (I.hok.fresh (Nat.le_refl _))⟩
    have rel : KV kvs ps := kv_of hpl fun j k v e => by
      obtain ⟨u, eu, e1, e2, _⟩ := hps j (k, v) e
      obtain ⟨u1, u2⟩ := u
      cases (show u1 = k from e1)
      exact ⟨u2, eu, e2⟩
    refine I.laid (a := s.heap.objs.size) (o := .dK kvs) (fun b qo hb => ?_) (Nat.le_refl _) (dk_new (by rw [sizeLine_eq]; omega) (beq_eq_false_iff_ne.mpr (Ne.symm (Nat.ne_of_lt I.big))) rel dd2)
    have blt := Heap.lt_size hb
    exact kp2 b qo (Nat.ne_of_lt (Nat.lt_trans blt dlt)) (Nat.ne_of_lt blt) (Heap.get?_push_of_some _ (kp b qo hb))
end
end L2

/-! sorted(xs, key=f), f of texts that differ (own work). -/
namespace L2
open PySem PySem.Spec PyProof.Rows PySem.W
theorem cmp_k {prog : Program} {w : World} {A : Around} {ks : List Value} {zs : List Str} {s1 : Shared} (t : StrsAre ks zs) : Srt.Cmp zs.length (Srt.rz zs) (kas_ask prog w A oneType' ks) (fun s' => s' = s1) := by
  intro i j C s' hi hj hij hs' hC
  subst hs'
  have hl : ks.length = zs.length := t.length
  obtain ⟨a, ta, e1, e1'⟩ := strs_get (j := i) t (by omega)
  obtain ⟨b, tb, e2, e2'⟩ := strs_get (j := j) t (by omega)
  unfold kas_ask
  have g1 : ks.getD i Value.none = .str a ta := by rw [List.getD_eq_getElem?_getD, List.getElem?_eq_getElem (by omega), Option.getD_some, e1]
  have g2 : ks.getD j Value.none = .str b tb := by rw [List.getD_eq_getElem?_getD, List.getElem?_eq_getElem (by omega), Option.getD_some, e2]
  rw [g1, g2]
  refine kas_lt_str ?_
  have er : Srt.rz zs i j = decide (a.cps.toList < b.cps.toList) := by
    unfold Srt.rz
    rw [List.getD_eq_getElem?_getD, List.getD_eq_getElem?_getD, e1', e2', Option.getD_some, Option.getD_some]
  rw [← er]
  exact hC s' rfl
theorem strs_snoc {z : Str} {t : Tok} : ∀ {vs : List Value} {zs : List Str}, StrsAre vs zs → StrsAre (vs ++ [.str z t]) (zs ++ [z])
  | _, _, .nil => .cons z t .nil
  | _, _, .cons y u r => .cons y u (strs_snoc r)
section
variable {X : Cx} {pins : List (Addr × Obj)} {σ : St} {H : Hp} {s : Shared}
theorem Inv.moved {h' : Heap} {it : Addr} {t' : Nat} (I : Inv X pins σ H s) (fp : FpOk X pins H it) (k : ∀ b o, b ≠ it → s.heap.get? b = some o → h'.get? b = some o) : Inv X pins σ H { s with heap := h', toks := t' } :=
  I.turned k fp.1 fp.2.1 fp.2.2.2.1 fp.2.2.2.2.1 fp.2.2.2.2.2
theorem key_tail {A : Around} {E : Value → Shared → Prop} {a kS : Addr} {vs ks : List Value} {e e1 : Nat} {p : Array Nat} {st : SortSt} {P : PySem.Fin → Shared → Prop} (I : Inv X pins σ H s) (fa : FpOk X pins H a) (fk : FpOk X pins H kS) (hka : kS ≠ a)
    (hk : s.heap.get? kS = some (seqObj "list" ks.toArray e)) (ha : s.heap.get? a = some (seqObj "list" #[] e1)) (hl : ks.length = vs.length) (h64 : vs.length < 64) (hp : p.size = vs.length) (har : arrOf st = p.map (kas_item (ks.toArray.zip vs.toArray))) (hf : failedOf st = none)
    (h : ∀ (s' : Shared) (e : Nat), Inv X pins σ H s' → s'.heap.get? a = some (seqObj "list" (List.toArray (p.toList.map fun i => vs.getD i Value.none)) e) → P (.done (.ret .none)) s') :
    wpAny (model X.prog X.w) A (ksk_tail a false e1 (.ref kS) st) P E s := by
  have hout := kat_snds (vs := vs) (ks := ks) hl har
  unfold ksk_tail
  try dsimp only
  have s1 := Heap.SameBut.update s.heap kS (Obj.mapSeq fun _ => (#[] : Array Value))
  have ha1 : (s.heap.update kS (Obj.mapSeq fun _ => (#[] : Array Value))).get? a = some (seqObj "list" #[] e1) := (s1.2 a hka.symm).trans ha
  refine wpAny_bind (listUpdate_at hk rfl ?_ (by rw [List.size_toArray, hl, sizeLine_eq]; omega) (Nat.zero_le _))
  refine wpAny_bind (wpAny_letGo ?_)
  refine wpAny_bind (seqEpoch_at ha1 rfl ?_)
  simp only [Bool.false_eq_true, if_false]
  rw [hout]
  have s2 := Heap.SameBut.update (s.heap.update kS (Obj.mapSeq fun _ => (#[] : Array Value))) a (Obj.mapSeq fun _ => List.toArray (p.toList.map fun i => vs.getD i Value.none))
  obtain ⟨c2, hc2⟩ : ∃ c2, ((s.heap.update kS (Obj.mapSeq fun _ => (#[] : Array Value))).update a (Obj.mapSeq fun _ => List.toArray (p.toList.map fun i => vs.getD i Value.none))).get? a = some (seqObj "list" (List.toArray (p.toList.map fun i => vs.getD i Value.none)) c2) :=
    ⟨_, get?_update_seq ha1 fun _ => List.toArray (p.toList.map fun i => vs.getD i Value.none)⟩
  refine wpAny_bind (listUpdate_at ha1 rfl ?_ (Nat.zero_le _) (by rw [List.size_toArray, List.length_map, Array.length_toList, hp, sizeLine_eq]; omega))
  rw [hf]
  simp only [bne_self_eq_false, Bool.false_eq_true, if_false]
  have I1 : Inv X pins σ H { s with heap := s.heap.update kS (Obj.mapSeq fun _ => (#[] : Array Value)) } := I.moved (t' := s.toks) fk fun b o hb q => (s1.2 b hb).trans q
  exact wpAny_pure (h _ c2 (I1.moved (t' := s.toks) fa fun b o hb q => (s2.2 b hb).trans q) hc2)
theorem list_sort_key {A : Around} {E : Value → Shared → Prop} {a : Addr} {vs : List Value} {n : Nat} {f : Value} {zs : List Str} {P : PySem.Fin → Shared → Prop} (I : Inv X pins σ H s) (fa : FpOk X pins H a) (ho : s.heap.get? a = some (seqObj "list" vs.toArray n)) (hlen : zs.length = vs.length) (nd : zs.Nodup) (h64 : vs.length < 64)
    (turn : ∀ (i : Nat) (v : Value) (z : Str), vs[i]? = some v → zs[i]? = some z → ∀ s' : Shared, Inv X pins σ H s' → wpAny (model X.prog X.w) A (call f [v]) (fun k s'' => (∃ t, k = .str z t) ∧ Inv X pins σ H s'' ∧ ∀ b o, FpOk X pins H b → s'.heap.get? b = some o → s''.heap.get? b = some o) (fun _ _ => False) s')
    (h : ∀ (p : Array Nat) (s' : Shared) (e : Nat), Srt.PN vs.length p → Srt.Up (Srt.rz zs) p vs.length → Inv X pins σ H s' → s'.heap.get? a = some (seqObj "list" (List.toArray (p.toList.map fun i => vs.getD i Value.none)) e) → P (.done (.ret .none)) s') :
    wpAny (model X.prog X.w) A (ksk_tree a f false) P E s := by
  have haL : a < s.heap.objs.size := Heap.lt_size ho
  have s1 := Heap.SameBut.update s.heap a (Obj.mapSeq fun _ => (#[] : Array Value))
  obtain ⟨e1, ho1⟩ : ∃ e1, (s.heap.update a (Obj.mapSeq fun _ => (#[] : Array Value))).get? a = some (seqObj "list" #[] e1) := ⟨_, get?_update_seq ho fun _ => #[]⟩
  have I1 : Inv X pins σ H { s with heap := s.heap.update a (Obj.mapSeq fun _ => (#[] : Array Value)) } := I.moved (t' := s.toks) fa fun b o hb q => (s1.2 b hb).trans q
  have I2 : Inv X pins σ H { s with heap := (s.heap.update a (Obj.mapSeq fun _ => (#[] : Array Value))).push (seqObj "tuple" vs.toArray 0) } := I1.kept (t' := s.toks) fun b o q => Heap.get?_push_of_some _ q
  have I3 : Inv X pins σ H { s with heap := ((s.heap.update a (Obj.mapSeq fun _ => (#[] : Array Value))).push (seqObj "tuple" vs.toArray 0)).push (seqObj "list" #[] 0) } := I2.kept (t' := s.toks) fun b o q => Heap.get?_push_of_some _ q
  have fk : FpOk X pins H ((s.heap.update a (Obj.mapSeq fun _ => (#[] : Array Value))).push (seqObj "tuple" vs.toArray 0)).objs.size := I2.fpOk (Nat.le_refl _) (I2.hok.fresh (Nat.le_refl _))
  have hkS : ((s.heap.update a (Obj.mapSeq fun _ => (#[] : Array Value))).push (seqObj "tuple" vs.toArray 0)).objs.size = s.heap.objs.size + 1 := by rw [size_push', Heap.size_update]
  have hka : ((s.heap.update a (Obj.mapSeq fun _ => (#[] : Array Value))).push (seqObj "tuple" vs.toArray 0)).objs.size ≠ a := by rw [hkS]; exact Nat.ne_of_gt (Nat.lt_succ_of_lt haL)
  unfold ksk_tree
  refine wpAny_bind (listItems_at ho rfl ?_)
  refine wpAny_bind (listUpdate_at ho rfl ?_ (by rw [List.size_toArray, sizeLine_eq]; omega) (Nat.zero_le _))
  refine wpAny_bind (seqEpoch_at ho1 rfl ?_)
  refine wpAny_bind (wpAny_newTuple ?_ (by show vs.length ≤ _; rw [sizeLine_eq]; omega))
  refine wpAny_bind (wpAny_newList ?_ (Nat.zero_le _))
  refine wpAny_holding ?_
  generalize ekS : ((s.heap.update a (Obj.mapSeq fun _ => (#[] : Array Value))).push (seqObj "tuple" vs.toArray 0)).objs.size = kS at fk hka
  show wpAny (model X.prog X.w) A (ksk_rest a f false vs.toArray e1 (.ref kS)) P E { s with heap := ((s.heap.update a (Obj.mapSeq fun _ => (#[] : Array Value))).push (seqObj "tuple" vs.toArray 0)).push (seqObj "list" #[] 0) }
  have hk0 : (((s.heap.update a (Obj.mapSeq fun _ => (#[] : Array Value))).push (seqObj "tuple" vs.toArray 0)).push (seqObj "list" #[] 0)).get? kS = some (seqObj "list" #[] 0) := by rw [← ekS]; exact Heap.get?_push_size _ rfl
  have ha0 : (((s.heap.update a (Obj.mapSeq fun _ => (#[] : Array Value))).push (seqObj "tuple" vs.toArray 0)).push (seqObj "list" #[] 0)).get? a = some (seqObj "list" #[] e1) := Heap.get?_push_of_some _ (Heap.get?_push_of_some _ ho1)
  unfold ksk_rest
  refine wpAny_bind (wpAny_rule ?_)
  first
    | rw [List.forIn_toArray]
    | (rw [← Array.forIn_toList]; simp only [List.toList_toArray])
    | rw [← Array.forIn_toList]
  refine wpAny_bind (ksk_fold (fun i s' => ∃ (kA : List Value) (e : Nat), Inv X pins σ H s' ∧ s'.heap.get? kS = some (seqObj "list" kA.toArray e) ∧ s'.heap.get? a = some (seqObj "list" #[] e1) ∧ StrsAre kA (zs.take i)) vs 0 _ ⟨[], 0, I3, hk0, ha0, by simpa using StrsAre.nil⟩ ?step ?done)
  case step =>
    rintro j x s' hx ⟨kA, e, J, hk, ha, hs⟩
    simp only [Nat.zero_add] at hs ⊢
    have hj : j < vs.length := (List.getElem?_eq_some_iff.mp hx).1
    obtain ⟨z, hz⟩ : ∃ z, zs[j]? = some z := ⟨_, List.getElem?_eq_getElem (by omega)⟩
    have hsz : kA.length ≤ vs.length := by
      have h1 : kA.length = (zs.take j).length := hs.length
      rw [List.length_take] at h1
      omega
    refine wpAny_bind (wpAny_attempt (wpAny_mono (turn j x z hx hz s' J) (fun v s'' he => ?_) fun _ _ hF => hF.elim))
    obtain ⟨⟨t, rfl⟩, J2, kp⟩ := he
    try dsimp only
    have hk2 := kp kS _ fk hk
    have ha2 := kp a _ fa ha
    have u1 := Heap.SameBut.update s''.heap kS (Obj.mapSeq (·.push (.str z t)))
    obtain ⟨c2, hc2⟩ : ∃ c2, (s''.heap.update kS (Obj.mapSeq (·.push (.str z t)))).get? kS = some (seqObj "list" (kA.toArray.push (.str z t)) c2) := ⟨_, get?_update_seq hk2 (·.push (.str z t))⟩
    have ek : zs.take (j + 1) = zs.take j ++ [z] := by rw [List.take_add_one, hz]; simp
    refine wpAny_bind (listUpdate_at hk2 rfl ?_ (by rw [List.size_toArray, sizeLine_eq]; omega) (Nat.le_trans (Nat.le_of_eq (Array.size_push ..)) (by rw [List.size_toArray, sizeLine_eq]; omega)))
    exact wpAny_pure ⟨rfl, kA ++ [.str z t], c2, J2.moved (t' := s''.toks) fk fun b o hb q => (u1.2 b hb).trans q, by rw [hc2]; simp, (u1.2 a hka.symm).trans ha2, by rw [ek]; exact strs_snoc hs⟩
  case done =>
    rintro s' ⟨kA, e, J, hk, ha, hs⟩
    have hs' : StrsAre kA zs := by
      have e3 : zs.take (0 + vs.length) = zs := List.take_of_length_le (by omega)
      rw [e3] at hs
      exact hs
    have hl : kA.length = vs.length := by have h1 : kA.length = zs.length := hs'.length; omega
    try dsimp only
    refine wpAny_bind (listItems_at hk rfl ?_)
    unfold ksk_end
    try dsimp only
    rw [if_neg (by decide)]
    by_cases h2 : vs.toArray.size < 2
    · rw [if_pos h2, if_pos h2]
      refine wpAny_bind (wpAny_pure ?_)
      rw [StateT.run_pure]
      refine wpAny_bind (wpAny_pure ?_)
      try dsimp only
      simp only [Bool.false_eq_true, if_false]
      refine key_tail (vs := vs) (ks := kA) (p := List.toArray (List.range vs.length)) J fa fk hka hk ha hl h64 (by simp) (by
        have e := kas_range (kA.toArray.zip vs.toArray)
        rw [show (kA.toArray.zip vs.toArray).size = vs.length by simp [hl]] at e
        exact e.symm) rfl fun s3 e3 J3 g3 => h (List.toArray (List.range vs.length)) s3 e3 (by unfold Srt.PN; simp) (fun i j hij hj => ?_) J3 g3
      rw [List.size_toArray] at h2
      have ei : i = 0 := by omega
      have ej : j = 0 := by omega
      subst ei ej
      unfold Srt.rz
      rw [decide_eq_false_iff_not]
      exact List.lt_irrefl _
    · have hn2 : 2 ≤ vs.length := by rw [List.size_toArray] at h2; omega
      rw [if_neg h2, if_neg h2]
      obtain ⟨v₁, v₂, rest, ev⟩ : ∃ v₁ v₂ rest, kA = v₁ :: v₂ :: rest := by
        match kA, hl with
        | [], hl => simp at hl; omega
        | [_], hl => simp at hl; omega
        | v₁ :: v₂ :: rest, _ => exact ⟨v₁, v₂, rest, rfl⟩
      have hkk : keyKind' kA.toArray = pure oneType' := by rw [ev]; exact keyKind_strs (by rw [← ev]; exact hs')
      rw [hkk]
      refine wpAny_bind (wpAny_pure ?_)
      simp only [Bool.false_eq_true, if_false]
      refine wpAny_bind (wpAny_mono (kat_run (prog := X.prog) (w := X.w) (A := A) (E := E) (κ := oneType') (ks := kA) (vs := vs) (s := s')
        (Q := fun st' s'' => ∃ p : Array Nat, p.size = vs.length ∧ arrOf st' = p.map (kas_item (kA.toArray.zip vs.toArray)) ∧ failedOf st' = none ∧ Srt.PN vs.length p ∧ Srt.Up (Srt.rz zs) p vs.length ∧ s'' = s')
        (G := fun p s'' => Srt.PN vs.length p ∧ Srt.Up (Srt.rz zs) p vs.length ∧ s'' = s')
        hl hn2 h64 (fun p' st' s'' a1 a2 a3 a4 => ⟨p', a1, a2, a3, a4⟩) ?_) ?_ fun _ _ e => e)
      · rw [← hlen]
        exact Srt.sort (Srt.ord_z nd) (cmp_k (s1 := s') hs') (by omega) rfl fun p' s'' b1 b2 b3 => ⟨b1, b2, b3⟩
      · rintro ⟨⟨⟩, st'⟩ s'' ⟨p, hp, har, hf, pn, up, rfl⟩
        try dsimp only
        exact key_tail (vs := vs) (ks := kA) J fa fk hka hk ha hl h64 hp har hf fun s3 e3 J3 g3 => h p s3 e3 pn up J3 g3
end
end L2

/-! sorted(xs, key=lambda x: ..) (own work). -/
namespace L2
open PySem PySem.Spec PyProof.Rows PySem.W
section
variable {X : Cx} {pins : List (Addr × Obj)} {σ : St} {H : Hp} {s : Shared} {f c' : Addr} {q x : Str} {params : Arguments} {body : Expr} {scope : Scope} {pm : Value} {k : Nat}
theorem lam_turn {t : TE} {A : Around} {u : Value} {v : V} {z : Str} (I : Inv X pins σ H s) (e0 : Env0 X.prog X.w X.K X.mg X.base A X.stack s H) (hr : Room (k + 1) A) (hf : H f = some (.ext (lamP f q params body scope pm c'))) (hc : H c' = some (.ext (codeP c' q))) (S : FnScope [x] [x] scope)
    (hb : ∀ (ctv u : Value), bindArgs (PySem.W.kla_fn "<lambda>" q params body scope [] pm (.ref c') ctv) ⟨[u], []⟩ = pure [(x, u)])
    (hbody : PE (cxOf CX0 X.prog X.w X.K X.mg X.base [x] q scope f (.ref c') A X.stack s H E0).nox body t) (r : RelV v u) (ht : t [some v] H fun v' H' => v' = .str z ∧ H' = H) :
    wpAny (model X.prog X.w) A (call (.ref f) [u]) (fun k s'' => (∃ t, k = .str z t) ∧ Inv X pins σ H s'' ∧ ∀ b o, FpOk X pins H b → s.heap.get? b = some o → s''.heap.get? b = some o) (fun _ _ => False) s := by
  refine wpAny_call (codeAny_mono (code_lam e0 hr hf hc S hb hbody r ht) fun r s' hq => ?_)
  cases r with
  | error e => exact hq
  | ok fl =>
    cases fl with
    | ret w' =>
      have hq' : CE X.stack X.prog X.w H s (fun v' H' => v' = .str z ∧ H' = H) w' s' := hq
      obtain ⟨v1, H1, J, rv, rfl, rfl⟩ := I.after hq'
      obtain ⟨v2, H2, os, bare, un, hok, rv2, rfl, rfl⟩ := hq'
      refine ⟨rv, J, fun b o fb e => un.keep b o e fb.1 (fun hm => ?_) (by simp)⟩
      rcases List.mem_cons.mp (I.stkSub b hm) with y | y
      · exact fb.2.1 y
      · exact fb.2.2.1 y
    | next => exact False.elim hq
    | brk => exact False.elim hq
    | cont => exact False.elim hq
theorem sorted_key {p : Addr} {xs : List V} {zs : List Str} {fv : Value} {Q : VK} (I : Inv X pins σ H s) (hp : SqL X.K H p xs) (hlen : zs.length = xs.length) (nd : zs.Nodup) (h64 : xs.length < 64) (hfv : ∃ f, fv = .ref f)
    (turn : ∀ (i : Nat) (v : V) (u : Value) (z : Str), xs[i]? = some v → RelV v u → zs[i]? = some z → ∀ s' : Shared, Inv X pins σ H s' → wpAny (model X.prog X.w) X.A.in1.in1 (call fv [u]) (fun k s'' => (∃ t, k = .str z t) ∧ Inv X pins σ H s'' ∧ ∀ b o, FpOk X pins H b → s'.heap.get? b = some o → s''.heap.get? b = some o) (fun _ _ => False) s')
    (h : ∀ (l : Addr) (ix : List Nat), H l = none → ix.Perm (List.range xs.length) → Rise (ix.map fun i => zs.getD i "") → Q (.ref l) (upd H l (.lst (ix.map fun i => xs.getD i .non)))) :
    wpAny (model X.prog X.w) X.A (call (.builtin "sorted") [.ref p] [(Str.ofString "key", fv)]) (EP X pins σ Q) X.xe s := by
  obtain ⟨f, rfl⟩ := hfv
  obtain ⟨vs, r', pl, hz⟩ := I.list hp
  have hl := r'.length
  refine call_function_entry_kw kind_sorted plain_sorted entry_sorted (ksk_s1 _ _) ?_
  unfold Builtin.«sorted»
  refine wpAny_bind (m := checkCount "sorted" 1 1 _) (wpAny_pure ?_)
  refine wpAny_bind (collect_list pl.isList ?_ (by rw [sizeLine_eq]; omega))
  refine wpAny_bind (wpAny_newList ?_ (by rw [sizeLine_eq]; omega))
  have hsz : ((s.heap.push (seqObj "list" #[] 0)).update s.heap.objs.size (Obj.mapSeq (· ++ vs.toArray))).objs.size = s.heap.objs.size + 1 := by
    rw [Heap.size_update, size_push']
  have hoL : (((s.heap.push (seqObj "list" #[] 0)).update s.heap.objs.size (Obj.mapSeq (· ++ vs.toArray))).push (seqObj "list" vs.toArray 0)).get? (s.heap.objs.size + 1) = some (seqObj "list" vs.toArray 0) := by
    rw [← hsz]; exact Heap.get?_push_size _ rfl
  have keep : ∀ b o, s.heap.get? b = some o → (((s.heap.push (seqObj "list" #[] 0)).update s.heap.objs.size (Obj.mapSeq (· ++ vs.toArray))).push (seqObj "list" vs.toArray 0)).get? b = some o := fun b o q => by
    have hlt : b < s.heap.objs.size := Heap.lt_size q
    rw [Heap.get?_push_ne _ _ _ (by rw [hsz]; exact Nat.ne_of_lt (Nat.lt_succ_of_lt hlt)), Heap.get?_update_ne _ _ _ _ (Nat.ne_of_lt hlt), Heap.get?_push_ne _ _ _ (Nat.ne_of_lt hlt)]
    exact q
  have I2 : Inv X pins σ H { s with heap := ((s.heap.push (seqObj "list" #[] 0)).update s.heap.objs.size (Obj.mapSeq (· ++ vs.toArray))).push (seqObj "list" vs.toArray 0) } := I.kept (t' := s.toks) keep
  have fa : FpOk X pins H (s.heap.objs.size + 1) := I.fpOk (Nat.le_succ _) (I.hok.fresh (Nat.le_succ _))
  have our : Our X pins H (s.heap.objs.size + 1) := ⟨Nat.le_trans I.sz (Nat.le_succ _), fa.2.1, fa.2.2.2.2.1, fa.2.2.2.2.2, fa.1⟩
  show wpAny _ _ _ _ _ { s with heap := ((s.heap.push (seqObj "list" #[] 0)).update s.heap.objs.size (Obj.mapSeq (· ++ vs.toArray))).push (seqObj "list" vs.toArray 0) }
  rw [hsz]
  refine wpAny_bind (wpAny_holding (wpAny_call_entry_kw slot_list_sort ⟨_, hoL, rfl⟩ entry_list_sort ?body (ksk_l1 _ _)))
  case body =>
    show wpAny (model X.prog X.w) X.A.in1.in1 (Builtin.«list.sort» ⟨[.ref (s.heap.objs.size + 1)], [(Str.ofString "key", .ref f)]⟩) _ _ _
    rw [ksk_t1]
    refine list_sort_key (zs := zs) I2 fa hoL (by omega) nd (by omega) (fun i v z hv hzi s' J => ?_) fun p' s3 e pn up J3 g3 => ⟨_, rfl, ?_⟩
    · have hi : i < vs.length := (List.getElem?_eq_some_iff.mp hv).1
      obtain ⟨u, hu, ru⟩ := r'.get (i := i) (x := xs[i]'(by omega)) (by simp)
      rw [hv] at hu
      cases hu
      exact turn i (xs[i]'(by omega)) v z (by simp) ru hzi s' J
    · have hs := pn.size
      have lt : ∀ i ∈ p'.toList, i < vs.length := fun i hi => List.mem_range.mp (pn.mem_iff.mp hi)
      refine wpAny_pure ⟨_, rfl, .ref (s.heap.objs.size + 1), _, J3.track our (o := .lst (p'.toList.map fun i => xs.getD i .non)) ?_, rfl, h _ p'.toList (I.hok.fresh (Nat.le_succ _)) (by rw [hl]; exact pn) ?_⟩
      · refine ⟨by rw [List.length_map, Array.length_toList, hs, ← hl]; exact hz, _, e, ?_, g3⟩
        exact vals_map r' _ fun i hi => by have := lt i hi; omega
      · unfold Rise
        rw [List.pairwise_map, List.pairwise_iff_getElem]
        intro i j hi hj hij
        have hi' : i < p'.size := by simpa using hi
        have hj' : j < p'.size := by simpa using hj
        have h0 := up i j (by omega) (by omega)
        unfold Srt.rz at h0
        rw [decide_eq_false_iff_not, Srt.getD_get hi', Srt.getD_get hj'] at h0
        rw [Array.getElem_toList, Array.getElem_toList]
        exact h0
/-- sorted(e, key=lambda x: body) -/
def tSortK (K : PySem.W.Frag) (q : Str) (params : Arguments) (body : Expr) (scope : Scope) (pm : Value) (te tl tb : TE) : TE := fun σ H Q => te σ H fun y H1 => tl σ H1 fun g H2 => ∃ (p f c' : Addr) (xs : List V) (zs : List Str), y = .ref p ∧ g = .ref f ∧
  H2 f = some (.ext (lamP f q params body scope pm c')) ∧ H2 c' = some (.ext (codeP c' q)) ∧ SqL K H2 p xs ∧ zs.length = xs.length ∧ zs.Nodup ∧ xs.length < 64 ∧
  (∀ (i : Nat) (v : V) (z : Str), xs[i]? = some v → zs[i]? = some z → tb [some v] H2 fun v' H' => v' = .str z ∧ H' = H2) ∧
  ∀ (l : Addr) (ix : List Nat), H2 l = none → ix.Perm (List.range xs.length) → Rise (ix.map fun i => zs.getD i "") → Q (.ref l) (upd H2 l (.lst (ix.map fun i => xs.getD i .non)))
theorem pe_sortedK {e lam : Expr} {te tl tb : TE} {np kpos pos : Pos} (hr : Room (k + 3) X.A) (hg : Gl X "sorted") (hm : X.mg "sorted" = none) (he : PE X e te) (hlam : PE X lam tl) (S : FnScope [x] [x] scope)
    (hb : ∀ (c' : Addr) (ctv u : Value), bindArgs (PySem.W.kla_fn "<lambda>" q params body scope [] pm (.ref c') ctv) ⟨[u], []⟩ = pure [(x, u)])
    (hbody : ∀ (f c' : Addr) (s : Shared) (H : Hp), PE (cxOf CX0 X.prog X.w X.K X.mg X.base [x] q scope f (.ref c') X.A.in1.in1 X.stack s H E0).nox body tb) (hstar : starEach [e] X.env = [(false, eval e X.env)] := by rfl) :
    PE X (.Call (.Name "sorted" np) [e] [⟨some "key", lam, kpos⟩] pos) (tSortK X.K q params body scope pm te tl tb) := by
  intro pins s σ H Q I h
  refine wpAny_Call_Name_kw (ld_blt I hg hm (show bootBuiltins "sorted" = some (.builtin "sorted") by decide +kernel) ?_ (by decide) (by decide))
  refine callWith_kw (e := e) (rest := []) (kws := [⟨some "key", lam, kpos⟩]) ?_ (by rw [hstar]; rfl) (by rw [hstar]; rfl)
  rw [hstar]
  show wpAny _ _ (spliced [(false, eval e X.env)]) _ _ s
  refine Calls.spliced_cons (thn (he pins s σ H _ I h) fun u s1 ⟨y, H1, I1, ry, q1⟩ => Calls.spliced_nil ?_)
  show wpAny _ _ (evalAll [(do let v ← eval lam X.env; standAt pos; pure v)]) _ _ s1
  refine wpAny_evalAll_cons (wpAny_bind (thn (hlam pins s1 σ H1 _ I1 q1) fun gv s2 ⟨g, H2, I2, rg, q2⟩ => wpAny_bind (wpAny_standAt (wpAny_pure (wpAny_evalAll_nil ?_)))))
  obtain ⟨p, f, c', xs, zs, rfl, rfl, hf, hc, hp, hlen, nd, h64, ht, hq⟩ := q2
  cases ry
  cases rg
  have hr1 : Room (k + 1) X.A.in1.in1 := hr.in1.in1
  exact sorted_key I2 hp hlen nd h64 ⟨f, rfl⟩ (fun i v u z hv ru hz s' J => lam_turn J J.env0.in1.in1 hr1 hf hc S (hb c') (hbody f c' s' H2) ru (ht i v z hv hz)) hq
end
end L2

/-! WALKS OVER ONE THING, OR NONE (own work); what is new since H0. -/
namespace L2
open PySem PySem.Spec PyProof.Rows
section
variable {K : PySem.W.Frag} {a b : Addr} {x y : V} {g : TG} {tb : TS} {D : Ends} {σ : St} {H : Hp}
theorem for_list0 (hl : SqL K H a []) (hq : D.nx σ H) :
    ∃ W : Nat → Nat → St → Hp → Prop, (∃ m, W 0 m σ H) ∧ ∀ i m σ H, W i m σ H →
      ((Itl K a).stop i H ∧ D.nx σ H) ∨ ((Itl K a).go i H ∧ ∃ N : St → Hp → Prop, (∀ σ' H', N σ' H' → ∃ m', m' < m ∧ W (i + 1) m' σ' H') ∧ ∀ x H', (Itl K a).yld i H x H' → g x σ H' fun σ2 H2 => tb { D with nx := N, ct := N, bk := D.nx } σ2 H2) :=
  for_list (K := K) (a := a) (xs := []) (fun i σ' H' => σ' = σ ∧ H' = H) ⟨rfl, rfl⟩ (fun i σ' H' _ p => by rw [p.2]; exact hl) (fun i x σ' H' h => nomatch h) fun σ' H' p => by rw [p.1, p.2]; exact hq
theorem for_list1 (hl : SqL K H a [x]) (hs : g x σ H fun σ2 H2 => tb { D with nx := fun σ' H' => SqL K H' a [x] ∧ D.nx σ' H', ct := fun σ' H' => SqL K H' a [x] ∧ D.nx σ' H', bk := D.nx } σ2 H2) :
    ∃ W : Nat → Nat → St → Hp → Prop, (∃ m, W 0 m σ H) ∧ ∀ i m σ H, W i m σ H →
      ((Itl K a).stop i H ∧ D.nx σ H) ∨ ((Itl K a).go i H ∧ ∃ N : St → Hp → Prop, (∀ σ' H', N σ' H' → ∃ m', m' < m ∧ W (i + 1) m' σ' H') ∧ ∀ x H', (Itl K a).yld i H x H' → g x σ H' fun σ2 H2 => tb { D with nx := N, ct := N, bk := D.nx } σ2 H2) :=
  for_list (K := K) (a := a) (xs := [x]) (fun i σ' H' => match i with | 0 => σ' = σ ∧ H' = H | _ => SqL K H' a [x] ∧ D.nx σ' H') ⟨rfl, rfl⟩ (fun i σ' H' _ p => by
      match i, p with
      | 0, p => rw [p.2]; exact hl
      | i + 1, p => exact p.1) (fun i z σ' H' h p => by
      match i, h, p with
      | 0, h, p =>
        cases h
        rw [p.1, p.2]
        exact hs
      | i + 1, h, p => cases h) fun σ' H' p => p.2
theorem for_tup1 (hl : SqT K H a [x]) (hs : g x σ H fun σ2 H2 => tb { D with nx := fun σ' H' => SqT K H' a [x] ∧ D.nx σ' H', ct := fun σ' H' => SqT K H' a [x] ∧ D.nx σ' H', bk := D.nx } σ2 H2) :
    ∃ W : Nat → Nat → St → Hp → Prop, (∃ m, W 0 m σ H) ∧ ∀ i m σ H, W i m σ H →
      ((Itt K a).stop i H ∧ D.nx σ H) ∨ ((Itt K a).go i H ∧ ∃ N : St → Hp → Prop, (∀ σ' H', N σ' H' → ∃ m', m' < m ∧ W (i + 1) m' σ' H') ∧ ∀ x H', (Itt K a).yld i H x H' → g x σ H' fun σ2 H2 => tb { D with nx := N, ct := N, bk := D.nx } σ2 H2) :=
  for_tup (K := K) (a := a) (xs := [x]) (fun i σ' H' => match i with | 0 => σ' = σ ∧ H' = H | _ => SqT K H' a [x] ∧ D.nx σ' H') ⟨rfl, rfl⟩ (fun i σ' H' _ p => by
      match i, p with
      | 0, p => rw [p.2]; exact hl
      | i + 1, p => exact p.1) (fun i z σ' H' h p => by
      match i, h, p with
      | 0, h, p =>
        cases h
        rw [p.1, p.2]
        exact hs
      | i + 1, h, p => cases h) fun σ' H' p => p.2
theorem for_items1 {o : Obj} {k : Key} {v : V} (hl : H a = some (.frz o (.dK [(k, v)]))) (hs : ∀ p, H p = none → g (.ref p) σ (upd H p (.tup [kV k, v])) fun σ2 H2 => tb { D with nx := fun σ' H' => H' a = some (.frz o (.dK [(k, v)])) ∧ D.nx σ' H', ct := fun σ' H' => H' a = some (.frz o (.dK [(k, v)])) ∧ D.nx σ' H', bk := D.nx } σ2 H2) :
    ∃ W : Nat → Nat → St → Hp → Prop, (∃ m, W 0 m σ H) ∧ ∀ i m σ H, W i m σ H →
      ((Itm a o [(k, v)]).stop i H ∧ D.nx σ H) ∨ ((Itm a o [(k, v)]).go i H ∧ ∃ N : St → Hp → Prop, (∀ σ' H', N σ' H' → ∃ m', m' < m ∧ W (i + 1) m' σ' H') ∧ ∀ x H', (Itm a o [(k, v)]).yld i H x H' → g x σ H' fun σ2 H2 => tb { D with nx := N, ct := N, bk := D.nx } σ2 H2) :=
  for_items (a := a) (o := o) (kvs := [(k, v)]) (fun i σ' H' => match i with | 0 => σ' = σ ∧ H' = H | _ => H' a = some (.frz o (.dK [(k, v)])) ∧ D.nx σ' H') ⟨rfl, rfl⟩ (fun i σ' H' _ p => by
      match i, p with
      | 0, p => rw [p.2]; exact hl
      | i + 1, p => exact p.1) (fun i k' v' p1 σ' H' h p hp => by
      match i, h, p with
      | 0, h, p =>
        cases h
        rw [p.1, p.2]
        rw [p.2] at hp
        exact hs p1 hp
      | i + 1, h, p => cases h) fun σ' H' p => p.2
theorem for_zipL1 (h1 : SqL K H a [x]) (h2 : SqL K H b [y]) (hs : ∀ p, H p = none → g (.ref p) σ (upd H p (.tup [x, y])) fun σ2 H2 => tb { D with nx := fun σ' H' => (SqL K H' a [x] ∧ SqL K H' b [y]) ∧ D.nx σ' H', ct := fun σ' H' => (SqL K H' a [x] ∧ SqL K H' b [y]) ∧ D.nx σ' H', bk := D.nx } σ2 H2) :
    ∃ W : Nat → Nat → St → Hp → Prop, (∃ m, W 0 m σ H) ∧ ∀ i m σ H, W i m σ H →
      ((ItY K a b).stop i H ∧ D.nx σ H) ∨ ((ItY K a b).go i H ∧ ∃ N : St → Hp → Prop, (∀ σ' H', N σ' H' → ∃ m', m' < m ∧ W (i + 1) m' σ' H') ∧ ∀ x H', (ItY K a b).yld i H x H' → g x σ H' fun σ2 H2 => tb { D with nx := N, ct := N, bk := D.nx } σ2 H2) :=
  for_zipL (K := K) (a := a) (b := b) (xs := [x]) (ys := [y]) (fun i σ' H' => match i with | 0 => σ' = σ ∧ H' = H | _ => (SqL K H' a [x] ∧ SqL K H' b [y]) ∧ D.nx σ' H') rfl ⟨rfl, rfl⟩ (fun i σ' H' _ p => by
      match i, p with
      | 0, p => rw [p.2]; exact ⟨h1, h2⟩
      | i + 1, p => exact p.1) (fun i k' v' p1 σ' H' hx hy p hp => by
      match i, hx, hy, p with
      | 0, hx, hy, p =>
        cases hx
        cases hy
        rw [p.1, p.2]
        rw [p.2] at hp
        exact hs p1 hp
      | i + 1, h, _, p => cases h) fun σ' H' p => p.2
end
theorem compW1 {J : It} {g : TG} {te : TE} {R : Addr → Hp → Prop} {D : Addr} {σ0 : St} {H0 : Hp} (hD0 : H0 D = some (.lst [])) (go : J.go 0 H0)
    (hs : ∀ x H', J.yld 0 H0 x H' → g x σ0 H' fun σ2 H2 => te σ2 H2 fun y H4 => H4 D = some (.lst []) ∧ J.stop 1 (upd H4 D (.lst [y])) ∧ R D (upd H4 D (.lst [y]))) : CompW J g tYes te R D σ0 H0 :=
  compW_idx 1 (fun i ys σ H => match i with | 0 => σ = σ0 ∧ H = H0 | _ => J.stop 1 H ∧ R D H) (by decide) ⟨rfl, rfl⟩ hD0 (fun i σ H ys hi p hl hD => by
    match i, p, hl, hi with
    | 0, p, hl, _ =>
      have : ys = [] := List.length_eq_zero_iff.mp hl
      subst this
      rw [p.1, p.2]
      exact ⟨go, hs⟩
    | i + 1, _, _, hi => omega) fun σ H ys p _ _ => p
theorem Same.put {H H1 : Hp} {p : Addr} {o : HO} (s : Same H H1) (h : H p = none) : Same H (L2.upd H1 p o) := fun b u e => by
  rw [upd_ne (ne_of_none e h)]
  exact s _ _ e
def cut (H0 H : Hp) : Hp := fun b => match H0 b with | none => H b | some _ => none
theorem cut_sub {H0 H : Hp} : Same (cut H0 H) H := fun b o e => by
  unfold cut at e
  split at e
  · exact e
  · cases e
theorem cut_new {H0 H : Hp} {b : Addr} {o : HO} (e : cut H0 H b = some o) : H0 b = none := by
  unfold cut at e
  split at e
  · assumption
  · cases e
theorem cut_at {H0 H : Hp} {b : Addr} {o : HO} (h0 : H0 b = none) (e : H b = some o) : cut H0 H b = some o := by
  unfold cut
  rw [h0]
  exact e
theorem cut_up {H0 H H' : Hp} (s : Same H H') : Same (cut H0 H) (cut H0 H') := fun b o e => cut_at (cut_new e) (s _ _ (cut_sub _ _ e))
theorem none_of {H0 H1 : Hp} {b : Addr} (s : Same H0 H1) (h : H1 b = none) : H0 b = none := by
  cases e : H0 b with
  | none => rfl
  | some o => rw [s _ _ e] at h; cases h
/-- what is new since a later heap is new since an earlier one -/
theorem cut_dn {H0 H1 H : Hp} (s : Same H0 H1) : Same (cut H1 H) (cut H0 H) := fun b o e => cut_at (none_of s (cut_new e)) (cut_sub _ _ e)
end L2

namespace L2
open PySem PySem.Spec PyProof.Rows
theorem pe_nev {X : Cx} {e : Expr} : PE X e (fun _ _ _ => False) := fun _ _ _ _ _ _ h => h.elim
end L2
namespace My
open PySem L2 PyProof.Rows
theorem mt_app {X : Cx} : MtR X "list.append" rAppend := mt_append
seal L2.PE L2.PT L2.PW L2.PS L2.PSs L2.PA L2.PI L2.PG L2.PGs L2.OpR L2.CallR L2.IxR L2.SlR L2.MtR L2.PIf L2.PO L2.MtM L2.PC
def top (i : Nat) : Stmt := PySem.Challenge.pw_halfmoved_k54_what_is_lost.main.body.getD i (.Pass ⟨0, 0, 0, 0⟩)
/-! ### names drawn -/
def abc : Str := "abcdefghijklmnopqrstuvwxyz"
theorem let_at : ∀ n < 26, abc.cps.toList[n]? = some (97 + n) := by decide +kernel
theorem let_emod (x : Int) : ∃ n : Nat, x % 26 = (n : Int) ∧ n < 26 := by
  have n0 := Int.emod_nonneg x (show (26 : Int) ≠ 0 by decide)
  have n1 := Int.emod_lt_of_pos x (show (0 : Int) < 26 by decide)
  obtain ⟨n, hn⟩ := Int.eq_ofNat_of_zero_le n0
  exact ⟨n, hn, by omega⟩
def nmA (w : Str) (c : Nat) (i : Nat) : Str := w ++ ⟨(List.replicate i c).toArray⟩
theorem nmA_len {w : Str} {c i : Nat} : (nmA w c i).length = w.length + i := by
  unfold nmA
  rw [Str.length_append]
  show _ + (List.replicate i c).toArray.size = _
  simp
theorem str_ext {a b : Str} (h : a.cps.toList = b.cps.toList) : a = b := by
  cases a; cases b
  congr 1
  exact Array.toList_inj.mp h
theorem nmA_nd {w : Str} {c : Nat} (m : Nat) : ((List.range m).map (nmA w c)).Nodup := by
  refine List.Pairwise.map _ (fun a b h e => ?_) List.nodup_range
  have := congrArg Str.length e
  rw [nmA_len, nmA_len] at this
  omega
def nmB (w : Str) (at_ : Int) (s st : Int) (i : Nat) : Str := Txt.slice w none (some at_) ++ ⟨#[97 + (s + st * (i : Nat)).toNat]⟩ ++ Txt.slice w (some (at_ + 1)) none
theorem nmB_list {w : Str} {at_ s st : Int} {i : Nat} (h0 : 0 ≤ at_) (h1 : at_ < w.length) : (nmB w at_ s st i).cps.toList = w.cps.toList.take at_.toNat ++ [97 + (s + st * (i : Nat)).toNat] ++ w.cps.toList.drop (at_ + 1).toNat := by
  unfold nmB
  rw [Str.cps_append, Array.toList_append, Str.cps_append, Array.toList_append, slice_to w h0 (by omega), slice_from w (by omega) (by omega)]
theorem nmB_len {w : Str} {at_ s st : Int} {i : Nat} (h0 : 0 ≤ at_) (h1 : at_ < w.length) : (nmB w at_ s st i).length = w.length := by
  have := congrArg List.length (nmB_list (s := s) (st := st) (i := i) h0 h1)
  have e : w.length = w.cps.toList.length := (Array.length_toList ..).symm
  rw [List.length_append, List.length_append, List.length_take, List.length_drop, ← e] at this
  show (nmB w at_ s st i).cps.size = _
  rw [← Array.length_toList, this]
  simp
  omega
theorem nmB_nd {w : Str} {at_ s st : Int} (h0 : 0 ≤ at_) (h1 : at_ < w.length) (s0 : 0 ≤ s) (t0 : 0 < st) (m : Nat) : ((List.range m).map (nmB w at_ s st)).Nodup := by
  refine List.Pairwise.map _ (fun a b h e => ?_) List.nodup_range
  have := congrArg (fun z : Str => z.cps.toList) e
  simp only [nmB_list h0 h1] at this
  rw [List.append_assoc, List.append_assoc] at this
  have h2 := List.append_cancel_left this
  injection h2 with h3
  have ha : 0 ≤ st * (a : Int) := Int.mul_nonneg (by omega) (by omega)
  have hb : 0 ≤ st * (b : Int) := Int.mul_nonneg (by omega) (by omega)
  have h4 : st * (a : Int) = st * (b : Int) := by omega
  have := Int.eq_of_mul_eq_mul_left (by omega) h4
  omega
def NmOk (z : Str) : Prop := (1 ≤ z.length ∧ z.length ≤ 8) ∧ ∀ c ∈ z.cps.toList, 97 ≤ c ∧ c < 123
def cel (ns : List Int) (k : Int) : Int := if k < ns.length then ns.getD k.toNat 0 else 0
def spCel (K : PySem.W.Frag) : Sp := fun vs H Q _ => ∃ (a : Addr) (ns : List Int) (k : Int), vs = [.ref a, .int k] ∧ SqL K H a (ns.map V.int) ∧ 0 ≤ k ∧ Q (.int (cel ns k)) H
def spNames : Sp := fun vs H Q _ => ∃ c m : Int, vs = [.int c, .int m] ∧ 0 ≤ m ∧ m ≤ 3 ∧ ∀ (l : Addr) (zs : List Str) (H' : Hp), Same H H' → cut H H' l = some (.lst (zs.map V.str)) → (zs.length : Int) = m → zs.Nodup → (∀ z ∈ zs, NmOk z) → Q (.ref l) H'
def nmN : List Str := ["_law_cell_here", "_law_many", "_law_letters", "_law_word", "_law_k", "_law_at", "_law_start", "_law_step"]
section
variable {P : Program} {w : World} {K : PySem.W.Frag} {mg : Str → Option Value} {base : Heap}
theorem ok_cel {f : Addr} {fd : FuncData} (F : Fun K "_law_cell" "_law_cell" (top 58) f fd) (B : Bl mg) : FnOk P w K mg base CX0 1 f fd ["_law_script", "_law_k"] (spCel K) := by
  have sc : FnScope ["_law_script", "_law_k"] ["_law_script", "_law_k"] (defScope (top 58)) := ⟨rfl, rfl, rfl, by decide +kernel, rfl, by decide +kernel, by decide +kernel⟩
  refine F.ok sc (fun vs H Q E h => ?_) (fun cdv A outer s H vs Q E hr h => ?_)
  · obtain ⟨a, ns, k, rfl, _⟩ := h
    rfl
  · obtain ⟨a, ns, k, rfl, ha, k0, q⟩ := h
    refine ⟨_, pss_cons (ps_if (pt_cmpR op_lt (pv 1) (pe_callB call_len_seq (by rfl) B.len PySem.boot_len (pa_cons (pv 0) pa_nil)) (nomark _)) (pss_one (ps_ret (pe_ix ix_list (pv 0) (pv 1) (fun _ _ => rfl)))) pss_nil) (pss_one (ps_ret pe_int)), ?_⟩
    refine ⟨_, rfl, _, rfl, _, _, rfl, .inl ha, _, _, rfl, rfl, _, rfl, ?_⟩
    have hl : (((ns.map V.int).length : Nat) : Int) = ns.length := by rw [List.length_map]
    refine ite2 (fun c => ?_) (fun c => ?_)
    · have c' : k < ns.length := by rw [← hl]; exact of_decide_eq_true c
      have e : cel ns k = ns.getD k.toNat 0 := by unfold cel; rw [if_pos c']
      rw [e] at q
      exact ⟨_, rfl, _, rfl, _, _, _, _, rfl, rfl, ha, item_ints k0 c', q⟩
    · have c' : ¬ k < ns.length := fun z => c (decide_eq_true (by rw [hl]; exact z))
      have e : cel ns k = 0 := by unfold cel; rw [if_neg c']
      rw [e] at q
      exact q
theorem ok_names {f : Addr} {fd : FuncData} (F : Fun K "_law_names" "_law_names" (top 59) f fd) (B : Bl mg) : FnOk P w K mg base CX0 1 f fd ["_law_cell_here", "_law_many"] spNames := by
  have sc : FnScope nmN ["_law_cell_here", "_law_many"] (defScope (top 59)) := ⟨rfl, rfl, rfl, by decide +kernel, rfl, by decide +kernel, by decide +kernel⟩
  refine F.ok sc (fun vs H Q E h => ?_) (fun cdv A outer s H vs Q E hr h => ?_)
  · obtain ⟨c, m, rfl, _⟩ := h
    rfl
  · obtain ⟨c, m, rfl, m0, m4, q⟩ := h
    have ndA : (["_law_k", "_law_word", "_law_letters", "_law_cell_here"] : List Str).Nodup := by decide +kernel
    have ndB : (["_law_k", "_law_word", "_law_at", "_law_letters", "_law_start", "_law_step"] : List Str).Nodup := by decide +kernel
    refine ⟨_, pss_cons (ps_set (i := 2) sc.nd rfl (Or.inr rfl) pe_str) (pss_cons (ps_set (i := 3) sc.nd rfl (Or.inr rfl) pe_str)
      (pss_cons (ps_for PassesOwn.never rfl (pi_range1 rfl B.range (pa_cons (pe_op op_add pe_int (pe_op op_mod (pv 0) pe_int)) pa_nil)) (pg_name (i := 4) sc.nd rfl (Or.inl rfl))
        (pss_one (ps_set (i := 3) sc.nd rfl (Or.inr rfl) (pe_op op_add_str (pv 3) (pe_ix ix_str (pv 2) (pe_op op_mod (pe_op op_add (pe_op op_fdiv (pv 0) pe_int) (pe_op op_mul pe_int (pv 4))) pe_int) (fun _ _ => rfl))))))
      (pss_cons (ps_if (pt_cmpR op_eq (pe_op op_mod (pe_op op_fdiv (pv 0) pe_int) pe_int) pe_int (nomark _)) (pss_one (ps_ret (pe_comp (osc := defScope (top 59)) (N0 := nmN) (xs := ["_law_k"]) (fr := [3, 2, 0]) ⟨rfl, by decide +kernel, by decide +kernel, by decide +kernel, (fun j hj => by
              have e : j = 3 ∨ j = 2 ∨ j = 0 := by simpa using hj
              rcases e with rfl | rfl | rfl
              · exact ⟨_, rfl, by decide +kernel⟩
              · exact ⟨_, rfl, by decide +kernel⟩
              · exact ⟨_, rfl, by decide +kernel⟩), by decide +kernel⟩ rfl rfl rfl (pi_range1 rfl B.range (pa_cons (pv 1) pa_nil))
            (fun s H fp => pg_name (i := 0) ndA rfl (Or.inl rfl)) (fun s H fp => pif_nil)
            (fun s H fp => pe_op op_add_str (pv 1) (pe_op op_mulSN (pe_ix ix_str (pv 2) (pe_op op_mod (pe_op op_fdiv (pv 3) pe_int) pe_int) (fun _ _ => rfl)) (pv 0)))))) pss_nil)
      (pss_cons (ps_set (i := 5) sc.nd rfl (Or.inr rfl) (pe_op op_mod (pe_op op_fdiv (pv 0) pe_int) (pe_callB call_len_str (by rfl) B.len PySem.boot_len (pa_cons (pv 3) pa_nil))))
      (pss_cons (ps_set (i := 6) sc.nd rfl (Or.inr rfl) (pe_op op_mod (pe_op op_fdiv (pv 0) pe_int) pe_int))
      (pss_cons (ps_set (i := 7) sc.nd rfl (Or.inr rfl) (pe_op op_add pe_int (pe_op op_mod (pe_op op_fdiv (pv 0) pe_int) pe_int)))
      (pss_one (ps_ret (pe_comp (osc := defScope (top 59)) (N0 := nmN) (xs := ["_law_k"]) (fr := [3, 5, 2, 6, 7]) ⟨rfl, by decide +kernel, by decide +kernel, by decide +kernel, (fun j hj => by
              have e : j = 3 ∨ j = 5 ∨ j = 2 ∨ j = 6 ∨ j = 7 := by simpa using hj
              rcases e with rfl | rfl | rfl | rfl | rfl
              · exact ⟨_, rfl, by decide +kernel⟩
              · exact ⟨_, rfl, by decide +kernel⟩
              · exact ⟨_, rfl, by decide +kernel⟩
              · exact ⟨_, rfl, by decide +kernel⟩
              · exact ⟨_, rfl, by decide +kernel⟩), by decide +kernel⟩ rfl rfl rfl (pi_range1 rfl B.range (pa_cons (pv 1) pa_nil))
            (fun s H fp => pg_name (i := 0) ndB rfl (Or.inl rfl)) (fun s H fp => pif_nil)
            (fun s H fp => pe_op op_add_str (pe_op op_add_str (pe_slice sl_str (pv 1) po_none (po_some (pv 2))) (pe_ix ix_str (pv 3) (pe_op op_add (pv 4) (pe_op op_mul (pv 5) (pv 0))) (fun _ _ => rfl))) (pe_slice sl_str (pv 1) (po_some (pe_op op_add (pv 2) pe_int)) po_none))))))))))), ?_⟩
    have a0 := Int.emod_nonneg c (show (4 : Int) ≠ 0 by decide)
    have a4 := Int.emod_lt_of_pos c (show (0 : Int) < 4 by decide)
    have abl : abc.length ≤ sizeLine := by decide +kernel
    refine ⟨_, rfl, _, _, rfl, rfl, (pos rfl), _, _, rfl, rfl, _, rfl, (by omega), (by omega), for_range (fun i σ H' => H' = H ∧ ∃ (z : Str) (u4 : Option V), σ = [some (.int c), some (.int m), some (.str abc), some (.str z), u4, none, none, none] ∧ z.length = i ∧ ∀ c ∈ z.cps.toList, 97 ≤ c ∧ c < 123) ⟨rfl, "", _, rfl, by decide, fun c h => nomatch h⟩ ?_ ?_⟩
    · rintro i σ H' hi ⟨rfl, z, u4, rfl, hz, hlow⟩
      obtain ⟨n, hn, n26⟩ := let_emod (c / 4 + 7 * (0 + (i : Int)))
      refine ⟨_, rfl, _, rfl, _, rfl, _, _, rfl, rfl, ⟨by decide, by decide⟩, _, rfl, _, _, rfl, rfl, .inl ⟨by decide, by decide⟩, _, _, rfl, rfl, _, _, rfl, rfl, (pos rfl), _, _, _, rfl, rfl, abl, (by rw [hn]; exact atI_nat (let_at n n26)), _, _, rfl, rfl, (by rw [sizeLine_eq]; show z.length + 1 ≤ _; omega), rfl, _, _, rfl, ?_, fun x hx => ?_⟩
      · rw [Str.length_append, hz]
        rfl
      · rw [Str.cps_append, Array.toList_append] at hx
        rcases List.mem_append.mp hx with h | h
        · exact hlow x h
        · have : x = 97 + n := by simpa using h
          omega
    rintro σ H' ⟨rfl, z, u4, rfl, hz, hlow⟩
    have zl : z.length ≤ sizeLine := by rw [sizeLine_eq]; omega
    refine ⟨_, rfl, _, _, rfl, rfl, ⟨by decide, by decide⟩, _, _, rfl, rfl, (pos rfl), rfl, _, rfl, ?_⟩
    refine ite2 (fun _ => ?_) (fun _ => ?_)
    · obtain ⟨n, hn, n26⟩ := let_emod (c / 16)
      refine ⟨_, rfl, _, rfl, (by omega), (by omega), fun D hD => ?_⟩
      refine compW_map m.toNat (fun i => .str (nmA z (97 + n) i)) (fun i σ' Hc => (∃ t, σ' = [t, some (.str z), some (.str abc), some (.int c)]) ∧ Same H' Hc) (by rw [sizeLine_eq]; omega) ⟨⟨none, rfl⟩, Same.upd hD⟩ upd_same ?_ ?_
      · rintro i σ' Hc hi ⟨⟨t, rfl⟩, sm⟩ hD'
        refine ⟨hi, ?_⟩
        rintro y H'' ⟨rfl, rfl⟩
        refine ⟨_, rfl, _, rfl, _, rfl, _, _, rfl, rfl, ⟨by decide, by decide⟩, _, _, rfl, rfl, (pos rfl), _, _, _, rfl, rfl, abl, (by rw [hn]; exact atI_nat (let_at n n26)), _, rfl, ?_⟩
        refine ⟨⟨#[97 + n]⟩, i, rfl, (by rw [Int.zero_add]), (by omega), (by show 0 < 1; decide), (by show 1 ≤ 10000; decide), fun r hr' => ?_⟩
        have er : r = ⟨(List.replicate i (97 + n)).toArray⟩ := str_ext (by rw [hr']; simp)
        subst er
        refine ⟨_, _, rfl, rfl, ?_, rfl, hD', ⟨_, rfl⟩, sm.put hD⟩
        have e2 : Str.length ⟨(List.replicate i (97 + n)).toArray⟩ = i := by show (List.replicate i (97 + n)).toArray.size = i; simp
        rw [sizeLine_eq, e2]
        omega
      · rintro σ' Hc ⟨_, sm⟩ hDn
        refine ⟨Nat.le_refl _, ?_⟩
        have e1 : (List.range m.toNat).map (fun i => V.str (nmA z (97 + n) i)) = ((List.range m.toNat).map (nmA z (97 + n))).map V.str := by rw [List.map_map]; rfl
        rw [e1] at hDn
        refine q D _ Hc sm (cut_at hD hDn) (by rw [List.length_map, List.length_range]; omega) (nmA_nd _) (fun x hx => ?_)
        obtain ⟨i, hi, rfl⟩ := List.mem_map.mp hx
        have := List.mem_range.mp hi
        refine ⟨by rw [nmA_len]; omega, fun x hx => ?_⟩
        unfold nmA at hx
        rw [Str.cps_append, Array.toList_append] at hx
        rcases List.mem_append.mp hx with h | h
        · exact hlow x h
        · have : x = 97 + n := (List.mem_replicate.mp (by simpa using h)).2
          omega
    · have lz : (0 : Int) < (z.length : Nat) := by omega
      refine ⟨_, rfl, _, _, rfl, rfl, ⟨by decide, by decide⟩, _, rfl, _, rfl, zl, _, _, rfl, rfl, lz, ?_⟩
      have t0 := Int.emod_nonneg (c / 16) (show ((z.length : Nat) : Int) ≠ 0 by omega)
      have t1 := Int.emod_lt_of_pos (c / 16) lz
      refine ⟨_, rfl, _, _, rfl, rfl, ⟨by decide, by decide⟩, _, _, rfl, rfl, (pos rfl), ?_⟩
      have s0 := Int.emod_nonneg (c / 64) (show (6 : Int) ≠ 0 by decide)
      have s1 := Int.emod_lt_of_pos (c / 64) (show (0 : Int) < 6 by decide)
      refine ⟨_, rfl, _, _, rfl, rfl, ⟨by decide, by decide⟩, _, _, rfl, rfl, (pos rfl), _, _, rfl, rfl, ?_⟩
      have p0 := Int.emod_nonneg (c / 512) (show (4 : Int) ≠ 0 by decide)
      have p1 := Int.emod_lt_of_pos (c / 512) (show (0 : Int) < 4 by decide)
      dsimp only
      generalize c / 16 % ((z.length : Nat) : Int) = at_ at *
      generalize c / 64 % 6 = st at *
      generalize hsp : 1 + c / 512 % 4 = sp at *
      have sp0 : 0 < sp := by omega
      have sp5 : sp < 5 := by omega
      refine ⟨_, rfl, _, rfl, (by omega), (by omega), fun D hD => ?_⟩
      refine compW_map m.toNat (fun i => .str (nmB z at_ st sp i)) (fun i σ' Hc => (∃ t, σ' = [t, some (.str z), some (.int at_), some (.str abc), some (.int st), some (.int sp)]) ∧ Same H' Hc) (by rw [sizeLine_eq]; omega) ⟨⟨none, rfl⟩, Same.upd hD⟩ upd_same ?_ ?_
      · rintro i σ' Hc hi ⟨⟨t, rfl⟩, sm⟩ hD'
        have hi4 : i < 4 := by omega
        refine ⟨hi, ?_⟩
        rintro y H'' ⟨rfl, rfl⟩
        have hb : 0 ≤ sp * (i : Int) := Int.mul_nonneg (by omega) (by omega)
        have hb2 : sp * (i : Int) ≤ 4 * 3 := Int.mul_le_mul (by omega) (by omega) (by omega) (by decide)
        obtain ⟨n, hn⟩ := Int.eq_ofNat_of_zero_le (show 0 ≤ st + sp * (i : Int) by omega)
        have n26 : n < 26 := by omega
        have hn' : st + sp * (0 + (i : Int)) = (n : Int) := by rw [Int.zero_add]; exact hn
        refine ⟨_, rfl, _, rfl, _, rfl, z, rfl, zl, _, rfl, _, rfl, _, rfl, _, rfl, _, _, rfl, rfl, .inl ⟨by omega, by omega⟩, _, _, rfl, rfl, _, _, _, rfl, rfl, abl, (by rw [hn']; exact atI_nat (let_at n n26)), _, _, rfl, rfl, ?_, _, rfl, _, rfl, _, _, rfl, rfl, _, rfl, z, rfl, zl, _, _, rfl, rfl, ?_, ?_, hD', ⟨_, rfl⟩, sm.put hD⟩
        · have := Txt.slice_le z none (some at_)
          rw [sizeLine_eq]
          show _ + 1 ≤ _
          omega
        · have h1 := Txt.slice_le z none (some at_)
          have h2 := Txt.slice_le z (some (at_ + 1)) none
          rw [sizeLine_eq, Str.length_append]
          show _ + 1 + _ ≤ _
          omega
        · show V.str _ = V.str (nmB z at_ st sp i)
          unfold nmB
          rw [hn]
          rfl
      · rintro σ' Hc ⟨_, sm⟩ hDn
        refine ⟨Nat.le_refl _, ?_⟩
        have e1 : (List.range m.toNat).map (fun i => V.str (nmB z at_ st sp i)) = ((List.range m.toNat).map (nmB z at_ st sp)).map V.str := by rw [List.map_map]; rfl
        rw [e1] at hDn
        refine q D _ Hc sm (cut_at hD hDn) (by rw [List.length_map, List.length_range]; omega) (nmB_nd t0 (by omega) s0 sp0 _) (fun x hx => ?_)
        obtain ⟨i, hi, rfl⟩ := List.mem_map.mp hx
        have := List.mem_range.mp hi
        have hb : 0 ≤ sp * (i : Int) := Int.mul_nonneg (by omega) (by omega)
        have hb2 : sp * (i : Int) ≤ 4 * 3 := Int.mul_le_mul (by omega) (by omega) (by omega) (by decide)
        refine ⟨by rw [nmB_len t0 (by omega)]; omega, fun x hx => ?_⟩
        rw [nmB_list t0 (by omega)] at hx
        rcases List.mem_append.mp hx with h | h
        · rcases List.mem_append.mp h with h | h
          · exact hlow x (List.mem_of_mem_take h)
          · have : x = 97 + (st + sp * (i : Nat)).toNat := by simpa using h
            omega
        · exact hlow x (List.mem_of_mem_drop h)

theorem kq {K : PySem.W.Frag} {a b : String} {r : Bool} (h : kitTy a b = some r) : PySem.W.kitOne K (.type a) (.type b) = some r := kit_eq.trans h
def spWh : Sp := fun vs H Q _ => ∃ n : Int, vs = [.int n] ∧ Q (.bl true) H
theorem ok_wh {f : Addr} {fd : FuncData} (F : Fun K "is_whole" "is_whole" (top 12) f fd) (B : Bl mg) : FnOk P w K mg base CX0 1 f fd ["thing"] spWh := by
  have sc : FnScope ["thing"] ["thing"] (defScope (top 12)) := ⟨rfl, rfl, rfl, by decide +kernel, rfl, by decide +kernel, by decide +kernel⟩
  refine F.ok sc (fun vs H Q E h => ?_) (fun cdv A outer s H vs Q E hr h => ?_)
  · obtain ⟨n, rfl, _⟩ := h
    rfl
  · obtain ⟨n, rfl, q⟩ := h
    refine ⟨_, pss_one (ps_ret (pe_and (pe_callB call_isi (by rfl) B.isi boot_isi (pa_cons (pv 0) (pa_cons (pe_bltn (v := .ty "int") (by rfl) B.int boot_int rfl) pa_nil)))
      (pe_one (pe_not (pe_callB call_isi (by rfl) B.isi boot_isi (pa_cons (pv 0) (pa_cons (pe_bltn (v := .ty "bool") (by rfl) B.bool boot_bool rfl) pa_nil))))))), ?_⟩
    refine ⟨_, rfl, _, _, _, _, rfl, .int n, kq (show kitTy "int" "int" = some true by decide +kernel), _, rfl, iteT ?_⟩
    exact ⟨_, rfl, _, _, _, _, rfl, .int n, kq (show kitTy "int" "bool" = some false by decide +kernel), _, rfl, q⟩
inductive Kk where
  | wh
  | bel (n : Int)
  | upt (n : Int)
def Kk.vs : Kk → List V
  | .wh => [.str "whole"]
  | .bel n => [.str "below", .int n]
  | .upt n => [.str "upto", .int n]
def Kk.ok : Kk → Prop
  | .bel n => 1 ≤ n
  | _ => True
def KdH (H : Hp) (k : Addr) (kd : Kk) : Prop := H k = some (.tup kd.vs) ∧ kd.ok
def spKd : Sp := fun vs H Q _ => ∃ (k : Addr) (kd : Kk), vs = [.ref k] ∧ KdH H k kd ∧ ∀ H', Same H H' → Q (.bl true) H'
def spPr : Sp := fun vs H Q _ => ∃ n : Int, ((vs = [.str "below", .int n] ∧ 1 ≤ n) ∨ vs = [.str "upto", .int n]) ∧ Q (.bl true) H
theorem ok_pr {f fW : Addr} {fd fdW : FuncData} (F : Fun K "is_plain_pair" "is_plain_pair" (top 16) f fd) (B : Bl mg) (DW : Df K mg "is_whole" (top 12) fW fdW) : FnOk P w K mg base CX0 2 f fd ["sort", "bound"] spPr := by
  have sc : FnScope ["sort", "bound"] ["sort", "bound"] (defScope (top 16)) := ⟨rfl, rfl, rfl, by decide +kernel, rfl, by decide +kernel, by decide +kernel⟩
  have GW : FnOk P w K mg base CX0 1 fW fdW ["thing"] spWh := ok_wh DW.fn B
  have bW := DW.fn.binds (ps := ["thing"]) fun _ _ _ _ _ _ us hl => by obtain ⟨v0, rfl⟩ := L2.ln1 hl; rfl
  refine F.ok sc (fun vs H Q E h => ?_) (fun cdv A outer s H vs Q E hr h => ?_)
  · obtain ⟨n, ⟨rfl, _⟩ | rfl, _⟩ := h <;> rfl
  · obtain ⟨n, hv, q⟩ := h
    refine ⟨_, pss_cons (ps_if (pt_cmpR op_eq (pv 0) pe_str (nomark _)) (pss_one (ps_ret (pe_and (pe_call GW hr (by rfl) DW.mg DW.fn.kp bW .nil pass0 (pa_cons (pv 1) pa_nil)) (pe_one (pe_cmpR op_ge (pv 1) pe_int (nomark _)))))) pss_nil)
      (pss_cons (ps_if (pt_cmpR op_eq (pv 0) pe_str (nomark _)) (pss_one (ps_ret (pe_call GW hr (by rfl) DW.mg DW.fn.kp bW .nil pass0 (pa_cons (pv 1) pa_nil)))) pss_nil) pss_never), ?_⟩
    rcases hv with ⟨rfl, n1⟩ | rfl
    · refine ⟨_, rfl, rfl, _, rfl, iteB (decide_eq_true rfl) ?_⟩
      refine ⟨_, rfl, n, rfl, _, rfl, iteT ?_⟩
      have e : decide ((1 : Int) ≤ n) = true := decide_eq_true n1
      exact ⟨_, rfl, _, _, rfl, rfl, (by dsimp only; rw [e]; exact q)⟩
    · refine ⟨_, rfl, rfl, _, rfl, iteC (decide_eq_false (by decide)) ?_⟩
      exact ⟨_, rfl, rfl, _, rfl, iteB (decide_eq_true rfl) ⟨_, rfl, n, rfl, q⟩⟩
theorem ok_pn {f fW fR : Addr} {fd fdW fdR : FuncData} (F : Fun K "is_plain" "is_plain" (top 15) f fd) (B : Bl mg) (DW : Df K mg "is_whole" (top 12) fW fdW) (DR : Df K mg "is_plain_pair" (top 16) fR fdR) : FnOk P w K mg base CX0 3 f fd ["thing"] spKd := by
  have sc : FnScope ["thing"] ["thing"] (defScope (top 15)) := ⟨rfl, rfl, rfl, by decide +kernel, rfl, by decide +kernel, by decide +kernel⟩
  have GR : FnOk P w K mg base CX0 2 fR fdR ["sort", "bound"] spPr := ok_pr DR.fn B DW
  have bR := DR.fn.binds (ps := ["sort", "bound"]) fun _ _ _ _ _ _ us hl => by obtain ⟨v0, v1, rfl⟩ := L2.ln2 hl; rfl
  refine F.ok sc (fun vs H Q E h => ?_) (fun cdv A outer s H vs Q E hr h => ?_)
  · obtain ⟨k, kd, rfl, _⟩ := h
    rfl
  · obtain ⟨k, kd, rfl, ⟨hk, ok⟩, q⟩ := h
    refine ⟨_, pss_cons (ps_if (pt_not (pt_val (pe_callB call_isi (by rfl) B.isi boot_isi (pa_cons (pv 0) (pa_cons (pe_bltn (v := .ty "tuple") (by rfl) B.tuple boot_tuple rfl) pa_nil))))) pss_never pss_nil)
      (pss_cons (ps_if (pt_cmpR op_eq (pe_callB call_len_seq (by rfl) B.len PySem.boot_len (pa_cons (pv 0) pa_nil)) pe_int (nomark _)) (pss_one (ps_ret (pe_cmpR op_in_seq (pe_ix ix_tup (pv 0) pe_int (fun _ _ => rfl)) (pe_tup (pa_cons pe_str (pa_cons pe_str pa_nil))) (by with_unfolding_all rfl)))) pss_nil)
      (pss_one (ps_ret (pe_and (pe_cmpR op_eq (pe_callB call_len_seq (by rfl) B.len PySem.boot_len (pa_cons (pv 0) pa_nil)) pe_int (nomark _))
        (pe_one (pe_call GR hr (by rfl) DR.mg DR.fn.kp bR .nil pass0 (pa_cons (pe_ix ix_tup (pv 0) pe_int (fun _ _ => rfl)) (pa_cons (pe_ix ix_tup (pv 0) pe_int (fun _ _ => rfl)) pa_nil)))))))), ?_⟩
    refine ⟨_, rfl, _, _, _, _, rfl, .tup hk, kq (show kitTy "tuple" "tuple" = some true by decide +kernel), _, rfl, iteF ?_⟩
    cases kd with
    | wh =>
      refine ⟨_, rfl, _, _, rfl, .inr (SqT.of hk), rfl, _, rfl, iteB (decide_eq_true rfl) ?_⟩
      refine ⟨_, rfl, _, _, 0, .str "whole", rfl, rfl, SqT.of hk, rfl, (by show 2 ≤ sizeLine; decide), fun p hp => ?_⟩
      have T := Same.upd (o := .tup [V.str "whole", .str "word"]) hp
      refine ⟨p, _, rfl, .inr (SqT.of upd_same), rfl, rfl, ?_⟩
      exact q _ T
    | bel n =>
      refine ⟨_, rfl, _, _, rfl, .inr (SqT.of hk), rfl, _, rfl, iteC (decide_eq_false fun h => absurd (show V.int 2 = V.int 1 from h) (by decide)) ?_⟩
      refine ⟨_, rfl, _, _, rfl, .inr (SqT.of hk), rfl, _, rfl, iteB (decide_eq_true rfl) ?_⟩
      exact ⟨_, rfl, _, _, 0, _, rfl, rfl, SqT.of hk, rfl, _, rfl, _, _, 1, _, rfl, rfl, SqT.of hk, rfl, n, .inl ⟨rfl, ok⟩, q H (Same.refl H)⟩
    | upt n =>
      refine ⟨_, rfl, _, _, rfl, .inr (SqT.of hk), rfl, _, rfl, iteC (decide_eq_false fun h => absurd (show V.int 2 = V.int 1 from h) (by decide)) ?_⟩
      refine ⟨_, rfl, _, _, rfl, .inr (SqT.of hk), rfl, _, rfl, iteB (decide_eq_true rfl) ?_⟩
      exact ⟨_, rfl, _, _, 0, _, rfl, rfl, SqT.of hk, rfl, _, rfl, _, _, 1, _, rfl, rfl, SqT.of hk, rfl, n, .inr rfl, q H (Same.refl H)⟩
theorem ok_kd {f fP fW fR : Addr} {fd fdP fdW fdR : FuncData} (F : Fun K "is_kind" "is_kind" (top 17) f fd) (B : Bl mg) (DP : Df K mg "is_plain" (top 15) fP fdP) (DW : Df K mg "is_whole" (top 12) fW fdW) (DR : Df K mg "is_plain_pair" (top 16) fR fdR) : FnOk P w K mg base CX0 4 f fd ["thing"] spKd := by
  have sc : FnScope ["thing"] ["thing"] (defScope (top 17)) := ⟨rfl, rfl, rfl, by decide +kernel, rfl, by decide +kernel, by decide +kernel⟩
  have GP : FnOk P w K mg base CX0 3 fP fdP ["thing"] spKd := ok_pn DP.fn B DW DR
  have bP := DP.fn.binds (ps := ["thing"]) fun _ _ _ _ _ _ us hl => by obtain ⟨v0, rfl⟩ := L2.ln1 hl; rfl
  refine F.ok sc (fun vs H Q E h => ?_) (fun cdv A outer s H vs Q E hr h => ?_)
  · obtain ⟨k, kd, rfl, _⟩ := h
    rfl
  · obtain ⟨k, kd, rfl, hk, q⟩ := h
    refine ⟨_, pss_cons (ps_if (pt_val (pe_call GP hr (by rfl) DP.mg DP.fn.kp bP .nil pass0 (pa_cons (pv 0) pa_nil))) (pss_one (ps_ret pe_bl)) pss_nil) pss_never, ?_⟩
    exact ⟨_, rfl, k, kd, rfl, hk, fun H' s' => ⟨_, rfl, iteT (q H' s')⟩⟩
def spFits : Sp := fun vs H Q _ => ∃ (k : Addr) (n : Int) (sz : V), vs = [.ref k, .int n, sz] ∧ H k = some (.tup [.str "whole"]) ∧ ∀ H', Same H H' → Q (.bl true) H'
def spFitP : Sp := fun vs H Q _ => ∃ (k : Addr) (n : Int), vs = [.ref k, .int n] ∧ H k = some (.tup [.str "whole"]) ∧ ∀ H', Same H H' → Q (.bl true) H'
theorem ok_fitP {f fW : Addr} {fd fdW : FuncData} (F : Fun K "fits_plain" "fits_plain" (top 20) f fd) (B : Bl mg) (DW : Df K mg "is_whole" (top 12) fW fdW) : FnOk P w K mg base CX0 2 f fd ["kind", "value"] spFitP := by
  have sc : FnScope ["kind", "value"] ["kind", "value"] (defScope (top 20)) := ⟨rfl, rfl, rfl, by decide +kernel, rfl, by decide +kernel, by decide +kernel⟩
  have GW : FnOk P w K mg base CX0 1 fW fdW ["thing"] spWh := ok_wh DW.fn B
  have bW := DW.fn.binds (ps := ["thing"]) fun _ _ _ _ _ _ us hl => by obtain ⟨v0, rfl⟩ := L2.ln1 hl; rfl
  refine F.ok sc (fun vs H Q E h => ?_) (fun cdv A outer s H vs Q E hr h => ?_)
  · obtain ⟨k, n, rfl, _⟩ := h
    rfl
  · obtain ⟨k, n, rfl, hk, q⟩ := h
    refine ⟨_, pss_cons (ps_if (pt_cmpR op_in_seq (pe_ix ix_tup (pv 0) pe_int (fun _ _ => rfl)) (pe_tup (pa_cons pe_str (pa_cons pe_str pa_nil))) (by with_unfolding_all rfl)) pss_never pss_nil)
      (pss_cons (ps_if (pt_not (pt_val (pe_call GW hr (by rfl) DW.mg DW.fn.kp bW .nil pass0 (pa_cons (pv 1) pa_nil)))) pss_never pss_nil)
      (pss_cons (ps_if (pt_cmpR op_eq (pe_ix ix_tup (pv 0) pe_int (fun _ _ => rfl)) pe_str (nomark _)) pss_never pss_nil)
      (pss_one (ps_ret (pe_or (pe_cmpR op_eq (pe_ix ix_tup (pv 0) pe_int (fun _ _ => rfl)) pe_str (nomark _)) pe_nev))))), ?_⟩
    refine ⟨_, rfl, k, _, 0, .str "whole", rfl, rfl, SqT.of hk, rfl, (by show 2 ≤ sizeLine; decide), fun p hp => ?_⟩
    have T := Same.upd (o := .tup [V.str "word", .str "without"]) hp
    refine ⟨p, _, rfl, .inr (SqT.of upd_same), rfl, rfl, _, rfl, iteF ?_⟩
    have hk' := T _ _ hk
    refine ⟨_, rfl, n, rfl, _, rfl, iteF ?_⟩
    refine ⟨_, rfl, k, _, 0, .str "whole", rfl, rfl, SqT.of hk', rfl, rfl, _, rfl, iteC (decide_eq_false (by decide)) ?_⟩
    exact ⟨_, rfl, k, _, 0, .str "whole", rfl, rfl, SqT.of hk', rfl, rfl, _, rfl, iteB (decide_eq_true rfl) (q _ T)⟩
theorem ok_fits {f fP fW : Addr} {fd fdP fdW : FuncData} (F : Fun K "fits" "fits" (top 18) f fd) (B : Bl mg) (DP : Df K mg "fits_plain" (top 20) fP fdP) (DW : Df K mg "is_whole" (top 12) fW fdW) : FnOk P w K mg base CX0 3 f fd ["kind", "value", "size"] spFits := by
  have sc : FnScope ["kind", "value", "size", "sort"] ["kind", "value", "size"] (defScope (top 18)) := ⟨rfl, rfl, rfl, by decide +kernel, rfl, by decide +kernel, by decide +kernel⟩
  have GP : FnOk P w K mg base CX0 2 fP fdP ["kind", "value"] spFitP := ok_fitP DP.fn B DW
  have bP := DP.fn.binds (ps := ["kind", "value"]) fun _ _ _ _ _ _ us hl => by obtain ⟨v0, v1, rfl⟩ := L2.ln2 hl; rfl
  refine F.ok sc (fun vs H Q E h => ?_) (fun cdv A outer s H vs Q E hr h => ?_)
  · obtain ⟨k, n, sz, rfl, _⟩ := h
    rfl
  · obtain ⟨k, n, sz, rfl, hk, q⟩ := h
    refine ⟨_, pss_cons (ps_set (i := 3) sc.nd rfl (Or.inl rfl) (pe_ix ix_tup (pv 0) pe_int (fun _ _ => rfl)))
      (pss_cons (ps_if (pt_cmpR op_eq (pv 3) pe_str (nomark _)) pss_never pss_nil)
      (pss_cons (ps_if (pt_cmpR op_eq (pv 3) pe_str (nomark _)) pss_never pss_nil)
      (pss_cons (ps_if (pt_cmpR op_in_seq (pv 3) (pe_tup (pa_cons pe_str (pa_cons pe_str pa_nil))) (by with_unfolding_all rfl)) pss_never pss_nil)
      (pss_one (ps_ret (pe_call GP hr (by rfl) DP.mg DP.fn.kp bP .nil pass0 (pa_cons (pv 0) (pa_cons (pv 1) pa_nil)))))))), ?_⟩
    refine ⟨_, rfl, k, _, 0, .str "whole", rfl, rfl, SqT.of hk, rfl, ?_⟩
    refine ⟨_, rfl, rfl, _, rfl, iteC (decide_eq_false (by decide)) ?_⟩
    refine ⟨_, rfl, rfl, _, rfl, iteC (decide_eq_false (by decide)) ?_⟩
    refine ⟨_, rfl, (by show 2 ≤ sizeLine; decide), fun p hp => ?_⟩
    have T := Same.upd (o := .tup [V.str "list", .str "some"]) hp
    refine ⟨p, _, rfl, .inr (SqT.of upd_same), rfl, rfl, _, rfl, iteF ?_⟩
    exact ⟨_, rfl, _, rfl, k, n, rfl, T _ _ hk, fun H' s' => q H' (T.trans s')⟩
def spName : Sp := fun vs H Q _ => ∃ z : Str, vs = [.str z] ∧ NmOk z ∧ ∀ H', Same H H' → Q (.bl true) H'
def letters : List Nat := ("abcdefghijklmnopqrstuvwxyz" : Str).cps.toList
theorem low_let : ∀ c : Nat, 97 ≤ c → c < 123 → c ∈ letters := fun c h1 h2 => by
  have : ∀ n < 26, 97 + n ∈ letters := by decide +kernel
  obtain ⟨n, rfl⟩ := Nat.exists_eq_add_of_le h1
  exact this n (by omega)
theorem ok_name {f : Addr} {fd : FuncData} (F : Fun K "is_name" "is_name" (top 13) f fd) (B : Bl mg) {uL uN : Value} (hL : mg "LETTERS" = some uL) (rL : RelV (.str "abcdefghijklmnopqrstuvwxyz") uL) (hN : mg "LONGEST_NAME" = some uN) (rN : RelV (.int 8) uN) :
    FnOk P w K mg base CX0 1 f fd ["thing"] spName := by
  have sc : FnScope ["thing"] ["thing"] (defScope (top 13)) := ⟨rfl, rfl, rfl, by decide +kernel, rfl, by decide +kernel, by decide +kernel⟩
  refine F.ok sc (fun vs H Q E h => ?_) (fun cdv A outer s H vs Q E hr h => ?_)
  · obtain ⟨z, rfl, _⟩ := h
    rfl
  · obtain ⟨z, rfl, ⟨⟨z1, z8⟩, hz⟩, q⟩ := h
    have hzl : z.length ≤ sizeLine := by rw [sizeLine_eq]; omega
    refine ⟨_, pss_cons (ps_if (PW.pt (pw_or (pt_not (pt_val (pe_callB call_isi (by rfl) B.isi boot_isi (pa_cons (pv 0) (pa_cons (pe_bltn (v := .ty "str") (by rfl) B.str boot_str rfl) pa_nil)))))
        (pw_or1 (pt_not (pt_chain op_le op_le pe_int (pe_callB call_len_str (by rfl) B.len PySem.boot_len (pa_cons (pv 0) pa_nil)) (pe_glob (by rfl) hN rN)))))) pss_never pss_nil)
      (pss_one (ps_ret (pe_callB (call_all rfl) (by rfl) B.all boot_all (pa_cons (pe_comp (osc := defScope (top 13)) (N0 := ["thing"]) (xs := ["sign"]) (fr := []) ⟨rfl, by decide +kernel, by decide +kernel, by decide +kernel, by decide, by decide +kernel⟩ rfl rfl rfl (pi_str (pv 0))
        (fun s H fp => pg_name (i := 0) (show (["sign"] : List Str).Nodup by decide +kernel) rfl (Or.inl rfl)) (fun s H fp => pif_nil) (fun s H fp => pe_cmpR op_in_str (pv 0) (pe_glob (by rfl) hL rL) (by with_unfolding_all rfl))) pa_nil)))), ?_⟩
    refine ⟨_, rfl, _, _, _, _, rfl, .str z, kq (show kitTy "str" "str" = some true by decide +kernel), _, rfl, iteF ?_⟩
    refine ⟨_, rfl, _, rfl, hzl, _, _, rfl, rfl, _, rfl, iteB (decide_eq_true (by omega)) ?_⟩
    refine ⟨_, _, rfl, rfl, _, rfl, iteC (by rw [decide_eq_true (show ((z.length : Nat) : Int) ≤ 8 by omega)]; rfl) ?_⟩
    refine ⟨_, rfl, _, rfl, fun D hD => ?_⟩
    have hlen : z.cps.toList.length = z.cps.size := Array.length_toList
    refine compW_map z.cps.size (fun _ => .bl true) (fun i σ' Hc => (∃ a, σ' = [a]) ∧ Hc = upd H D (.lst ((List.range i).map fun _ => .bl true))) hzl ⟨⟨none, rfl⟩, rfl⟩ upd_same ?_ ?_
    · rintro i σ' Hc hi ⟨⟨a, rfl⟩, rfl⟩ hD'
      refine ⟨hi, ?_⟩
      rintro x H' ⟨rfl, c, hc, rfl⟩
      refine ⟨_, rfl, _, _, rfl, rfl, ?_, hD', ⟨_, rfl⟩, upd_upd⟩
      have hm : c ∈ z.cps.toList := by
        rw [← Array.getElem?_toList] at hc
        exact List.mem_of_getElem? hc
      have := StrLaws.found_one "abcdefghijklmnopqrstuvwxyz" c
      rw [decide_eq_true (show c ∈ ("abcdefghijklmnopqrstuvwxyz" : Str).cps.toList from low_let c (hz c hm).1 (hz c hm).2)] at this
      exact congrArg V.bl this
    · rintro σ' Hc ⟨_, rfl⟩ hDn
      refine ⟨Nat.le_refl _, D, (List.range z.cps.size).map fun _ => true, rfl, SqL.of (by rw [upd_same, List.map_map]; rfl), ?_⟩
      rw [show ((List.range z.cps.size).map fun _ => true).all id = true by simp]
      exact q _ (Same.upd hD)
end
end My

namespace L2
open PySem PySem.Spec PyProof.Rows
theorem sIx_at {n d : Nat} {k : Int} (h0 : 0 ≤ k) (h1 : k ≤ n) : HT.sIx n d (some k) = k.toNat := by
  have e := HT.clip_eq k n d
  rw [if_neg (by omega)] at e
  omega
theorem cut_to {xs : List V} {k : Int} (h0 : 0 ≤ k) (h1 : k ≤ xs.length) : cutV xs none (some k) = xs.take k.toNat := by
  unfold cutV
  rw [sIx_at h0 h1, HT.sIx_none, List.drop_zero, Nat.sub_zero]
theorem cut_from {xs : List V} {k : Int} (h0 : 0 ≤ k) (h1 : k ≤ xs.length) : cutV xs (some k) none = xs.drop k.toNat := by
  unfold cutV
  rw [sIx_at h0 h1, HT.sIx_none]
  refine List.take_of_length_le ?_
  rw [List.length_drop]
  omega
theorem pg_tupK {X : Cx} {K : PySem.W.Frag} {es : List Expr} {k : Nat} {pos : Pos} {t : TGs} {n : Nat} (hK : X.K = K) (hc : X.calm = true) (h : PGs X es t)
    (hn : (assignEach es X.env).length = n := by rfl) (hst : (assignEach es X.env).findIdx? (·.1) = none := by rfl) : PG X (.Tuple es k pos) (gTup K n t) := by
  subst hK
  exact pg_tup hc h hn hst
def rDictT (K : PySem.W.Frag) : List V → Hp → VK → Prop := fun xs H Q => ∃ (t : Addr) (o : Obj) (ys : List V) (kvs : List (Key × V)), xs = [.ref t] ∧ H t = some (.frz o (.tup ys)) ∧ o.dict = none ∧ ys.length ≤ 1000 ∧ kvs.length = ys.length ∧
    (∀ (i : Nat) (k : Key) (v : V), kvs[i]? = some (k, v) → ∃ p, ys[i]? = some (.ref p) ∧ SqT K H p [kV k, v]) ∧ (kvs.map (·.1)).Nodup ∧ ∀ p, H p = none → Q (.ref p) (upd H p (.dK kvs))
theorem call_dictTK {X : Cx} {K : PySem.W.Frag} (hK : X.K = K) (hc : X.calm = true) : CallR X (.type "dict") (rDictT K) := by
  subst hK
  exact call_dictT hc
end L2
namespace My
open PySem L2 PyProof.Rows
seal L2.PE L2.PT L2.PW L2.PS L2.PSs L2.PA L2.PI L2.PG L2.PGs L2.OpR L2.CallR L2.IxR L2.SlR L2.MtR L2.PIf L2.PO L2.MtM L2.PC
/-! ### forms of one table with one column -/
abbrev Cl := List (Str × Addr)
def ColA (H : Hp) (ct : Addr) (cols : Cl) : Prop := ∃ (o : Obj) (ps : List Addr), o.dict = none ∧ H ct = some (.frz o (.tup (ps.map V.ref))) ∧ ps.length = cols.length ∧ ∀ (j : Nat) (p : Addr) (c : Str × Addr), ps[j]? = some p → cols[j]? = some c → H p = some (.tup [.str c.1, .ref c.2])
def EnA (H : Hp) (e : Addr) (T : Str) (cols : Cl) : Prop := ∃ ct, H e = some (.tup [.str T, .str "head", .ref ct]) ∧ ColA H ct cols
def FmA (H : Hp) (f : Addr) (sz : Int) (T : Str) (cols : Cl) : Prop := ∃ tt e : Addr, H f = some (.tup [.int sz, .ref tt]) ∧ H tt = some (.tup [.ref e]) ∧ EnA H e T cols
theorem ColA.nt {H H' : Hp} (s : Ntb H H') {ct : Addr} {cols : Cl} (h : ColA H ct cols) : ColA H' ct cols := let ⟨o, p, a, b, l, c⟩ := h; ⟨o, p, a, s _ _ b (fun _ h => by cases h), l, fun j x y e1 e2 => s _ _ (c j x y e1 e2) (fun _ h => by cases h)⟩
theorem EnA.nt {H H' : Hp} (s : Ntb H H') {e : Addr} {T : Str} {cols : Cl} (h : EnA H e T cols) : EnA H' e T cols := let ⟨ct, a, b⟩ := h; ⟨ct, s _ _ a (fun _ h => by cases h), b.nt s⟩
theorem FmA.nt {H H' : Hp} (s : Ntb H H') {f : Addr} {sz : Int} {T : Str} {cols : Cl} (h : FmA H f sz T cols) : FmA H' f sz T cols := let ⟨tt, e, a, b, c⟩ := h; ⟨tt, e, s _ _ a (fun _ h => by cases h), s _ _ b (fun _ h => by cases h), c.nt s⟩
theorem FmA.same {H H' : Hp} (s : Same H H') {f : Addr} {sz : Int} {T : Str} {cols : Cl} (h : FmA H f sz T cols) : FmA H' f sz T cols := h.nt (.of s)
theorem KdH.nt {H H' : Hp} (s : Ntb H H') {k : Addr} {kd : Kk} (h : KdH H k kd) : KdH H' k kd := ⟨s _ _ h.1 (fun _ h => by cases h), h.2⟩
structure CsOk (H : Hp) (cols : Cl) : Prop where
  nd : (cols.map (·.1)).Nodup
  le : cols.length ≤ 12
  ok : ∀ c ∈ cols, NmOk c.1 ∧ ∃ kd, KdH H c.2 kd
theorem CsOk.nt {H H' : Hp} (s : Ntb H H') {cols : Cl} (h : CsOk H cols) : CsOk H' cols := ⟨h.nd, h.le, fun c hc => ⟨(h.ok c hc).1, let ⟨kd, e⟩ := (h.ok c hc).2; ⟨kd, e.nt s⟩⟩⟩
def dC (cols : Cl) : List (Key × V) := cols.map fun c => (.inr c.1, .ref c.2)
theorem dC_nd {cols : Cl} (h : (cols.map (·.1)).Nodup) : ((dC cols).map (·.1)).Nodup := by
  unfold dC
  rw [List.map_map, show ((fun x : Key × V => x.1) ∘ fun c : Str × Addr => ((Sum.inr c.1 : Key), V.ref c.2)) = (Sum.inr ∘ fun c : Str × Addr => c.1) from rfl, ← List.map_map]
  exact List.Pairwise.map _ (fun a b hab h => hab (by injection h)) h
theorem dC_val : ∀ {cols : Cl} {c : Str × Addr}, (cols.map (·.1)).Nodup → c ∈ cols → valV (dC cols) (.inr c.1) = some (.ref c.2)
  | [], _, _, h => nomatch h
  | d :: r, c, nd, h => by
    rw [List.map_cons, List.nodup_cons] at nd
    rcases List.mem_cons.mp h with rfl | h
    · unfold valV dC
      simp
    · have ne : d.1 ≠ c.1 := fun e => nd.1 (List.mem_map.mpr ⟨c, h, e.symm⟩)
      have ih := dC_val nd.2 h
      unfold valV dC at ih ⊢
      rw [List.map_cons, List.find?_cons_of_neg (by simp [ne])]
      exact ih
theorem pairs_at {K : PySem.W.Frag} {H : Hp} {ps : List Addr} {cols : Cl} (hl : ps.length = cols.length) (hp : ∀ (j : Nat) (p : Addr) (c : Str × Addr), ps[j]? = some p → cols[j]? = some c → H p = some (.tup [.str c.1, .ref c.2])) : ∀ (j : Nat) (k : Key) (v : V), (dC cols)[j]? = some (k, v) → ∃ p, (ps.map V.ref)[j]? = some (.ref p) ∧ SqT K H p [kV k, v] := fun j k v hj => by
  unfold dC at hj
  rw [List.getElem?_map] at hj
  obtain ⟨c, ec, e2⟩ := Option.map_eq_some_iff.mp hj
  cases e2
  have hjc := (List.getElem?_eq_some_iff.mp ec).1
  have hjp : j < ps.length := by omega
  exact ⟨ps[j], by rw [List.getElem?_map, List.getElem?_eq_getElem hjp]; rfl, SqT.of (hp j ps[j] c (List.getElem?_eq_getElem hjp) ec)⟩
def spTabs : Sp := fun vs H Q _ => ∃ (f : Addr) (sz : Int) (T : Str) (cols : Cl), vs = [.ref f] ∧ FmA H f sz T cols ∧ ∀ p H', Same H H' → H' p = some (.lst [.str T]) → Q (.ref p) H'
def spTabIn : Sp := fun vs H Q _ => ∃ (f : Addr) (sz : Int) (T : Str) (cols : Cl), vs = [.ref f, .str T] ∧ FmA H f sz T cols ∧ ∀ e, EnA H e T cols → Q (.ref e) H
def spColsOf : Sp := fun vs H Q _ => ∃ (f : Addr) (sz : Int) (T : Str) (cols : Cl), vs = [.ref f, .str T] ∧ FmA H f sz T cols ∧ (cols.map (·.1)).Nodup ∧ cols.length ≤ 12 ∧ ∀ d H', Same H H' → cut H H' d = some (.dK (dC cols)) → Q (.ref d) H'
def spParts : Sp := fun vs H Q _ => ∃ (f : Addr) (sz : Int) (T : Str) (cols : Cl), vs = [.ref f] ∧ FmA H f sz T cols ∧ (cols.map (·.1)).Nodup ∧ cols.length ≤ 12 ∧ ∀ l e d H', Same H H' → H' l = some (.lst [.ref e]) → H' e = some (.tup [.str T, .str "head", .ref d]) → H' d = some (.dK (dC cols)) → Q (.ref l) H'
def spAskS : Sp := fun vs H Q _ => ∃ p : Addr, vs = [.ref p] ∧ H p = some (.lst [.str "head"]) ∧ ∀ H', Same H H' → Q .non H'
def spAskN : Sp := fun vs H Q _ => ∃ (p : Addr) (T : Str), vs = [.ref p] ∧ H p = some (.lst [.str T]) ∧ NmOk T ∧ ∀ H', Same H H' → Q .non H'
def spColM : Sp := fun vs H Q _ => ∃ (d : Addr) (cols : Cl), vs = [.ref d] ∧ H d = some (.dK (dC cols)) ∧ CsOk H cols ∧ ∀ ct H', Same H H' → Q (.ref ct) H'
theorem upd_lst {H : Hp} {D : Addr} {ys : List V} {o : HO} (e : H D = some (.lst ys)) : ∀ b u, H b = some u → (∀ zs, u ≠ .lst zs) → upd H D o b = some u := fun b u h n => by
  rw [upd_ne fun z => by rw [z, e] at h; cases h; exact n ys rfl]
  exact h
section
variable {P : Program} {w : World} {K : PySem.W.Frag} {mg : Str → Option Value} {base : Heap}
theorem ok_tabs {f : Addr} {fd : FuncData} (F : Fun K "tables_of" "tables_of" (top 27) f fd) : FnOk P w K mg base CX0 1 f fd ["form"] spTabs := by
  have sc : FnScope ["form"] ["form"] (defScope (top 27)) := ⟨rfl, rfl, rfl, by decide +kernel, rfl, by decide +kernel, by decide +kernel⟩
  refine F.ok sc (fun vs H Q E h => ?_) (fun cdv A outer s H vs Q E hr h => ?_)
  · obtain ⟨f, sz, T, cols, rfl, _⟩ := h
    rfl
  · obtain ⟨f, sz, T, cols, rfl, ⟨tt, e, h1, h2, ct, h3, h4⟩, q⟩ := h
    refine ⟨_, pss_one (ps_ret (pe_comp (osc := defScope (top 27)) (N0 := ["form"]) (xs := ["entry"]) (fr := []) ⟨rfl, by decide +kernel, by decide +kernel, by decide +kernel, by decide, by decide +kernel⟩ rfl rfl rfl (pi_tup (pe_ix ix_tup (pv 0) pe_int (fun _ _ => rfl)))
        (fun s H fp => pg_name (i := 0) (show (["entry"] : List Str).Nodup by decide +kernel) rfl (Or.inl rfl)) (fun s H fp => pif_nil) (fun s H fp => pe_ix (r := rIxT K) ix_tup (pv 0) pe_int (fun _ _ => rfl)))), ?_⟩
    refine ⟨_, rfl, _, _, 1, _, rfl, rfl, SqT.of h1, rfl, tt, rfl, ⟨_, SqT.of h2⟩, fun D hD => ?_⟩
    have S := Same.upd (o := .lst []) hD
    refine compW1 upd_same ⟨_, V.ref e, SqT.of (S _ _ h2), rfl⟩ ?_
    rintro x H' ⟨rfl, hx'⟩
    cases hx' _ (SqT.of (S _ _ h2))
    refine ⟨_, rfl, _, _, 0, _, rfl, rfl, SqT.of (S _ _ h3), rfl, upd_same, ⟨_, SqT.of ((S.put hD) _ _ h2), Nat.le_refl _⟩, q D _ (S.put hD) upd_same⟩
theorem ok_tabIn {f : Addr} {fd : FuncData} (F : Fun K "table_in" "table_in" (top 29) f fd) : FnOk P w K mg base CX0 1 f fd ["form", "table"] spTabIn := by
  have sc : FnScope ["form", "table", "entry"] ["form", "table"] (defScope (top 29)) := ⟨rfl, rfl, rfl, by decide +kernel, rfl, by decide +kernel, by decide +kernel⟩
  refine F.ok sc (fun vs H Q E h => ?_) (fun cdv A outer s H vs Q E hr h => ?_)
  · obtain ⟨f, sz, T, cols, rfl, _⟩ := h
    rfl
  · obtain ⟨f, sz, T, cols, rfl, ⟨tt, e, h1, h2, en⟩, q⟩ := h
    obtain ⟨ct, h3, h4⟩ := id en
    refine ⟨_, pss_cons (ps_for PassesOwn.never rfl (pi_tup (pe_ix ix_tup (pv 0) pe_int (fun _ _ => rfl))) (pg_name (i := 2) sc.nd rfl (Or.inl rfl))
        (pss_one (ps_if (pt_cmpR op_eq (pe_ix ix_tup (pv 2) pe_int (fun _ _ => rfl)) (pv 1) (nomark _)) (pss_one (ps_ret (pv 2))) pss_nil))) pss_never, ?_⟩
    refine ⟨_, rfl, _, _, 1, _, rfl, rfl, SqT.of h1, rfl, tt, rfl, ⟨_, SqT.of h2⟩, for_tup1 (K := K) (a := tt) (x := .ref e) (SqT.of h2) ?_⟩
    exact ⟨_, rfl, _, _, 0, _, rfl, rfl, SqT.of h3, rfl, _, rfl, rfl, _, rfl, iteB (decide_eq_true rfl) ⟨_, rfl, q e en⟩⟩
theorem ok_colsOf {f fT : Addr} {fd fdT : FuncData} (F : Fun K "columns_of" "columns_of" (top 28) f fd) (B : Bl mg) (DT : Df K mg "table_in" (top 29) fT fdT) : FnOk P w K mg base CX0 2 f fd ["form", "table"] spColsOf := by
  have sc : FnScope ["form", "table"] ["form", "table"] (defScope (top 28)) := ⟨rfl, rfl, rfl, by decide +kernel, rfl, by decide +kernel, by decide +kernel⟩
  have GT : FnOk P w K mg base CX0 1 fT fdT ["form", "table"] spTabIn := ok_tabIn DT.fn
  have bT := DT.fn.binds (ps := ["form", "table"]) fun _ _ _ _ _ _ us hl => by obtain ⟨v0, v1, rfl⟩ := L2.ln2 hl; rfl
  refine F.ok sc (fun vs H Q E h => ?_) (fun cdv A outer s H vs Q E hr h => ?_)
  · obtain ⟨f, sz, T, cols, rfl, _⟩ := h
    rfl
  · obtain ⟨f, sz, T, cols, rfl, hf, nd, le, q⟩ := h
    refine ⟨_, pss_one (ps_ret (pe_callTy (call_dictT rfl) (by rfl) B.dict boot_dict (pa_cons (pe_ix ix_tup (pe_call GT hr (by rfl) DT.mg DT.fn.kp bT .nil pass0 (pa_cons (pv 0) (pa_cons (pv 1) pa_nil))) pe_int (fun _ _ => rfl)) pa_nil))), ?_⟩
    refine ⟨_, rfl, _, rfl, f, sz, T, cols, rfl, hf, fun e he => ?_⟩
    obtain ⟨ct, g1, o, ps, ho, hct, pl, hp⟩ := he
    exact ⟨_, _, 2, _, rfl, rfl, SqT.of g1, rfl, ct, o, _, dC cols, rfl, hct, ho, (by rw [List.length_map]; omega), (by unfold dC; rw [List.length_map, List.length_map, pl]), pairs_at pl hp, dC_nd nd, fun d hd => q d _ (Same.upd hd) (cut_at hd upd_same)⟩
theorem ok_parts {f : Addr} {fd : FuncData} (F : Fun K "parts_of" "parts_of" (top 30) f fd) (B : Bl mg) : FnOk P w K mg base CX0 1 f fd ["form"] spParts := by
  have sc : FnScope ["form"] ["form"] (defScope (top 30)) := ⟨rfl, rfl, rfl, by decide +kernel, rfl, by decide +kernel, by decide +kernel⟩
  refine F.ok sc (fun vs H Q E h => ?_) (fun cdv A outer s H vs Q E hr h => ?_)
  · obtain ⟨f, sz, T, cols, rfl, _⟩ := h
    rfl
  · obtain ⟨f, sz, T, cols, rfl, ⟨tt, e, h1, h2, ct, h3, o, ps, ho, hct, pl, hp⟩, nd, le, q⟩ := h
    refine ⟨_, pss_one (ps_ret (pe_comp (osc := defScope (top 30)) (N0 := ["form"]) (xs := ["name", "sort", "columns"]) (fr := []) ⟨rfl, by decide +kernel, by decide +kernel, by decide +kernel, by decide, by decide +kernel⟩ rfl rfl rfl (pi_tup (pe_ix ix_tup (pv 0) pe_int (fun _ _ => rfl)))
          (fun s H fp => pg_tupK (K := K) (n := 3) rfl rfl (pgs_cons (pg_name (i := 0) (show (["name", "sort", "columns"] : List Str).Nodup by decide +kernel) rfl (Or.inl rfl)) (pgs_cons (pg_name (i := 1) (show (["name", "sort", "columns"] : List Str).Nodup by decide +kernel) rfl (Or.inl rfl)) (pgs_cons (pg_name (i := 2) (show (["name", "sort", "columns"] : List Str).Nodup by decide +kernel) rfl (Or.inl rfl)) pgs_nil)))) (fun s H fp => pif_nil)
          (fun s H fp => pe_tup (pa_cons (pv 0) (pa_cons (pv 1) (pa_cons (pe_callTy (call_dictTK (K := K) rfl rfl) (by rfl) B.dict boot_dict (pa_cons (pv 2) pa_nil)) pa_nil)))))), ?_⟩
    refine ⟨_, rfl, _, _, 1, _, rfl, rfl, SqT.of h1, rfl, tt, rfl, ⟨_, SqT.of h2⟩, fun D hD => ?_⟩
    have S := Same.upd (o := .lst []) hD
    refine compW1 upd_same ⟨_, V.ref e, SqT.of (S _ _ h2), rfl⟩ ?_
    rintro x H' ⟨rfl, hx'⟩
    cases hx' _ (SqT.of (S _ _ h2))
    refine ⟨_, _, rfl, SqT.of (S _ _ h3), rfl, _, _, rfl, _, _, rfl, _, _, rfl, rfl, ?_⟩
    refine ⟨_, rfl, _, rfl, _, rfl, ct, o, _, dC cols, rfl, S _ _ hct, ho, (by rw [List.length_map]; omega), (by unfold dC; rw [List.length_map, List.length_map, pl]), pairs_at pl (fun j p c a b => S _ _ (hp j p c a b)), dC_nd nd, fun d hd => ⟨(by show 3 ≤ sizeLine; decide), fun g hg => ?_⟩⟩
    have S2 := Same.upd (o := .dK (dC cols)) hd
    have S3 := Same.upd (o := .tup [.str T, .str "head", .ref d]) hg
    have hDn := (S2.trans S3) D _ upd_same
    have SS := ((S.trans S2).trans S3).put (p := D) (o := .lst [V.ref g]) hD
    refine ⟨hDn, ⟨_, SqT.of (SS _ _ h2), Nat.le_refl _⟩, q D g d _ SS upd_same (upd_lst hDn _ _ upd_same (fun _ h => by cases h)) (upd_lst hDn _ _ (S3 _ _ upd_same) (fun _ h => by cases h))⟩
theorem ok_askS {f sA : Addr} {fd : FuncData} (F : Fun K "ask_sorts" "ask_sorts" (top 24) f fd) : FnOk P w K mg base CX0 1 f fd ["sorts"] spAskS := by
  have sc : FnScope ["sorts", "sort"] ["sorts"] (defScope (top 24)) := ⟨rfl, rfl, rfl, by decide +kernel, rfl, by decide +kernel, by decide +kernel⟩
  refine F.ok sc (fun vs H Q E h => ?_) (fun cdv A outer s H vs Q E hr h => ?_)
  · obtain ⟨p, rfl, _⟩ := h
    rfl
  · obtain ⟨p, rfl, hp, q⟩ := h
    have hu : (A.deeper (envOfC "ask_sorts" (defScope (top 24)) s.heap.objs.size f cdv)).units + 1 < cLine := hu_of hr
    refine ⟨_, pss_cons (ps_if (pt_cmpR op_neL (pe_slice sl_list (pv 0) po_none (po_some pe_int)) (pe_lst (pa_cons pe_str pa_nil)) (nomark _)) pss_never pss_nil)
      (pss_one (ps_for PassesOwn.never rfl (pi_list (pe_slice sl_list (pv 0) (po_some pe_int) po_none)) (pg_name (i := 1) sc.nd rfl (Or.inl rfl)) pss_never)), ?_⟩
    refine ⟨_, rfl, _, rfl, p, _, rfl, SqL.of hp, fun p1 e1 => ?_⟩
    rw [cut_to (by decide) (by show (1 : Int) ≤ 1; decide)]
    have T1 := Same.upd (o := .lst [V.str "head"]) e1
    refine ⟨(by show 1 ≤ sizeLine; decide), fun p2 e2 => ?_⟩
    have T2 := Same.upd (o := .lst [V.str "head"]) e2
    refine ⟨0, p1, p2, [V.str "head"], [V.str "head"], rfl, rfl, SqL.of (T2 _ _ upd_same), SqL.of upd_same, rfl, (fun i x y h1 h2 => ?_), hu, _, rfl, iteF ?_⟩
    · rw [h1] at h2
      cases h2
      have : x = V.str "head" := by simpa using List.mem_of_getElem? h1
      rw [this]
      exact .str
    have S2 := T1.trans T2
    refine ⟨_, rfl, _, rfl, p, _, rfl, SqL.of (S2 _ _ hp), fun p3 e3 => ?_⟩
    rw [cut_from (by decide) (by show (1 : Int) ≤ 1; decide)]
    have T3 := Same.upd (o := .lst ([] : List V)) e3
    exact ⟨p3, rfl, ⟨_, SqL.of upd_same⟩, for_list0 (K := K) (SqL.of upd_same) (q _ (S2.trans T3))⟩
theorem ok_askN {f fN : Addr} {fd fdN : FuncData} (F : Fun K "ask_names" "ask_names" (top 25) f fd) (DN : Df K mg "is_name" (top 13) fN fdN) (GN : FnOk P w K mg base CX0 1 fN fdN ["thing"] spName) : FnOk P w K mg base CX0 2 f fd ["names"] spAskN := by
  have sc : FnScope ["names", "name"] ["names"] (defScope (top 25)) := ⟨rfl, rfl, rfl, by decide +kernel, rfl, by decide +kernel, by decide +kernel⟩
  have bN := DN.fn.binds (ps := ["thing"]) fun _ _ _ _ _ _ us hl => by obtain ⟨v0, rfl⟩ := L2.ln1 hl; rfl
  refine F.ok sc (fun vs H Q E h => ?_) (fun cdv A outer s H vs Q E hr h => ?_)
  · obtain ⟨p, T, rfl, _⟩ := h
    rfl
  · obtain ⟨p, T, rfl, hp, hT, q⟩ := h
    refine ⟨_, pss_one (ps_for PassesOwn.never rfl (pi_list (pv 0)) (pg_name (i := 1) sc.nd rfl (Or.inl rfl))
        (pss_cons (ps_if (pt_not (pt_val (pe_call GN hr (by rfl) DN.mg DN.fn.kp bN .nil pass0 (pa_cons (pv 1) pa_nil)))) pss_never pss_nil)
        (pss_one (ps_if (pt_cmpR op_gt (pe_bm PySem.F.plainAttrs_list PySem.F.slot_list_count PySem.F.type_list_count mt_count (pv 0) (pa_cons (pv 1) pa_nil)) pe_int (nomark _)) pss_never pss_nil)))), ?_⟩
    refine ⟨_, rfl, p, rfl, ⟨_, SqL.of hp⟩, for_list1 (K := K) (a := p) (x := .str T) (SqL.of hp) ?_⟩
    refine ⟨_, rfl, T, rfl, hT, fun H5 s5 => ⟨_, rfl, iteF ?_⟩⟩
    have hp5 := s5 _ _ hp
    refine ⟨_, rfl, .inl ⟨rfl, _, SqL.of hp5⟩, _, rfl, p, [T], T, rfl, rfl, SqL.of hp5, _, _, rfl, rfl, _, rfl, ?_⟩
    have hc : [T].count T = 1 := by simp
    exact iteC (decide_eq_false (by rw [hc]; decide)) ⟨SqL.of hp5, q _ s5⟩
theorem ok_colM {f fN fK : Addr} {fd fdN fdK : FuncData} (F : Fun K "columns_made" "columns_made" (top 26) f fd) (B : Bl mg) (DN : Df K mg "is_name" (top 13) fN fdN) (GN : FnOk P w K mg base CX0 1 fN fdN ["thing"] spName) (DK : Df K mg "is_kind" (top 17) fK fdK) (GK : FnOk P w K mg base CX0 4 fK fdK ["thing"] spKd) :
    FnOk P w K mg base CX0 5 f fd ["columns"] spColM := by
  have sc : FnScope ["columns", "column", "kind"] ["columns"] (defScope (top 26)) := ⟨rfl, rfl, rfl, by decide +kernel, rfl, by decide +kernel, by decide +kernel⟩
  have bN := DN.fn.binds (ps := ["thing"]) fun _ _ _ _ _ _ us hl => by obtain ⟨v0, rfl⟩ := L2.ln1 hl; rfl
  have bK := DK.fn.binds (ps := ["thing"]) fun _ _ _ _ _ _ us hl => by obtain ⟨v0, rfl⟩ := L2.ln1 hl; rfl
  refine F.ok sc (fun vs H Q E h => ?_) (fun cdv A outer s H vs Q E hr h => ?_)
  · obtain ⟨d, cols, rfl, _⟩ := h
    rfl
  · obtain ⟨d, cols, rfl, hd, ok, q⟩ := h
    have hr1 : Room 1 _ := hr.mono (by decide)
    have hu : (A.deeper (envOfC "columns_made" (defScope (top 26)) s.heap.objs.size f cdv)).units + 1 < cLine := hu_of hr
    refine ⟨_, pss_cons (ps_frz (ps_for PassesOwn.never rfl (pi_items (pv 0)) (pg_tup rfl (pgs_cons (pg_name (i := 1) sc.nd rfl (Or.inl rfl)) (pgs_cons (pg_name (i := 2) sc.nd rfl (Or.inl rfl)) pgs_nil)))
        (pss_cons (ps_if (pt_not (pt_val (pe_call GN hr1 (by rfl) DN.mg DN.fn.kp bN .nil pass0 (pa_cons (pv 1) pa_nil)))) pss_never pss_nil)
        (pss_one (ps_if (pt_not (pt_val (pe_call GK hr (by rfl) DK.mg DK.fn.kp bK .nil pass0 (pa_cons (pv 2) pa_nil)))) pss_never pss_nil)))))
      (pss_one (ps_ret (pe_callTy call_tuple_of (by rfl) B.tuple boot_tuple (pa_cons (pe_comp (osc := defScope (top 26)) (N0 := ["columns", "column", "kind"]) (xs := ["column"]) (fr := [0]) ⟨rfl, by decide +kernel, by decide +kernel, by decide +kernel, (fun j hj => by
              have e : j = 0 := by simpa using hj
              subst e
              exact ⟨_, rfl, by decide +kernel⟩), by decide +kernel⟩ rfl rfl rfl (pi_list (pe_callB (call_sortedD rfl) (by rfl) B.sorted boot_sorted (pa_cons (pv 0) pa_nil)))
            (fun s H fp => pg_name (i := 0) (show (["column", "columns"] : List Str).Nodup by decide +kernel) rfl (Or.inl rfl)) (fun s H fp => pif_nil)
            (fun s H fp => pe_tup (pa_cons (pv 0) (pa_cons (pe_dget hu (pv 1) (pv 0) (fun _ _ => rfl)) pa_nil)))) pa_nil)))), ?_⟩
    refine ⟨d, _, hd, fun o => ?_⟩
    have hfa : (upd H d (.frz o (.dK (dC cols)))) d = some (.frz o (.dK (dC cols))) := upd_same
    have ok0 : ∀ c ∈ cols, NmOk c.1 ∧ ∃ kd, KdH (upd H d (.frz o (.dK (dC cols)))) c.2 kd := fun c hc => by
      obtain ⟨n1, kd, e1, e2⟩ := ok.ok c hc
      exact ⟨n1, kd, (upd_ne (fun z => by rw [z, hd] at e1; cases e1)).trans e1, e2⟩
    have bs := fun H1 => back_same (H1 := H1) (o := o) hd
    generalize upd H d (.frz o (.dK (dC cols))) = H0 at *
    refine ⟨_, rfl, d, o, _, rfl, hfa, for_items (a := d) (o := o) (kvs := dC cols) (fun i σ H1 => Same H0 H1 ∧ ∃ u1 u2, σ = [some (.ref d), u1, u2]) ⟨Same.refl _, _, _, rfl⟩ (fun i σ H1 _ p => p.1 _ _ hfa) ?_ ?_⟩
    · rintro i k v p σ H1 hk ⟨s1, u1, u2, rfl⟩ hp
      obtain ⟨c, hm, e⟩ := List.mem_map.mp (List.mem_of_getElem? hk)
      cases e
      obtain ⟨n1, kd, hkd⟩ := ok0 c hm
      have T := Same.upd (o := .tup [kV (.inr c.1), V.ref c.2]) hp
      refine ⟨p, _, rfl, SqT.of upd_same, rfl, _, _, rfl, _, _, rfl, rfl, ?_⟩
      refine ⟨_, rfl, c.1, rfl, n1, fun H5 s5 => ⟨_, rfl, iteF ?_⟩⟩
      have S5 := s1.trans (T.trans s5)
      refine ⟨_, rfl, c.2, kd, rfl, hkd.nt (.of S5), fun H6 s6 => ⟨_, rfl, iteF ?_⟩⟩
      exact ⟨S5.trans s6, _, _, rfl⟩
    · rintro σ H1 ⟨s1, u1, u2, rfl⟩
      refine ⟨s1 _ _ hfa, ?_⟩
      have S1 : Same H (upd H1 d (.dK (dC cols))) := bs _ s1
      generalize upd H1 d (.dK (dC cols)) = H2 at S1 ⊢
      have hd2 := S1 _ _ hd
      have hkm : (dC cols).map (·.1) = (cols.map (·.1)).map Sum.inr := by
        unfold dC
        rw [List.map_map, List.map_map]
        rfl
      refine ⟨_, rfl, d, _, cols.map (·.1), rfl, .inl hd2, hkm, (by rw [List.length_map]; have := ok.le; omega), fun l zs hl hpm hso => ?_⟩
      have T3 := Same.upd (o := .lst (zs.map V.str)) hl
      have S3 := S1.trans T3
      have e3 := upd_same (H := H2) (a := l) (o := .lst (zs.map V.str))
      generalize upd H2 l (.lst (zs.map V.str)) = H3 at *
      refine ⟨l, rfl, ⟨_, SqL.of e3⟩, fun D hD => ?_⟩
      refine compW_idx zs.length (fun i ys σ' Hc => (∃ t, σ' = [t, some (.ref d)]) ∧ Same H3 Hc) (by have := hpm.length_eq; rw [List.length_map] at this; have := ok.le; rw [sizeLine_eq]; omega) ⟨⟨none, rfl⟩, Same.upd hD⟩ upd_same ?_ ?_
      · rintro i σ' Hc ys hi ⟨⟨t, rfl⟩, sm⟩ hyl hD'
        refine ⟨⟨_, V.str zs[i], SqL.of (sm _ _ e3), by rw [List.getElem?_map, List.getElem?_eq_getElem hi]; rfl⟩, ?_⟩
        rintro x H' ⟨rfl, hx'⟩
        have ex := hx' _ (SqL.of (sm _ _ e3))
        rw [List.getElem?_map, List.getElem?_eq_getElem hi] at ex
        cases ex
        obtain ⟨c, hc, ec⟩ := List.mem_map.mp (hpm.mem_iff.mp (List.getElem_mem hi))
        refine ⟨_, rfl, _, rfl, _, rfl, d, .ref c.2, rfl, .inl ⟨_, .inr zs[i], .inl ((S3.trans sm) _ _ hd), rfl, (by rw [← ec]; exact (dC_val ok.nd hc).symm)⟩, (by show 2 ≤ sizeLine; decide), fun g hg => ?_⟩
        have T5 := Same.upd (o := .tup [V.str zs[i], .ref c.2]) hg
        exact ⟨T5 _ _ hD', ⟨_, rfl⟩, (sm.trans T5).put hD⟩
      · rintro σ' Hc ys ⟨_, sm⟩ hDn hyl
        refine ⟨⟨_, SqL.of (sm _ _ e3), by rw [List.length_map]; exact Nat.le_refl _⟩, D, ys, rfl, .inl ⟨SqL.of hDn, fun ct hct => q ct _ ((S3.trans sm).trans (Same.upd hct))⟩⟩
end
end My

/-! SETS OF TEXTS (own work). -/
namespace L2
open PySem PySem.Spec PyProof.Rows
section
variable {P : Program} {w : World} {A : Around} {E : Value → Shared → Prop} {s : Shared} {a : Addr}
end
end L2

/-! SETS OF TEXTS (own work): the layer's rule for set(a dict). -/
namespace L2
open PySem PySem.Spec PyProof.Rows
section
variable {X : Cx}
end
end L2

/-! SETS OF TEXTS (own work): != of two sets. -/
namespace L2
open PySem PySem.Spec PyProof.Rows
section
variable {A : Around} {s : Shared} {P : Program} {w : World} {E : Value → Shared → Prop}
end
section
variable {X : Cx}
end
end L2

/-! SETS OF TEXTS (own work): set(a list of texts that differ). -/
namespace L2
open PySem PySem.Spec PyProof.Rows
section
variable {P : Program} {w : World} {A : Around} {R : Result → Shared → Prop} {I : Addr} {fp wr : List Addr} {G : Array GenState → Array GenState → Prop} {n : Nat} {PV : Nat → Value → Prop} {St : Nat → Shared → Prop}
end
section
variable {P : Program} {w : World} {A : Around} {s : Shared} {E : Value → Shared → Prop}
end
section
variable {X : Cx}
end
end L2

/-! TUPLES ALIKE, DICTS WITH NUMBERS FOR KEYS SORTED, TUPLES WITH THEIR OBJECT (own work). -/
namespace L2
open PySem PySem.Spec PyProof.Rows
section
variable {X : Cx} {pins : List (Addr × Obj)} {σ : St} {H : Hp} {s : Shared}
theorem rc_tups {A : Around} (I : Inv X pins σ H s) {n : Nat} {a b : Addr} {xs ys : List V} (ha : SqT X.K H a xs) (hb : SqT X.K H b ys) (hl : xs.length = ys.length) (h : ∀ (i : Nat) (x y : V), xs[i]? = some x → ys[i]? = some y → Dq H n x y) (hu : A.units + n + 1 < cLine) :
    SeqAt.RcAt A s (.ref a) (.ref b) true ∧ SeqAt.RcNeAt A s (.ref a) (.ref b) false := by
  obtain ⟨its, r1, pl, _⟩ := I.tuple ha
  obtain ⟨jts, r2, ql, _⟩ := I.tuple hb
  have l1 := r1.length
  have l2 := r2.length
  have el : ∀ j (g1 : j < its.toArray.size) (g2 : j < jts.toArray.size), SeqAt.EqAt A.in1 s its.toArray[j] jts.toArray[j] true := fun j g1 g2 => by
    have g1' : j < its.length := by simpa using g1
    have g2' : j < jts.length := by simpa using g2
    obtain ⟨u1, e1, k1⟩ := r1.get (i := j) (x := xs[j]'(by omega)) (by simp)
    obtain ⟨u2, e2, k2⟩ := r2.get (i := j) (x := ys[j]'(by omega)) (by simp)
    have w1 : its.toArray[j] = u1 := by have := (List.getElem?_eq_some_iff.mp e1).2; simpa using this
    have w2 : jts.toArray[j] = u2 := by have := (List.getElem?_eq_some_iff.mp e2).2; simpa using this
    rw [w1, w2]
    exact eqAt_Dq I (h j _ _ (by simp) (by simp)) k1 k2 (by show A.units + 1 + n < cLine; omega)
  have h1 := SeqAt.RcAt.tuples (A := A) (e := fun _ => true) pl ql (by omega) el
  have h2 := SeqAt.RcNeAt.tuples (A := A) (e := fun _ => true) pl ql (by omega) el
  have hz : its.toArray.size = jts.toArray.size := by simp; omega
  have ea : ∀ k : Nat, (List.range k).all (fun _ => true) = true := fun k => List.all_eq_true.mpr fun _ _ => rfl
  rw [ea, hz, beq_self_eq_true] at h1 h2
  exact ⟨h1, h2⟩
theorem op_eqTp : OpR X (compareOp .Eq) (fun x y H Q => ∃ (n : Nat) (a b : Addr) (xs ys : List V), x = .ref a ∧ y = .ref b ∧ SqT X.K H a xs ∧ SqT X.K H b ys ∧ xs.length = ys.length ∧ (∀ (i : Nat) (x y : V), xs[i]? = some x → ys[i]? = some y → Dq H n x y) ∧ X.A.units + n + 1 < cLine ∧ Q (.bl true) H) := by
  intro pins s σ H x y v u Q I rx ry h
  obtain ⟨n, a, b, xs, ys, rfl, rfl, ha, hb, hl, hd, hu, q⟩ := h
  cases rx
  cases ry
  exact (rc_tups I ha hb hl hd hu).1 X.prog X.w X.xe _ ⟨.bl true, H, I, rfl, q⟩
/-- a tuple, its object kept -/
def tTupF (t : TA) : TE := fun σ H Q => t σ H fun xs H1 => xs.length ≤ sizeLine ∧ ∀ p o, H1 p = none → o.dict = none → Q (.ref p) (upd H1 p (.frz o (.tup xs)))
theorem pe_tupF {es : List Expr} {x1 : Nat} {pos : Pos} {t : TA} (h : PA X es t) : PE X (.Tuple es x1 pos) (tTupF t) := by
  intro pins s σ H Q I hq
  refine wpAny_Tuple_spliced (thn (h pos pins s σ H _ I hq) fun us s1 ⟨xs, H1, I1, r, z, q⟩ => ⟨by rw [← r.length]; exact z, ?_⟩)
  have hf : H1 s1.heap.objs.size = none := I1.hok.fresh (Nat.le_refl _)
  refine ⟨.ref s1.heap.objs.size, upd H1 s1.heap.objs.size (.frz { cls := .type "tuple", data := .seq us.toArray } (.tup xs)), I1.laid (t' := s1.toks) (fun b u e => Heap.get?_push_of_some _ e) (Nat.le_refl _) ?_, rfl, q _ _ hf rfl⟩
  exact ⟨Heap.get?_push_size _ rfl, z, us, r, ⟨_, Heap.get?_push_size _ rfl, rfl, _, rfl⟩⟩
end
section
variable {X : Cx}
end
end L2

namespace My
open PySem L2 PyProof.Rows
seal L2.PE L2.PT L2.PW L2.PS L2.PSs L2.PA L2.PI L2.PG L2.PGs L2.OpR L2.CallR L2.IxR L2.SlR L2.MtR L2.PIf L2.PO L2.MtM L2.PC
/-! ### tables of code objects -/
def TabOk (P : Addr) (pos : Pos) (q : Str) (H : Hp) : Prop := H P = some (.tbl #[]) ∨ ∃ c', H P = some (.tbl #[rawInt pos.line, rawInt pos.col, .ref c']) ∧ H c' = some (.ext (codeP c' q))
/-- as it was, but at P -/
def Fr (P : Addr) (H H' : Hp) : Prop := ∀ b o, b ≠ P → H b = some o → H' b = some o
theorem Fr.of {P : Addr} {H H' : Hp} (s : Same H H') : Fr P H H' := fun b o _ e => s b o e
theorem Fr.trans {P : Addr} {H H1 H2 : Hp} (s : Fr P H H1) (t : Fr P H1 H2) : Fr P H H2 := fun b o n e => t b o n (s b o n e)
theorem TabOk.tbl {P : Addr} {pos : Pos} {q : Str} {H : Hp} (h : TabOk P pos q H) : ∃ zs, H P = some (.tbl zs) := by
  rcases h with h | ⟨c', h, _⟩
  · exact ⟨_, h⟩
  · exact ⟨_, h⟩
theorem Fr.nt {P : Addr} {pos : Pos} {q : Str} {H H' : Hp} (s : Fr P H H') (h : TabOk P pos q H) : Ntb H H' := fun b o e n => s b o (fun z => by
  obtain ⟨zs, h⟩ := h.tbl
  rw [z, h] at e
  cases e
  exact n zs rfl) e
theorem TabOk.fr {P P' : Addr} {pos : Pos} {q : Str} {H H' : Hp} (h : TabOk P pos q H) (s : Fr P' H H') (hn : P ≠ P') (hc : ∃ zs, H P' = some (.tbl zs)) : TabOk P pos q H' := by
  obtain ⟨zs, hc⟩ := hc
  rcases h with h | ⟨c', h1, h2⟩
  · exact .inl (s _ _ hn h)
  · exact .inr ⟨c', s _ _ hn h1, s _ _ (fun z => by rw [z, hc] at h2; cases h2) h2⟩
theorem TabOk.same {P : Addr} {pos : Pos} {q : Str} {H H' : Hp} (h : TabOk P pos q H) (s : Same H H') : TabOk P pos q H' := by
  rcases h with h | ⟨c', h1, h2⟩
  · exact .inl (s _ _ h)
  · exact .inr ⟨c', s _ _ h1, s _ _ h2⟩
/-- a lambda made: the table is well, all else is as it was -/
theorem lam_made {P : Addr} {pos : Pos} {q : Str} {params : Arguments} {body : Expr} {scope : Scope} {pm : Value} {σ : L2.St} {H : Hp} {Q : VK} (h : TabOk P pos q H)
    (hq : ∀ f c' H', Fr P H H' → TabOk P pos q H' → H' f = some (.ext (lamP f q params body scope pm c')) → H' c' = some (.ext (codeP c' q)) → Q (.ref f) H') : tLam P pos q params body scope pm σ H Q := by
  rcases h with h | ⟨c', h1, h2⟩
  · refine ⟨#[], h, trivial, .inl ⟨rfl, fun c' f n1 n2 n3 n4 n5 => ?_⟩⟩
    refine hq f c' _ (fun a o n e => ?_) ?_ upd_same (by rw [upd_ne n3]; exact upd_same)
    · rw [upd_ne (fun z => by rw [z, n2] at e; cases e), upd_ne (fun z => by rw [z, n1] at e; cases e), upd_ne n]
      exact e
    · refine .inr ⟨c', ?_, by rw [upd_ne n3]; exact upd_same⟩
      rw [upd_ne (Ne.symm n5), upd_ne (Ne.symm n4)]
      exact upd_same
  · refine ⟨_, h1, trivial, .inr ⟨c', by simp [codeAmong, rawInt], fun f n => ?_⟩⟩
    have S := Same.upd (o := .ext (lamP f q params body scope pm c')) n
    exact hq f c' _ (.of S) (.inr ⟨c', S _ _ h1, S _ _ h2⟩) upd_same (S _ _ h2)
theorem lam_madeC {P : Addr} {pos : Pos} {q : Str} {params : Arguments} {body : Expr} {scope : Scope} {pm : Value} {clos : List (Str × Addr)} {σ : L2.St} {H : Hp} {Q : VK} (h : TabOk P pos q H)
    (hq : ∀ f c' H', Fr P H H' → TabOk P pos q H' → H' f = some (.ext (lamC f q params body scope clos pm c')) → H f = none → H' c' = some (.ext (codeP c' q)) → Q (.ref f) H') : tLamC P pos q params body scope clos pm σ H Q := by
  rcases h with h | ⟨c', h1, h2⟩
  · refine ⟨#[], h, trivial, .inl ⟨rfl, fun c' f n1 n2 n3 n4 n5 => ?_⟩⟩
    refine hq f c' _ (fun a o n e => ?_) ?_ upd_same n2 (by rw [upd_ne n3]; exact upd_same)
    · rw [upd_ne (fun z => by rw [z, n2] at e; cases e), upd_ne (fun z => by rw [z, n1] at e; cases e), upd_ne n]
      exact e
    · refine .inr ⟨c', ?_, by rw [upd_ne n3]; exact upd_same⟩
      rw [upd_ne (Ne.symm n5), upd_ne (Ne.symm n4)]
      exact upd_same
  · refine ⟨_, h1, trivial, .inr ⟨c', by simp [codeAmong, rawInt], fun f n => ?_⟩⟩
    have S := Same.upd (o := .ext (lamC f q params body scope clos pm c')) n
    exact hq f c' _ (.of S) (.inr ⟨c', S _ _ h1, S _ _ h2⟩) upd_same n (S _ _ h2)
def keyOf : Stmt → Expr
  | .Assign _ (.Call _ _ [⟨_, e, _⟩] _) _ => e
  | .Return (some e) _ => e
  | _ => .Constant .none 0 ⟨0, 0, 0, 0⟩
def lamPos : Expr → Pos
  | .Lambda _ _ _ p => p
  | _ => ⟨0, 0, 0, 0⟩
def foLam : Expr := keyOf ((defBody (top 23)).getD 4 (.Pass ⟨0, 0, 0, 0⟩))
def lamArgs : Expr → Arguments
  | .Lambda a _ _ _ => a
  | _ => defArgs (top 23)
def lamBody : Expr → Expr
  | .Lambda _ b _ _ => b
  | e => e
def lamScope : Expr → Scope
  | .Lambda _ _ s _ => s
  | _ => defScope (top 23)
def foPos : Pos := lamPos foLam
def foQ : Str := "form_of.<locals>.<lambda>"
/-! ### form_of -/
def spForm (PF : Addr) : Sp := fun vs H Q _ => ∃ (l e d : Addr) (sz : Int) (T : Str) (cols : Cl), vs = [.int sz, .ref l] ∧ 1 ≤ sz ∧ H l = some (.lst [.ref e]) ∧ H e = some (.tup [.str T, .str "head", .ref d]) ∧ H d = some (.dK (dC cols)) ∧ NmOk T ∧ CsOk H cols ∧ TabOk PF foPos foQ H ∧
  ∀ f H', Fr PF H H' → TabOk PF foPos foQ H' → Q (.ref f) H'
section
variable {P : Program} {w : World} {K : PySem.W.Frag} {mg : Str → Option Value} {base : Heap}
theorem ok_form {f c PF fW fS fN fC : Addr} {fd fdW fdS fdN fdC : FuncData} (F : FunC K "form_of" "form_of" (top 23) f fd c) (B : Bl mg) (hC : PySem.W.codeHdIn K c PF = true) (hB : L2.BMain base mg)
    (DW : Df K mg "is_whole" (top 12) fW fdW) (GW : FnOk P w K mg base CX0 1 fW fdW ["thing"] spWh) (DS : Df K mg "ask_sorts" (top 24) fS fdS) (GS : FnOk P w K mg base CX0 1 fS fdS ["sorts"] spAskS) (DN : Df K mg "ask_names" (top 25) fN fdN) (GN : FnOk P w K mg base CX0 2 fN fdN ["names"] spAskN)
    (DC : Df K mg "columns_made" (top 26) fC fdC) (GC : FnOk P w K mg base CX0 5 fC fdC ["columns"] spColM) : FnOk P w K mg base CX0 6 f fd ["size", "tables"] (spForm PF) := by
  have sc : FnScope ["size", "tables", "made", "sides"] ["size", "tables"] (defScope (top 23)) := ⟨rfl, rfl, rfl, by decide +kernel, rfl, by decide +kernel, by decide +kernel⟩
  have bW := DW.fn.binds (ps := ["thing"]) fun _ _ _ _ _ _ us hl => by obtain ⟨v0, rfl⟩ := L2.ln1 hl; rfl
  have bS := DS.fn.binds (ps := ["sorts"]) fun _ _ _ _ _ _ us hl => by obtain ⟨v0, rfl⟩ := L2.ln1 hl; rfl
  have bN := DN.fn.binds (ps := ["names"]) fun _ _ _ _ _ _ us hl => by obtain ⟨v0, rfl⟩ := L2.ln1 hl; rfl
  have bC := DC.fn.binds (ps := ["columns"]) fun _ _ _ _ _ _ us hl => by obtain ⟨v0, rfl⟩ := L2.ln1 hl; rfl
  refine F.ok sc (fun vs H Q E h => ?_) (fun A outer s H vs Q E hr h => ?_)
  · obtain ⟨l, e, d, sz, T, cols, rfl, _⟩ := h
    rfl
  · obtain ⟨l, e, d, sz, T, cols, rfl, sz1, hl, he, hd, hT, ok, tab, q⟩ := h
    have hr1 : Room 1 _ := hr.mono (by decide)
    have hr2 : Room 2 _ := hr.mono (by decide)
    have nd3 : (["name", "sort", "columns"] : List Str).Nodup := by decide +kernel
    refine ⟨_, pss_cons (ps_if (PW.pt (pw_or (pt_not (pt_val (pe_call GW hr1 (by rfl) DW.mg DW.fn.kp bW .nil pass0 (pa_cons (pv 0) pa_nil)))) (pw_or1 (pt_cmpR op_lt (pv 0) pe_int (nomark _))))) pss_never pss_nil)
      (pss_cons (ps_expr (pe_call GS hr1 (by rfl) DS.mg DS.fn.kp bS .nil pass0 (pa_cons (pe_comp (osc := defScope (top 23)) (N0 := ["size", "tables", "made", "sides"]) (xs := ["name", "sort", "columns"]) (fr := []) ⟨rfl, by decide +kernel, by decide +kernel, by decide +kernel, by decide, by decide +kernel⟩ rfl rfl rfl (pi_list (pv 1))
          (fun s H fp => pg_tupK (K := K) (n := 3) rfl rfl (pgs_cons (pg_name (i := 0) nd3 rfl (Or.inl rfl)) (pgs_cons (pg_name (i := 1) nd3 rfl (Or.inl rfl)) (pgs_cons (pg_name (i := 2) nd3 rfl (Or.inl rfl)) pgs_nil)))) (fun s H fp => pif_nil)
          (fun s H fp => pv 1)) pa_nil)))
      (pss_cons (ps_expr (pe_call GN hr2 (by rfl) DN.mg DN.fn.kp bN .nil pass0 (pa_cons (pe_comp (osc := defScope (top 23)) (N0 := ["size", "tables", "made", "sides"]) (xs := ["name", "sort", "columns"]) (fr := []) ⟨rfl, by decide +kernel, by decide +kernel, by decide +kernel, by decide, by decide +kernel⟩ rfl rfl rfl (pi_list (pv 1))
          (fun s H fp => pg_tupK (K := K) (n := 3) rfl rfl (pgs_cons (pg_name (i := 0) nd3 rfl (Or.inl rfl)) (pgs_cons (pg_name (i := 1) nd3 rfl (Or.inl rfl)) (pgs_cons (pg_name (i := 2) nd3 rfl (Or.inl rfl)) pgs_nil)))) (fun s H fp => pif_nil)
          (fun s H fp => pv 0)) pa_nil)))
      (pss_cons (ps_comp (i := 2) (osc := defScope (top 23)) (N0 := ["size", "tables", "made", "sides"]) (xs := ["name", "sort", "columns"]) (fr := []) ⟨rfl, by decide +kernel, by decide +kernel, by decide +kernel, by decide, by decide +kernel⟩ rfl rfl rfl (pi_list (pv 1))
          (fun s H fp => pg_tupK (K := K) (n := 3) rfl rfl (pgs_cons (pg_name (i := 0) nd3 rfl (Or.inl rfl)) (pgs_cons (pg_name (i := 1) nd3 rfl (Or.inl rfl)) (pgs_cons (pg_name (i := 2) nd3 rfl (Or.inl rfl)) pgs_nil)))) (fun s H fp => pif_nil)
          (fun s H fp => pe_tup (pa_cons (pv 0) (pa_cons (pv 1) (pa_cons (pe_call GC hr (by rfl) DC.mg DC.fn.kp bC .nil pass0 (pa_cons (pv 2) pa_nil)) pa_nil)))) sc.nd rfl (Or.inl rfl))
      (pss_cons (ps_set (i := 3) sc.nd rfl (Or.inl rfl) (pe_sortedK (k := 2) (x := "table") (q := foQ) (params := lamArgs foLam) (body := lamBody foLam) (scope := lamScope foLam) (pm := (mg "__name__").getD .none) (tb := tOp (rIxT K) (tVar 0) (tC (.int 0))) hr (by rfl) B.sorted (pe_slice sl_list (pv 2) (po_some pe_int) po_none) (pe_lam rfl hC hB) ⟨rfl, rfl, rfl, by decide +kernel, rfl, by decide +kernel, by decide +kernel⟩ (fun _ _ _ => rfl) (fun f c' s H => pe_ix (r := rIxT K) ix_tup (pv 0) pe_int (fun _ _ => rfl))))
      (pss_one (ps_ret (pe_tup (pa_cons (pv 0) (pa_cons (pe_callTy call_tuple_of (by rfl) B.tuple boot_tuple (pa_cons (pe_op op_cat (pe_slice sl_list (pv 2) po_none (po_some pe_int)) (pv 3)) pa_nil)) pa_nil)))))))))
      , ?_⟩
    refine ⟨_, rfl, sz, rfl, _, rfl, iteF ?_⟩
    refine ⟨_, rfl, _, _, rfl, rfl, _, rfl, iteC (decide_eq_false (by omega)) ?_⟩
    -- the sorts
    refine ⟨_, rfl, l, rfl, ⟨_, SqL.of hl⟩, fun D1 hD1 => ?_⟩
    have T1 := Same.upd (o := .lst []) hD1
    refine compW1 upd_same ⟨_, V.ref e, SqL.of (T1 _ _ hl), rfl⟩ ?_
    rintro x H' ⟨rfl, hx'⟩
    cases hx' _ (SqL.of (T1 _ _ hl))
    refine ⟨_, _, rfl, SqT.of (T1 _ _ he), rfl, _, _, rfl, _, _, rfl, _, _, rfl, rfl, _, rfl, upd_same, ?_⟩
    have S1 : Same H (upd (upd H D1 (.lst [])) D1 (.lst [V.str "head"])) := T1.put hD1
    refine ⟨⟨_, SqL.of (S1 _ _ hl), Nat.le_refl _⟩, D1, rfl, upd_same, fun H2 s2 => ?_⟩
    have S2 := S1.trans s2
    -- the names
    refine ⟨_, rfl, l, rfl, ⟨_, SqL.of (S2 _ _ hl)⟩, fun D3 hD3 => ?_⟩
    have T3 := Same.upd (o := .lst []) hD3
    have S3' := S2.trans T3
    refine compW1 upd_same ⟨_, V.ref e, SqL.of (S3' _ _ hl), rfl⟩ ?_
    rintro x H' ⟨rfl, hx'⟩
    cases hx' _ (SqL.of (S3' _ _ hl))
    refine ⟨_, _, rfl, SqT.of (S3' _ _ he), rfl, _, _, rfl, _, _, rfl, _, _, rfl, rfl, _, rfl, upd_same, ?_⟩
    have S3 : Same H (upd (upd H2 D3 (.lst [])) D3 (.lst [V.str T])) := S2.trans (T3.put hD3)
    refine ⟨⟨_, SqL.of (S3 _ _ hl), Nat.le_refl _⟩, D3, T, rfl, upd_same, hT, fun H4 s4 => ?_⟩
    have S4 := S3.trans s4
    -- the tables made
    refine ⟨_, rfl, l, rfl, ⟨_, SqL.of (S4 _ _ hl)⟩, fun D5 hD5 => ?_⟩
    have T5 := Same.upd (o := .lst []) hD5
    have S5 := S4.trans T5
    refine compW1 upd_same ⟨_, V.ref e, SqL.of (S5 _ _ hl), rfl⟩ ?_
    rintro x H' ⟨rfl, hx'⟩
    cases hx' _ (SqL.of (S5 _ _ hl))
    refine ⟨_, _, rfl, SqT.of (S5 _ _ he), rfl, _, _, rfl, _, _, rfl, _, _, rfl, rfl, ?_⟩
    refine ⟨_, rfl, _, rfl, _, rfl, d, cols, rfl, S5 _ _ hd, ok.nt (.of S5), fun ct H6 s6 => ⟨(by show 3 ≤ sizeLine; decide), fun g hg => ?_⟩⟩
    have T7 := Same.upd (o := .tup [.str T, .str "head", .ref ct]) hg
    have hDn := (s6.trans T7) D5 _ upd_same
    have S7 := ((S5.trans s6).trans T7).put (p := D5) (o := .lst [V.ref g]) (none_of S4 hD5)
    have up : ∀ b u, H6 b = some u → (∀ zs, u ≠ .lst zs) → (upd (upd H6 g (.tup [.str T, .str "head", .ref ct])) D5 (.lst [V.ref g])) b = some u := fun b u h n => upd_lst hDn b u (T7 _ _ h) n
    have eg : (upd (upd H6 g (.tup [.str T, .str "head", .ref ct])) D5 (.lst [V.ref g])) g = some (.tup [.str T, .str "head", .ref ct]) := upd_lst hDn g _ upd_same (fun _ h => by cases h)
    have eD : (upd (upd H6 g (.tup [.str T, .str "head", .ref ct])) D5 (.lst [V.ref g])) D5 = some (.lst [V.ref g]) := upd_same
    refine ⟨hDn, ⟨_, SqL.of (S7 _ _ hl), Nat.le_refl _⟩, ?_⟩
    generalize upd (upd H6 g (.tup [.str T, .str "head", .ref ct])) D5 (.lst [V.ref g]) = H7 at *
    -- sorted
    refine ⟨_, rfl, _, rfl, D5, _, rfl, SqL.of eD, fun p8 e8 => ?_⟩
    rw [cut_from (by decide) (by show (1 : Int) ≤ 1; decide)]
    have T8 := Same.upd (o := .lst ([] : List V)) e8
    have S8 := S7.trans T8
    refine lam_made (tab.same S8) fun lf c' H9 fr9 tab9 hlf hc9 => ?_
    have pf : ∃ zs, (upd H7 p8 (.lst ([] : List V))) PF = some (.tbl zs) := (tab.same S8).tbl
    have n9 : Ntb (upd H7 p8 (.lst ([] : List V))) H9 := fr9.nt (tab.same S8)
    have N9 : Ntb H7 H9 := (Ntb.of T8).trans n9
    refine ⟨p8, lf, c', [], [], rfl, rfl, hlf, hc9, SqL.of (n9 _ _ upd_same (fun _ h => by cases h)), rfl, List.nodup_nil, (by decide), (fun i v z h1 h2 => nomatch h1), fun l9 ix nl9 hix hri => ?_⟩
    have eix : ix = [] := by
      have := hix.length_eq
      exact List.length_eq_zero_iff.mp this
    subst eix
    have T10 := Same.upd (o := .lst ([] : List V)) nl9
    have eD9 := N9 _ _ eD (fun _ h => by cases h)
    refine ⟨_, rfl, _, rfl, _, rfl, D5, _, rfl, SqL.of (T10 _ _ eD9), fun p11 e11 => ?_⟩
    rw [cut_to (by decide) (by show (1 : Int) ≤ 1; decide)]
    have T11 := Same.upd (o := .lst [V.ref g]) e11
    refine ⟨_, rfl, p11, l9, [V.ref g], [], rfl, rfl, upd_same, T11 _ _ upd_same, (by show 1 + 0 ≤ sizeLine; decide), fun p12 e12 => ?_⟩
    have T12 := Same.upd (o := .lst ([V.ref g] ++ [])) e12
    refine ⟨p12, _, rfl, .inl ⟨SqL.of upd_same, fun p13 e13 => ⟨(by show 2 ≤ sizeLine; decide), fun p14 e14 => ?_⟩⟩⟩
    have T13 := Same.upd (o := .tup [V.ref g]) e13
    have T14 := Same.upd (o := .tup [.int sz, V.ref p13]) e14
    have SL := (T10.trans (T11.trans T12)).trans (T13.trans T14)
    exact q p14 _ (fun b o nb hb => SL _ _ (fr9 b o nb (S8 _ _ hb))) (tab9.same SL)
end
theorem u20 {A : Around} {k : Nat} (hr : Room k A) : A.units + 20 < cLine := by have := hr.units; omega
def spWithC (PF : Addr) : Sp := fun vs H Q _ => ∃ (f cd : Addr) (sz : Int) (T : Str) (cols cols' : Cl), vs = [.ref f, .str T, .ref cd] ∧ FmA H f sz T cols ∧ (cols.map (·.1)).Nodup ∧ cols.length ≤ 12 ∧ 1 ≤ sz ∧ H cd = some (.dK (dC cols')) ∧ NmOk T ∧ CsOk H cols' ∧ TabOk PF foPos foQ H ∧
  ∀ f' H', Fr PF H H' → TabOk PF foPos foQ H' → Q (.ref f') H'
def putC (cols : Cl) (C : Str) (k : Addr) : Cl := cols.map fun c => if c.1 = C then (C, k) else c
theorem putC_map {cols : Cl} {C : Str} {k : Addr} : (putC cols C k).map (·.1) = cols.map (·.1) := by
  unfold putC
  rw [List.map_map]
  refine List.map_congr_left fun c _ => ?_
  show (if c.1 = C then (C, k) else c).1 = c.1
  split
  · rename_i h; exact h.symm
  · rfl
theorem dC_put {cols : Cl} {C : Str} {k kn : Addr} (hm : (C, k) ∈ cols) (nd : (cols.map (·.1)).Nodup) : putK (dC cols) (.inr C) (.ref kn) = dC (putC cols C kn) := by
  unfold putK
  have hany : ((dC cols).any fun kv => decide (kv.1 = (.inr C : Key))) = true := List.any_eq_true.mpr ⟨(.inr C, .ref k), List.mem_map.mpr ⟨_, hm, rfl⟩, decide_eq_true rfl⟩
  rw [if_pos hany]
  unfold dC putC
  rw [List.map_map, List.map_map]
  refine List.map_congr_left fun c _ => ?_
  show (if (Sum.inr c.1 : Key) = .inr C then ((Sum.inr c.1 : Key), V.ref kn) else (.inr c.1, .ref c.2)) = (.inr (if c.1 = C then (C, kn) else c).1, .ref (if c.1 = C then (C, kn) else c).2)
  by_cases h : c.1 = C
  · rw [if_pos h, if_pos (by rw [h]), h]
  · rw [if_neg h, if_neg (fun e => h (by injection e))]
theorem putC_ok {H : Hp} {cols : Cl} {C : Str} {kn : Addr} {kd : Kk} (h : CsOk H cols) (hk : KdH H kn kd) : CsOk H (putC cols C kn) := by
  refine ⟨by rw [putC_map]; exact h.nd, by unfold putC; rw [List.length_map]; exact h.le, fun c hc => ?_⟩
  obtain ⟨c0, h0, rfl⟩ := List.mem_map.mp hc
  by_cases e : c0.1 = C
  · rw [if_pos e]
    exact ⟨by rw [← e]; exact (h.ok c0 h0).1, kd, hk⟩
  · rw [if_neg e]
    exact h.ok c0 h0
def spWithK (K : PySem.W.Frag) (PF : Addr) : Sp := fun vs H Q _ => ∃ (f : Addr) (sz : Int) (T C : Str) (cols : Cl) (k ko kn : Addr) (kd kd' : Kk), vs = [.ref f, .str T, .str C, .ref ko, .ref kn] ∧ FmA H f sz T cols ∧ 1 ≤ sz ∧ (C, k) ∈ cols ∧ KdH H k kd ∧ SqT K H ko kd.vs ∧ KdH H kn kd' ∧ NmOk T ∧ CsOk H cols ∧ TabOk PF foPos foQ H ∧
  ∀ f' H', Fr PF H H' → TabOk PF foPos foQ H' → Q (.ref f') H'
def spFit : Sp := fun vs H Q _ => vs = [.bl true] ∧ Q .non H
section
variable {P : Program} {w : World} {K : PySem.W.Frag} {mg : Str → Option Value} {base : Heap} {PF : Addr}
theorem ok_withC {fself fF fP fT : Addr} {fd fdF fdP fdT : FuncData} (F : Fun K "with_columns" "with_columns" (top 31) fself fd) (DF : Df K mg "form_of" (top 23) fF fdF) (GF : FnOk P w K mg base CX0 6 fF fdF ["size", "tables"] (spForm PF)) (B : Bl mg) (DP : Df K mg "parts_of" (top 30) fP fdP) (DT : Df K mg "table_in" (top 29) fT fdT) :
    FnOk P w K mg base CX0 7 fself fd ["form", "table", "columns"] (spWithC PF) := by
  have sc : FnScope ["form", "table", "columns", "parts", "name", "sort", "had"] ["form", "table", "columns"] (defScope (top 31)) := ⟨rfl, rfl, rfl, by decide +kernel, rfl, by decide +kernel, by decide +kernel⟩
  have GP : FnOk P w K mg base CX0 1 fP fdP ["form"] spParts := ok_parts DP.fn B
  have GT : FnOk P w K mg base CX0 1 fT fdT ["form", "table"] spTabIn := ok_tabIn DT.fn
  have bF := DF.fn.binds (ps := ["size", "tables"]) fun _ _ _ _ _ _ us hl => by obtain ⟨v0, v1, rfl⟩ := L2.ln2 hl; rfl
  have bP := DP.fn.binds (ps := ["form"]) fun _ _ _ _ _ _ us hl => by obtain ⟨v0, rfl⟩ := L2.ln1 hl; rfl
  have bT := DT.fn.binds (ps := ["form", "table"]) fun _ _ _ _ _ _ us hl => by obtain ⟨v0, v1, rfl⟩ := L2.ln2 hl; rfl
  refine F.ok sc (fun vs H Q E h => ?_) (fun cdv A outer s H vs Q E hr h => ?_)
  · obtain ⟨f, cd, sz, T, cols, cols', rfl, _⟩ := h
    rfl
  · obtain ⟨f, cd, sz, T, cols, cols', rfl, hf, nd, le, sz1, hcd, hT, ok, tab, q⟩ := h
    have hr1 : Room 1 _ := hr.mono (by decide)
    refine ⟨_, pss_cons (ps_expr (pe_call GT hr1 (by rfl) DT.mg DT.fn.kp bT .nil pass0 (pa_cons (pv 0) (pa_cons (pv 1) pa_nil))))
      (pss_cons (ps_set (i := 3) sc.nd rfl (Or.inl rfl) (pe_lst pa_nil))
      (pss_cons (ps_for PassesOwn.never rfl (pi_list (pe_call GP hr1 (by rfl) DP.mg DP.fn.kp bP .nil pass0 (pa_cons (pv 0) pa_nil))) (pg_tup rfl (pgs_cons (pg_name (i := 4) sc.nd rfl (Or.inl rfl)) (pgs_cons (pg_name (i := 5) sc.nd rfl (Or.inl rfl)) (pgs_cons (pg_name (i := 6) sc.nd rfl (Or.inl rfl)) pgs_nil))))
        (pss_one (ps_expr (pe_bm PySem.F.plainAttrs_list PySem.F.slot_list_append PySem.F.type_list_append mt_app (pv 3) (pa_cons (pe_tup (pa_cons (pv 4) (pa_cons (pv 5) (pa_cons (pe_ifExp (pt_cmpR op_eq (pv 4) (pv 1) (nomark _)) (pv 2) (pv 6)) pa_nil)))) pa_nil)))))
      (pss_one (ps_ret (pe_call GF hr (by rfl) DF.mg DF.fn.kp bF .nil pass0 (pa_cons (pe_ix ix_tup (pv 0) pe_int (fun _ _ => rfl)) (pa_cons (pv 3) pa_nil))))))), ?_⟩
    refine ⟨_, rfl, _, rfl, f, sz, T, cols, rfl, hf, fun e _ => ?_⟩
    refine ⟨Nat.zero_le _, fun D hD => ?_⟩
    have T1 := Same.upd (o := .lst ([] : List V)) hD
    refine ⟨_, rfl, f, sz, T, cols, rfl, hf.same T1, nd, le, fun l e d H2 s2 hl he hd => ?_⟩
    have S2 := T1.trans s2
    have hD2 : H2 D = some (.lst []) := s2 _ _ upd_same
    refine ⟨l, rfl, ⟨_, SqL.of hl⟩, for_list1 (K := K) (a := l) (x := .ref e) (SqL.of hl) ?_⟩
    refine ⟨_, _, rfl, SqT.of he, rfl, _, _, rfl, _, _, rfl, _, _, rfl, rfl, ?_⟩
    refine ⟨_, rfl, .inl ⟨rfl, _, SqL.of hD2⟩, _, rfl, _, rfl, _, rfl, _, rfl, rfl, _, rfl, iteB (decide_eq_true rfl) ⟨_, rfl, (by show 3 ≤ sizeLine; decide), fun g hg => ?_⟩⟩
    have T3 := Same.upd (o := .tup [.str T, .str "head", .ref cd]) hg
    have hDn := T3 _ _ hD2
    have nl : l ≠ D := fun e => by rw [e, hD2] at hl; cases hl
    refine ⟨D, _, _, rfl, rfl, hDn, (by show 0 < sizeLine; decide), SqL.of (by rw [upd_ne nl]; exact T3 _ _ hl), ?_⟩
    have SC := (S2.trans T3).put (p := D) (o := .lst ([] ++ [V.ref g])) hD
    have hg3 := upd_lst hDn (o := .lst ([] ++ [V.ref g])) g _ upd_same (fun _ h => by cases h)
    have hDD := upd_same (H := upd H2 g (.tup [.str T, .str "head", .ref cd])) (a := D) (o := .lst ([] ++ [V.ref g]))
    generalize upd (upd H2 g (.tup [.str T, .str "head", .ref cd])) D (.lst ([] ++ [V.ref g])) = H4 at *
    obtain ⟨tt, e', h1, _⟩ := hf
    refine ⟨_, rfl, _, _, 0, _, rfl, rfl, SqT.of (SC _ _ h1), rfl, _, rfl, ?_⟩
    exact ⟨D, g, cd, sz, T, cols', rfl, sz1, hDD, hg3, SC _ _ hcd, hT, ok.nt (.of SC), tab.same SC, fun f' H' fr tab' => q f' H' ((Fr.of SC).trans fr) tab'⟩
theorem ok_fit {f : Addr} {fd : FuncData} (F : Fun K "ask_fit" "ask_fit" (top 38) f fd) : FnOk P w K mg base CX0 1 f fd ["fine"] spFit := by
  have sc : FnScope ["fine"] ["fine"] (defScope (top 38)) := ⟨rfl, rfl, rfl, by decide +kernel, rfl, by decide +kernel, by decide +kernel⟩
  refine F.ok sc (fun vs H Q E h => ?_) (fun cdv A outer s H vs Q E hr h => ?_)
  · obtain ⟨rfl, _⟩ := h
    rfl
  · obtain ⟨rfl, q⟩ := h
    refine ⟨_, pss_one (ps_if (pt_not (pt_val (pv 0))) pss_never pss_nil), ?_⟩
    exact ⟨_, rfl, _, rfl, iteF q⟩
theorem ok_colsIn {f fA fT fO fI : Addr} {fd fdA fdT fdO fdI : FuncData} (F : Fun K "columns_in" "columns_in" (top 39) f fd) (B : Bl mg) (DA : Df K mg "ask_fit" (top 38) fA fdA) (DT : Df K mg "tables_of" (top 27) fT fdT) (DO : Df K mg "columns_of" (top 28) fO fdO) (DI : Df K mg "table_in" (top 29) fI fdI) : FnOk P w K mg base CX0 3 f fd ["form", "table"] spColsOf := by
  have sc : FnScope ["form", "table"] ["form", "table"] (defScope (top 39)) := ⟨rfl, rfl, rfl, by decide +kernel, rfl, by decide +kernel, by decide +kernel⟩
  have GA : FnOk P w K mg base CX0 1 fA fdA ["fine"] spFit := ok_fit DA.fn
  have GT : FnOk P w K mg base CX0 1 fT fdT ["form"] spTabs := ok_tabs DT.fn
  have GO : FnOk P w K mg base CX0 2 fO fdO ["form", "table"] spColsOf := ok_colsOf DO.fn B DI
  have bA := DA.fn.binds (ps := ["fine"]) fun _ _ _ _ _ _ us hl => by obtain ⟨v0, rfl⟩ := L2.ln1 hl; rfl
  have bT := DT.fn.binds (ps := ["form"]) fun _ _ _ _ _ _ us hl => by obtain ⟨v0, rfl⟩ := L2.ln1 hl; rfl
  have bO := DO.fn.binds (ps := ["form", "table"]) fun _ _ _ _ _ _ us hl => by obtain ⟨v0, v1, rfl⟩ := L2.ln2 hl; rfl
  refine F.ok sc (fun vs H Q E h => ?_) (fun cdv A outer s H vs Q E hr h => ?_)
  · obtain ⟨f, sz, T, cols, rfl, _⟩ := h
    rfl
  · obtain ⟨f, sz, T, cols, rfl, hf, nd, le, q⟩ := h
    have hr1 : Room 1 _ := hr.mono (by decide)
    refine ⟨_, pss_cons (ps_expr (pe_call GA hr1 (by rfl) DA.mg DA.fn.kp bA .nil pass0 (pa_cons (pe_cmpR op_in_seq (pv 1) (pe_call GT hr1 (by rfl) DT.mg DT.fn.kp bT .nil pass0 (pa_cons (pv 0) pa_nil)) (by with_unfolding_all rfl)) pa_nil)))
      (pss_one (ps_ret (pe_call GO hr (by rfl) DO.mg DO.fn.kp bO .nil pass0 (pa_cons (pv 0) (pa_cons (pv 1) pa_nil))))), ?_⟩
    refine ⟨_, rfl, _, rfl, f, sz, T, cols, rfl, hf, fun p H1 s1 hp => ?_⟩
    have hin : inV (.str T) [V.str T] = true := by
      show (eqV (.str T) (.str T) || false) = true
      rw [Bool.or_false]
      show (T == T) = true
      exact beq_self_eq_true T
    refine ⟨p, _, rfl, .inl (SqL.of hp), rfl, rfl, ?_⟩
    refine ⟨(by show [V.bl (inV (.str T) [V.str T])] = [V.bl true]; rw [hin]), _, rfl, _, rfl, f, sz, T, cols, rfl, hf.same s1, nd, le, fun d H' s' hd => q d H' (s1.trans s') (cut_dn s1 _ _ hd)⟩
theorem ok_withK {f fI fA fN fW : Addr} {fd fdI fdA fdN fdW : FuncData} (F : Fun K "with_kind" "with_kind" (top 40) f fd) (DI : Df K mg "columns_in" (top 39) fI fdI) (GI : FnOk P w K mg base CX0 3 fI fdI ["form", "table"] spColsOf) (DA : Df K mg "ask_fit" (top 38) fA fdA) (DN : Df K mg "is_name" (top 13) fN fdN) (GN : FnOk P w K mg base CX0 1 fN fdN ["thing"] spName)
    (DW : Df K mg "with_columns" (top 31) fW fdW) (GW : FnOk P w K mg base CX0 7 fW fdW ["form", "table", "columns"] (spWithC PF)) : FnOk P w K mg base CX0 8 f fd ["form", "table", "column", "old", "new"] (spWithK K PF) := by
  have sc : FnScope ["form", "table", "column", "old", "new", "columns"] ["form", "table", "column", "old", "new"] (defScope (top 40)) := ⟨rfl, rfl, rfl, by decide +kernel, rfl, by decide +kernel, by decide +kernel⟩
  have GA : FnOk P w K mg base CX0 1 fA fdA ["fine"] spFit := ok_fit DA.fn
  have bI := DI.fn.binds (ps := ["form", "table"]) fun _ _ _ _ _ _ us hl => by obtain ⟨v0, v1, rfl⟩ := L2.ln2 hl; rfl
  have bA := DA.fn.binds (ps := ["fine"]) fun _ _ _ _ _ _ us hl => by obtain ⟨v0, rfl⟩ := L2.ln1 hl; rfl
  have bN := DN.fn.binds (ps := ["thing"]) fun _ _ _ _ _ _ us hl => by obtain ⟨v0, rfl⟩ := L2.ln1 hl; rfl
  have bW := DW.fn.binds (ps := ["form", "table", "columns"]) fun _ _ _ _ _ _ us hl => by obtain ⟨v0, v1, v2, rfl⟩ := L2.ln3 hl; rfl
  refine F.ok sc (fun vs H Q E h => ?_) (fun cdv A outer s H vs Q E hr h => ?_)
  · obtain ⟨f, sz, T, C, cols, k, ko, kn, kd, kd', rfl, _⟩ := h
    rfl
  · obtain ⟨fm, sz, T, C, cols, k, ko, kn, kd, kd', rfl, hf, sz1, hm, hk, hko, hkn, hT, ok, tab, q⟩ := h
    have hr1 : Room 1 _ := hr.mono (by decide)
    have hr3 : Room 3 _ := hr.mono (by decide)
    have hu : (A.deeper (envOfC "with_kind" (defScope (top 40)) s.heap.objs.size f cdv)).units + 1 < cLine := hu_of hr
    refine ⟨_, pss_cons (ps_set (i := 5) sc.nd rfl (Or.inl rfl) (pe_call GI hr3 (by rfl) DI.mg DI.fn.kp bI .nil pass0 (pa_cons (pv 0) (pa_cons (pv 1) pa_nil))))
      (pss_cons (ps_expr (pe_call GA hr1 (by rfl) DA.mg DA.fn.kp bA .nil pass0 (pa_cons (pe_and (pe_call GN hr1 (by rfl) DN.mg DN.fn.kp bN .nil pass0 (pa_cons (pv 2) pa_nil)) (pe_one (pe_cmpR (op_eqTp) (pe_dget1 hu (pv 5) (pv 2) ⟨rfl, rfl, rfl, rfl⟩) (pv 3) (nomark _)))) pa_nil)))
      (pss_cons (ps_dput hu (pv 5) (pv 2) (pv 4) rfl)
      (pss_one (ps_ret (pe_call GW hr (by rfl) DW.mg DW.fn.kp bW .nil pass0 (pa_cons (pv 0) (pa_cons (pv 1) (pa_cons (pv 5) pa_nil)))))))), ?_⟩
    have hC := (ok.ok _ hm).1
    refine ⟨_, rfl, _, rfl, fm, sz, T, cols, rfl, hf, ok.nd, ok.le, fun d H1 s1 hd => ?_⟩
    have hd1 := cut_sub _ _ hd
    refine ⟨_, rfl, C, rfl, hC, fun H2 s2 => ?_⟩
    have S2 := s1.trans s2
    have hd2 := s2 _ _ hd1
    refine ⟨_, rfl, iteT ⟨_, rfl, d, rfl, .inl ⟨_, .inl hd2⟩, _, rfl, some (.ref k), .inl ⟨_, .inr C, .inl hd2, rfl, (dC_val ok.nd hm).symm⟩, _, rfl, 0, k, ko, kd.vs, kd.vs, rfl, rfl, SqT.of (S2 _ _ hk.1), S2.seqT hko, rfl, (fun i x y h1 h2 => ?_), hu, rfl, ?_⟩⟩
    · rw [h1] at h2
      cases h2
      have := List.mem_of_getElem? h1
      cases kd <;> simp [Kk.vs] at this
      · subst this; exact .str
      · rcases this with rfl | rfl
        · exact .str
        · exact .int
      · rcases this with rfl | rfl
        · exact .str
        · exact .int
    refine ⟨_, rfl, _, rfl, _, rfl, d, _, rfl, DPut.k (k := .inr C) hd2 (by unfold dC; rw [List.length_map, sizeLine_eq]; have := ok.le; omega), ?_⟩
    rw [dC_put hm ok.nd]
    have SP := S2.put (p := d) (o := .dK (dC (putC cols C kn))) (cut_new hd)
    exact ⟨_, rfl, _, rfl, _, rfl, fm, d, sz, T, cols, putC cols C kn, rfl, hf.same SP, ok.nd, ok.le, sz1, upd_same, hT, putC_ok (ok.nt (.of SP)) (hkn.nt (.of SP)), tab.same SP, fun f' H' fr tab' => q f' H' ((Fr.of SP).trans fr) tab'⟩
end
end My

/-! DICTS READ, FROZEN OR NOT (own work). -/
namespace L2
open PySem PySem.Spec PyProof.Rows
section
variable {X : Cx}
/-- isinstance(d, T) of a dict, frozen or not -/
theorem call_isiD : CallR X (.builtin "isinstance") (fun xs H Q => ∃ a kvs n b, xs = [V.ref a, .ty n] ∧ Rd H a (.dK kvs) ∧ PySem.W.kitOne X.K (.type "dict") (.type n) = some b ∧ Q (.bl b) H) := by
  intro pins s σ H xs us Q I r h
  obtain ⟨a, kvs, n, b, rfl, ha, e, q⟩ := h
  obtain ⟨u, w', rfl, rx, rc⟩ := vals2 r
  cases rx
  cases (show w' = Value.type n from rc)
  obtain ⟨_, _, vs, _, o, es, ep, h1, h2, _⟩ := dk_rd I.hok ha
  exact PySem.W.kia_one PySem.W.kitx_dict I.kIn ⟨o, h1, h2.1⟩ e (fun z => nomatch z) fun tk => ⟨.bl b, H, I.tok tk, rfl, q⟩
/-- a statement while a dict stands frozen: it is frozen now, unless it is so already -/
def sFrzR (t : TS) : TS := fun D σ H => ∃ a kvs, Rd H a (.dK kvs) ∧ (∀ o, H a = some (.frz o (.dK kvs)) → t D σ H) ∧ (H a = some (.dK kvs) → ∀ o, t (frzE a o kvs D) σ (upd H a (.frz o (.dK kvs))))
theorem ps_frzR {st : Stmt} {t : TS} (h : PS X st t) : PS X st (sFrzR t) := by
  intro pins s σ H D I hq
  obtain ⟨a, kvs, rd, h1, h2⟩ := hq
  rcases rd with e | ⟨o, e⟩
  · exact ps_frz h pins s σ H D I ⟨a, kvs, e, h2 e⟩
  · exact h pins s σ H D I (h1 o e)
end
end L2

/-! dict(A LIST OF PAIRS) (own work). -/
namespace L2
open PySem PySem.Spec PyProof.Rows PySem.Builtin PySem.Builtin.Dict
theorem lst_no_keys : typeLookup (.type "list") "keys" = pure none := am_miss_of_fast (by decide +kernel)
theorem miss_keysL {prog : Program} {w : World} {A : Around} {E : Value → Shared → Prop} {s : Shared} {a : Addr} {o : Obj} {xs : Array Value} {k : Nat} {Q : Option Value → Shared → Prop}
    (hx : s.heap.get? a = some o) (hc : o.cls = .type "list") (hdat : o.data = .seq xs k) (hd : o.dict = none) (hA : A.handled = none)
    (h : ∀ h' tk, (∀ b ob, s.heap.get? b = some ob → h'.get? b = some ob) → Q none { s with heap := h', toks := tk }) : wpAny (model prog w) A (getAttr? (.ref a) "keys") Q E s := by
  obtain ⟨c, dct, dat, sl⟩ := o
  simp only at hc hdat hd
  subst hc hdat hd
  obtain ⟨hp, g, d, tk, os⟩ := s
  have hT : ∀ tk', (⟨hp, g, d, tk', os⟩ : Shared).TypeIs (.ref a) "list" := fun _ => ⟨_, hx, rfl⟩
  have f1 := sub_AttributeError
  have f3 := F.slot_list_getattribute.lookup
  have f4 := F.slot_list_getattribute.bind (.ref a)
  have f5 := am_list_getattr_none
  unfold getAttr? getAttrBy? getAttrBy
  repeat (any_goals (first | assumption | exact hT _ | ((with_reducible show wpAny _ _ (call (Value.builtin "list.__getattribute__") _ _) _ _ _); refine call_meets F.slot_list_getattribute (hT _) am_entry_list_getattribute (F.args_list_getattribute_2 _ _) (meets_getattribute_miss_list a xs k sl "keys" _ lst_no_keys (by decide +kernel) (by size_fits)) ⟨hx, hA, fun h' tk' e hx' => ?_⟩) | wp_step))
  obtain ⟨t', u', he⟩ := hx'.there
  show wpAny _ _ (getattributeRaised _ _ _ _ _ _ _) _ _ _
  unfold getattributeRaised
  repeat (any_goals (first | assumption | wp_step))
  exact h _ _ hx'.keeps
section
variable {prog : Program} {w : World} {A : Around} {R : Result → Shared → Prop}
/-- the pairs, one by one -/
theorem upd_loopL {h0 : Heap} {d it t : Addr} {items : Array Value} {ps : List (Key × Value)} (hh : A.handled = none) (ht : h0.IsList t items) (tne : t ≠ it ∧ t ≠ d) (idne : it ≠ d) (hl : ps.length = items.size) (hz : items.size ≤ 1000)
    (hp : ∀ (j : Nat) (k : Key) (v : Value), ps[j]? = some (k, v) → ∃ a o key n, items[j]? = some (.ref a) ∧ h0.get? a = some o ∧ o.cls = .type "tuple" ∧ o.data = .seq #[key, v] n ∧ (mixKind prog w).is k key = true ∧ a ≠ it ∧ a ≠ d)
    (nd : (ps.map (·.1)).Nodup) : ∀ (m i : Nat) (tk : Tok) (s : Shared), i + m = items.size → s.heap.IsListIter it t i → s.heap.DictOf (mixKind prog w) d (ps.take i) → (∀ b o, b ≠ it → b ≠ d → h0.get? b = some o → s.heap.get? b = some o) →
    (∀ (h' : Heap) (k : Nat), h'.DictOf (mixKind prog w) d ps → (∀ b o, b ≠ it → b ≠ d → h0.get? b = some o → h'.get? b = some o) → R (.ok (.ret .none)) { s with heap := h', toks := k }) →
    codeAny (model prog w) A (.builtin "dict.update.loop" ⟨[.ref d, .ref it, .int i tk, .none], []⟩) R s
  | 0, i, tk, s, hi, hit, hd, kp, hq => by
    refine codeAny_builtin entry_upd_loop ?_
    unfold Builtin.«dict.update.loop»
    dsimp only
    obtain ⟨o, ho, hc, n, hdt⟩ := id ht
    refine wpAny_bind (wpAny_pyNext_list_end (items := items) hh hit ⟨o, kp t o tne.1 tne.2 ho, hc, n, hdt⟩ (by rw [Array.getElem?_eq_none (by omega)]) fun h' ex => ?_)
    dsimp only
    refine wpAny_bind (wpAny_pure (wpAny_pure ?_))
    have e : ps.take i = ps := List.take_of_length_le (by omega)
    rw [e] at hd
    exact hq h' s.toks (hd.extBut ex idne.symm) fun b o hb1 hb2 q => ex b o hb1 (kp b o hb1 hb2 q)
  | m + 1, i, tk, s, hi, hit, hd, kp, hq => by
    refine codeAny_builtin entry_upd_loop ?_
    unfold Builtin.«dict.update.loop»
    dsimp only
    obtain ⟨o, ho, hc, n, hdt⟩ := id ht
    obtain ⟨⟨k, v⟩, hk⟩ : ∃ kv, ps[i]? = some kv := ⟨_, List.getElem?_eq_getElem (by omega)⟩
    obtain ⟨a, oa, key, na, e1, e2, e3, e4, e5, e6, e7⟩ := hp i k v hk
    refine wpAny_bind (wpAny_pyNext_list_item (items := items) hit ⟨o, kp t o tne.1 tne.2 ho, hc, n, hdt⟩ e1 fun h1 it1 sb => ?_)
    dsimp only
    have ha1 : h1.get? a = some oa := (sb.2 a e6).trans (kp a oa e6 e7 e2)
    have hd1 : h1.DictOf (mixKind prog w) d (ps.take i) := by
      obtain ⟨od, es, ep, g, r⟩ := hd
      exact ⟨od, es, ep, (sb.2 d idne.symm).trans g, r⟩
    refine wpAny_bind (wpAny_holding (wpAny_bind (wpAny_tryCatch ?_)))
    unfold Dict.pairItems
    refine wpAny_bind (wpAny_typeOf (T := "tuple") ⟨oa, ha1, e3⟩ ?_)
    rw [if_pos (by decide)]
    refine wpAny_bind (wpAny_seqItems ha1 e4 (wpAny_pure ?_))
    show wpAny _ _ (holding [key, v] (dictSet d key v)) _ _ _
    refine wpAny_holding (wpAny_dictSet_pairs (knd := mixKind prog w) (k := k) e5 hd1 (fun h2 hd2 sb2 => ?_) (by rw [List.length_take, sizeLine_eq]; omega))
    refine wpAny_pure ⟨Code.quiet_builtin _ (by decide +kernel), ?_⟩
    have es : stored (ps.take i) k v = ps.take (i + 1) := by
      have no : ((ps.take i).any fun kv => decide (kv.1 = k)) = false := by
        rw [List.any_eq_false]
        intro kv hkv
        rw [decide_eq_true_iff]
        intro ek
        obtain ⟨j, hj, ej⟩ := List.mem_take_iff_getElem.mp hkv
        have hj2 : j < ps.length := by omega
        have hij : j < i := by omega
        have hi2 : i < ps.length := by omega
        have ei : ps[i] = (k, v) := (List.getElem?_eq_some_iff.mp hk).2
        refine List.pairwise_iff_getElem.mp nd j i (by simpa using hj2) (by simpa using hi2) hij ?_
        rw [List.getElem_map, List.getElem_map, ej, ei, ek]
      unfold stored
      rw [if_neg (by rw [no]; decide), List.take_add_one, hk]
      rfl
    rw [es] at hd2
    exact upd_loopL hh ht tne idne hl hz hp nd m (i + 1) _ _ (by omega) (by
      obtain ⟨oi, g1, g2⟩ := it1
      exact ⟨oi, (sb2.2 it idne).trans g1, g2⟩) hd2 (fun b o hb1 hb2 q => (sb2.2 b hb2).trans ((sb.2 b hb1).trans (kp b o hb1 hb2 q))) fun h' k' x y => hq h' k' x y
end
section
variable {X : Cx}
theorem call_dictL (hc : X.calm = true) : CallR X (.type "dict") (fun xs H Q => ∃ (t : Addr) (ys : List V) (kvs : List (Key × V)), xs = [.ref t] ∧ SqL X.K H t ys ∧ ys.length ≤ 1000 ∧ kvs.length = ys.length ∧
    (∀ (j : Nat) (k : Key) (v : V), kvs[j]? = some (k, v) → ∃ a, ys[j]? = some (.ref a) ∧ SqT X.K H a [kV k, v]) ∧ (kvs.map (·.1)).Nodup ∧ ∀ p, H p = none → Q (.ref p) (upd H p (.dK kvs))) := by
  intro pins s σ H xs us Q I r h
  obtain ⟨t, ys, kvs, rfl, ht, hys, hkl, hp, nd, q⟩ := h
  obtain ⟨u, rfl, rx⟩ := vals1 r
  cases rx
  obtain ⟨its, r', ⟨o, n, g, hcl, hod, hdat⟩, _⟩ := I.list ht
  have hlen := r'.length
  have hh := I.ok.hd hc
  -- the pairs as values
  have hpk : ∃ ps : List (Key × Value), ps.length = kvs.length ∧ ∀ (j : Nat) (kv : Key × V), kvs[j]? = some kv → ∃ u, ps[j]? = some u ∧ (u.1 = kv.1 ∧ RelV kv.2 u.2 ∧ ∃ a oa key na, its[j]? = some (.ref a) ∧ s.heap.get? a = some oa ∧ oa.cls = .type "tuple" ∧ oa.data = .seq #[key, u.2] na ∧ (mixKind X.prog X.w).is kv.1 key = true) := by
    refine pick kvs (fun (j : Nat) (kv : Key × V) (u : Key × Value) => u.1 = kv.1 ∧ RelV kv.2 u.2 ∧ ∃ a oa key na, its[j]? = some (.ref a) ∧ s.heap.get? a = some oa ∧ oa.cls = .type "tuple" ∧ oa.data = .seq #[key, u.2] na ∧ (mixKind X.prog X.w).is kv.1 key = true) fun j kv hj => ?_
    obtain ⟨k, v⟩ := kv
    obtain ⟨a, ea, sq⟩ := hp j k v hj
    obtain ⟨jts, rj, pj, _⟩ := I.tuple sq
    cases rj with
    | @cons _ j1 _ jr rk rr => cases rr with
      | @cons _ j2 _ jr2 rv rr2 =>
        cases rr2
        obtain ⟨oa, ga, ca, na, da⟩ := pj
        refine ⟨(k, j2), rfl, rv, a, oa, j1, na, ?_, ga, ca, da, kV_is rk⟩
        obtain ⟨w, ew, rw1⟩ := Vals.get r' ea
        cases rw1
        exact ew
  obtain ⟨ps, hpl, hps⟩ := hpk
  have gt : s.heap.get? t = some o := g
  have tlt : t < s.heap.objs.size := Heap.lt_size gt
  refine callType_codes (Q₁ := fun obj s₁ => obj = .ref s.heap.objs.size ∧ s₁ = { s with heap := s.heap.push { cls := .type "dict", data := .dict #[] } }) F.kt_called_dict (F.kt_typeCall_dict_1 _) F.entry_dict_init (kt_code_dict_new _ ⟨rfl, rfl⟩) ?_
  rintro obj s₁ ⟨rfl, rfl⟩
  have hnew : (s.heap.push { cls := .type "dict", data := .dict #[] }).DictOf (mixKind X.prog X.w) s.heap.objs.size [] := Heap.DictOf.new s.heap
  have gt1 : (s.heap.push { cls := .type "dict", data := .dict #[] }).get? t = some o := Heap.get?_push_of_some _ gt
  refine ⟨hnew.typeIs, F.args_dict_init_2 _ _, ?_⟩
  unfold Builtin.«dict.__init__»
  refine wpAny_bind ?_
  unfold Builtin.Dict.selfAndRest
  refine wpAny_bind (wpAny_notOrdered_dict hnew.typeIs ?_)
  show wpAny _ _ (pure (s.heap.objs.size, [Value.ref t])) _ _ _
  refine wpAny_pure ?_
  show wpAny _ _ (Builtin.Dict.updateFrom "dict.__init__" s.heap.objs.size (.ref t) [] .none) _ _ _
  unfold Builtin.Dict.updateFrom
  refine wpAny_bind (wpAny_typeOf (T := "list") ⟨o, gt1, hcl⟩ ?_)
  rw [if_pos (by decide)]
  refine wpAny_bind (miss_keysL (o := o) (xs := its.toArray) (k := n) gt1 hcl hdat hod hh fun h1 tk1 kp1 => ?_)
  rw [if_pos (show (none : Option Value).isNone = true from rfl)]
  have kp : ∀ b ob, s.heap.get? b = some ob → h1.get? b = some ob := fun b ob e => kp1 b ob (Heap.get?_push_of_some _ e)
  have gt2 := kp t o gt
  have gd2 : h1.get? s.heap.objs.size = some { cls := .type "dict", data := .dict #[] } := kp1 _ _ (Heap.get?_push_size _ rfl)
  have dlt : s.heap.objs.size < h1.objs.size := Heap.lt_size gd2
  have dd1 : h1.DictOf (mixKind X.prog X.w) s.heap.objs.size [] := by
    obtain ⟨od, es, ep, gg, rr⟩ := hnew
    exact ⟨od, es, ep, kp1 _ _ gg, rr⟩
  refine wpAny_bind (wpAny_rule ?_)
  refine wpAny_bind (wpAny_pyIter_list (items := its.toArray) ⟨o, gt2, hcl, n, hdat⟩ ?_)
  refine wpAny_pure ⟨Code.quiet_builtin _ (by decide +kernel), ?_⟩
  have epl : ps.length = its.toArray.size := by simp; omega
  have fsts : ps.map (·.1) = kvs.map (·.1) := by
    refine List.ext_getElem (by simp [hpl]) fun j h1 h2 => ?_
    rw [List.getElem_map, List.getElem_map]
    rw [List.length_map] at h1 h2
    obtain ⟨u, eu, e1, _⟩ := hps j kvs[j] (List.getElem?_eq_getElem h2)
    rw [List.getElem?_eq_getElem h1] at eu
    cases eu
    exact e1
  refine upd_loopL (A := X.A.in1) (ps := ps) (items := its.toArray) (h0 := h1.push { cls := .type "list_iterator", data := .fields #[.ref t, .int 0 0] }) (t := t) (d := s.heap.objs.size) (it := h1.objs.size) (show X.A.in1.handled = none from hh) ⟨o, Heap.get?_push_of_some _ gt2, hcl, n, hdat⟩ ⟨Nat.ne_of_lt (Nat.lt_trans tlt dlt), Nat.ne_of_lt tlt⟩ (Nat.ne_of_gt dlt) epl (by rw [← epl, hpl, hkl]; exact hys) (fun j k v hj => ?_) (by rw [fsts]; exact nd) its.toArray.size 0 _ { s with heap := h1.push { cls := .type "list_iterator", data := .fields #[.ref t, .int 0 0] }, toks := tk1 } (by omega) ⟨_, Heap.get?_push_size _ rfl, rfl, rfl⟩ (dd1.push _) (fun b o _ _ e => e) (fun h2 k2 dd2 kp2 => ?_)
  · have hjl : j < kvs.length := by
      have := (List.getElem?_eq_some_iff.mp hj).1
      omega
    obtain ⟨u, eu, e1, e2, a, oa, key, na, e3, e4, e5, e6, e7⟩ := hps j kvs[j] (List.getElem?_eq_getElem hjl)
    rw [hj] at eu
    cases eu
    have alt := Heap.lt_size e4
    refine ⟨a, oa, key, na, by simpa using e3, Heap.get?_push_of_some _ (kp a oa e4), e5, e6, ?_, Nat.ne_of_lt (Nat.lt_trans alt dlt), Nat.ne_of_lt alt⟩
    rw [show k = kvs[j].1 from e1]
    exact e7
  · refine ⟨rfl, .ref s.heap.objs.size, _, ?_, rfl, q s.heap.objs.size (I.hok.fresh (Nat.le_refl _))⟩
    have rel : KV kvs ps := kv_of hpl fun j k v e => by
      obtain ⟨u, eu, e1, e2, _⟩ := hps j (k, v) e
      obtain ⟨u1, u2⟩ := u
      cases (show u1 = k from e1)
      exact ⟨u2, eu, e2⟩
    refine I.laid (a := s.heap.objs.size) (o := .dK kvs) (fun b qo hb => ?_) (Nat.le_refl _) (dk_new (by rw [sizeLine_eq]; omega) (beq_eq_false_iff_ne.mpr (Ne.symm (Nat.ne_of_lt I.big))) rel dd2)
    have blt := Heap.lt_size hb
    exact kp2 b qo (Nat.ne_of_lt (Nat.lt_trans blt dlt)) (Nat.ne_of_lt blt) (Heap.get?_push_of_some _ (kp b qo hb))
end
end L2

/-! FOR owned (own work): a return while a dict stands frozen; isinstance of all that a content may be. -/
namespace L2
open PySem PySem.Spec PyProof.Rows
theorem SqT.rd {K : PySem.W.Frag} {H : Hp} {a : Addr} {xs : List V} (h : Rd H a (.tup xs)) : SqT K H a xs := .inl h
def TyW (K : PySem.W.Frag) (H : Hp) (v : V) (n : String) : Prop := TyOf K H v (.type n) ∨ (∃ a ys, v = .ref a ∧ Rd H a (.tup ys) ∧ n = "tuple") ∨ ∃ a kvs, v = .ref a ∧ Rd H a (.dK kvs) ∧ n = "dict"
theorem call_isW {X : Cx} : CallR X (.builtin "isinstance") (fun xs H Q => ∃ x n m b, xs = [x, .ty m] ∧ TyW X.K H x n ∧ kitTy n m = some b ∧ Q (.bl b) H) := by
  intro pins s σ H xs us Q I r h
  obtain ⟨x, n, m, b, rfl, hx, e, q⟩ := h
  rcases hx with hx | ⟨a, ys, rfl, ha, rfl⟩ | ⟨a, kvs, rfl, ha, rfl⟩
  · exact call_isi pins s σ H _ us Q I r ⟨x, m, .type n, b, rfl, hx, kit_eq.trans e, q⟩
  · obtain ⟨u, w', rfl, rx, rc⟩ := vals2 r
    cases rx
    cases (show w' = Value.type m from rc)
    obtain ⟨its, _, ⟨o, h1, h2, _⟩, _⟩ := I.tuple (SqT.rd ha)
    exact PySem.W.kia_one PySem.W.kitx_tuple I.kIn ⟨o, h1, h2⟩ (kit_eq.trans e) (fun z => nomatch z) fun tk => ⟨.bl b, H, I.tok tk, rfl, q⟩
  · exact call_isiD pins s σ H _ us Q I r ⟨a, kvs, m, b, rfl, ha, kit_eq.trans e, q⟩
def sFrzX (t : TS) : TS := fun D σ H => ∃ (a : Addr) (kvs : List (Key × V)), Rd H a (.dK kvs) ∧ ∀ (H0 : Hp) (o : Obj) (D' : Ends), H0 a = some (.frz o (.dK kvs)) → (∀ b u, b ≠ a → H b = some u → H0 b = some u) → (∀ b, H0 b = none → H b = none) →
  (∀ v H', Same H0 H' → (∀ H2, Same H H2 → Same (cut H0 H') (cut H H2) → D.rt v H2) → D'.rt v H') → t D' σ H0
theorem ps_frzX {X : Cx} {st : Stmt} {t : TS} (h : PS X st t) : PS X st (sFrzX t) := by
  intro pins s σ H D I hq
  obtain ⟨a, kvs, rd, q⟩ := hq
  refine ps_frzR h pins s σ H D I ⟨a, kvs, rd, fun o e => ?_, fun e o => ?_⟩
  · exact q H o D e (fun b u _ h => h) (fun b h => h) fun v H' s' k => k H' s' (Same.refl _)
  · have nH : ∀ b, (upd H a (.frz o (.dK kvs))) b = none → H b = none := fun b h => by
      have nb : b ≠ a := fun z => by rw [z, upd_same] at h; cases h
      rwa [upd_ne nb] at h
    refine q _ o (frzE a o kvs D) upd_same (fun b u nb h => (upd_ne nb).trans h) nH fun v H' s' k => ⟨s' _ _ upd_same, k _ (back_same e s') fun b u hb => ?_⟩
    have n0 := cut_new hb
    have nb : b ≠ a := fun z => by rw [z, upd_same] at n0; cases n0
    exact cut_at (nH b n0) ((upd_ne nb).trans (cut_sub _ _ hb))
inductive Sm : Dp → Prop
  | fl {v : V} : Sm (.fl v)
  | tup {ds : List Dp} (hz : ds.length ≤ 1000) (h : ∀ d ∈ ds, Sm d) : Sm (.tup ds)
  | lst {ds : List Dp} (hz : ds.length ≤ 1000) (h : ∀ d ∈ ds, Sm d) : Sm (.lst ds)
  | dic {kds : List (Str × Dp)} (hz : kds.length ≤ 1000) (nd : (kds.map (·.1)).Nodup) (h : ∀ k ∈ kds, Sm k.2) : Sm (.dic kds)
theorem Dw.ty {K : PySem.W.Frag} {H : Hp} {n : Nat} {v : V} (h : flt v = true) : ∃ m, TyW K H v m ∧ kitTy m "list" = some false ∧ kitTy m "tuple" = some false ∧ kitTy m "dict" = some false := by
  cases v with
  | non => exact ⟨"NoneType", .inl .non, by decide +kernel, by decide +kernel, by decide +kernel⟩
  | bl b => exact ⟨"bool", .inl (.bl b), by decide +kernel, by decide +kernel, by decide +kernel⟩
  | int i => exact ⟨"int", .inl (.int i), by decide +kernel, by decide +kernel, by decide +kernel⟩
  | str z => exact ⟨"str", .inl (.str z), by decide +kernel, by decide +kernel, by decide +kernel⟩
  | _ => cases h
/-- .. where a dict has been frozen -/
theorem Dw.frz {H H0 : Hp} {a : Addr} {o : Obj} {kvs : List (Key × V)} (rd : Rd H a (.dK kvs)) (h0 : H0 a = some (.frz o (.dK kvs))) (s : ∀ b u, b ≠ a → H b = some u → H0 b = some u) {n : Nat} {d : Dp} {v : V} (h : Dw H n d v) : Dw H0 n d v := by
  have ne : ∀ {b : Addr} {u : HO}, H b = some u → (∀ k, u ≠ .dK k) → (∀ o k, u ≠ .frz o (.dK k)) → b ≠ a := fun {b u} e h1 h2 z => by
    rw [z] at e
    rcases rd with r | ⟨o', r⟩
    · rw [r] at e; cases e; exact h1 _ rfl
    · rw [r] at e; cases e; exact h2 _ _ rfl
  induction h with
  | fl h => exact .fl h
  | tup ha hl _ ih =>
    refine .tup ?_ hl ih
    rcases ha with e | ⟨o', e⟩
    · exact .inl (s _ _ (ne e (fun _ h => by cases h) (fun _ _ h => by cases h)) e)
    · exact .inr ⟨o', s _ _ (ne e (fun _ h => by cases h) (fun _ _ h => by cases h)) e⟩
  | lst ha hl _ ih => exact .lst (s _ _ (ne ha (fun _ h => by cases h) (fun _ _ h => by cases h)) ha) hl ih
  | @dic n b vs kds ha hl _ ih =>
    refine .dic ?_ hl ih
    by_cases hb : b = a
    · subst hb
      rw [rd_dk_inj ha rd]
      exact .inr ⟨o, h0⟩
    · rcases ha with e | ⟨o', e⟩
      · exact .inl (s _ _ hb e)
      · exact .inr ⟨o', s _ _ hb e⟩
/-- new things but D -/
def nw (H : Hp) (D : Addr) (H' : Hp) : Hp := fun b => if b = D then none else cut H H' b
theorem nw_cut {H H' : Hp} {D : Addr} : Same (nw H D H') (cut H H') := fun b o e => by
  unfold nw at e
  split at e
  · cases e
  · exact e
theorem nw_at {H H' : Hp} {D b : Addr} {o : HO} (h : b ≠ D) (h0 : H b = none) (e : H' b = some o) : nw H D H' b = some o := by
  unfold nw
  rw [if_neg h]
  exact cut_at h0 e
theorem nw_ne {H H' : Hp} {D b : Addr} {o : HO} (e : nw H D H' b = some o) : b ≠ D := fun z => by
  unfold nw at e
  rw [if_pos z] at e
  cases e
theorem nw_put {H H' : Hp} {D : Addr} {o : HO} : Same (nw H D H') (nw H D (upd H' D o)) := fun b u e => by
  have hb := nw_ne e
  have hc := nw_cut _ _ e
  exact nw_at hb (cut_new hc) ((upd_ne hb).trans (cut_sub _ _ hc))
theorem nw_up {H H' H2 : Hp} {D : Addr} (s : Same H' H2) : Same (nw H D H') (nw H D H2) := fun b u e => nw_at (nw_ne e) (cut_new (nw_cut _ _ e)) (s _ _ (cut_sub _ _ (nw_cut _ _ e)))
theorem nw_in {H H1 H2 : Hp} {D : Addr} {o : HO} (s : Same H H1) (hD : H1 D = some o) : Same (cut H1 H2) (nw H D H2) := fun b u e => nw_at (fun z => by have := cut_new e; rw [z, hD] at this; cases this) (none_of s (cut_new e)) (cut_sub _ _ e)
theorem Dv.dw {H : Hp} {n : Nat} {d : Dp} {v : V} (h : Dv H n d v) : Dw H n d v := by
  induction h with
  | fl h => exact .fl h
  | tup ha hl _ ih => exact .tup (.inl ha) hl ih
  | lst ha hl _ ih => exact .lst ha hl ih
  | dic ha nd hl _ ih => exact .dic (.inl ha) hl ih
end L2

namespace My
open PySem L2 PyProof.Rows
seal L2.PE L2.PT L2.PW L2.PS L2.PSs L2.PA L2.PI L2.PG L2.PGs L2.OpR L2.CallR L2.IxR L2.SlR L2.MtR L2.PIf L2.PO L2.MtM L2.PC
/-! ### pieces of one row -/
abbrev Row := List (Str × Int)
def rK (row : Row) : List (Key × V) := row.map fun c => (.inr c.1, .int c.2)
def tL (T : Str) (l : Addr) : List (Key × V) := [(.inr T, .ref l)]
def PcA (H : Hp) (p : Addr) (T : Str) (row : Row) : Prop := ∃ l r : Addr, H p = some (.dK (tL T l)) ∧ H l = some (.lst [.ref r]) ∧ H r = some (.dK (rK row))
theorem tL_ne {row : Row} {T : Str} {l : Addr} : tL T l ≠ rK row := fun e => by
  have h : ((.inr T : Key), V.ref l) ∈ rK row := by rw [← e]; exact List.mem_singleton.mpr rfl
  obtain ⟨c, _, h⟩ := List.mem_map.mp h
  cases h
theorem PcA.nt {H H' : Hp} (s : Ntb H H') {p : Addr} {T : Str} {row : Row} (h : PcA H p T row) : PcA H' p T row := let ⟨l, r, a, b, c⟩ := h; ⟨l, r, s _ _ a (fun _ h => by cases h), s _ _ b (fun _ h => by cases h), s _ _ c (fun _ h => by cases h)⟩
theorem PcA.same {H H' : Hp} (s : Same H H') {p : Addr} {T : Str} {row : Row} (h : PcA H p T row) : PcA H' p T row := h.nt (.of s)
def rwD (row : Row) : Dp := .dic (row.map fun c => (c.1, .fl (.int c.2)))
def pcD (T : Str) (row : Row) : Dp := .dic [(T, .lst [rwD row])]
theorem rK_zip (row : Row) : ((row.map fun c => (c.1, Dp.fl (.int c.2))).map (·.1)).zipWith (fun z v => ((Sum.inr z : Key), v)) (row.map fun c => V.int c.2) = rK row := by
  induction row with
  | nil => rfl
  | cons c r ih =>
    rw [List.map_cons, List.map_cons, List.map_cons, List.zipWith_cons_cons, ih]
    rfl
theorem rw_dw {H : Hp} {r : Addr} {row : Row} (h : H r = some (.dK (rK row))) : Dw H 1 (rwD row) (.ref r) := by
  refine .dic (vs := row.map fun c => V.int c.2) (.inl (by rw [rK_zip]; exact h)) (by rw [List.length_map, List.length_map]) fun i v k h1 h2 => ?_
  rw [List.getElem?_map] at h1 h2
  obtain ⟨c, e1, rfl⟩ := Option.map_eq_some_iff.mp h1
  rw [e1] at h2
  cases h2
  exact .fl rfl
theorem PcA.dw {H : Hp} {p : Addr} {T : Str} {row : Row} (h : PcA H p T row) : Dw H 3 (pcD T row) (.ref p) := by
  obtain ⟨l, r, a, b, c⟩ := h
  exact DwL.dic (ks := [T]) (ds := [.lst [rwD row]]) (vs := [.ref l]) (.inl a) (.cons (DwL.lst b (.cons (rw_dw c) .nil)) .nil) rfl
theorem ints_eq : ∀ {r1 r2 : Row}, r1.length = r2.length → DeqL (r1.map fun c => .fl (.int c.2)) (r2.map fun c => .fl (.int c.2)) (r1.map (·.2) == r2.map (·.2))
  | [], [], _ => .nil
  | c :: r1, d :: r2, h => by
    rw [List.map_cons, List.map_cons, List.map_cons, List.map_cons, List.cons_beq_cons]
    exact .cons .int (ints_eq (by simpa using h))
theorem rw_eq {r1 r2 : Row} (h : r1.map (·.1) = r2.map (·.1)) : Deq (rwD r1) (rwD r2) (r1.map (·.2) == r2.map (·.2)) := by
  have hl : r1.length = r2.length := by have := congrArg List.length h; simpa using this
  have e := (ints_eq hl).dic (ks := r1.map (·.1)) (by rw [List.length_map, List.length_map])
  have z : ∀ r : Row, (r.map (·.1)).zip (r.map fun c => Dp.fl (.int c.2)) = r.map fun c => (c.1, Dp.fl (.int c.2)) := fun r => by
    induction r with
    | nil => rfl
    | cons c r ih => rw [List.map_cons, List.map_cons, List.zip_cons_cons, ih]; rfl
  rw [z r1, h, z r2] at e
  exact e
theorem pc_eq {T : Str} {r1 r2 : Row} (h : r1.map (·.1) = r2.map (·.1)) : Deq (pcD T r1) (pcD T r2) (r1.map (·.2) == r2.map (·.2)) :=
  (DeqL.dic (ks := [T]) (ds := [.lst [rwD r1]]) (es := [.lst [rwD r2]]) (.cons (DeqL.lst (.cons (rw_eq h) .nil)) .nil) rfl).to (by rw [Bool.and_true, Bool.and_true])
theorem rK_val {row : Row} {C : Str} {x : Int} (nd : (row.map (·.1)).Nodup) (h : (C, x) ∈ row) : valV (rK row) (.inr C) = some (.int x) := by
  induction row with
  | nil => cases h
  | cons d r ih =>
    rw [List.map_cons, List.nodup_cons] at nd
    rcases List.mem_cons.mp h with rfl | h
    · unfold valV rK
      simp
    · have ne : d.1 ≠ C := fun e => nd.1 (List.mem_map.mpr ⟨(C, x), h, e.symm⟩)
      have ih := ih nd.2 h
      unfold valV rK at ih ⊢
      rw [List.map_cons, List.find?_cons_of_neg (by simp [ne])]
      exact ih
def putR (row : Row) (C : Str) (y : Int) : Row := row.map fun c => if c.1 = C then (C, y) else c
theorem rK_put {row : Row} {C : Str} {x y : Int} (hm : (C, x) ∈ row) : putK (rK row) (.inr C) (.int y) = rK (putR row C y) := by
  unfold putK
  have hany : ((rK row).any fun kv => decide (kv.1 = (.inr C : Key))) = true := List.any_eq_true.mpr ⟨(.inr C, .int x), List.mem_map.mpr ⟨_, hm, rfl⟩, decide_eq_true rfl⟩
  rw [if_pos hany]
  unfold rK putR
  rw [List.map_map, List.map_map]
  refine List.map_congr_left fun c _ => ?_
  show (if (Sum.inr c.1 : Key) = .inr C then ((Sum.inr c.1 : Key), V.int y) else (.inr c.1, .int c.2)) = (.inr (if c.1 = C then (C, y) else c).1, .int (if c.1 = C then (C, y) else c).2)
  by_cases h : c.1 = C
  · rw [if_pos h, if_pos (by rw [h]), h]
  · rw [if_neg h, if_neg (fun e => h (by injection e))]
def dropR (row : Row) (C : Str) : Row := row.filter fun c => decide (c.1 ≠ C)
theorem rK_drop {row : Row} {C : Str} : dropK (rK row) (.inr C) = rK (dropR row C) := by
  unfold dropK rK dropR
  rw [List.filter_map]
  congr 1
  refine List.filter_congr fun c _ => ?_
  show decide ((Sum.inr c.1 : Key) ≠ .inr C) = decide (c.1 ≠ C)
  rw [Bool.eq_iff_iff, decide_eq_true_iff, decide_eq_true_iff]
  exact ⟨fun h e => h (by rw [e]), fun h e => h (by injection e)⟩
structure RwOk (row : Row) (C : Str) (x : Int) : Prop where
  nd : (row.map (·.1)).Nodup
  le : row.length ≤ 12
  hm : (C, x) ∈ row
def spCopied : Sp := fun vs H Q _ => ∃ (p : Addr) (T : Str) (row : Row), vs = [.ref p] ∧ PcA H p T row ∧ ∀ p' H', Same H H' → PcA (cut H H') p' T row → Q (.ref p') H'
def spVi : Sp := fun vs H Q _ => ∃ (p : Addr) (T C : Str) (row : Row) (x : Int), vs = [.ref p, .str T, .str C] ∧ PcA H p T row ∧ RwOk row C x ∧ ∀ l H', Same H H' → H' l = some (.lst [.int x]) → Q (.ref l) H'
def spWv : Sp := fun vs H Q _ => ∃ (p vl : Addr) (T C : Str) (row : Row) (x y : Int), vs = [.ref p, .str T, .str C, .ref vl] ∧ PcA H p T row ∧ RwOk row C x ∧ H vl = some (.lst [.int y]) ∧ ∀ p' H', Same H H' → PcA (cut H H') p' T (putR row C y) → Q (.ref p') H'
theorem valV1 {C : Str} {v : V} : valV [((.inr C : Key), v)] (.inr C) = some v := by unfold valV; simp
theorem put1 {C : Str} {v u : V} : putK [((.inr C : Key), v)] (.inr C) u = [(.inr C, u)] := by unfold putK; simp
section
variable {P : Program} {w : World} {K : PySem.W.Frag} {mg : Str → Option Value} {base : Heap}
theorem ok_copied {f : Addr} {fd : FuncData} (F : Fun K "copied" "copied" (top 32) f fd) (B : Bl mg) : FnOk P w K mg base CX0 1 f fd ["piece"] spCopied := by
  have sc : FnScope ["piece", "fresh", "table", "rows"] ["piece"] (defScope (top 32)) := ⟨rfl, rfl, rfl, by decide +kernel, rfl, by decide +kernel, by decide +kernel⟩
  refine F.ok sc (fun vs H Q E h => ?_) (fun cdv A outer s H vs Q E hr h => ?_)
  · obtain ⟨p, T, row, rfl, _⟩ := h
    rfl
  · obtain ⟨p, T, row, rfl, ⟨l, r, hp, hl, hrr⟩, q⟩ := h
    have hu : (A.deeper (envOfC "copied" (defScope (top 32)) s.heap.objs.size f cdv)).units + 1 < cLine := hu_of hr
    refine ⟨_, pss_cons (ps_set (i := 1) sc.nd rfl (Or.inl rfl) pe_dnewK) (pss_cons (ps_frz (ps_for PassesOwn.never rfl (pi_items (pv 0)) (pg_tup rfl (pgs_cons (pg_name (i := 2) sc.nd rfl (Or.inl rfl)) (pgs_cons (pg_name (i := 3) sc.nd rfl (Or.inl rfl)) pgs_nil)))
        (pss_one (ps_dput hu (pv 1) (pv 2) (pe_comp (osc := defScope (top 32)) (N0 := ["piece", "fresh", "table", "rows"]) (xs := ["row"]) (fr := []) ⟨rfl, by decide +kernel, by decide +kernel, by decide +kernel, by decide, by decide +kernel⟩ rfl rfl rfl (pi_list (pv 3))
          (fun s H fp => pg_name (i := 0) (show (["row"] : List Str).Nodup by decide +kernel) rfl (Or.inl rfl)) (fun s H fp => pif_nil) (fun s H fp => pe_callTy call_dict_of (by rfl) B.dict boot_dict (pa_cons (pv 0) pa_nil))) rfl)))) (pss_one (ps_ret (pv 1)))), ?_⟩
    intro fr hfr
    have S0 : Same H (upd H fr (.dK [])) := Same.upd hfr
    refine ⟨p, _, S0 _ _ hp, fun o => ?_⟩
    have np : p ≠ fr := fun e => by rw [← e, hp] at hfr; cases hfr
    have d0 : (upd H fr (.dK [])) fr = some (.dK []) := upd_same
    have hfa : (upd (upd H fr (.dK [])) p (.frz o (.dK (tL T l)))) p = some (.frz o (.dK (tL T l))) := upd_same
    have nlp : l ≠ p := fun e => by rw [e, hp] at hl; cases hl
    have nrp : r ≠ p := fun e => by rw [e, hp] at hrr; injection hrr with hrr; injection hrr with hrr; exact tL_ne hrr
    have hl1 : (upd (upd H fr (.dK [])) p (.frz o (.dK (tL T l)))) l = some (.lst [.ref r]) := by rw [upd_ne nlp]; exact S0 _ _ hl
    have hr1 : (upd (upd H fr (.dK [])) p (.frz o (.dK (tL T l)))) r = some (.dK (rK row)) := by rw [upd_ne nrp]; exact S0 _ _ hrr
    have hf1 : (upd (upd H fr (.dK [])) p (.frz o (.dK (tL T l)))) fr = some (.dK []) := by rw [upd_ne np.symm]; exact d0
    have hk1 : ∀ b u, b ≠ p → H b = some u → (upd (upd H fr (.dK [])) p (.frz o (.dK (tL T l)))) b = some u := fun b u nb e => by rw [upd_ne nb]; exact S0 _ _ e
    have nH : ∀ b, (upd (upd H fr (.dK [])) p (.frz o (.dK (tL T l)))) b = none → H b = none := fun b e => by
      have n1 : b ≠ p := fun z => by rw [z, hfa] at e; cases e
      rw [upd_ne n1] at e
      exact none_of S0 e
    generalize upd (upd H fr (.dK [])) p (.frz o (.dK (tL T l))) = H1 at *
    refine ⟨_, rfl, p, o, _, rfl, hfa, for_items1 (a := p) (o := o) (k := .inr T) (v := .ref l) hfa fun t1 ht1 => ?_⟩
    have T1 := Same.upd (o := .tup [kV (.inr T), V.ref l]) ht1
    refine ⟨t1, _, rfl, SqT.of upd_same, rfl, _, _, rfl, _, _, rfl, rfl, ?_⟩
    generalize upd H1 t1 (.tup [kV (.inr T), V.ref l]) = H2 at *
    refine ⟨_, rfl, l, rfl, ⟨_, SqL.of (T1 _ _ hl1)⟩, fun D hD => ?_⟩
    have T2 := Same.upd (o := .lst []) hD
    refine compW1 upd_same ⟨_, V.ref r, SqL.of ((T1.trans T2) _ _ hl1), rfl⟩ ?_
    rintro y H' ⟨rfl, hx'⟩
    cases hx' _ (SqL.of ((T1.trans T2) _ _ hl1))
    refine ⟨_, rfl, r, _, rfl, .inl ((T1.trans T2) _ _ hr1), fun r' hr' => ?_⟩
    have T3 := Same.upd (o := .dK (rK row)) hr'
    have hDn := T3 D _ upd_same
    have S3 : Same H2 (upd (upd (upd H2 D (.lst [])) r' (.dK (rK row))) D (.lst [V.ref r'])) := (T2.trans T3).put hD
    have nrD : r' ≠ D := fun e => by rw [e, upd_same] at hr'; cases hr'
    have er' : (upd (upd (upd H2 D (.lst [])) r' (.dK (rK row))) D (.lst [V.ref r'])) r' = some (.dK (rK row)) := by rw [upd_ne nrD]; exact upd_same
    have eD' : (upd (upd (upd H2 D (.lst [])) r' (.dK (rK row))) D (.lst [V.ref r'])) D = some (.lst [V.ref r']) := upd_same
    have fr4 : (upd (upd (upd H2 D (.lst [])) r' (.dK (rK row))) D (.lst [V.ref r'])) fr = some (.dK []) := (T1.trans S3) _ _ hf1
    have nrf : r' ≠ fr := fun e => by rw [e, (T1.trans T2) _ _ hf1] at hr'; cases hr'
    have hnr : H r' = none := nH r' (none_of (T1.trans T2) hr')
    have hnD : H D = none := nH D (none_of T1 hD)
    refine ⟨hDn, ⟨_, SqL.of ((T1.trans S3) _ _ hl1), Nat.le_refl _⟩, ?_⟩
    generalize upd (upd (upd H2 D (.lst [])) r' (.dK (rK row))) D (.lst [V.ref r']) = H3 at *
    refine ⟨_, rfl, _, rfl, fr, _, rfl, DPut.k (k := .inr T) fr4 (by show 0 < sizeLine; decide), ?_⟩
    have ep : putK [] (.inr T) (.ref D) = tL T D := rfl
    rw [ep]
    have S4 : Same H (upd (upd H3 fr (.dK (tL T D))) p (.dK (tL T l))) := fun b u e => by
      by_cases hb : b = p
      · rw [hb, upd_same]
        rw [hb, hp] at e
        exact e
      · rw [upd_ne hb, upd_ne (ne_of_none e hfr)]
        exact (T1.trans S3) _ _ (hk1 b u hb e)
    have p4 : (upd H3 fr (.dK (tL T D))) p = some (.frz o (.dK (tL T l))) := by rw [upd_ne np]; exact (T1.trans S3) _ _ hfa
    refine ⟨p4, p4, _, rfl, q fr _ S4 ⟨D, r', cut_at hfr (by rw [upd_ne np.symm]; exact upd_same), cut_at hnD ?_, cut_at hnr ?_⟩⟩
    · rw [upd_ne (fun e => by rw [e, (T1.trans S3) _ _ hfa] at eD'; cases eD'), upd_ne (fun e => by rw [e, fr4] at eD'; cases eD')]
      exact eD'
    · rw [upd_ne (fun e => by rw [e, (T1.trans S3) _ _ hfa] at er'; cases er'), upd_ne nrf]
      exact er'
theorem ok_vi {f : Addr} {fd : FuncData} (F : Fun K "values_in" "values_in" (top 43) f fd) : FnOk P w K mg base CX0 1 f fd ["piece", "table", "column"] spVi := by
  have sc : FnScope ["piece", "table", "column"] ["piece", "table", "column"] (defScope (top 43)) := ⟨rfl, rfl, rfl, by decide +kernel, rfl, by decide +kernel, by decide +kernel⟩
  refine F.ok sc (fun vs H Q E h => ?_) (fun cdv A outer s H vs Q E hr h => ?_)
  · obtain ⟨p, T, C, row, x, rfl, _⟩ := h
    rfl
  · obtain ⟨p, T, C, row, x, rfl, ⟨l, r, hp, hl, hrr⟩, ok, q⟩ := h
    have hu : (A.deeper (envOfC "values_in" (defScope (top 43)) s.heap.objs.size f cdv)).units + 1 < cLine := hu_of hr
    refine ⟨_, pss_one (ps_ret (pe_comp (osc := defScope (top 43)) (N0 := ["piece", "table", "column"]) (xs := ["row"]) (fr := [2]) ⟨rfl, by decide +kernel, by decide +kernel, by decide +kernel, (fun j hj => by
              have e : j = 2 := by simpa using hj
              subst e
              exact ⟨_, rfl, by decide +kernel⟩), by decide +kernel⟩ rfl rfl rfl (pi_list (pe_dget hu (pv 0) (pv 1) (fun _ _ => rfl)))
            (fun s H fp => pg_name (i := 0) (show (["row", "column"] : List Str).Nodup by decide +kernel) rfl (Or.inl rfl)) (fun s H fp => pif_nil)
            (fun s H fp => pe_dget hu (pv 0) (pv 1) (fun _ _ => rfl)))), ?_⟩
    refine ⟨_, rfl, _, rfl, p, .ref l, rfl, .inl ⟨_, .inr T, .inl hp, rfl, valV1.symm⟩, l, rfl, ⟨_, SqL.of hl⟩, fun D hD => ?_⟩
    have S := Same.upd (o := .lst []) hD
    refine compW1 upd_same ⟨_, V.ref r, SqL.of (S _ _ hl), rfl⟩ ?_
    rintro y H' ⟨rfl, hx'⟩
    cases hx' _ (SqL.of (S _ _ hl))
    exact ⟨_, rfl, _, rfl, r, .int x, rfl, .inl ⟨_, .inr C, .inl (S _ _ hrr), rfl, (rK_val ok.nd ok.hm).symm⟩, upd_same, ⟨_, SqL.of ((S.put hD) _ _ hl), Nat.le_refl _⟩, q D _ (S.put hD) upd_same⟩
theorem ok_wv {f fC : Addr} {fd fdC : FuncData} (F : Fun K "with_values" "with_values" (top 42) f fd) (B : Bl mg) (hz : mg "zip" = none) (DC : Df K mg "copied" (top 32) fC fdC) : FnOk P w K mg base CX0 2 f fd ["piece", "table", "column", "values"] spWv := by
  have sc : FnScope ["piece", "table", "column", "values", "fresh", "row", "value"] ["piece", "table", "column", "values"] (defScope (top 42)) := ⟨rfl, rfl, rfl, by decide +kernel, rfl, by decide +kernel, by decide +kernel⟩
  have GC : FnOk P w K mg base CX0 1 fC fdC ["piece"] spCopied := ok_copied DC.fn B
  have bC := DC.fn.binds (ps := ["piece"]) fun _ _ _ _ _ _ us hl => by obtain ⟨v0, rfl⟩ := L2.ln1 hl; rfl
  refine F.ok sc (fun vs H Q E h => ?_) (fun cdv A outer s H vs Q E hr h => ?_)
  · obtain ⟨p, vl, T, C, row, x, y, rfl, _⟩ := h
    rfl
  · obtain ⟨p, vl, T, C, row, x, y, rfl, hp, ok, hvl, q⟩ := h
    have hu : (A.deeper (envOfC "with_values" (defScope (top 42)) s.heap.objs.size f cdv)).units + 1 < cLine := hu_of hr
    refine ⟨_, pss_cons (ps_set (i := 4) sc.nd rfl (Or.inl rfl) (pe_call GC hr (by rfl) DC.mg DC.fn.kp bC .nil pass0 (pa_cons (pv 0) pa_nil)))
      (pss_cons (ps_for PassesOwn.never rfl (pi_zipL (by rfl) hz (pa_cons (pe_dget hu (pv 4) (pv 1) (fun _ _ => rfl)) (pa_cons (pv 3) pa_nil))) (pg_tup rfl (pgs_cons (pg_name (i := 5) sc.nd rfl (Or.inl rfl)) (pgs_cons (pg_name (i := 6) sc.nd rfl (Or.inl rfl)) pgs_nil)))
        (pss_one (ps_dput hu (pv 5) (pv 2) (pv 6) rfl))) (pss_one (ps_ret (pv 4)))), ?_⟩
    refine ⟨_, rfl, p, T, row, rfl, hp, fun p' H1 s1 ⟨l, r, c1, c2, c3⟩ => ?_⟩
    have e1 := cut_sub _ _ c1
    have e2 := cut_sub _ _ c2
    have e3 := cut_sub _ _ c3
    refine ⟨_, rfl, _, rfl, p', .ref l, rfl, .inl ⟨_, .inr T, .inl e1, rfl, valV1.symm⟩, _, rfl, l, vl, rfl, ⟨_, SqL.of e2⟩, ⟨_, SqL.of (s1 _ _ hvl)⟩, ?_⟩
    refine for_zipL1 (K := K) (x := .ref r) (y := .int y) (SqL.of e2) (SqL.of (s1 _ _ hvl)) fun tp htp => ?_
    have T1 := Same.upd (o := .tup [V.ref r, .int y]) htp
    refine ⟨tp, _, rfl, SqT.of upd_same, rfl, _, _, rfl, _, _, rfl, rfl, ?_⟩
    generalize upd H1 tp (.tup [V.ref r, .int y]) = H2 at *
    refine ⟨_, rfl, _, rfl, _, rfl, r, _, rfl, DPut.k (k := .inr C) (T1 _ _ e3) (by unfold rK; rw [List.length_map, sizeLine_eq]; have := ok.le; omega), ?_⟩
    rw [rK_put ok.hm]
    have nr : H r = none := cut_new c3
    have S2 : Same H (upd H2 r (.dK (rK (putR row C y)))) := (s1.trans T1).put nr
    have el : (upd H2 r (.dK (rK (putR row C y)))) l = some (.lst [.ref r]) := by rw [upd_ne (fun e => by rw [e, e3] at e2; cases e2)]; exact T1 _ _ e2
    have npr : p' ≠ r := fun e => by
      rw [e, e3] at e1
      injection e1 with e1
      injection e1 with e1
      have : ((.inr C : Key), V.int x) ∈ rK row := List.mem_map.mpr ⟨_, ok.hm, rfl⟩
      rw [e1] at this
      unfold tL at this
      simp at this
    exact ⟨⟨SqL.of el, SqL.of (S2 _ _ hvl)⟩, _, rfl, q p' _ S2 ⟨l, r, cut_at (cut_new c1) (by rw [upd_ne npr]; exact T1 _ _ e1), cut_at (cut_new c2) el, cut_at nr upd_same⟩⟩
/-! ### ways -/
def lW : Expr := keyOf ((defBody (top 60)).getD 0 (.Pass ⟨0, 0, 0, 0⟩))
def qW : Str := "_law_way.<locals>.<lambda>"
def wPos : Pos := lamPos lW
def WayAt (pm : Value) (H : Hp) (f : Addr) (ns : List Int) : Prop := ∃ (c c' a : Addr) (o : Obj), H f = some (.ext (lamC f qW (lamArgs lW) (lamBody lW) (lamScope lW) [("_law_told_here", c)] pm c')) ∧ H c' = some (.ext (codeP c' qW)) ∧ H c = some (.ext (atP c o)) ∧ o.data = .cell (some (.ref a)) ∧ H a = some (.lst (ns.map V.int))
theorem WayAt.nt {pm : Value} {H H' : Hp} (s : Ntb H H') {f : Addr} {ns : List Int} (h : WayAt pm H f ns) : WayAt pm H' f ns := let ⟨c, c', a, o, h1, h2, h3, h4, h5⟩ := h; ⟨c, c', a, o, s _ _ h1 (fun _ h => by cases h), s _ _ h2 (fun _ h => by cases h), s _ _ h3 (fun _ h => by cases h), h4, s _ _ h5 (fun _ h => by cases h)⟩
theorem WayAt.same {pm : Value} {H H' : Hp} (s : Same H H') {f : Addr} {ns : List Int} (h : WayAt pm H f ns) : WayAt pm H' f ns := h.nt (.of s)
def wy (ns : List Int) (x : Int) : Int := ns.getD (x % ns.length).toNat 0
def RW (pm : Value) (f : Addr) (v : V) (H : Hp) (Q : VK) : Prop := ∃ (ns : List Int) (x : Int), WayAt pm H f ns ∧ v = .int x ∧ 0 < ns.length ∧ Q (.int (wy ns x)) H
def tWy (K : PySem.W.Frag) : TE := tOp (rIxL K) (tVar 1) (tOp (rI (fun _ j => 0 < j) fun i j => .int (i % j)) (tVar 0) (tCB (fun xs H Q => ∃ p ys, xs = [.ref p] ∧ (SqL K H p ys ∨ SqT K H p ys) ∧ Q (.int ys.length) H) (tCons (tVar 1) tNil)))
theorem way_ok (B : Bl mg) {pm : Value} : WayR P w K mg base 1 (RW pm) := by
  have S : LamScope "_law_value" "_law_told_here" (lamScope lW) := ⟨rfl, rfl, rfl, by decide +kernel, rfl, rfl, by decide +kernel, by decide +kernel⟩
  have key := wayR_lam (P := P) (w := w) (K := K) (mg := mg) (base := base) (k := 0) (q := qW) (params := lamArgs lW) (body := lamBody lW) (scope := lamScope lW) (pm := pm) (t := tWy K) S (fun _ _ _ _ => rfl) fun A outer s H f c c' hr =>
    pe_ix ix_list (pv 1) (pe_op op_mod (pv 0) (pe_callB call_len_seq (by rfl) B.len PySem.boot_len (pa_cons (pv 1) pa_nil))) (fun _ _ => rfl)
  intro A outer s H f u v Q hr e r ⟨ns, x, ⟨c, c', a, o, h1, h2, h3, h4, h5⟩, ev, hn, q⟩
  subst ev
  refine key A outer s H f u (.int x) Q hr e r ⟨c, c', a, o, h1, h2, h3, h4, ?_⟩
  have na : a ≠ c := fun z => by rw [z, h3] at h5; cases h5
  have h5' : del H c a = some (.lst (ns.map V.int)) := by rw [del_ne na]; exact h5
  have hl : (ns.map V.int).length = ns.length := List.length_map ..
  have n0 : (0 : Int) < ((ns.map V.int).length : Nat) := by rw [hl]; omega
  have m0 := Int.emod_nonneg x (show (((ns.map V.int).length : Nat) : Int) ≠ 0 by omega)
  have m1 := Int.emod_lt_of_pos x n0
  refine ⟨_, rfl, _, rfl, _, rfl, a, _, rfl, .inl (SqL.of h5'), _, _, rfl, rfl, n0, a, _, _, _, rfl, rfl, SqL.of h5', item_ints m0 (by rw [hl] at m1; rw [hl]; exact m1), ?_⟩
  dsimp only
  rw [upd_del h3, hl]
  exact q
def spLa (pm : Value) : Sp := fun vs H Q _ => ∃ (p wf : Addr) (T C : Str) (row : Row) (x : Int) (ns : List Int), vs = [.ref p, .str T, .str C, .ref wf] ∧ PcA H p T row ∧ RwOk row C x ∧ WayAt pm H wf ns ∧ 0 < ns.length ∧ ∀ p' H', Same H H' → PcA (cut H H') p' T (putR row C (wy ns x)) → Q (.ref p') H'
theorem ok_la {f fV fW fC : Addr} {fd fdV fdW fdC : FuncData} {pm : Value} (F : Fun K "led_along" "led_along" (top 56) f fd) (B : Bl mg) (hz : mg "zip" = none) (DV : Df K mg "values_in" (top 43) fV fdV) (DW : Df K mg "with_values" (top 42) fW fdW) (DC : Df K mg "copied" (top 32) fC fdC) : FnOk P w K mg base CX0 3 f fd ["piece", "table", "column", "way"] (spLa pm) := by
  have sc : FnScope ["piece", "table", "column", "way"] ["piece", "table", "column", "way"] (defScope (top 56)) := ⟨rfl, rfl, rfl, by decide +kernel, rfl, by decide +kernel, by decide +kernel⟩
  have GV : FnOk P w K mg base CX0 1 fV fdV ["piece", "table", "column"] spVi := ok_vi DV.fn
  have GW : FnOk P w K mg base CX0 2 fW fdW ["piece", "table", "column", "values"] spWv := ok_wv DW.fn B hz DC
  have W : WayR P w K mg base 1 (RW pm) := way_ok B
  have bV := DV.fn.binds (ps := ["piece", "table", "column"]) fun _ _ _ _ _ _ us hl => by obtain ⟨v0, v1, v2, rfl⟩ := L2.ln3 hl; rfl
  have bW := DW.fn.binds (ps := ["piece", "table", "column", "values"]) fun _ _ _ _ _ _ us hl => by obtain ⟨v0, v1, v2, v3, rfl⟩ := L2.ln4 hl; rfl
  refine F.ok sc (fun vs H Q E h => ?_) (fun cdv A outer s H vs Q E hr h => ?_)
  · obtain ⟨p, wf, T, C, row, x, ns, rfl, _⟩ := h
    rfl
  · obtain ⟨p, wf, T, C, row, x, ns, rfl, hp, ok, hw, hn, q⟩ := h
    have hr1 : Room 1 _ := hr.mono (by decide)
    refine ⟨_, pss_one (ps_ret (pe_call GW hr (by rfl) DW.mg DW.fn.kp bW .nil pass0 (pa_cons (pv 0) (pa_cons (pv 1) (pa_cons (pv 2) (pa_cons (pe_comp (osc := defScope (top 56)) (N0 := ["piece", "table", "column", "way"]) (xs := ["value"]) (fr := [3]) ⟨rfl, by decide +kernel, by decide +kernel, by decide +kernel, (fun j hj => by
              have e : j = 3 := by simpa using hj
              subst e
              exact ⟨_, rfl, by decide +kernel⟩), by decide +kernel⟩ rfl rfl rfl (pi_list (pe_call GV hr1 (by rfl) DV.mg DV.fn.kp bV .nil pass0 (pa_cons (pv 0) (pa_cons (pv 1) (pa_cons (pv 2) pa_nil)))))
            (fun s H fp => pg_name (i := 0) (show (["value", "way"] : List Str).Nodup by decide +kernel) rfl (Or.inl rfl)) (fun s H fp => pif_nil)
            (fun s H fp => pe_callWay (i := 1) W hr1 rfl (by first | exact Or.inl rfl | exact Or.inr (Or.inl rfl) | exact Or.inr (Or.inr rfl)) (pa_cons (pv 0) pa_nil))) pa_nil)))))), ?_⟩
    refine ⟨_, rfl, _, rfl, _, rfl, _, rfl, _, rfl, _, rfl, p, T, C, row, x, rfl, hp, ok, fun l H1 s1 hl => ?_⟩
    refine ⟨l, rfl, ⟨_, SqL.of hl⟩, fun D hD => ?_⟩
    have S := Same.upd (o := .lst []) hD
    refine compW1 upd_same ⟨_, V.int x, SqL.of (S _ _ hl), rfl⟩ ?_
    rintro y H' ⟨rfl, hx'⟩
    cases hx' _ (SqL.of (S _ _ hl))
    have S2 := s1.trans (S.put (o := .lst [V.int (wy ns x)]) hD)
    refine ⟨wf, rfl, _, rfl, .int x, rfl, ns, x, hw.same (s1.trans S), rfl, hn, upd_same, ⟨_, SqL.of ((S.put hD) _ _ hl), Nat.le_refl _⟩, ?_⟩
    exact ⟨p, D, T, C, row, x, wy ns x, rfl, hp.same S2, ok, upd_same, fun p' H3 s3 hp' => q p' H3 (S2.trans s3) (hp'.same (cut_dn S2))⟩
end
end My

namespace My
open PySem L2 PyProof.Rows
seal L2.PE L2.PT L2.PW L2.PS L2.PSs L2.PA L2.PI L2.PG L2.PGs L2.OpR L2.CallR L2.IxR L2.SlR L2.MtR L2.PIf L2.PO L2.MtM L2.PC
/-! ### owned -/
def spOw (n : Nat) : Sp := fun vs H Q _ => ∃ (v : V) (d : Dp) (dep : Int), vs = [v, .int dep] ∧ (n : Int) < dep ∧ Dw H n d v ∧ Sm d ∧ ∀ v' H', Same H H' → Dv (cut H H') n d v' → Q v' H'
theorem get_snoc {α : Type} {l : List α} {x y : α} {j : Nat} (h : (l ++ [x])[j]? = some y) : l[j]? = some y ∨ (j = l.length ∧ y = x) := by
  by_cases hj : j < l.length
  · rw [List.getElem?_append_left hj] at h
    exact .inl h
  · have ej : j = l.length := by
      have := (List.getElem?_eq_some_iff.mp h).1
      rw [List.length_append] at this
      simp at this
      omega
    subst ej
    rw [List.getElem?_append_right (Nat.le_refl _), Nat.sub_self] at h
    cases h
    exact .inr ⟨rfl, rfl⟩
section
variable {P : Program} {w : World} {K : PySem.W.Frag} {mg : Str → Option Value} {base : Heap}
theorem ok_ow {f : Addr} {fd : FuncData} (F : FunX K "owned" "owned" (top 46) f fd) (B : Bl mg) (mO : mg "owned" = some (.ref f)) (bO : Binds K fd ["thing", "depth"] []) : ∀ n : Nat, FnOk P w K mg base CX0 (n + 1) f fd ["thing", "depth"] (spOw n) := by
  have sc : FnScope ["thing", "depth"] ["thing", "depth"] (defScope (top 46)) := ⟨rfl, rfl, rfl, by decide +kernel, rfl, by decide +kernel, by decide +kernel⟩
  intro n
  induction n with
  | zero =>
    refine F.ok sc (fun vs H Q E h => ?_) (fun cdv A outer s H vs Q E hr h => ?_)
    · obtain ⟨v, d, dep, rfl, _⟩ := h
      rfl
    · obtain ⟨v, d, dep, rfl, hd, dw, sm, q⟩ := h
      cases dw with
      | fl hf =>
        obtain ⟨ty, t1, t2, t3, t4⟩ := Dw.ty (K := K) (H := H) (n := 0) hf
        refine ⟨_, pss_cons (ps_if (pt_cmpR op_eq (pv 1) pe_int (nomark _)) (pss_one (ps_ret (pv 0))) pss_nil)
          (pss_cons (ps_if (pt_val (pe_callB call_isW (by rfl) B.isi boot_isi (pa_cons (pv 0) (pa_cons (pe_bltn (v := .ty "list") (by rfl) B.list boot_list rfl) pa_nil)))) pss_never pss_nil)
          (pss_cons (ps_if (pt_val (pe_callB call_isW (by rfl) B.isi boot_isi (pa_cons (pv 0) (pa_cons (pe_bltn (v := .ty "tuple") (by rfl) B.tuple boot_tuple rfl) pa_nil)))) pss_never pss_nil)
          (pss_cons (ps_if (pt_val (pe_callB call_isW (by rfl) B.isi boot_isi (pa_cons (pv 0) (pa_cons (pe_bltn (v := .ty "dict") (by rfl) B.dict boot_dict rfl) pa_nil)))) pss_never pss_nil)
          (pss_one (ps_ret (pv 0)))))), ?_⟩
        refine ⟨_, rfl, rfl, _, rfl, ite2 (fun _ => ⟨_, rfl, q v H (Same.refl H) (.fl hf)⟩) (fun _ => ?_)⟩
        refine ⟨_, rfl, _, _, _, _, rfl, t1, t2, _, rfl, iteF ?_⟩
        refine ⟨_, rfl, _, _, _, _, rfl, t1, t3, _, rfl, iteF ?_⟩
        refine ⟨_, rfl, _, _, _, _, rfl, t1, t4, _, rfl, iteF ?_⟩
        exact ⟨_, rfl, q v H (Same.refl H) (.fl hf)⟩
  | succ n ih =>
    refine F.ok sc (fun vs H Q E h => ?_) (fun cdv A outer s H vs Q E hr h => ?_)
    · obtain ⟨v, d, dep, rfl, _⟩ := h
      rfl
    · obtain ⟨v, d, dep, rfl, hd, dw, sm, q⟩ := h
      have ndP : (["part", "depth"] : List Str).Nodup := by decide +kernel
      have ndK : (["key", "part", "depth"] : List Str).Nodup := by decide +kernel
      refine ⟨_, pss_cons (ps_if (pt_cmpR op_eq (pv 1) pe_int (nomark _)) pss_never pss_nil)
        (pss_cons (ps_if (pt_val (pe_callB call_isW (by rfl) B.isi boot_isi (pa_cons (pv 0) (pa_cons (pe_bltn (v := .ty "list") (by rfl) B.list boot_list rfl) pa_nil)))) (pss_one (ps_ret (pe_comp (osc := defScope (top 46)) (N0 := ["thing", "depth"]) (xs := ["part"]) (fr := [1]) ⟨rfl, by decide +kernel, by decide +kernel, by decide +kernel, (fun j hj => by
              have e : j = 1 := by simpa using hj
              subst e
              exact ⟨_, rfl, by decide +kernel⟩), by decide +kernel⟩ rfl rfl rfl (pi_list (pv 0))
            (fun s H fp => pg_name (i := 0) ndP rfl (Or.inl rfl)) (fun s H fp => pif_nil)
            (fun s H fp => pe_call ih hr (by rfl) mO F.kp bO .nil pass0 (pa_cons (pv 0) (pa_cons (pe_op op_sub (pv 1) pe_int) pa_nil)))))) pss_nil)
        (pss_cons (ps_if (pt_val (pe_callB call_isW (by rfl) B.isi boot_isi (pa_cons (pv 0) (pa_cons (pe_bltn (v := .ty "tuple") (by rfl) B.tuple boot_tuple rfl) pa_nil)))) (pss_one (ps_ret (pe_callTy call_tuple_of (by rfl) B.tuple boot_tuple (pa_cons (pe_comp (osc := defScope (top 46)) (N0 := ["thing", "depth"]) (xs := ["part"]) (fr := [1]) ⟨rfl, by decide +kernel, by decide +kernel, by decide +kernel, (fun j hj => by
              have e : j = 1 := by simpa using hj
              subst e
              exact ⟨_, rfl, by decide +kernel⟩), by decide +kernel⟩ rfl rfl rfl (pi_tup (pv 0))
            (fun s H fp => pg_name (i := 0) ndP rfl (Or.inl rfl)) (fun s H fp => pif_nil)
            (fun s H fp => pe_call ih hr (by rfl) mO F.kp bO .nil pass0 (pa_cons (pv 0) (pa_cons (pe_op op_sub (pv 1) pe_int) pa_nil)))) pa_nil)))) pss_nil)
        (pss_cons (ps_if (pt_val (pe_callB call_isW (by rfl) B.isi boot_isi (pa_cons (pv 0) (pa_cons (pe_bltn (v := .ty "dict") (by rfl) B.dict boot_dict rfl) pa_nil)))) (pss_one (ps_frzX (ps_ret (pe_callTy (call_dictL rfl) (by rfl) B.dict boot_dict (pa_cons (pe_comp (osc := defScope (top 46)) (N0 := ["thing", "depth"]) (xs := ["key", "part"]) (fr := [1]) ⟨rfl, by decide +kernel, by decide +kernel, by decide +kernel, (fun j hj => by
              have e : j = 1 := by simpa using hj
              subst e
              exact ⟨_, rfl, by decide +kernel⟩), by decide +kernel⟩ rfl rfl rfl (pi_items (pv 0))
            (fun s H fp => pg_tupK (K := K) (n := 2) rfl rfl (pgs_cons (pg_name (i := 0) ndK rfl (Or.inl rfl)) (pgs_cons (pg_name (i := 1) ndK rfl (Or.inl rfl)) pgs_nil))) (fun s H fp => pif_nil)
            (fun s H fp => pe_tup (pa_cons (pv 0) (pa_cons (pe_call ih hr (by rfl) mO F.kp bO .nil pass0 (pa_cons (pv 1) (pa_cons (pe_op op_sub (pv 2) pe_int) pa_nil))) pa_nil)))) pa_nil))))) pss_nil)
        (pss_one (ps_ret (pv 0)))))), ?_⟩
      have hne : ¬ (V.int dep = V.int 0) := fun e => by injection e; omega
      have hd' : (n : Int) < dep - 1 := by omega
      refine ⟨_, rfl, rfl, _, rfl, iteC (decide_eq_false hne) ?_⟩
      cases dw with
      | fl hf =>
        obtain ⟨ty, t1, t2, t3, t4⟩ := Dw.ty (K := K) (H := H) (n := 0) hf
        refine ⟨_, rfl, _, _, _, _, rfl, t1, t2, _, rfl, iteF ?_⟩
        refine ⟨_, rfl, _, _, _, _, rfl, t1, t3, _, rfl, iteF ?_⟩
        refine ⟨_, rfl, _, _, _, _, rfl, t1, t4, _, rfl, iteF ?_⟩
        exact ⟨_, rfl, q v H (Same.refl H) (.fl hf)⟩
      | @lst _ a vs ds ha hl hx =>
        cases sm with
        | lst hz hsm =>
        refine ⟨_, rfl, _, _, _, _, rfl, .inl (.lst ha), (show kitTy "list" "list" = some true by decide +kernel), _, rfl, iteT ?_⟩
        refine ⟨_, rfl, a, rfl, ⟨_, SqL.of ha⟩, fun D hD => ?_⟩
        refine compW_idx vs.length (fun i ys σ' Hc => (∃ t, σ' = [t, some (.int dep)]) ∧ Same H Hc ∧ ∀ (j : Nat) (y : V) (d : Dp), ys[j]? = some y → ds[j]? = some d → Dv (nw H D Hc) n d y) (by rw [sizeLine_eq]; omega) ⟨⟨none, rfl⟩, Same.upd hD, (fun j y d h => nomatch h)⟩ upd_same ?_ ?_
        · rintro i σ' Hc ys hi ⟨⟨t, rfl⟩, sc', hys⟩ hyl hD'
          refine ⟨⟨_, vs[i], SqL.of (sc' _ _ ha), List.getElem?_eq_getElem hi⟩, ?_⟩
          rintro x H' ⟨rfl, hx'⟩
          have ex := hx' _ (SqL.of (sc' _ _ ha))
          rw [List.getElem?_eq_getElem hi] at ex
          cases ex
          have hid : i < ds.length := by omega
          refine ⟨_, rfl, _, rfl, _, _, rfl, rfl, _, ds[i], _, rfl, hd', (hx i _ _ (List.getElem?_eq_getElem hi) (List.getElem?_eq_getElem hid)).same sc', hsm _ (List.getElem_mem hid), fun v' H2 s2 dw2 => ?_⟩
          refine ⟨s2 _ _ hD', ⟨_, rfl⟩, (sc'.trans s2).put hD, fun j y d h1 h2 => ?_⟩
          rcases get_snoc h1 with h1 | ⟨rfl, rfl⟩
          · exact (hys j y d h1 h2).same ((nw_up s2).trans nw_put)
          · rw [hyl, List.getElem?_eq_getElem hid] at h2
            cases h2
            exact dw2.same ((nw_in sc' hD').trans nw_put)
        · rintro σ' Hc ys ⟨_, sc', hys⟩ hDn hyl
          exact ⟨⟨_, SqL.of (sc' _ _ ha), Nat.le_refl _⟩, q _ _ sc' (.lst (cut_at hD hDn) (by omega) fun i v d h1 h2 => (hys i v d h1 h2).same nw_cut)⟩
      | @tup _ a vs ds ha hl hx =>
        cases sm with
        | tup hz hsm =>
        refine ⟨_, rfl, _, _, _, _, rfl, .inr (.inl ⟨_, _, rfl, ha, rfl⟩), (show kitTy "tuple" "list" = some false by decide +kernel), _, rfl, iteF ?_⟩
        refine ⟨_, rfl, _, _, _, _, rfl, .inr (.inl ⟨_, _, rfl, ha, rfl⟩), (show kitTy "tuple" "tuple" = some true by decide +kernel), _, rfl, iteT ?_⟩
        refine ⟨_, rfl, a, rfl, ⟨_, SqT.rd ha⟩, fun D hD => ?_⟩
        refine compW_idx vs.length (fun i ys σ' Hc => (∃ t, σ' = [t, some (.int dep)]) ∧ Same H Hc ∧ ∀ (j : Nat) (y : V) (d : Dp), ys[j]? = some y → ds[j]? = some d → Dv (nw H D Hc) n d y) (by rw [sizeLine_eq]; omega) ⟨⟨none, rfl⟩, Same.upd hD, (fun j y d h => nomatch h)⟩ upd_same ?_ ?_
        · rintro i σ' Hc ys hi ⟨⟨t, rfl⟩, sc', hys⟩ hyl hD'
          have ha' : Rd Hc a (.tup vs) := (Ntb.of sc').rd ha
          refine ⟨⟨_, vs[i], SqT.rd ha', List.getElem?_eq_getElem hi⟩, ?_⟩
          rintro x H' ⟨rfl, hx'⟩
          have ex := hx' _ (SqT.rd ha')
          rw [List.getElem?_eq_getElem hi] at ex
          cases ex
          have hid : i < ds.length := by omega
          refine ⟨_, rfl, _, rfl, _, _, rfl, rfl, _, ds[i], _, rfl, hd', (hx i _ _ (List.getElem?_eq_getElem hi) (List.getElem?_eq_getElem hid)).same sc', hsm _ (List.getElem_mem hid), fun v' H2 s2 dw2 => ?_⟩
          refine ⟨s2 _ _ hD', ⟨_, rfl⟩, (sc'.trans s2).put hD, fun j y d h1 h2 => ?_⟩
          rcases get_snoc h1 with h1 | ⟨rfl, rfl⟩
          · exact (hys j y d h1 h2).same ((nw_up s2).trans nw_put)
          · rw [hyl, List.getElem?_eq_getElem hid] at h2
            cases h2
            exact dw2.same ((nw_in sc' hD').trans nw_put)
        · rintro σ' Hc ys ⟨_, sc', hys⟩ hDn hyl
          refine ⟨⟨_, SqT.rd ((Ntb.of sc').rd ha), Nat.le_refl _⟩, D, ys, rfl, .inl ⟨SqL.of hDn, fun l hl' => ?_⟩⟩
          have T := Same.upd (o := .tup ys) hl'
          exact q _ _ (sc'.trans T) (.tup (cut_at (none_of sc' hl') upd_same) (by omega) fun i v d h1 h2 => (hys i v d h1 h2).same (nw_cut.trans (cut_up T)))
      | @dic _ a vs kds ha hl hx =>
        cases sm with
        | dic hz nd hsm =>
        refine ⟨_, rfl, _, _, _, _, rfl, .inr (.inr ⟨_, _, rfl, ha, rfl⟩), (show kitTy "dict" "list" = some false by decide +kernel), _, rfl, iteF ?_⟩
        refine ⟨_, rfl, _, _, _, _, rfl, .inr (.inr ⟨_, _, rfl, ha, rfl⟩), (show kitTy "dict" "tuple" = some false by decide +kernel), _, rfl, iteF ?_⟩
        refine ⟨_, rfl, _, _, _, _, rfl, .inr (.inr ⟨_, _, rfl, ha, rfl⟩), (show kitTy "dict" "dict" = some true by decide +kernel), _, rfl, iteT ?_⟩
        refine ⟨a, _, ha, fun H0 o D' h0 hk hn fin => ?_⟩
        have hx0 : ∀ (i : Nat) (v : V) (k : Str × Dp), vs[i]? = some v → kds[i]? = some k → Dw H0 n k.2 v := fun i v k h1 h2 => (hx i v k h1 h2).frz ha h0 hk
        have zl : (List.zipWith (fun z v => ((Sum.inr z : Key), v)) (kds.map (·.1)) vs).length = kds.length := by rw [zw_len (by rw [List.length_map]; exact hl), List.length_map]
        generalize hkv : List.zipWith (fun z v => ((Sum.inr z : Key), v)) (kds.map (·.1)) vs = kvs at *
        refine ⟨_, rfl, a, o, _, rfl, h0, fun D hD => ?_⟩
        refine compW_idx kvs.length (fun i ys σ' Hc => (∃ t0 t1, σ' = [t0, t1, some (.int dep)]) ∧ Same H0 Hc ∧ ∃ (ts : List Addr) (us : List V), ys = ts.map V.ref ∧ us.length = ts.length ∧ ∀ (j : Nat) (t : Addr) (u : V) (k : Str × Dp), ts[j]? = some t → us[j]? = some u → kds[j]? = some k → nw H0 D Hc t = some (.tup [.str k.1, u]) ∧ Dv (nw H0 D Hc) n k.2 u) (by rw [sizeLine_eq]; omega) ⟨⟨none, none, rfl⟩, Same.upd hD, [], [], rfl, rfl, (fun j t u k h => nomatch h)⟩ upd_same ?_ ?_
        · rintro i σ' Hc ys hi ⟨⟨t0, t1, rfl⟩, sc', ts, us, rfl, ul, hts⟩ hyl hD'
          rw [List.length_map] at hyl
          refine ⟨⟨hi, sc' _ _ h0⟩, ?_⟩
          rintro x H' ⟨k, v, p, hkk, rfl, hp, rfl⟩
          have hid : i < kds.length := by omega
          rw [← hkv, zw_get, List.getElem?_map, List.getElem?_eq_getElem hid, List.getElem?_eq_getElem (by omega)] at hkk
          have hkk := Option.some.inj hkk
          injection hkk with e1 e2
          subst e1
          subst e2
          have T1 := Same.upd (o := .tup [kV (.inr kds[i].1), vs[i]'(by omega)]) hp
          refine ⟨p, _, rfl, SqT.of upd_same, rfl, _, _, rfl, _, _, rfl, rfl, ?_⟩
          have S1 := sc'.trans T1
          have hD1 := T1 _ _ hD'
          generalize upd Hc p (.tup [kV (.inr kds[i].1), vs[i]'(by omega)]) = H1 at *
          refine ⟨_, rfl, _, rfl, _, rfl, _, _, rfl, rfl, _, kds[i].2, _, rfl, hd', (hx0 i _ _ (List.getElem?_eq_getElem (by omega)) (List.getElem?_eq_getElem hid)).same S1, hsm _ (List.getElem_mem hid), fun v' H2 s2 dw2 => ⟨(by show 2 ≤ sizeLine; decide), fun t ht => ?_⟩⟩
          have T3 := Same.upd (o := .tup [kV (.inr kds[i].1), v']) ht
          have hD2 := s2 _ _ hD1
          have ntD : t ≠ D := fun e => by rw [e, hD2] at ht; cases ht
          refine ⟨T3 _ _ hD2, ⟨_, _, rfl⟩, ((S1.trans s2).trans T3).put hD, ts ++ [t], us ++ [v'], by rw [List.map_append]; rfl, by rw [List.length_append, List.length_append, ul]; rfl, fun j t' u k h1 h2 h3 => ?_⟩
          rcases get_snoc h1 with h1 | ⟨rfl, rfl⟩
          · rcases get_snoc h2 with h2 | ⟨rfl, rfl⟩
            · obtain ⟨g1, g2⟩ := hts j t' u k h1 h2 h3
              have S := (nw_up (H := H0) (D := D) ((T1.trans s2).trans T3)).trans (nw_put (o := .lst (ts.map V.ref ++ [V.ref t])))
              exact ⟨S _ _ g1, g2.same S⟩
            · have := (List.getElem?_eq_some_iff.mp h1).1
              omega
          · rcases get_snoc h2 with h2 | ⟨_, rfl⟩
            · have := (List.getElem?_eq_some_iff.mp h2).1
              omega
            · rw [hyl, List.getElem?_eq_getElem hid] at h3
              cases h3
              refine ⟨nw_put _ _ (nw_at ntD (none_of (S1.trans s2) ht) upd_same), dw2.same ((nw_in S1 hD1).trans ((nw_up T3).trans nw_put))⟩
        · rintro σ' Hc ys ⟨_, sc', ts, us, rfl, ul, hts⟩ hDn hyl
          rw [List.length_map] at hyl
          have ukl : us.length = kds.length := by omega
          have zl2 : (List.zipWith (fun z v => ((Sum.inr z : Key), v)) (kds.map (·.1)) us).length = kds.length := by rw [zw_len (by rw [List.length_map]; exact ukl), List.length_map]
          refine ⟨⟨Nat.le_refl _, sc' _ _ h0⟩, D, _, List.zipWith (fun z v => ((Sum.inr z : Key), v)) (kds.map (·.1)) us, rfl, SqL.of hDn, (by rw [List.length_map]; omega), (by rw [zl2, List.length_map]; omega), (fun j k v hj => ?_), ?_, fun p hp => ?_⟩
          · rw [zw_get, List.getElem?_map] at hj
            have hjk : j < kds.length := by
              by_cases h : j < kds.length
              · exact h
              · rw [List.getElem?_eq_none (by omega)] at hj
                cases hj
            rw [List.getElem?_eq_getElem hjk, List.getElem?_eq_getElem (by omega)] at hj
            have hj := Option.some.inj hj
            injection hj with e1 e2
            subst e1
            subst e2
            have hjt : j < ts.length := by omega
            obtain ⟨g1, _⟩ := hts j ts[j] _ kds[j] (List.getElem?_eq_getElem hjt) (List.getElem?_eq_getElem (by omega)) (List.getElem?_eq_getElem hjk)
            exact ⟨ts[j], by rw [List.getElem?_map, List.getElem?_eq_getElem hjt]; rfl, SqT.of (cut_sub _ _ (nw_cut _ _ g1))⟩
          · have e : (List.zipWith (fun z v => ((Sum.inr z : Key), v)) (kds.map (·.1)) us).map (·.1) = (kds.map (·.1)).map Sum.inr := by
              refine List.ext_getElem? fun j => ?_
              rw [List.getElem?_map, zw_get, List.getElem?_map, List.getElem?_map, List.getElem?_map]
              by_cases h : j < kds.length
              · rw [List.getElem?_eq_getElem h, List.getElem?_eq_getElem (by omega)]
                rfl
              · rw [List.getElem?_eq_none (by omega)]
                rfl
            rw [e]
            exact List.Pairwise.map _ (fun a b hab h => hab (by injection h)) nd
          · have T := Same.upd (o := .dK (List.zipWith (fun z v => ((Sum.inr z : Key), v)) (kds.map (·.1)) us)) hp
            refine fin _ _ (sc'.trans T) fun H2 s2 c2 => q _ _ s2 (.dic (vs := us) (c2 _ _ (cut_at (none_of sc' hp) upd_same)) nd ukl fun i v k h1 h2 => ?_)
            have hit : i < ts.length := by have := (List.getElem?_eq_some_iff.mp h1).1; omega
            exact ((hts i ts[i] v k (List.getElem?_eq_getElem hit) h1 h2).2.same (nw_cut.trans (cut_up T))).same c2
def spWo : Sp := fun vs H Q _ => ∃ (r : Addr) (row : Row) (C : Str) (x : Int), vs = [.ref r, .str C] ∧ H r = some (.dK (rK row)) ∧ RwOk row C x ∧ ∀ r' H', Same H H' → cut H H' r' = some (.dK (rK (dropR row C))) → Q (.ref r') H'
def spWr : Sp := fun vs H Q _ => ∃ (G : Hp) (p lr r' : Addr) (T : Str) (row row' : Row), vs = [.ref p, .str T, .ref lr] ∧ Same G H ∧ PcA H p T row ∧ cut G H lr = some (.lst [.ref r']) ∧ cut G H r' = some (.dK (rK row')) ∧ ∀ p' H', Same H H' → PcA (cut G H') p' T row' → Q (.ref p') H'
theorem ok_wo {f : Addr} {fd : FuncData} (F : Fun K "without_column" "without_column" (top 44) f fd) (B : Bl mg) : FnOk P w K mg base CX0 1 f fd ["row", "column"] spWo := by
  have sc : FnScope ["row", "column", "fresh"] ["row", "column"] (defScope (top 44)) := ⟨rfl, rfl, rfl, by decide +kernel, rfl, by decide +kernel, by decide +kernel⟩
  refine F.ok sc (fun vs H Q E h => ?_) (fun cdv A outer s H vs Q E hr h => ?_)
  · obtain ⟨r, row, C, x, rfl, _⟩ := h
    rfl
  · obtain ⟨r, row, C, x, rfl, e, ok, q⟩ := h
    refine ⟨_, pss_cons (ps_set (i := 2) sc.nd rfl (Or.inl rfl) (pe_callTy call_dict_of (by rfl) B.dict boot_dict (pa_cons (pv 0) pa_nil)))
      (pss_cons (ps_expr (pe_dpop1 (pv 2) (pv 1) ⟨rfl, rfl, rfl, rfl⟩)) (pss_one (ps_ret (pv 2)))), ?_⟩
    refine ⟨_, rfl, r, _, rfl, .inl e, fun r' hr' => ?_⟩
    refine ⟨_, rfl, r', rfl, .inl ⟨_, .inl upd_same⟩, _, rfl, _, .inr C, .int x, upd_same, rfl, rK_val ok.nd ok.hm, ?_⟩
    rw [upd_upd, rK_drop]
    exact ⟨_, rfl, q r' _ (Same.upd hr') (cut_at hr' upd_same)⟩
theorem ok_wr {f fC : Addr} {fd fdC : FuncData} (F : Fun K "with_rows" "with_rows" (top 41) f fd) (B : Bl mg) (DC : Df K mg "copied" (top 32) fC fdC) : FnOk P w K mg base CX0 2 f fd ["piece", "table", "rows"] spWr := by
  have sc : FnScope ["piece", "table", "rows", "fresh"] ["piece", "table", "rows"] (defScope (top 41)) := ⟨rfl, rfl, rfl, by decide +kernel, rfl, by decide +kernel, by decide +kernel⟩
  have GC : FnOk P w K mg base CX0 1 fC fdC ["piece"] spCopied := ok_copied DC.fn B
  have bC := DC.fn.binds (ps := ["piece"]) fun _ _ _ _ _ _ us hl => by obtain ⟨v0, rfl⟩ := L2.ln1 hl; rfl
  refine F.ok sc (fun vs H Q E h => ?_) (fun cdv A outer s H vs Q E hr h => ?_)
  · obtain ⟨G, p, lr, r', T, row, row', rfl, _⟩ := h
    rfl
  · obtain ⟨G, p, lr, r', T, row, row', rfl, sG, hp, hl, hrr, q⟩ := h
    have hu : (A.deeper (envOfC "with_rows" (defScope (top 41)) s.heap.objs.size f cdv)).units + 1 < cLine := hu_of hr
    refine ⟨_, pss_cons (ps_set (i := 3) sc.nd rfl (Or.inl rfl) (pe_call GC hr (by rfl) DC.mg DC.fn.kp bC .nil pass0 (pa_cons (pv 0) pa_nil)))
      (pss_cons (ps_dput hu (pv 3) (pv 1) (pv 2) rfl) (pss_one (ps_ret (pv 3)))), ?_⟩
    refine ⟨_, rfl, p, T, row, rfl, hp, fun p' H1 s1 ⟨l, r, c1, c2, c3⟩ => ?_⟩
    refine ⟨_, rfl, _, rfl, _, rfl, p', _, rfl, DPut.k (k := .inr T) (cut_sub _ _ c1) (by show 1 < sizeLine; decide), ?_⟩
    rw [show tL T l = [((.inr T : Key), V.ref l)] from rfl, put1]
    have np : H p' = none := cut_new c1
    have keep : ∀ b o, cut G H b = some o → cut G (upd H1 p' (.dK [((.inr T : Key), V.ref lr)])) b = some o := fun b o e => cut_at (cut_new e) (by rw [upd_ne (ne_of_none (cut_sub _ _ e) np)]; exact s1 _ _ (cut_sub _ _ e))
    exact ⟨_, rfl, q p' _ (s1.put np) ⟨lr, r', cut_at (none_of sG np) upd_same, keep _ _ hl, keep _ _ hrr⟩⟩
end
end My

namespace My
open PySem L2 PyProof.Rows
seal L2.PE L2.PT L2.PW L2.PS L2.PSs L2.PA L2.PI L2.PG L2.PGs L2.OpR L2.CallR L2.IxR L2.SlR L2.MtR L2.PIf L2.PO L2.MtM L2.PC
/-! ### moves: what they are told by -/
structure Dt where
  T : Str
  c1 : Str
  c2 : Str
  ns : List Int
  top : Int
structure Dt.Ok (d : Dt) : Prop where
  hT : NmOk d.T
  h1 : NmOk d.c1
  h2 : NmOk d.c2
  ne : d.c1 ≠ d.c2
  nn : 0 < d.ns.length
def Dt.row (d : Dt) (x y : Int) : Row := [(d.c1, x), (d.c2, y)]
theorem Dt.Ok.r1 {d : Dt} (h : d.Ok) {x y : Int} : RwOk (d.row x y) d.c1 x := ⟨by show [d.c1, d.c2].Nodup; simp [h.ne], (by show 2 ≤ 12; decide), List.mem_cons_self⟩
theorem Dt.Ok.r2 {d : Dt} (h : d.Ok) {x y : Int} : RwOk (d.row x y) d.c2 y := ⟨by show [d.c1, d.c2].Nodup; simp [h.ne], (by show 2 ≤ 12; decide), List.mem_cons_of_mem _ List.mem_cons_self⟩
theorem Dt.Ok.put {d : Dt} (h : d.Ok) {x y z : Int} : putR (d.row x y) d.c1 z = d.row z y := by
  unfold putR Dt.row
  simp [h.ne.symm]
theorem Dt.Ok.drop {d : Dt} (h : d.Ok) {x y : Int} : dropR (d.row x y) d.c2 = [(d.c1, x)] := by
  unfold dropR Dt.row
  simp [h.ne]
/-- the form of two columns -/
def FoA (kd : Kk) (d : Dt) (H : Hp) (f : Addr) : Prop := ∃ k1 k2, FmA H f 3 d.T [(d.c1, k1), (d.c2, k2)] ∧ KdH H k1 kd ∧ KdH H k2 .wh
theorem FoA.nt {kd : Kk} {d : Dt} {H H' : Hp} {f : Addr} (h : FoA kd d H f) (s : Ntb H H') : FoA kd d H' f := let ⟨a, b, x, y, z⟩ := h; ⟨a, b, x.nt s, y.nt s, z.nt s⟩
theorem fo_cs {d : Dt} {H : Hp} {k1 k2 : Addr} {kd : Kk} (ok : d.Ok) (h1 : KdH H k1 kd) (h2 : KdH H k2 .wh) : CsOk H [(d.c1, k1), (d.c2, k2)] := by
  refine ⟨by show [d.c1, d.c2].Nodup; simp [ok.ne], (by show 2 ≤ 12; decide), fun c hc => ?_⟩
  rcases (show c = _ ∨ c = _ by simpa using hc) with rfl | rfl
  · exact ⟨ok.h1, kd, h1⟩
  · exact ⟨ok.h2, .wh, h2⟩
abbrev MvP := Dt → Hp → Addr → Prop
def spAft (PF : Addr) (kd : Kk) (Mv : MvP) : Sp := fun vs H Q _ => ∃ (x f : Addr) (d : Dt), vs = [.ref x, .ref f] ∧ Mv d H x ∧ FoA kd d H f ∧ d.Ok ∧ TabOk PF foPos foQ H ∧ ∀ f' H', Fr PF H H' → TabOk PF foPos foQ H' → Q (.ref f') H'
def spFth (Mv : MvP) (g : Dt → Int → Int → Row) : Sp := fun vs H Q _ => ∃ (x p : Addr) (y r : V) (d : Dt) (a b : Int), vs = [.ref x, y, .ref p, r] ∧ Mv d H x ∧ PcA H p d.T (d.row a b) ∧ d.Ok ∧ ∀ t p' v H', Same H H' → PcA (cut H H') p' d.T (g d a b) → H' t = some (.tup [.ref p', v]) → Q (.ref t) H'
def spLft (Mv : MvP) : Sp := fun vs H Q _ => ∃ (x : Addr) (y z r : V) (d : Dt), vs = [.ref x, y, z, r] ∧ Mv d H x ∧ Q .non H
def spNon4 : Sp := fun vs H Q _ => ∃ x y z r : V, vs = [x, y, z, r] ∧ Q .non H
/-! ### a Turn -/
abbrev tu (i : Nat) : Stmt := inClass (top 55) i
structure ClT (K : PySem.W.Frag) (C : Addr) : Prop where
  cl : Cls K C
  nT : NoAttr K C "table"
  nC : NoAttr K C "column"
  nO : NoAttr K C "old"
  nN : NoAttr K C "new"
  nF : NoAttr K C "way_forth"
  nB : NoAttr K C "way_back"
def tfs (T C : Str) (ka kb wf wb : Addr) : List (Str × V) := putF "way_back" (.ref wb) (putF "way_forth" (.ref wf) (putF "new" (.ref kb) (putF "old" (.ref ka) (putF "column" (.str C) (putF "table" (.str T) [])))))
section
variable {T C : Str} {ka kb wf wb : Addr}
theorem tfs_t : (tfs T C ka kb wf wb).lookup ("table" : Str) = some (V.str T) := by unfold tfs; rw [lookup_putF, if_neg (by decide), lookup_putF, if_neg (by decide), lookup_putF, if_neg (by decide), lookup_putF, if_neg (by decide), lookup_putF, if_neg (by decide), lookup_putF, if_pos rfl]
theorem tfs_c : (tfs T C ka kb wf wb).lookup ("column" : Str) = some (V.str C) := by unfold tfs; rw [lookup_putF, if_neg (by decide), lookup_putF, if_neg (by decide), lookup_putF, if_neg (by decide), lookup_putF, if_neg (by decide), lookup_putF, if_pos rfl]
theorem tfs_o : (tfs T C ka kb wf wb).lookup ("old" : Str) = some (V.ref ka) := by unfold tfs; rw [lookup_putF, if_neg (by decide), lookup_putF, if_neg (by decide), lookup_putF, if_neg (by decide), lookup_putF, if_pos rfl]
theorem tfs_n : (tfs T C ka kb wf wb).lookup ("new" : Str) = some (V.ref kb) := by unfold tfs; rw [lookup_putF, if_neg (by decide), lookup_putF, if_neg (by decide), lookup_putF, if_pos rfl]
theorem tfs_f : (tfs T C ka kb wf wb).lookup ("way_forth" : Str) = some (V.ref wf) := by unfold tfs; rw [lookup_putF, if_neg (by decide), lookup_putF, if_pos rfl]
theorem tfs_no {m : Str} (h : m = "forth" ∨ m = "back" ∨ m = "left" ∨ m = "right" ∨ m = "after") : (tfs T C ka kb wf wb).lookup m = none := by
  unfold tfs
  rcases h with rfl | rfl | rfl | rfl | rfl <;> (rw [lookup_putF, if_neg (by decide), lookup_putF, if_neg (by decide), lookup_putF, if_neg (by decide), lookup_putF, if_neg (by decide), lookup_putF, if_neg (by decide), lookup_putF, if_neg (by decide)]; rfl)
end
def spTI (CT : Addr) : Sp := fun vs H Q _ => ∃ (x dx ka kb wf wb : Addr) (T C : Str), vs = [.ref x, .str T, .str C, .ref ka, .ref kb, .ref wf, .ref wb] ∧ H x = some (.ins CT dx []) ∧ ∀ H', (∀ b o, b ≠ x → H b = some o → H' b = some o) → H' x = some (.ins CT dx (tfs T C ka kb wf wb)) → Q .non H'
def MvT (CT : Addr) (pm : Value) : MvP := fun d H x => ∃ dx ka wf wb, H x = some (.ins CT dx (tfs d.T d.c1 ka ka wf wb)) ∧ KdH H ka (.bel 8) ∧ WayAt pm H wf d.ns
def gT (d : Dt) (x y : Int) : Row := d.row (wy d.ns x) y
/-! ### a Cap -/
abbrev ca (i : Nat) : Stmt := inClass (top 37) i
structure ClC (K : PySem.W.Frag) (C : Addr) : Prop where
  cl : Cls K C
  nT : NoAttr K C "table"
  nC : NoAttr K C "column"
  nP : NoAttr K C "top"
  nO : NoAttr K C "told"
def cfs (T C : Str) (n : Int) (t : V) : List (Str × V) := putF "told" t (putF "top" (.int n) (putF "column" (.str C) (putF "table" (.str T) [])))
section
variable {T C : Str} {n : Int} {t : V}
theorem cfs_t : (cfs T C n t).lookup ("table" : Str) = some (V.str T) := by unfold cfs; rw [lookup_putF, if_neg (by decide), lookup_putF, if_neg (by decide), lookup_putF, if_neg (by decide), lookup_putF, if_pos rfl]
theorem cfs_c : (cfs T C n t).lookup ("column" : Str) = some (V.str C) := by unfold cfs; rw [lookup_putF, if_neg (by decide), lookup_putF, if_neg (by decide), lookup_putF, if_pos rfl]
theorem cfs_p : (cfs T C n t).lookup ("top" : Str) = some (V.int n) := by unfold cfs; rw [lookup_putF, if_neg (by decide), lookup_putF, if_pos rfl]
theorem cfs_no {m : Str} (h : m = "forth" ∨ m = "left" ∨ m = "after") : (cfs T C n t).lookup m = none := by
  unfold cfs
  rcases h with rfl | rfl | rfl <;> (rw [lookup_putF, if_neg (by decide), lookup_putF, if_neg (by decide), lookup_putF, if_neg (by decide), lookup_putF, if_neg (by decide)]; rfl)
end
def MvC (CC : Addr) : MvP := fun d H x => ∃ dx t, H x = some (.ins CC dx (cfs d.T d.c1 d.top t))
def gC (d : Dt) (x y : Int) : Row := d.row (if d.top < x then d.top else x) y
def spCI (CC : Addr) : Sp := fun vs H Q _ => ∃ (x dx : Addr) (T C : Str) (n : Int), vs = [.ref x, .str T, .str C, .int n] ∧ H x = some (.ins CC dx []) ∧ ∀ t H', (∀ b o, b ≠ x → H b = some o → H' b = some o) → H' x = some (.ins CC dx (cfs T C n t)) → Q .non H'
/-! ### a Put, and a Turned -/
abbrev pu (i : Nat) : Stmt := inClass (top 36) i
abbrev td (i : Nat) : Stmt := inClass (top 53) i
structure ClP (K : PySem.W.Frag) (C : Addr) : Prop where
  cl : Cls K C
  nT : NoAttr K C "table"
  nC : NoAttr K C "column"
  nK : NoAttr K C "kind"
  nV : NoAttr K C "value"
  nO : NoAttr K C "told"
def pfs (T C : Str) (k v t : V) : List (Str × V) := putF "told" t (putF "value" v (putF "kind" k (putF "column" (.str C) (putF "table" (.str T) []))))
section
variable {T C : Str} {k v t : V}
theorem pfs_t : (pfs T C k v t).lookup ("table" : Str) = some (V.str T) := by unfold pfs; rw [lookup_putF, if_neg (by decide), lookup_putF, if_neg (by decide), lookup_putF, if_neg (by decide), lookup_putF, if_neg (by decide), lookup_putF, if_pos rfl]
theorem pfs_c : (pfs T C k v t).lookup ("column" : Str) = some (V.str C) := by unfold pfs; rw [lookup_putF, if_neg (by decide), lookup_putF, if_neg (by decide), lookup_putF, if_neg (by decide), lookup_putF, if_pos rfl]
theorem pfs_k : (pfs T C k v t).lookup ("kind" : Str) = some k := by unfold pfs; rw [lookup_putF, if_neg (by decide), lookup_putF, if_neg (by decide), lookup_putF, if_pos rfl]
theorem pfs_v : (pfs T C k v t).lookup ("value" : Str) = some v := by unfold pfs; rw [lookup_putF, if_neg (by decide), lookup_putF, if_pos rfl]
theorem pfs_no {m : Str} (h : m = "before" ∨ m = "back" ∨ m = "right" ∨ m = "is_sound") : (pfs T C k v t).lookup m = none := by
  unfold pfs
  rcases h with rfl | rfl | rfl | rfl <;> (rw [lookup_putF, if_neg (by decide), lookup_putF, if_neg (by decide), lookup_putF, if_neg (by decide), lookup_putF, if_neg (by decide), lookup_putF, if_neg (by decide)]; rfl)
end
/-- the Put of a column of whole numbers -/
def PuA (CP : Addr) (d : Dt) (H : Hp) (x : Addr) : Prop := ∃ dx k t, H x = some (.ins CP dx (pfs d.T d.c2 (.ref k) (.int 4) t)) ∧ KdH H k .wh
structure ClD (K : PySem.W.Frag) (C : Addr) : Prop where
  cl : Cls K C
  nM : NoAttr K C "move"
def dfs (y : Addr) : List (Str × V) := putF "move" (.ref y) []
theorem dfs_m {y : Addr} : (dfs y).lookup ("move" : Str) = some (V.ref y) := by unfold dfs; rw [lookup_putF, if_pos rfl]
theorem dfs_no {y : Addr} {m : Str} (h : m = "forth" ∨ m = "left" ∨ m = "after") : (dfs y).lookup m = none := by
  unfold dfs
  rcases h with rfl | rfl | rfl <;> (rw [lookup_putF, if_neg (by decide)]; rfl)
def MvD (CD CP : Addr) : MvP := fun d H x => ∃ dx y, H x = some (.ins CD dx (dfs y)) ∧ PuA CP d H y
def gD (d : Dt) (x y : Int) : Row := [(d.c1, x)]
def spPI (CP : Addr) : Sp := fun vs H Q _ => ∃ (x dx ka : Addr) (T C : Str) (n : Int), vs = [.ref x, .str T, .str C, .ref ka, .int n] ∧ H x = some (.ins CP dx []) ∧ KdH H ka .wh ∧ ∀ t H', (∀ b o, b ≠ x → H b = some o → H' b = some o) → H' x = some (.ins CP dx (pfs T C (.ref ka) (.int n) t)) → Q .non H'
def spDI (CD : Addr) : Sp := fun vs H Q _ => ∃ (x dx y : Addr), vs = [.ref x, .ref y] ∧ H x = some (.ins CD dx []) ∧ ∀ H', (∀ b o, b ≠ x → H b = some o → H' b = some o) → H' x = some (.ins CD dx (dfs y)) → Q .non H'
def spSnd (CP : Addr) : Sp := fun vs H Q _ => ∃ (x : Addr) (d : Dt) (v : V), vs = [.ref x, v] ∧ PuA CP d H x ∧ d.Ok ∧ ∀ H', Same H H' → Q (.bl true) H'
def spBef (PF CP : Addr) : Sp := fun vs H Q _ => ∃ (x f : Addr) (d : Dt), vs = [.ref x, .ref f] ∧ PuA CP d H x ∧ FoA .wh d H f ∧ d.Ok ∧ TabOk PF foPos foQ H ∧ ∀ f' H', Fr PF H H' → TabOk PF foPos foQ H' → Q (.ref f') H'
def spBak (CP : Addr) : Sp := fun vs H Q _ => ∃ (x p : Addr) (y r : V) (d : Dt) (a b : Int), vs = [.ref x, y, .ref p, r] ∧ PuA CP d H x ∧ PcA H p d.T (d.row a b) ∧ d.Ok ∧ ∀ t p' v H', Same H H' → PcA (cut H H') p' d.T [(d.c1, a)] → H' t = some (.tup [.ref p', v]) → Q (.ref t) H'
section
variable {P : Program} {w : World} {K : PySem.W.Frag} {mg : Str → Option Value} {base : Heap} {PF CT CC CP CD : Addr} {pm : Value}
theorem ok_ti {f : Addr} {fd : FuncData} (F : Fun K "__init__" "Turn.__init__" (tu 0) f fd) (L : ClT K CT) : FnOk P w K mg base CX0 1 f fd ["self", "table", "column", "old", "new", "way_forth", "way_back"] (spTI CT) := by
  have sc : FnScope ["self", "table", "column", "old", "new", "way_forth", "way_back"] ["self", "table", "column", "old", "new", "way_forth", "way_back"] (defScope (tu 0)) := ⟨rfl, rfl, rfl, by decide +kernel, rfl, by decide +kernel, by decide +kernel⟩
  refine F.ok sc (fun vs H Q E h => ?_) (fun cdv A outer s H vs Q E hr h => ?_)
  · obtain ⟨x, dx, ka, kb, wf, wb, T, C, rfl, _⟩ := h
    rfl
  · obtain ⟨x, dx, ka, kb, wf, wb, T, C, rfl, e, q⟩ := h
    refine ⟨_, pss_cons (ps_fld (pv 0) (pv 1) rfl) (pss_cons (ps_fld (pv 0) (pv 2) rfl) (pss_cons (ps_fld (pv 0) (pv 3) rfl) (pss_cons (ps_fld (pv 0) (pv 4) rfl) (pss_cons (ps_fld (pv 0) (pv 5) rfl) (pss_one (ps_fld (pv 0) (pv 6) rfl)))))), ?_⟩
    have l1 := length_putF "table" (.str T) []
    have l2 := length_putF "column" (.str C) (putF "table" (.str T) [])
    have l3 := length_putF "old" (.ref ka) (putF "column" (.str C) (putF "table" (.str T) []))
    have l4 := length_putF "new" (.ref kb) (putF "old" (.ref ka) (putF "column" (.str C) (putF "table" (.str T) [])))
    have l5 := length_putF "way_forth" (.ref wf) (putF "new" (.ref kb) (putF "old" (.ref ka) (putF "column" (.str C) (putF "table" (.str T) []))))
    rw [List.length_nil] at l1
    refine ⟨_, rfl, _, rfl, x, CT, dx, _, rfl, e, L.cl, L.nT, (by decide), ?_⟩
    refine ⟨_, rfl, _, rfl, x, CT, dx, _, rfl, upd_same, L.cl, L.nC, (by omega), ?_⟩
    rw [upd_upd]
    refine ⟨_, rfl, _, rfl, x, CT, dx, _, rfl, upd_same, L.cl, L.nO, (by omega), ?_⟩
    rw [upd_upd]
    refine ⟨_, rfl, _, rfl, x, CT, dx, _, rfl, upd_same, L.cl, L.nN, (by omega), ?_⟩
    rw [upd_upd]
    refine ⟨_, rfl, _, rfl, x, CT, dx, _, rfl, upd_same, L.cl, L.nF, (by omega), ?_⟩
    rw [upd_upd]
    refine ⟨_, rfl, _, rfl, x, CT, dx, _, rfl, upd_same, L.cl, L.nB, (by omega), ?_⟩
    rw [upd_upd]
    exact q _ (fun b o nb eb => (upd_ne nb).trans eb) upd_same
theorem ok_left {f : Addr} {fd : FuncData} (F : FunX K "left" "Move.left" (inClass (top 35) 4) f fd) : FnOk P w K mg base CX0 1 f fd ["self", "form", "piece", "rest"] spNon4 := by
  have sc : FnScope ["self", "form", "piece", "rest"] ["self", "form", "piece", "rest"] (defScope (inClass (top 35) 4)) := ⟨rfl, rfl, rfl, by decide +kernel, rfl, by decide +kernel, by decide +kernel⟩
  refine F.ok sc (fun vs H Q E h => ?_) (fun cdv A outer s H vs Q E hr h => ?_)
  · obtain ⟨x, y, z, r, rfl, _⟩ := h
    rfl
  · obtain ⟨x, y, z, r, rfl, q⟩ := h
    exact ⟨_, pss_one (ps_ret pe_non), q⟩
theorem ok_right {f : Addr} {fd : FuncData} (F : FunX K "right" "Move.right" (inClass (top 35) 5) f fd) : FnOk P w K mg base CX0 1 f fd ["self", "form", "piece", "rest"] spNon4 := by
  have sc : FnScope ["self", "form", "piece", "rest"] ["self", "form", "piece", "rest"] (defScope (inClass (top 35) 5)) := ⟨rfl, rfl, rfl, by decide +kernel, rfl, by decide +kernel, by decide +kernel⟩
  refine F.ok sc (fun vs H Q E h => ?_) (fun cdv A outer s H vs Q E hr h => ?_)
  · obtain ⟨x, y, z, r, rfl, _⟩ := h
    rfl
  · obtain ⟨x, y, z, r, rfl, q⟩ := h
    exact ⟨_, pss_one (ps_ret pe_non), q⟩
theorem ok_aftT {f fA fP fK fW fR : Addr} {fd fdA fdP fdK fdW fdR : FuncData} (F : Fun K "after" "Turn.after" (tu 1) f fd) (L : ClT K CT) (B : Bl mg) (DA : Df K mg "ask_fit" (top 38) fA fdA) (DP : Df K mg "is_plain" (top 15) fP fdP) (DW : Df K mg "is_whole" (top 12) fW fdW) (DR : Df K mg "is_plain_pair" (top 16) fR fdR)
    (DK : Df K mg "with_kind" (top 40) fK fdK) (GK : FnOk P w K mg base CX0 8 fK fdK ["form", "table", "column", "old", "new"] (spWithK K PF)) : FnOk P w K mg base CX0 9 f fd ["self", "form"] (spAft PF (.bel 8) (MvT CT pm)) := by
  have sc : FnScope ["self", "form"] ["self", "form"] (defScope (tu 1)) := ⟨rfl, rfl, rfl, by decide +kernel, rfl, by decide +kernel, by decide +kernel⟩
  have GA : FnOk P w K mg base CX0 1 fA fdA ["fine"] spFit := ok_fit DA.fn
  have GP : FnOk P w K mg base CX0 3 fP fdP ["thing"] spKd := ok_pn DP.fn B DW DR
  have bA := DA.fn.binds (ps := ["fine"]) fun _ _ _ _ _ _ us hl => by obtain ⟨v0, rfl⟩ := L2.ln1 hl; rfl
  have bP := DP.fn.binds (ps := ["thing"]) fun _ _ _ _ _ _ us hl => by obtain ⟨v0, rfl⟩ := L2.ln1 hl; rfl
  have bK := DK.fn.binds (ps := ["form", "table", "column", "old", "new"]) fun _ _ _ _ _ _ us hl => match us, hl with | [_, _, _, _, _], _ => rfl
  refine F.ok sc (fun vs H Q E h => ?_) (fun cdv A outer s H vs Q E hr h => ?_)
  · obtain ⟨x, f, d, rfl, _⟩ := h
    rfl
  · obtain ⟨x, fm, d, rfl, ⟨dx, ka, wf, wb, e, hka, _⟩, ⟨k1, k2, hf, hk1, hk2⟩, ok, tab, q⟩ := h
    have hr1 : Room 1 _ := hr.mono (by decide)
    have hr3 : Room 3 _ := hr.mono (by decide)
    refine ⟨_, pss_cons (ps_expr (pe_call GA hr1 (by rfl) DA.mg DA.fn.kp bA .nil pass0 (pa_cons (pe_and (pe_call GP hr3 (by rfl) DP.mg DP.fn.kp bP .nil pass0 (pa_cons (pe_fld (pv 0) rfl) pa_nil)) (pe_one (pe_call GP hr3 (by rfl) DP.mg DP.fn.kp bP .nil pass0 (pa_cons (pe_fld (pv 0) rfl) pa_nil)))) pa_nil)))
      (pss_one (ps_ret (pe_call GK hr (by rfl) DK.mg DK.fn.kp bK .nil pass0 (pa_cons (pv 1) (pa_cons (pe_fld (pv 0) rfl) (pa_cons (pe_fld (pv 0) rfl) (pa_cons (pe_fld (pv 0) rfl) (pa_cons (pe_fld (pv 0) rfl) pa_nil)))))))), ?_⟩
    refine ⟨_, rfl, x, CT, dx, _, _, rfl, e, L.cl, L.nO, tfs_o, ka, _, rfl, hka, fun H1 s1 => ⟨_, rfl, iteT ⟨_, rfl, x, CT, dx, _, _, rfl, s1 _ _ e, L.cl, L.nN, tfs_n, ka, _, rfl, hka.nt (.of s1), fun H2 s2 => ⟨rfl, ?_⟩⟩⟩⟩
    have S := s1.trans s2
    have e2 := S _ _ e
    refine ⟨_, rfl, _, rfl, x, CT, dx, _, _, rfl, e2, L.cl, L.nT, tfs_t, _, rfl, x, CT, dx, _, _, rfl, e2, L.cl, L.nC, tfs_c, _, rfl, x, CT, dx, _, _, rfl, e2, L.cl, L.nO, tfs_o, _, rfl, x, CT, dx, _, _, rfl, e2, L.cl, L.nN, tfs_n, ?_⟩
    exact ⟨fm, 3, d.T, d.c1, _, k1, ka, ka, .bel 8, .bel 8, rfl, hf.same S, by decide, List.mem_cons_self, hk1.nt (.of S), SqT.of (S _ _ hka.1), hka.nt (.of S), ok.hT, fo_cs ok (hk1.nt (.of S)) (hk2.nt (.of S)), tab.same S, fun f' H' fr tab' => q f' H' ((Fr.of S).trans fr) tab'⟩
theorem ok_fthT {f fL fV fW fC : Addr} {fd fdL fdV fdW fdC : FuncData} (F : Fun K "forth" "Turn.forth" (tu 3) f fd) (L : ClT K CT) (B : Bl mg) (hz : mg "zip" = none) (DL : Df K mg "led_along" (top 56) fL fdL) (DV : Df K mg "values_in" (top 43) fV fdV) (DW : Df K mg "with_values" (top 42) fW fdW) (DC : Df K mg "copied" (top 32) fC fdC) : FnOk P w K mg base CX0 4 f fd ["self", "form", "piece", "rest"] (spFth (MvT CT pm) gT) := by
  have sc : FnScope ["self", "form", "piece", "rest"] ["self", "form", "piece", "rest"] (defScope (tu 3)) := ⟨rfl, rfl, rfl, by decide +kernel, rfl, by decide +kernel, by decide +kernel⟩
  have GL : FnOk P w K mg base CX0 3 fL fdL ["piece", "table", "column", "way"] (spLa pm) := ok_la DL.fn B hz DV DW DC
  have bL := DL.fn.binds (ps := ["piece", "table", "column", "way"]) fun _ _ _ _ _ _ us hl => by obtain ⟨v0, v1, v2, v3, rfl⟩ := L2.ln4 hl; rfl
  refine F.ok sc (fun vs H Q E h => ?_) (fun cdv A outer s H vs Q E hr h => ?_)
  · obtain ⟨x, p, y, r, d, a, b, rfl, _⟩ := h
    rfl
  · obtain ⟨x, p, y, r, d, a, b, rfl, ⟨dx, ka, wf, wb, e, hka, hwf⟩, hp, ok, q⟩ := h
    refine ⟨_, pss_one (ps_ret (pe_tup (pa_cons (pe_call GL hr (by rfl) DL.mg DL.fn.kp bL .nil pass0 (pa_cons (pv 2) (pa_cons (pe_fld (pv 0) rfl) (pa_cons (pe_fld (pv 0) rfl) (pa_cons (pe_fld (pv 0) rfl) pa_nil))))) (pa_cons pe_non pa_nil)))), ?_⟩
    refine ⟨_, rfl, _, rfl, x, CT, dx, _, _, rfl, e, L.cl, L.nT, tfs_t, _, rfl, x, CT, dx, _, _, rfl, e, L.cl, L.nC, tfs_c, _, rfl, x, CT, dx, _, _, rfl, e, L.cl, L.nF, tfs_f, p, wf, d.T, d.c1, d.row a b, a, d.ns, rfl, hp, ok.r1, hwf, ok.nn, fun p' H' s' hp' => ⟨(by show 2 ≤ sizeLine; decide), fun t ht => ?_⟩⟩
    have T1 := Same.upd (o := .tup [.ref p', .non]) ht
    rw [ok.put] at hp'
    exact q t p' .non _ (s'.trans T1) (hp'.same (cut_up T1)) upd_same
end
end My

namespace My
open PySem L2 PyProof.Rows
theorem boot_min : bootBuiltins "min" = some (.builtin "min") := by decide +kernel
seal L2.PE L2.PT L2.PW L2.PS L2.PSs L2.PA L2.PI L2.PG L2.PGs L2.OpR L2.CallR L2.IxR L2.SlR L2.MtR L2.PIf L2.PO L2.MtM L2.PC
theorem sm_flat {vs : List V} (h : vs.length ≤ 1000) : Sm (.tup (vs.map Dp.fl)) := .tup (by rw [List.length_map]; exact h) fun d hd => by
  obtain ⟨v, _, rfl⟩ := List.mem_map.mp hd
  exact .fl
section
variable {P : Program} {w : World} {K : PySem.W.Frag} {mg : Str → Option Value} {base : Heap} {PF CT CC CP CD : Addr} {pm : Value}
theorem ok_ci {f fO : Addr} {fd fdO : FuncData} {tk : Tok} (F : Fun K "__init__" "Cap.__init__" (ca 0) f fd) (L : ClC K CC) (mO : mg "owned" = some (.ref fO)) (kO : PySem.W.keepIn K (.ref fO) = true) (GO : FnOk P w K mg base CX0 4 fO fdO ["thing", "depth"] (spOw 3)) (bO1 : Binds K fdO ["thing", "depth"] [.int 20 tk]) : FnOk P w K mg base CX0 5 f fd ["self", "table", "column", "top"] (spCI CC) := by
  have sc : FnScope ["self", "table", "column", "top"] ["self", "table", "column", "top"] (defScope (ca 0)) := ⟨rfl, rfl, rfl, by decide +kernel, rfl, by decide +kernel, by decide +kernel⟩
  refine F.ok sc (fun vs H Q E h => ?_) (fun cdv A outer s H vs Q E hr h => ?_)
  · obtain ⟨x, dx, T, C, n, rfl, _⟩ := h
    rfl
  · obtain ⟨x, dx, T, C, n, rfl, e, q⟩ := h
    refine ⟨_, pss_cons (ps_fld (pv 0) (pv 1) rfl) (pss_cons (ps_fld (pv 0) (pv 2) rfl) (pss_cons (ps_fld (pv 0) (pv 3) rfl)
      (pss_one (ps_fld (pv 0) (pe_call GO hr (by rfl) mO kO bO1 (show Vals [V.int 20] [Value.int 20 tk] from .cons ⟨tk, rfl⟩ .nil) pass0 (pa_cons (pe_tup (pa_cons pe_str (pa_cons (pv 1) (pa_cons (pv 2) (pa_cons (pv 3) pa_nil))))) pa_nil)) rfl)))), ?_⟩
    have l1 := length_putF "table" (.str T) []
    have l2 := length_putF "column" (.str C) (putF "table" (.str T) [])
    have l3 := length_putF "top" (.int n) (putF "column" (.str C) (putF "table" (.str T) []))
    rw [List.length_nil] at l1
    refine ⟨_, rfl, _, rfl, x, CC, dx, _, rfl, e, L.cl, L.nT, (by decide), ?_⟩
    refine ⟨_, rfl, _, rfl, x, CC, dx, _, rfl, upd_same, L.cl, L.nC, (by omega), ?_⟩
    rw [upd_upd]
    refine ⟨_, rfl, _, rfl, x, CC, dx, _, rfl, upd_same, L.cl, L.nP, (by omega), ?_⟩
    rw [upd_upd]
    have keep : ∀ b o, b ≠ x → H b = some o → upd H x (.ins CC dx (putF "top" (.int n) (putF "column" (.str C) (putF "table" (.str T) [])))) b = some o := fun b o nb eb => (upd_ne nb).trans eb
    have ex := upd_same (H := H) (a := x) (o := .ins CC dx (putF "top" (.int n) (putF "column" (.str C) (putF "table" (.str T) []))))
    generalize upd H x (.ins CC dx (putF "top" (.int n) (putF "column" (.str C) (putF "table" (.str T) [])))) = H1 at *
    refine ⟨_, rfl, _, rfl, _, rfl, (show 4 ≤ sizeLine by decide), fun tp htp => ?_⟩
    have T1 := Same.upd (o := .tup [.str "cap", .str T, .str C, .int n]) htp
    refine ⟨_, .tup ([V.str "cap", .str T, .str C, .int n].map Dp.fl), 20, rfl, (by decide), DwL.tup (n := 2) (.inl upd_same) (.cons (.fl rfl) (.cons (.fl rfl) (.cons (.fl rfl) (.cons (.fl rfl) .nil)))), sm_flat (by show 4 ≤ 1000; decide), fun v' H2 s2 _ => ?_⟩
    refine ⟨_, rfl, x, CC, dx, _, rfl, s2 _ _ (T1 _ _ ex), L.cl, L.nO, (by omega), ?_⟩
    exact q v' _ (fun b o nb eb => (upd_ne nb).trans (s2 _ _ (T1 _ _ (keep b o nb eb)))) upd_same
theorem ok_aftC {f fA fW fK wA : Addr} {fd fdA fdW fdK : FuncData} (F : Fun K "after" "Cap.after" (ca 1) f fd) (L : ClC K CC) (B : Bl mg) (DA : Df K mg "ask_fit" (top 38) fA fdA) (DW : Df K mg "is_whole" (top 12) fW fdW) (mW : mg "WHOLE" = some (.ref wA)) (qW : ∀ H, SqT K H wA [.str "whole"])
    (DK : Df K mg "with_kind" (top 40) fK fdK) (GK : FnOk P w K mg base CX0 8 fK fdK ["form", "table", "column", "old", "new"] (spWithK K PF)) : FnOk P w K mg base CX0 9 f fd ["self", "form"] (spAft PF .wh (MvC CC)) := by
  have sc : FnScope ["self", "form"] ["self", "form"] (defScope (ca 1)) := ⟨rfl, rfl, rfl, by decide +kernel, rfl, by decide +kernel, by decide +kernel⟩
  have GA : FnOk P w K mg base CX0 1 fA fdA ["fine"] spFit := ok_fit DA.fn
  have GW : FnOk P w K mg base CX0 1 fW fdW ["thing"] spWh := ok_wh DW.fn B
  have bA := DA.fn.binds (ps := ["fine"]) fun _ _ _ _ _ _ us hl => by obtain ⟨v0, rfl⟩ := L2.ln1 hl; rfl
  have bW := DW.fn.binds (ps := ["thing"]) fun _ _ _ _ _ _ us hl => by obtain ⟨v0, rfl⟩ := L2.ln1 hl; rfl
  have bK := DK.fn.binds (ps := ["form", "table", "column", "old", "new"]) fun _ _ _ _ _ _ us hl => match us, hl with | [_, _, _, _, _], _ => rfl
  refine F.ok sc (fun vs H Q E h => ?_) (fun cdv A outer s H vs Q E hr h => ?_)
  · obtain ⟨x, f, d, rfl, _⟩ := h
    rfl
  · obtain ⟨x, fm, d, rfl, ⟨dx, t, e⟩, ⟨k1, k2, hf, hk1, hk2⟩, ok, tab, q⟩ := h
    have hr1 : Room 1 _ := hr.mono (by decide)
    refine ⟨_, pss_cons (ps_expr (pe_call GA hr1 (by rfl) DA.mg DA.fn.kp bA .nil pass0 (pa_cons (pe_call GW hr1 (by rfl) DW.mg DW.fn.kp bW .nil pass0 (pa_cons (pe_fld (pv 0) rfl) pa_nil)) pa_nil)))
      (pss_one (ps_ret (pe_call GK hr (by rfl) DK.mg DK.fn.kp bK .nil pass0 (pa_cons (pv 1) (pa_cons (pe_fld (pv 0) rfl) (pa_cons (pe_fld (pv 0) rfl) (pa_cons (pe_glob (v := .ref wA) (by rfl) mW rfl) (pa_cons (pe_tup (pa_cons pe_str (pa_cons (pe_fld (pv 0) rfl) pa_nil))) pa_nil)))))))), ?_⟩
    refine ⟨_, rfl, x, CC, dx, _, _, rfl, e, L.cl, L.nP, cfs_p, d.top, rfl, rfl, ?_⟩
    refine ⟨_, rfl, _, rfl, x, CC, dx, _, _, rfl, e, L.cl, L.nT, cfs_t, _, rfl, x, CC, dx, _, _, rfl, e, L.cl, L.nC, cfs_c, _, rfl, x, CC, dx, _, _, rfl, e, L.cl, L.nP, cfs_p, (by show 2 ≤ sizeLine; decide), fun kn hkn => ?_⟩
    have S := Same.upd (o := .tup [V.str "upto", .int d.top]) hkn
    exact ⟨fm, 3, d.T, d.c1, _, k1, wA, kn, .wh, .upt d.top, rfl, hf.same S, by decide, List.mem_cons_self, hk1.nt (.of S), qW _, ⟨upd_same, trivial⟩, ok.hT, fo_cs ok (hk1.nt (.of S)) (hk2.nt (.of S)), tab.same S, fun f' H' fr tab' => q f' H' ((Fr.of S).trans fr) tab'⟩
theorem ok_fthC {f fV fW fC : Addr} {fd fdV fdW fdC : FuncData} (F : Fun K "forth" "Cap.forth" (ca 3) f fd) (L : ClC K CC) (B : Bl mg) (hz : mg "zip" = none) (hmin : mg "min" = none) (DV : Df K mg "values_in" (top 43) fV fdV) (DW : Df K mg "with_values" (top 42) fW fdW) (DC : Df K mg "copied" (top 32) fC fdC) : FnOk P w K mg base CX0 3 f fd ["self", "form", "piece", "rest"] (spFth (MvC CC) gC) := by
  have sc : FnScope ["self", "form", "piece", "rest", "numbers", "capped", "above"] ["self", "form", "piece", "rest"] (defScope (ca 3)) := ⟨rfl, rfl, rfl, by decide +kernel, rfl, by decide +kernel, by decide +kernel⟩
  have GV : FnOk P w K mg base CX0 1 fV fdV ["piece", "table", "column"] spVi := ok_vi DV.fn
  have GW : FnOk P w K mg base CX0 2 fW fdW ["piece", "table", "column", "values"] spWv := ok_wv DW.fn B hz DC
  have bV := DV.fn.binds (ps := ["piece", "table", "column"]) fun _ _ _ _ _ _ us hl => by obtain ⟨v0, v1, v2, rfl⟩ := L2.ln3 hl; rfl
  have bW := DW.fn.binds (ps := ["piece", "table", "column", "values"]) fun _ _ _ _ _ _ us hl => by obtain ⟨v0, v1, v2, v3, rfl⟩ := L2.ln4 hl; rfl
  have ndA : (["number", "self"] : List Str).Nodup := by decide +kernel
  refine F.ok sc (fun vs H Q E h => ?_) (fun cdv A outer s H vs Q E hr h => ?_)
  · obtain ⟨x, p, y, r, d, a, b, rfl, _⟩ := h
    rfl
  · obtain ⟨x, p, y, r, d, a, b, rfl, ⟨dx, t, e⟩, hp, ok, q⟩ := h
    have hr1 : Room 1 _ := hr.mono (by decide)
    refine ⟨_, pss_cons (ps_set (i := 4) sc.nd rfl (Or.inl rfl) (pe_call GV hr1 (by rfl) DV.mg DV.fn.kp bV .nil pass0 (pa_cons (pv 2) (pa_cons (pe_fld (pv 0) rfl) (pa_cons (pe_fld (pv 0) rfl) pa_nil)))))
      (pss_cons (ps_comp (i := 5) (te := tCB (fun xs H Q => ∃ i j, xs = [.int i, .int j] ∧ Q (.int (if j < i then j else i)) H) (tCons (tVar 0) (tCons (tFld K (tVar 1) "top") tNil))) (osc := defScope (ca 3)) (N0 := ["self", "form", "piece", "rest", "numbers", "capped", "above"]) (xs := ["number"]) (fr := [0]) ⟨rfl, by decide +kernel, by decide +kernel, by decide +kernel, (fun j hj => by
              have e : j = 0 := by simpa using hj
              subst e
              exact ⟨_, rfl, by decide +kernel⟩), by decide +kernel⟩ rfl rfl rfl (pi_list (pv 4))
            (fun s H fp => pg_name (i := 0) ndA rfl (Or.inl rfl)) (fun s H fp => pif_nil)
            (fun s H fp => pe_callB (call_min2 rfl) (by rfl) hmin boot_min (pa_cons (pv 0) (pa_cons (pe_fld (pv 1) rfl) pa_nil))) sc.nd rfl (Or.inl rfl))
      (pss_cons (ps_comp (i := 6) (te := tIf (tTest (tOp (rI0 fun i j => .bl (decide (j < i))) (tVar 0) (tFld K (tVar 1) "top"))) (tVar 0) (tC .non)) (osc := defScope (ca 3)) (N0 := ["self", "form", "piece", "rest", "numbers", "capped", "above"]) (xs := ["number"]) (fr := [0]) ⟨rfl, by decide +kernel, by decide +kernel, by decide +kernel, (fun j hj => by
              have e : j = 0 := by simpa using hj
              subst e
              exact ⟨_, rfl, by decide +kernel⟩), by decide +kernel⟩ rfl rfl rfl (pi_list (pv 4))
            (fun s H fp => pg_name (i := 0) ndA rfl (Or.inl rfl)) (fun s H fp => pif_nil)
            (fun s H fp => pe_ifExp (pt_cmpR op_gt (pv 0) (pe_fld (pv 1) rfl) (nomark _)) (pv 0) pe_non) sc.nd rfl (Or.inl rfl))
      (pss_one (ps_ret (pe_tup (pa_cons (pe_call GW hr (by rfl) DW.mg DW.fn.kp bW .nil pass0 (pa_cons (pv 2) (pa_cons (pe_fld (pv 0) rfl) (pa_cons (pe_fld (pv 0) rfl) (pa_cons (pv 5) pa_nil))))) (pa_cons (pv 6) pa_nil))))))), ?_⟩
    refine ⟨_, rfl, _, rfl, x, CC, dx, _, _, rfl, e, L.cl, L.nT, cfs_t, _, rfl, x, CC, dx, _, _, rfl, e, L.cl, L.nC, cfs_c, p, d.T, d.c1, d.row a b, a, rfl, hp, ok.r1, fun l H1 s1 hl => ?_⟩
    refine ⟨_, rfl, l, rfl, ⟨_, SqL.of hl⟩, fun D hD => ?_⟩
    have S := Same.upd (o := .lst []) hD
    refine compW1 upd_same ⟨_, V.int a, SqL.of (S _ _ hl), rfl⟩ ?_
    rintro y' H' ⟨rfl, hx'⟩
    cases hx' _ (SqL.of (S _ _ hl))
    refine ⟨_, rfl, _, rfl, x, CC, dx, _, _, rfl, S _ _ (s1 _ _ e), L.cl, L.nP, cfs_p, a, d.top, rfl, upd_same, ?_⟩
    have S2 := S.put (o := .lst [V.int (if d.top < a then d.top else a)]) hD
    have eD := upd_same (H := upd H1 D (.lst [])) (a := D) (o := .lst [V.int (if d.top < a then d.top else a)])
    refine ⟨⟨_, SqL.of (S2 _ _ hl), Nat.le_refl _⟩, ?_⟩
    generalize upd (upd H1 D (.lst [])) D (.lst [V.int (if d.top < a then d.top else a)]) = H2 at *
    refine ⟨_, rfl, l, rfl, ⟨_, SqL.of (S2 _ _ hl)⟩, fun D3 hD3 => ?_⟩
    have S3 := Same.upd (o := .lst []) hD3
    refine compW1 upd_same ⟨_, V.int a, SqL.of (S3 _ _ (S2 _ _ hl)), rfl⟩ ?_
    rintro y' H' ⟨rfl, hx'⟩
    cases hx' _ (SqL.of (S3 _ _ (S2 _ _ hl)))
    have rest : ∀ v : V, (upd H2 D3 (.lst [])) D3 = some (.lst []) ∧ (Itl K l).stop 1 (upd (upd H2 D3 (.lst [])) D3 (.lst [v])) := fun v => ⟨upd_same, ⟨_, SqL.of ((S3.put hD3) _ _ (S2 _ _ hl)), Nat.le_refl _⟩⟩
    have S4 : ∀ v : V, Same H (upd (upd H2 D3 (.lst [])) D3 (.lst [v])) := fun v => (s1.trans S2).trans (S3.put hD3)
    have D4 : ∀ v : V, (upd (upd H2 D3 (.lst [])) D3 (.lst [v])) D = some (.lst [V.int (if d.top < a then d.top else a)]) := fun v => (S3.put hD3) _ _ eD
    have fin : ∀ v : V, (upd H2 D3 (.lst [])) D3 = some (.lst []) → (Itl K l).stop 1 (upd (upd H2 D3 (.lst [])) D3 (.lst [v])) → True := fun _ _ _ => trivial
    refine ⟨_, rfl, _, rfl, x, CC, dx, _, _, rfl, S3 _ _ (S2 _ _ (s1 _ _ e)), L.cl, L.nP, cfs_p, _, _, rfl, rfl, _, rfl, ite2 (fun _ => ⟨_, rfl, (rest (.int a)).1, (rest (.int a)).2, ?_⟩) (fun _ => ⟨(rest .non).1, (rest .non).2, ?_⟩)⟩
    all_goals
      refine ⟨_, rfl, _, rfl, x, CC, dx, _, _, rfl, S4 _ _ _ e, L.cl, L.nT, cfs_t, _, rfl, x, CC, dx, _, _, rfl, S4 _ _ _ e, L.cl, L.nC, cfs_c, _, rfl, p, D, d.T, d.c1, d.row a b, a, _, rfl, hp.same (S4 _), ok.r1, D4 _, fun p' H5 s5 hp' => ?_⟩
      refine ⟨_, rfl, (by show 2 ≤ sizeLine; decide), fun t' ht => ?_⟩
      have T1 := Same.upd (o := .tup [.ref p', .ref D3]) ht
      rw [ok.put] at hp'
      exact q t' p' (.ref D3) _ ((S4 _).trans (s5.trans T1)) ((hp'.same (cut_up T1)).same (cut_dn (S4 _))) upd_same
end
end My

namespace My
open PySem L2 PyProof.Rows
seal L2.PE L2.PT L2.PW L2.PS L2.PSs L2.PA L2.PI L2.PG L2.PGs L2.OpR L2.CallR L2.IxR L2.SlR L2.MtR L2.PIf L2.PO L2.MtM L2.PC
theorem PuA.nt {CP : Addr} {d : Dt} {H H' : Hp} {x : Addr} (h : PuA CP d H x) (s : Ntb H H') : PuA CP d H' x := let ⟨dx, k, t, a, b⟩ := h; ⟨dx, k, t, s _ _ a (fun _ h => by cases h), b.nt s⟩
theorem dC_drop {cols : Cl} {C : Str} : dropK (dC cols) (.inr C) = dC (cols.filter fun c => decide (c.1 ≠ C)) := by
  unfold dropK dC
  rw [List.filter_map]
  congr 1
  refine List.filter_congr fun c _ => ?_
  show decide ((Sum.inr c.1 : Key) ≠ .inr C) = decide (c.1 ≠ C)
  rw [Bool.eq_iff_iff, decide_eq_true_iff, decide_eq_true_iff]
  exact ⟨fun h e => h (by rw [e]), fun h e => h (by injection e)⟩
section
variable {P : Program} {w : World} {K : PySem.W.Frag} {mg : Str → Option Value} {base : Heap} {PF CT CC CP CD : Addr} {pm : Value}
theorem ok_pi {f fO : Addr} {fd fdO : FuncData} {tk : Tok} (F : Fun K "__init__" "Put.__init__" (pu 0) f fd) (L : ClP K CP) (mO : mg "owned" = some (.ref fO)) (kO : PySem.W.keepIn K (.ref fO) = true) (GO : FnOk P w K mg base CX0 4 fO fdO ["thing", "depth"] (spOw 3)) (bO1 : Binds K fdO ["thing", "depth"] [.int 20 tk]) : FnOk P w K mg base CX0 5 f fd ["self", "table", "column", "kind", "value"] (spPI CP) := by
  have sc : FnScope ["self", "table", "column", "kind", "value"] ["self", "table", "column", "kind", "value"] (defScope (pu 0)) := ⟨rfl, rfl, rfl, by decide +kernel, rfl, by decide +kernel, by decide +kernel⟩
  refine F.ok sc (fun vs H Q E h => ?_) (fun cdv A outer s H vs Q E hr h => ?_)
  · obtain ⟨x, dx, ka, T, C, n, rfl, _⟩ := h
    rfl
  · obtain ⟨x, dx, ka, T, C, n, rfl, e, hk, q⟩ := h
    refine ⟨_, pss_cons (ps_fld (pv 0) (pv 1) rfl) (pss_cons (ps_fld (pv 0) (pv 2) rfl) (pss_cons (ps_fld (pv 0) (pv 3) rfl) (pss_cons (ps_fld (pv 0) (pv 4) rfl)
      (pss_one (ps_fld (pv 0) (pe_call GO hr (by rfl) mO kO bO1 (show Vals [V.int 20] [Value.int 20 tk] from .cons ⟨tk, rfl⟩ .nil) pass0 (pa_cons (pe_tup (pa_cons pe_str (pa_cons (pv 1) (pa_cons (pv 2) (pa_cons (pv 3) (pa_cons (pv 4) pa_nil)))))) pa_nil)) rfl))))), ?_⟩
    have l1 := length_putF "table" (.str T) []
    have l2 := length_putF "column" (.str C) (putF "table" (.str T) [])
    have l3 := length_putF "kind" (.ref ka) (putF "column" (.str C) (putF "table" (.str T) []))
    have l4 := length_putF "value" (.int n) (putF "kind" (.ref ka) (putF "column" (.str C) (putF "table" (.str T) [])))
    rw [List.length_nil] at l1
    refine ⟨_, rfl, _, rfl, x, CP, dx, _, rfl, e, L.cl, L.nT, (by decide), ?_⟩
    refine ⟨_, rfl, _, rfl, x, CP, dx, _, rfl, upd_same, L.cl, L.nC, (by omega), ?_⟩
    rw [upd_upd]
    refine ⟨_, rfl, _, rfl, x, CP, dx, _, rfl, upd_same, L.cl, L.nK, (by omega), ?_⟩
    rw [upd_upd]
    refine ⟨_, rfl, _, rfl, x, CP, dx, _, rfl, upd_same, L.cl, L.nV, (by omega), ?_⟩
    rw [upd_upd]
    have nk : ka ≠ x := fun z => by have := hk.1; rw [z, e] at this; cases this
    have keep : ∀ b o, b ≠ x → H b = some o → upd H x (.ins CP dx (putF "value" (.int n) (putF "kind" (.ref ka) (putF "column" (.str C) (putF "table" (.str T) []))))) b = some o := fun b o nb eb => (upd_ne nb).trans eb
    have ex := upd_same (H := H) (a := x) (o := .ins CP dx (putF "value" (.int n) (putF "kind" (.ref ka) (putF "column" (.str C) (putF "table" (.str T) [])))))
    generalize upd H x (.ins CP dx (putF "value" (.int n) (putF "kind" (.ref ka) (putF "column" (.str C) (putF "table" (.str T) []))))) = H1 at *
    refine ⟨_, rfl, _, rfl, _, rfl, _, rfl, (show 5 ≤ sizeLine by decide), fun tp htp => ?_⟩
    have T1 := Same.upd (o := .tup [.str "put", .str T, .str C, .ref ka, .int n]) htp
    have hka : (upd H1 tp (.tup [.str "put", .str T, .str C, .ref ka, .int n])) ka = some (.tup [.str "whole"]) := T1 _ _ (keep _ _ nk hk.1)
    refine ⟨_, .tup [.fl (.str "put"), .fl (.str T), .fl (.str C), .tup [.fl (.str "whole")], .fl (.int n)], 20, rfl, (by decide), DwL.tup (n := 2) (.inl upd_same) (.cons (.fl rfl) (.cons (.fl rfl) (.cons (.fl rfl) (.cons (DwL.tup (n := 1) (.inl hka) (.cons (.fl rfl) .nil)) (.cons (.fl rfl) .nil))))), .tup (show 5 ≤ 1000 by decide) (fun d hd => ?_), fun v' H2 s2 _ => ?_⟩
    · rcases (show d = _ ∨ d = _ ∨ d = _ ∨ d = _ ∨ d = _ by simpa using hd) with rfl | rfl | rfl | rfl | rfl
      · exact .fl
      · exact .fl
      · exact .fl
      · exact sm_flat (vs := [.str "whole"]) (by decide)
      · exact .fl
    refine ⟨_, rfl, x, CP, dx, _, rfl, s2 _ _ (T1 _ _ ex), L.cl, L.nO, (by omega), ?_⟩
    exact q v' _ (fun b o nb eb => (upd_ne nb).trans (s2 _ _ (T1 _ _ (keep b o nb eb)))) upd_same
theorem ok_snd {f fN fK fF fP fW fR fT : Addr} {fd fdN fdK fdF fdP fdW fdR fdT : FuncData} (F : Fun K "is_sound" "Put.is_sound" (pu 3) f fd) (L : ClP K CP) (B : Bl mg) (DN : Df K mg "is_name" (top 13) fN fdN) (GN : FnOk P w K mg base CX0 1 fN fdN ["thing"] spName) (DK : Df K mg "is_kind" (top 17) fK fdK) (GK : FnOk P w K mg base CX0 4 fK fdK ["thing"] spKd)
    (DF : Df K mg "fits" (top 18) fF fdF) (DP : Df K mg "fits_plain" (top 20) fP fdP) (DW : Df K mg "is_whole" (top 12) fW fdW) : FnOk P w K mg base CX0 5 f fd ["self", "size"] (spSnd CP) := by
  have sc : FnScope ["self", "size"] ["self", "size"] (defScope (pu 3)) := ⟨rfl, rfl, rfl, by decide +kernel, rfl, by decide +kernel, by decide +kernel⟩
  have GF : FnOk P w K mg base CX0 3 fF fdF ["kind", "value", "size"] spFits := ok_fits DF.fn B DP DW
  have bN := DN.fn.binds (ps := ["thing"]) fun _ _ _ _ _ _ us hl => by obtain ⟨v0, rfl⟩ := L2.ln1 hl; rfl
  have bK := DK.fn.binds (ps := ["thing"]) fun _ _ _ _ _ _ us hl => by obtain ⟨v0, rfl⟩ := L2.ln1 hl; rfl
  have bF := DF.fn.binds (ps := ["kind", "value", "size"]) fun _ _ _ _ _ _ us hl => by obtain ⟨v0, v1, v2, rfl⟩ := L2.ln3 hl; rfl
  refine F.ok sc (fun vs H Q E h => ?_) (fun cdv A outer s H vs Q E hr h => ?_)
  · obtain ⟨x, d, v, rfl, _⟩ := h
    rfl
  · obtain ⟨x, d, v, rfl, ⟨dx, k, t, e, hk⟩, ok, q⟩ := h
    have hr1 : Room 1 _ := hr.mono (by decide)
    have hr3 : Room 3 _ := hr.mono (by decide)
    refine ⟨_, pss_cons (ps_if (PW.pt (pw_or (pt_not (pt_val (pe_call GN hr1 (by rfl) DN.mg DN.fn.kp bN .nil pass0 (pa_cons (pe_fld (pv 0) rfl) pa_nil)))) (pw_or (pt_not (pt_val (pe_call GK hr (by rfl) DK.mg DK.fn.kp bK .nil pass0 (pa_cons (pe_fld (pv 0) rfl) pa_nil))))
        (pw_or1 (pt_cmpR op_in_seq (pe_ix ix_tup (pe_fld (pv 0) rfl) pe_int (fun _ _ => rfl)) (pe_tup (pa_cons pe_str (pa_cons pe_str pa_nil))) (by with_unfolding_all rfl)))))) pss_never pss_nil)
      (pss_one (ps_ret (pe_call GF hr3 (by rfl) DF.mg DF.fn.kp bF .nil pass0 (pa_cons (pe_fld (pv 0) rfl) (pa_cons (pe_fld (pv 0) rfl) (pa_cons (pv 1) pa_nil)))))), ?_⟩
    refine ⟨_, rfl, x, CP, dx, _, _, rfl, e, L.cl, L.nC, pfs_c, d.c2, rfl, ok.h2, fun H1 s1 => ⟨_, rfl, iteF ?_⟩⟩
    refine ⟨_, rfl, x, CP, dx, _, _, rfl, s1 _ _ e, L.cl, L.nK, pfs_k, k, _, rfl, hk.nt (.of s1), fun H2 s2 => ⟨_, rfl, iteF ?_⟩⟩
    have S2 := s1.trans s2
    refine ⟨_, rfl, x, CP, dx, _, _, rfl, S2 _ _ e, L.cl, L.nK, pfs_k, k, _, 0, .str "whole", rfl, rfl, SqT.of (S2 _ _ hk.1), rfl, (by show 2 ≤ sizeLine; decide), fun p hp => ?_⟩
    have T := Same.upd (o := .tup [V.str "key", .str "once"]) hp
    have S3 := S2.trans T
    refine ⟨p, _, rfl, .inr (SqT.of upd_same), rfl, rfl, _, rfl, iteF ?_⟩
    exact ⟨_, rfl, x, CP, dx, _, _, rfl, S3 _ _ e, L.cl, L.nK, pfs_k, _, rfl, x, CP, dx, _, _, rfl, S3 _ _ e, L.cl, L.nV, pfs_v, _, rfl, k, 4, v, rfl, S3 _ _ hk.1, fun H' s' => q H' (S3.trans s')⟩
theorem ok_bef {f fS fI fA fW : Addr} {fd fdS fdI fdA fdW : FuncData} (F : Fun K "before" "Put.before" (pu 2) f fd) (L : ClP K CP) (MS : Meth K CP "is_sound" fS) (GS : FnOk P w K mg base CX0 5 fS fdS ["self", "size"] (spSnd CP)) (bS : Binds K fdS ["self", "size"] []) (DI : Df K mg "columns_in" (top 39) fI fdI) (GI : FnOk P w K mg base CX0 3 fI fdI ["form", "table"] spColsOf) (DA : Df K mg "ask_fit" (top 38) fA fdA)
    (DW : Df K mg "with_columns" (top 31) fW fdW) (GW : FnOk P w K mg base CX0 7 fW fdW ["form", "table", "columns"] (spWithC PF)) : FnOk P w K mg base CX0 8 f fd ["self", "form"] (spBef PF CP) := by
  have sc : FnScope ["self", "form", "columns"] ["self", "form"] (defScope (pu 2)) := ⟨rfl, rfl, rfl, by decide +kernel, rfl, by decide +kernel, by decide +kernel⟩
  have GA : FnOk P w K mg base CX0 1 fA fdA ["fine"] spFit := ok_fit DA.fn
  have bI := DI.fn.binds (ps := ["form", "table"]) fun _ _ _ _ _ _ us hl => by obtain ⟨v0, v1, rfl⟩ := L2.ln2 hl; rfl
  have bA := DA.fn.binds (ps := ["fine"]) fun _ _ _ _ _ _ us hl => by obtain ⟨v0, rfl⟩ := L2.ln1 hl; rfl
  have bW := DW.fn.binds (ps := ["form", "table", "columns"]) fun _ _ _ _ _ _ us hl => by obtain ⟨v0, v1, v2, rfl⟩ := L2.ln3 hl; rfl
  refine F.ok sc (fun vs H Q E h => ?_) (fun cdv A outer s H vs Q E hr h => ?_)
  · obtain ⟨x, f, d, rfl, _⟩ := h
    rfl
  · obtain ⟨x, fm, d, rfl, pu, ⟨k1, k2, hf, hk1, hk2⟩, ok, tab, q⟩ := h
    obtain ⟨dx, k, t, e, hk⟩ := id pu
    have hr1 : Room 1 _ := hr.mono (by decide)
    have hr3 : Room 3 _ := hr.mono (by decide)
    have hu : (A.deeper (envOfC "Put.before" (defScope (My.pu 2)) s.heap.objs.size f cdv)).units + 1 < cLine := hu_of hr
    refine ⟨_, pss_cons (ps_set (i := 2) sc.nd rfl (Or.inl rfl) (pe_call GI hr3 (by rfl) DI.mg DI.fn.kp bI .nil pass0 (pa_cons (pv 1) (pa_cons (pe_fld (pv 0) rfl) pa_nil))))
      (pss_cons (ps_expr (pe_call GA hr1 (by rfl) DA.mg DA.fn.kp bA .nil pass0 (pa_cons (pe_and (pe_meth (pv 0) L.cl MS GS (hr.mono (by decide)) bS .nil pass0 (pa_cons (pe_ix ix_tup (pv 1) pe_int (fun _ _ => rfl)) pa_nil)) (pe_one (pe_cmpR op_eqTp (pe_dget1 hu (pv 2) (pe_fld (pv 0) rfl) ⟨rfl, rfl, rfl, rfl⟩) (pe_fld (pv 0) rfl) (nomark _)))) pa_nil)))
      (pss_cons (ps_expr (pe_dpop1 (pv 2) (pe_fld (pv 0) rfl) ⟨rfl, rfl, rfl, rfl⟩))
      (pss_one (ps_ret (pe_call GW hr (by rfl) DW.mg DW.fn.kp bW .nil pass0 (pa_cons (pv 1) (pa_cons (pe_fld (pv 0) rfl) (pa_cons (pv 2) pa_nil)))))))), ?_⟩
    have cs := fo_cs ok hk1 hk2
    have hm : (d.c2, k2) ∈ [(d.c1, k1), (d.c2, k2)] := by simp
    refine ⟨_, rfl, _, rfl, x, CP, dx, _, _, rfl, e, L.cl, L.nT, pfs_t, fm, 3, d.T, _, rfl, hf, cs.nd, cs.le, fun cd H1 s1 hd => ?_⟩
    have hd1 := cut_sub _ _ hd
    obtain ⟨tt, en, h1, _⟩ := id hf
    refine ⟨_, rfl, x, dx, _, rfl, s1 _ _ e, pfs_no (.inr (.inr (.inr rfl))), _, rfl, fm, _, 0, _, rfl, rfl, SqT.of (s1 _ _ h1), rfl, x, d, _, rfl, pu.nt (.of s1), ok, fun H2 s2 => ?_⟩
    have S2 := s1.trans s2
    have hd2 := s2 _ _ hd1
    refine ⟨_, rfl, iteT ⟨_, rfl, cd, rfl, .inl ⟨_, .inl hd2⟩, _, rfl, x, CP, dx, _, _, rfl, S2 _ _ e, L.cl, L.nC, pfs_c, some (.ref k2), .inl ⟨_, .inr d.c2, .inl hd2, rfl, (dC_val cs.nd hm).symm⟩, _, rfl, x, CP, dx, _, _, rfl, S2 _ _ e, L.cl, L.nK, pfs_k, 0, k2, k, [.str "whole"], [.str "whole"], rfl, rfl, SqT.of (S2 _ _ hk2.1), SqT.of (S2 _ _ hk.1), rfl, (fun i x y h1 h2 => ?_), hu, rfl, ?_⟩⟩
    · rw [h1] at h2
      cases h2
      have : x = V.str "whole" := by simpa using List.mem_of_getElem? h1
      rw [this]
      exact .str
    refine ⟨_, rfl, cd, rfl, .inl ⟨_, .inl hd2⟩, _, rfl, x, CP, dx, _, _, rfl, S2 _ _ e, L.cl, L.nC, pfs_c, _, .inr d.c2, .ref k2, hd2, rfl, dC_val cs.nd hm, ?_⟩
    rw [dC_drop]
    have ef : ([(d.c1, k1), (d.c2, k2)] : Cl).filter (fun c => decide (c.1 ≠ d.c2)) = [(d.c1, k1)] := by simp [ok.ne]
    rw [ef]
    have SP := S2.put (p := cd) (o := .dK (dC [(d.c1, k1)])) (cut_new hd)
    have cs' : CsOk (upd H2 cd (.dK (dC [(d.c1, k1)]))) [(d.c1, k1)] := ⟨by simp, (by show 1 ≤ 12; decide), fun c hc => by
      obtain rfl : c = (d.c1, k1) := by simpa using hc
      exact ⟨ok.h1, .wh, hk1.nt (.of SP)⟩⟩
    exact ⟨_, rfl, _, rfl, x, CP, dx, _, _, rfl, SP _ _ e, L.cl, L.nT, pfs_t, _, rfl, fm, cd, 3, d.T, _, [(d.c1, k1)], rfl, hf.same SP, cs.nd, cs.le, by decide, upd_same, ok.hT, cs', tab.same SP, fun f' H' fr tab' => q f' H' ((Fr.of SP).trans fr) tab'⟩
theorem ok_bak {f fW fC fO fV : Addr} {fd fdW fdC fdO fdV : FuncData} (F : Fun K "back" "Put.back" (pu 5) f fd) (L : ClP K CP) (B : Bl mg) (DW : Df K mg "with_rows" (top 41) fW fdW) (DC : Df K mg "copied" (top 32) fC fdC) (DO : Df K mg "without_column" (top 44) fO fdO) (DV : Df K mg "values_in" (top 43) fV fdV) : FnOk P w K mg base CX0 3 f fd ["self", "form", "piece", "rest"] (spBak CP) := by
  have sc : FnScope ["self", "form", "piece", "rest", "rows"] ["self", "form", "piece", "rest"] (defScope (pu 5)) := ⟨rfl, rfl, rfl, by decide +kernel, rfl, by decide +kernel, by decide +kernel⟩
  have GW : FnOk P w K mg base CX0 2 fW fdW ["piece", "table", "rows"] spWr := ok_wr DW.fn B DC
  have GO : FnOk P w K mg base CX0 1 fO fdO ["row", "column"] spWo := ok_wo DO.fn B
  have GV : FnOk P w K mg base CX0 1 fV fdV ["piece", "table", "column"] spVi := ok_vi DV.fn
  have bW := DW.fn.binds (ps := ["piece", "table", "rows"]) fun _ _ _ _ _ _ us hl => by obtain ⟨v0, v1, v2, rfl⟩ := L2.ln3 hl; rfl
  have bO := DO.fn.binds (ps := ["row", "column"]) fun _ _ _ _ _ _ us hl => by obtain ⟨v0, v1, rfl⟩ := L2.ln2 hl; rfl
  have bV := DV.fn.binds (ps := ["piece", "table", "column"]) fun _ _ _ _ _ _ us hl => by obtain ⟨v0, v1, v2, rfl⟩ := L2.ln3 hl; rfl
  have ndA : (["row", "self"] : List Str).Nodup := by decide +kernel
  refine F.ok sc (fun vs H Q E h => ?_) (fun cdv A outer s H vs Q E hr h => ?_)
  · obtain ⟨x, p, y, r, d, a, b, rfl, _⟩ := h
    rfl
  · obtain ⟨x, p, y, r, d, a, b, rfl, ⟨dx, k, t, e, hk⟩, hp, ok, q⟩ := h
    obtain ⟨l, rr, p1, p2, p3⟩ := id hp
    have hr1 : Room 1 _ := hr.mono (by decide)
    have hu : (A.deeper (envOfC "Put.back" (defScope (pu 5)) s.heap.objs.size f cdv)).units + 1 < cLine := hu_of hr
    refine ⟨_, pss_cons (ps_comp (i := 4) (te := tCall spWo [] E0 (tCons (tVar 0) (tCons (tFld K (tVar 1) "column") tNil))) (osc := defScope (pu 5)) (N0 := ["self", "form", "piece", "rest", "rows"]) (xs := ["row"]) (fr := [0]) ⟨rfl, by decide +kernel, by decide +kernel, by decide +kernel, (fun j hj => by
              have e : j = 0 := by simpa using hj
              subst e
              exact ⟨_, rfl, by decide +kernel⟩), by decide +kernel⟩ rfl rfl rfl (pi_list (pe_dget hu (pv 2) (pe_fld (pv 0) rfl) (fun _ _ => rfl)))
            (fun s H fp => pg_name (i := 0) ndA rfl (Or.inl rfl)) (fun s H fp => pif_nil)
            (fun s H fp => pe_call GO hr1 (by rfl) DO.mg DO.fn.kp bO .nil pass0 (pa_cons (pv 0) (pa_cons (pe_fld (pv 1) rfl) pa_nil))) sc.nd rfl (Or.inl rfl))
      (pss_one (ps_ret (pe_tup (pa_cons (pe_call GW hr (by rfl) DW.mg DW.fn.kp bW .nil pass0 (pa_cons (pv 2) (pa_cons (pe_fld (pv 0) rfl) (pa_cons (pv 4) pa_nil)))) (pa_cons (pe_call GV hr1 (by rfl) DV.mg DV.fn.kp bV .nil pass0 (pa_cons (pv 2) (pa_cons (pe_fld (pv 0) rfl) (pa_cons (pe_fld (pv 0) rfl) pa_nil)))) pa_nil))))), ?_⟩
    refine ⟨_, rfl, _, rfl, x, CP, dx, _, _, rfl, e, L.cl, L.nT, pfs_t, p, .ref l, rfl, .inl ⟨_, .inr d.T, .inl p1, rfl, valV1.symm⟩, l, rfl, ⟨_, SqL.of p2⟩, fun D hD => ?_⟩
    have S := Same.upd (o := .lst []) hD
    refine compW1 upd_same ⟨_, V.ref rr, SqL.of (S _ _ p2), rfl⟩ ?_
    rintro y' H' ⟨rfl, hx'⟩
    cases hx' _ (SqL.of (S _ _ p2))
    refine ⟨_, rfl, _, rfl, x, CP, dx, _, _, rfl, S _ _ e, L.cl, L.nC, pfs_c, rr, d.row a b, d.c2, b, rfl, S _ _ p3, ok.r2, fun r' H1 s1 hr' => ?_⟩
    rw [ok.drop] at hr'
    have hDn := s1 D _ upd_same
    have S1 := (S.trans s1).put (p := D) (o := .lst [V.ref r']) hD
    have er : cut H (upd H1 D (.lst [V.ref r'])) r' = some (.dK (rK [(d.c1, a)])) := cut_at (none_of S (cut_new hr')) (by rw [upd_ne (fun z => by have := cut_new hr'; rw [z, upd_same] at this; cases this)]; exact cut_sub _ _ hr')
    refine ⟨hDn, ⟨_, SqL.of (S1 _ _ p2), Nat.le_refl _⟩, ?_⟩
    have eD : cut H (upd H1 D (.lst [V.ref r'])) D = some (.lst [V.ref r']) := cut_at hD upd_same
    generalize upd H1 D (.lst [V.ref r']) = H2 at *
    refine ⟨_, rfl, _, rfl, x, CP, dx, _, _, rfl, S1 _ _ e, L.cl, L.nT, pfs_t, _, rfl, H, p, D, r', d.T, d.row a b, [(d.c1, a)], rfl, S1, hp.same S1, eD, er, fun p' H3 s3 hp' => ?_⟩
    have S3 := S1.trans s3
    refine ⟨_, rfl, _, rfl, x, CP, dx, _, _, rfl, S3 _ _ e, L.cl, L.nT, pfs_t, _, rfl, x, CP, dx, _, _, rfl, S3 _ _ e, L.cl, L.nC, pfs_c, p, d.T, d.c2, d.row a b, b, rfl, hp.same S3, ok.r2, fun vl H4 s4 hvl => ⟨(by show 2 ≤ sizeLine; decide), fun t' ht => ?_⟩⟩
    have T1 := Same.upd (o := .tup [.ref p', .ref vl]) ht
    exact q t' p' (.ref vl) _ (S3.trans (s4.trans T1)) (hp'.same (cut_up (s4.trans T1))) upd_same
theorem ok_di {f : Addr} {fd : FuncData} (F : Fun K "__init__" "Turned.__init__" (td 0) f fd) (L : ClD K CD) : FnOk P w K mg base CX0 1 f fd ["self", "move"] (spDI CD) := by
  have sc : FnScope ["self", "move"] ["self", "move"] (defScope (td 0)) := ⟨rfl, rfl, rfl, by decide +kernel, rfl, by decide +kernel, by decide +kernel⟩
  refine F.ok sc (fun vs H Q E h => ?_) (fun cdv A outer s H vs Q E hr h => ?_)
  · obtain ⟨x, dx, y, rfl, _⟩ := h
    rfl
  · obtain ⟨x, dx, y, rfl, e, q⟩ := h
    refine ⟨_, pss_one (ps_fld (pv 0) (pv 1) rfl), ?_⟩
    refine ⟨_, rfl, _, rfl, x, CD, dx, _, rfl, e, L.cl, L.nM, (by decide), ?_⟩
    exact q _ (fun b o nb eb => (upd_ne nb).trans eb) upd_same
theorem ok_aftD {f fB : Addr} {fd fdB : FuncData} (F : Fun K "after" "Turned.after" (td 1) f fd) (L : ClD K CD) (LP : ClP K CP) (MB : Meth K CP "before" fB) (GB : FnOk P w K mg base CX0 8 fB fdB ["self", "form"] (spBef PF CP)) (bB : Binds K fdB ["self", "form"] []) : FnOk P w K mg base CX0 9 f fd ["self", "form"] (spAft PF .wh (MvD CD CP)) := by
  have sc : FnScope ["self", "form"] ["self", "form"] (defScope (td 1)) := ⟨rfl, rfl, rfl, by decide +kernel, rfl, by decide +kernel, by decide +kernel⟩
  refine F.ok sc (fun vs H Q E h => ?_) (fun cdv A outer s H vs Q E hr h => ?_)
  · obtain ⟨x, f, d, rfl, _⟩ := h
    rfl
  · obtain ⟨x, fm, d, rfl, ⟨dx, y, e, pu⟩, fo, ok, tab, q⟩ := h
    obtain ⟨dx', k, t, e', _⟩ := id pu
    refine ⟨_, pss_one (ps_ret (pe_meth (pe_fld (pv 0) rfl) LP.cl MB GB hr bB .nil pass0 (pa_cons (pv 1) pa_nil))), ?_⟩
    exact ⟨_, rfl, x, CD, dx, _, _, rfl, e, L.cl, L.nM, dfs_m, y, dx', _, rfl, e', pfs_no (.inl rfl), _, rfl, y, fm, d, rfl, pu, fo, ok, tab, q⟩
theorem ok_fthD {f fB : Addr} {fd fdB : FuncData} (F : Fun K "forth" "Turned.forth" (td 3) f fd) (L : ClD K CD) (LP : ClP K CP) (MB : Meth K CP "back" fB) (GB : FnOk P w K mg base CX0 3 fB fdB ["self", "form", "piece", "rest"] (spBak CP)) (bB : Binds K fdB ["self", "form", "piece", "rest"] []) : FnOk P w K mg base CX0 4 f fd ["self", "form", "piece", "rest"] (spFth (MvD CD CP) gD) := by
  have sc : FnScope ["self", "form", "piece", "rest"] ["self", "form", "piece", "rest"] (defScope (td 3)) := ⟨rfl, rfl, rfl, by decide +kernel, rfl, by decide +kernel, by decide +kernel⟩
  refine F.ok sc (fun vs H Q E h => ?_) (fun cdv A outer s H vs Q E hr h => ?_)
  · obtain ⟨x, p, y, r, d, a, b, rfl, _⟩ := h
    rfl
  · obtain ⟨x, p, y0, r, d, a, b, rfl, ⟨dx, y, e, pu⟩, hp, ok, q⟩ := h
    obtain ⟨dx', k, t, e', _⟩ := id pu
    refine ⟨_, pss_one (ps_ret (pe_meth (pe_fld (pv 0) rfl) LP.cl MB GB hr bB .nil pass0 (pa_cons (pv 1) (pa_cons (pv 2) (pa_cons (pv 3) pa_nil))))), ?_⟩
    exact ⟨_, rfl, x, CD, dx, _, _, rfl, e, L.cl, L.nM, dfs_m, y, dx', _, rfl, e', pfs_no (.inr (.inl rfl)), _, rfl, _, rfl, _, rfl, y, p, y0, r, d, a, b, rfl, pu, hp, ok, q⟩
theorem ok_lftD {f fB : Addr} {fd fdB : FuncData} (F : FunX K "left" "Turned.left" (td 5) f fd) (L : ClD K CD) (LP : ClP K CP) (MB : Meth K CP "right" fB) (GB : FnOk P w K mg base CX0 1 fB fdB ["self", "form", "piece", "rest"] spNon4) (bB : Binds K fdB ["self", "form", "piece", "rest"] []) : FnOk P w K mg base CX0 2 f fd ["self", "form", "piece", "rest"] (spLft (MvD CD CP)) := by
  have sc : FnScope ["self", "form", "piece", "rest"] ["self", "form", "piece", "rest"] (defScope (td 5)) := ⟨rfl, rfl, rfl, by decide +kernel, rfl, by decide +kernel, by decide +kernel⟩
  refine F.ok sc (fun vs H Q E h => ?_) (fun cdv A outer s H vs Q E hr h => ?_)
  · obtain ⟨x, y, z, r, d, rfl, _⟩ := h
    rfl
  · obtain ⟨x, y0, z, r, d, rfl, ⟨dx, y, e, pu⟩, q⟩ := h
    obtain ⟨dx', k, t, e', _⟩ := id pu
    refine ⟨_, pss_one (ps_ret (pe_meth (pe_fld (pv 0) rfl) LP.cl MB GB hr bB .nil pass0 (pa_cons (pv 1) (pa_cons (pv 2) (pa_cons (pv 3) pa_nil))))), ?_⟩
    exact ⟨_, rfl, x, CD, dx, _, _, rfl, e, L.cl, L.nM, dfs_m, y, dx', _, rfl, e', pfs_no (.inr (.inr (.inl rfl))), _, rfl, _, rfl, _, rfl, _, _, _, _, rfl, q⟩
end
end My

namespace My
open PySem L2 PyProof.Rows
seal L2.PE L2.PT L2.PW L2.PS L2.PSs L2.PA L2.PI L2.PG L2.PGs L2.OpR L2.CallR L2.IxR L2.SlR L2.MtR L2.PIf L2.PO L2.MtM L2.PC
/-! ### what is lost -/
structure MvS (C : Addr) (Mv : MvP) : Prop where
  ins : ∀ {d : Dt} {H : Hp} {a : Addr}, Mv d H a → ∃ dx fs, H a = some (.ins C dx fs) ∧ fs.lookup ("after" : Str) = none ∧ fs.lookup ("forth" : Str) = none ∧ fs.lookup ("left" : Str) = none
  nt : ∀ {d : Dt} {H H' : Hp} {a : Addr}, Mv d H a → Ntb H H' → Mv d H' a
theorem mvT {CT : Addr} {pm : Value} : MvS CT (MvT CT pm) := ⟨fun ⟨dx, ka, wf, wb, e, _⟩ => ⟨dx, _, e, tfs_no (.inr (.inr (.inr (.inr rfl)))), tfs_no (.inl rfl), tfs_no (.inr (.inr (.inl rfl)))⟩, fun ⟨dx, ka, wf, wb, e, k, h⟩ s => ⟨dx, ka, wf, wb, s _ _ e (fun _ h => by cases h), k.nt s, h.nt s⟩⟩
theorem mvC {CC : Addr} : MvS CC (MvC CC) := ⟨fun ⟨dx, t, e⟩ => ⟨dx, _, e, cfs_no (.inr (.inr rfl)), cfs_no (.inl rfl), cfs_no (.inr (.inl rfl))⟩, fun ⟨dx, t, e⟩ s => ⟨dx, t, s _ _ e (fun _ h => by cases h)⟩⟩
theorem mvD {CD CP : Addr} : MvS CD (MvD CD CP) := ⟨fun ⟨dx, y, e, _⟩ => ⟨dx, _, e, dfs_no (.inr (.inr rfl)), dfs_no (.inl rfl), dfs_no (.inr (.inl rfl))⟩, fun ⟨dx, y, e, p⟩ s => ⟨dx, y, s _ _ e (fun _ h => by cases h), p.nt s⟩⟩
abbrev Gw := Dt → Int → Int → Row
def OlA (H : Hp) (l : Addr) (T : Str) (rs : List Row) : Prop := ∃ ps : List Addr, H l = some (.lst (ps.map V.ref)) ∧ ps.length = rs.length ∧ ∀ (j : Nat) (p : Addr) (r : Row), ps[j]? = some p → rs[j]? = some r → PcA H p T r
theorem OlA.nt {H H' : Hp} (s : Ntb H H') {l : Addr} {T : Str} {rs : List Row} (h : OlA H l T rs) : OlA H' l T rs := let ⟨ps, a, b, c⟩ := h; ⟨ps, s _ _ a (fun _ h => by cases h), b, fun j p o x y => (c j p o x y).nt s⟩
/-- the values that g leaves -/
def gv (g : Gw) (d : Dt) (p : Int × Int) : List Int := (g d p.1 p.2).map (·.2)
def trD (g : Gw) (d : Dt) (pe pl : Int × Int) : Dp := .tup [pcD d.T (d.row pe.1 pe.2), pcD d.T (d.row pl.1 pl.2), pcD d.T (g d pl.1 pl.2)]
def NoHit (g : Gw) (d : Dt) (ab : List (Int × Int)) (n : Nat) : Prop := ∀ (l e : Nat) (pl pe : Int × Int), l < n → e < l → ab[l]? = some pl → ab[e]? = some pe → gv g d pe ≠ gv g d pl
def Lst (g : Gw) (d : Dt) (ab : List (Int × Int)) (c : Dp) : Prop := (c = .fl .non ∧ NoHit g d ab ab.length) ∨
  ∃ (l e : Nat) (pl pe : Int × Int), e < l ∧ ab[l]? = some pl ∧ ab[e]? = some pe ∧ gv g d pe = gv g d pl ∧ NoHit g d ab l ∧ (∀ (e' : Nat) (qe : Int × Int), e' < e → ab[e']? = some qe → gv g d qe ≠ gv g d pl) ∧ c = trD g d pe pl
theorem Lst.uniq {g : Gw} {d : Dt} {ab : List (Int × Int)} {c c' : Dp} (h : Lst g d ab c) (h' : Lst g d ab c') : c = c' := by
  rcases h with ⟨rfl, n⟩ | ⟨l, e, pl, pe, el, hl, he, q, nl, ne, rfl⟩ <;> rcases h' with ⟨rfl, n'⟩ | ⟨l', e', pl', pe', el', hl', he', q', nl', ne', rfl⟩
  · rfl
  · exact absurd q' (n l' e' pl' pe' (List.getElem?_eq_some_iff.mp hl').1 el' hl' he')
  · exact absurd q (n' l e pl pe (List.getElem?_eq_some_iff.mp hl).1 el hl he)
  · have e1 : l = l' := by
      rcases Nat.lt_trichotomy l l' with h | h | h
      · exact absurd q (nl' l e pl pe h el hl he)
      · exact h
      · exact absurd q' (nl l' e' pl' pe' h el' hl' he')
    subst e1
    rw [hl] at hl'
    cases hl'
    have e2 : e = e' := by
      rcases Nat.lt_trichotomy e e' with h | h | h
      · exact absurd q (ne' e pe h he)
      · exact h
      · exact absurd q' (ne e' pe' h he')
    subst e2
    rw [he] at he'
    cases he'
    rfl
def spFew : Sp := fun vs H Q _ => ∃ (p : Addr) (xs : List V), vs = [.ref p] ∧ H p = some (.lst xs) ∧ xs.length ≤ 60 ∧ Q .non H
def spLf (Mv : MvP) (g : Gw) : Sp := fun vs H Q _ => ∃ (x p : Addr) (y : V) (d : Dt) (a b : Int), vs = [.ref x, y, .ref p] ∧ Mv d H x ∧ PcA H p d.T (d.row a b) ∧ d.Ok ∧ ∀ t p' v H', Same H H' → PcA (cut H H') p' d.T (g d a b) → H' t = some (.tup [.ref p', v]) → Q (.ref t) H'
def spLost (PF : Addr) (kd : Kk) (Mv : MvP) (g : Gw) : Sp := fun vs H Q _ => ∃ (x f lo : Addr) (d : Dt) (ab : List (Int × Int)), vs = [.ref x, .ref f, .ref lo] ∧ Mv d H x ∧ FoA kd d H f ∧ d.Ok ∧ TabOk PF foPos foQ H ∧ OlA H lo d.T (ab.map fun p => d.row p.1 p.2) ∧ ab.length ≤ 60 ∧ ab.Nodup ∧ (∀ p q : Int × Int, (g d p.1 p.2).map (·.1) = (g d q.1 q.2).map (·.1)) ∧
  ∀ v c H', Fr PF H H' → TabOk PF foPos foQ H' → Lst g d ab c → Dv (cut H H') 7 c v → Q v H'
def loN : List Str := ["move", "form", "olds", "news", "later", "old", "came", "earlier"]
theorem Fr.none {P : Addr} {pos : Pos} {q : Str} {H0 H1 : Hp} (fr : Fr P H0 H1) (t : TabOk P pos q H1) {b : Addr} (h : H1 b = none) : H0 b = none := by
  cases e : H0 b with
  | none => rfl
  | some o =>
    by_cases hb : b = P
    · obtain ⟨zs, t⟩ := t.tbl
      rw [hb, t] at h
      cases h
    · rw [fr b o hb e] at h
      cases h
theorem cut_dn' {H0 H1 H : Hp} (h : ∀ b, H1 b = none → H0 b = none) : Same (cut H1 H) (cut H0 H) := fun b o e => cut_at (h b (cut_new e)) (cut_sub _ _ e)
theorem row_sm {T : Str} {row : Row} (nd : (row.map (·.1)).Nodup) (le : row.length ≤ 12) : Sm (pcD T row) := by
  refine .dic (show 1 ≤ 1000 by decide) (List.nodup_cons.mpr ⟨List.not_mem_nil, List.nodup_nil⟩) fun k hk => ?_
  obtain rfl : k = _ := by simpa using hk
  refine .lst (show 1 ≤ 1000 by decide) fun e he => ?_
  obtain rfl : e = rwD row := by simpa using he
  refine .dic (by rw [List.length_map]; omega) (by rw [List.map_map]; exact nd) fun k hk => ?_
  obtain ⟨c, _, rfl⟩ := List.mem_map.mp hk
  exact .fl
section
variable {P : Program} {w : World} {K : PySem.W.Frag} {mg : Str → Option Value} {base : Heap} {PF C : Addr} {pm : Value} {Mv : MvP} {g : Gw} {kd : Kk}
theorem ok_few {f : Addr} {fd : FuncData} (F : Fun K "ask_few" "ask_few" (top 50) f fd) (B : Bl mg) {uM : Value} (hM : mg "MOST_PIECES" = some uM) (rM : RelV (.int 60) uM) : FnOk P w K mg base CX0 1 f fd ["pieces"] spFew := by
  have sc : FnScope ["pieces"] ["pieces"] (defScope (top 50)) := ⟨rfl, rfl, rfl, by decide +kernel, rfl, by decide +kernel, by decide +kernel⟩
  refine F.ok sc (fun vs H Q E h => ?_) (fun cdv A outer s H vs Q E hr h => ?_)
  · obtain ⟨p, xs, rfl, _⟩ := h
    rfl
  · obtain ⟨p, xs, rfl, hp, hx, q⟩ := h
    refine ⟨_, pss_one (ps_if (pt_cmpR op_gt (pe_callB call_len_seq (by rfl) B.len PySem.boot_len (pa_cons (pv 0) pa_nil)) (pe_glob (by rfl) hM rM) (nomark _)) pss_never pss_nil), ?_⟩
    exact ⟨_, rfl, p, _, rfl, .inl (SqL.of hp), _, _, rfl, rfl, _, rfl, iteC (decide_eq_false (by omega)) q⟩
theorem ok_lf {f fF fL : Addr} {fd fdF fdL : FuncData} (F : Fun K "led_forth" "led_forth" (top 51) f fd) (M : MvS C Mv) (cl : Cls K C) (MF : Meth K C "forth" fF) (GF : FnOk P w K mg base CX0 4 fF fdF ["self", "form", "piece", "rest"] (spFth Mv g)) (bF : Binds K fdF ["self", "form", "piece", "rest"] []) (ML : Meth K C "left" fL) (GL : FnOk P w K mg base CX0 2 fL fdL ["self", "form", "piece", "rest"] (spLft Mv)) (bL : Binds K fdL ["self", "form", "piece", "rest"] [.none]) :
    FnOk P w K mg base CX0 5 f fd ["move", "form", "old"] (spLf Mv g) := by
  have sc : FnScope ["move", "form", "old"] ["move", "form", "old"] (defScope (top 51)) := ⟨rfl, rfl, rfl, by decide +kernel, rfl, by decide +kernel, by decide +kernel⟩
  refine F.ok sc (fun vs H Q E h => ?_) (fun cdv A outer s H vs Q E hr h => ?_)
  · obtain ⟨x, p, y, d, a, b, rfl, _⟩ := h
    rfl
  · obtain ⟨x, p, y, d, a, b, rfl, mv, hp, ok, q⟩ := h
    obtain ⟨dx, fs, e, _, n2, n3⟩ := M.ins mv
    refine ⟨_, pss_one (ps_ret (pe_meth (pv 0) cl MF GF hr bF .nil pass0 (pa_cons (pv 1) (pa_cons (pv 2) (pa_cons (pe_meth (pv 0) cl ML GL (hr.mono (by decide)) bL (show Vals [V.non] [Value.none] from .cons rfl .nil) pass0 (pa_cons (pv 1) (pa_cons (pv 2) pa_nil))) pa_nil))))), ?_⟩
    refine ⟨_, rfl, x, dx, _, rfl, e, n2, _, rfl, _, rfl, _, rfl, x, dx, _, rfl, e, n3, _, rfl, _, rfl, x, _, _, _, d, rfl, mv, ?_⟩
    exact ⟨x, p, y, .non, d, a, b, rfl, mv, hp, ok, q⟩
theorem ok_lost {f fA fF fE fO : Addr} {fd fdA fdF fdE fdO : FuncData} {tk : Tok} (F : Fun K "show_lost" "show_lost" (top 49) f fd) (B : Bl mg) (M : MvS C Mv) (cl : Cls K C) (MA : Meth K C "after" fA) (GA : FnOk P w K mg base CX0 9 fA fdA ["self", "form"] (spAft PF kd Mv)) (bA : Binds K fdA ["self", "form"] [])
    (DF : Df K mg "led_forth" (top 51) fF fdF) (GF : FnOk P w K mg base CX0 5 fF fdF ["move", "form", "old"] (spLf Mv g)) (DE : Df K mg "ask_few" (top 50) fE fdE) (GE : FnOk P w K mg base CX0 1 fE fdE ["pieces"] spFew) (mO : mg "owned" = some (.ref fO)) (kO : PySem.W.keepIn K (.ref fO) = true) (GO : FnOk P w K mg base CX0 8 fO fdO ["thing", "depth"] (spOw 7)) (bO1 : Binds K fdO ["thing", "depth"] [.int 20 tk])
    (gsm : ∀ d : Dt, d.Ok → ∀ a b, Sm (pcD d.T (g d a b))) : FnOk P w K mg base CX0 10 f fd ["move", "form", "olds"] (spLost PF kd Mv g) := by
  have sc : FnScope loN ["move", "form", "olds"] (defScope (top 49)) := ⟨rfl, rfl, rfl, by decide +kernel, rfl, by decide +kernel, by decide +kernel⟩
  have bF := DF.fn.binds (ps := ["move", "form", "old"]) fun _ _ _ _ _ _ us hl => by obtain ⟨v0, v1, v2, rfl⟩ := L2.ln3 hl; rfl
  have bE := DE.fn.binds (ps := ["pieces"]) fun _ _ _ _ _ _ us hl => by obtain ⟨v0, rfl⟩ := L2.ln1 hl; rfl
  refine F.ok sc (fun vs H Q E h => ?_) (fun cdv A outer s H vs Q E hr h => ?_)
  · obtain ⟨x, f, lo, d, ab, rfl, _⟩ := h
    rfl
  · obtain ⟨x, fm, lo, d, ab, rfl, mv, fo, ok, tab, ol, a60, nd, gn, q⟩ := h
    have hr5 : Room 5 _ := hr.mono (by decide)
    have hr1 : Room 1 _ := hr.mono (by decide)
    have u := u20 hr
    refine ⟨_, pss_cons (ps_expr (pe_meth (pv 0) cl MA GA hr bA .nil pass0 (pa_cons (pv 1) pa_nil)))
      (pss_cons (ps_expr (pe_call GE hr1 (by rfl) DE.mg DE.fn.kp bE .nil pass0 (pa_cons (pv 2) pa_nil)))
      (pss_cons (ps_set (i := 3) sc.nd rfl (Or.inl rfl) (pe_lst pa_nil))
      (pss_cons (ps_for PassesOwn.never rfl (pi_enum (by rfl) B.enum (pa_cons (pv 2) pa_nil)) (pg_tup rfl (pgs_cons (pg_name (i := 4) sc.nd rfl (Or.inl rfl)) (pgs_cons (pg_name (i := 5) sc.nd rfl (Or.inl rfl)) pgs_nil)))
        (pss_cons (ps_set (i := 6) sc.nd rfl (Or.inl rfl) (pe_ix ix_tup (pe_call GF hr5 (by rfl) DF.mg DF.fn.kp bF .nil pass0 (pa_cons (pv 0) (pa_cons (pv 1) (pa_cons (pv 5) pa_nil)))) pe_int (fun _ _ => rfl)))
        (pss_cons (ps_for PassesOwn.never rfl (pi_range1 rfl B.range (pa_cons (pv 4) pa_nil)) (pg_name (i := 7) sc.nd rfl (Or.inl rfl))
          (pss_one (ps_if (PW.pt (pw_and (pt_cmpR (op_eqW u) (pe_ix ix_list (pv 3) (pv 7) (fun _ _ => rfl)) (pv 6) (nomark _)) (pw_and1 (pt_cmpR (op_neW u) (pe_ix ix_list (pv 2) (pv 7) (fun _ _ => rfl)) (pv 5) (nomark _)))))
            (pss_one (ps_ret (pe_call GO (hr.mono (by decide)) (by rfl) mO kO bO1 (show Vals [V.int 20] [Value.int 20 tk] from .cons ⟨tk, rfl⟩ .nil) pass0 (pa_cons (pe_tup (pa_cons (pe_ix ix_list (pv 2) (pv 7) (fun _ _ => rfl)) (pa_cons (pv 5) (pa_cons (pv 6) pa_nil)))) pa_nil)))) pss_nil)))
        (pss_one (ps_expr (pe_bm PySem.F.plainAttrs_list PySem.F.slot_list_append PySem.F.type_list_append mt_app (pv 3) (pa_cons (pv 6) pa_nil)))))))
      (pss_one (ps_ret pe_non))))), ?_⟩
    obtain ⟨dx, fs, e, n1, _⟩ := M.ins mv
    refine ⟨_, rfl, x, dx, _, rfl, e, n1, _, rfl, x, fm, d, rfl, mv, fo, ok, tab, fun f' H1 fr1 tab1 => ?_⟩
    have N1 : Ntb H H1 := fr1.nt tab
    have z1 : ∀ b, H1 b = none → H b = none := fun b h => fr1.none tab1 h
    have mv1 := M.nt mv N1
    obtain ⟨ps, hps, pl, hpp⟩ := ol.nt N1
    rw [List.length_map] at pl
    refine ⟨_, rfl, lo, _, rfl, hps, (by rw [List.length_map]; omega), Nat.zero_le _, fun nl hnl => ?_⟩
    have S2 := Same.upd (o := .lst ([] : List V)) hnl
    refine ⟨_, rfl, lo, rfl, ⟨_, SqL.of (S2 _ _ hps)⟩, for_enum (K := K) (a := lo) (xs := ps.map V.ref) (fun i σ H' => Same H1 H' ∧ (∃ u4 u5 u6 u7, σ = [some (.ref x), some (.ref fm), some (.ref lo), some (.ref nl), u4, u5, u6, u7]) ∧ NoHit g d ab i ∧ ∃ qs : List Addr, H' nl = some (.lst (qs.map V.ref)) ∧ qs.length = i ∧ ∀ (j : Nat) (q : Addr) (p : Int × Int), qs[j]? = some q → ab[j]? = some p → PcA (nw H1 nl H') q d.T (g d p.1 p.2)) ⟨S2, ⟨_, _, _, _, rfl⟩, (fun l e pl pe h => absurd h (Nat.not_lt_zero l)), [], upd_same, rfl, (fun j q p h => nomatch h)⟩ (fun i σ H' _ p => SqL.of (p.1 _ _ hps)) ?_ ?_⟩
    · rintro i xx tp σ H' hx ⟨sm, ⟨u4, u5, u6, u7, rfl⟩, nh, qs, hqs, ql, hqp⟩ htp
      have hip : i < ps.length := by have := (List.getElem?_eq_some_iff.mp hx).1; rwa [List.length_map] at this
      have hia : i < ab.length := by omega
      rw [List.getElem?_map, List.getElem?_eq_getElem hip] at hx
      cases hx
      have Tp := Same.upd (o := .tup [V.int i, .ref ps[i]]) htp
      refine ⟨tp, _, rfl, SqT.of upd_same, rfl, _, _, rfl, _, _, rfl, rfl, ?_⟩
      have sm3 := sm.trans Tp
      have hqs3 := Tp _ _ hqs
      have hqp3 : ∀ (j : Nat) (q : Addr) (p : Int × Int), qs[j]? = some q → ab[j]? = some p → PcA (nw H1 nl (upd H' tp (.tup [V.int i, .ref ps[i]]))) q d.T (g d p.1 p.2) := fun j q p h1 h2 => (hqp j q p h1 h2).same (nw_up Tp)
      generalize upd H' tp (.tup [V.int i, .ref ps[i]]) = H3 at *
      have hp0 := (hpp i ps[i] (d.row ab[i].1 ab[i].2) (List.getElem?_eq_getElem hip) (by rw [List.getElem?_map, List.getElem?_eq_getElem hia]; rfl)).same sm3
      refine ⟨_, rfl, _, rfl, _, rfl, x, ps[i], _, d, ab[i].1, ab[i].2, rfl, M.nt mv1 (.of sm3), hp0, ok, fun t p' v H4 s4 hp' ht => ⟨_, _, 0, _, rfl, rfl, SqT.of ht, rfl, ?_⟩⟩
      have sm4 := sm3.trans s4
      have hpn : PcA (nw H1 nl H4) p' d.T (g d ab[i].1 ab[i].2) := hp'.same (nw_in sm3 hqs3)
      have hpn' := (hpn.same nw_cut).same cut_sub
      have hqs4 := s4 _ _ hqs3
      have hqp4 : ∀ (j : Nat) (q : Addr) (p : Int × Int), qs[j]? = some q → ab[j]? = some p → PcA (nw H1 nl H4) q d.T (g d p.1 p.2) := fun j q p h1 h2 => (hqp3 j q p h1 h2).same (nw_up s4)
      have hp4 := hp0.same s4
      refine ⟨_, rfl, _, rfl, (by omega), (by omega), for_range (fun j σ H5 => H5 = H4 ∧ (∃ u7, σ = [some (.ref x), some (.ref fm), some (.ref lo), some (.ref nl), some (.int i), some (.ref ps[i]), some (.ref p'), u7]) ∧ ∀ (e : Nat) (pe : Int × Int), e < j → ab[e]? = some pe → gv g d pe ≠ gv g d ab[i]) ⟨rfl, ⟨_, rfl⟩, (fun e pe h => absurd h (Nat.not_lt_zero e))⟩ ?_ ?_⟩
      · rintro j σ H5 hj ⟨rfl, ⟨w7, rfl⟩, hne⟩
        have hji : j < i := by omega
        have hjq : j < qs.length := by omega
        have hja : j < ab.length := by omega
        have hjp : j < ps.length := by omega
        have hq := (hqp4 j qs[j] ab[j] (List.getElem?_eq_getElem hjq) (List.getElem?_eq_getElem hja))
        have hq' := (hq.same nw_cut).same cut_sub
        have a1 : atI (qs.map V.ref) (0 + (j : Int)) = some (.ref qs[j]) := by rw [Int.zero_add]; exact atI_nat (by rw [List.getElem?_map, List.getElem?_eq_getElem hjq]; rfl)
        have a2 : atI (ps.map V.ref) (0 + (j : Int)) = some (.ref ps[j]) := by rw [Int.zero_add]; exact atI_nat (by rw [List.getElem?_map, List.getElem?_eq_getElem hjp]; rfl)
        refine ⟨_, rfl, _, rfl, nl, _, _, _, rfl, rfl, SqL.of hqs4, a1, _, rfl, 3, qs[j], p', _, _, _, rfl, rfl, hq'.dw, hpn'.dw, pc_eq (gn _ _), (by decide), _, rfl, ?_⟩
        cases hb : ((g d ab[j].1 ab[j].2).map (·.2) == (g d ab[i].1 ab[i].2).map (·.2)) with
        | false =>
          refine iteC rfl (iteF ⟨rfl, ⟨_, rfl⟩, fun e pe he hpe => ?_⟩)
          by_cases h : e < j
          · exact hne e pe h hpe
          · obtain rfl : e = j := by omega
            rw [List.getElem?_eq_getElem hja] at hpe
            cases hpe
            exact fun z => by rw [show ((g d ab[e].1 ab[e].2).map (·.2) == (g d ab[i].1 ab[i].2).map (·.2)) = true from beq_iff_eq.mpr z] at hb; cases hb
        | true =>
          have heq : gv g d ab[j] = gv g d ab[i] := beq_iff_eq.mp hb
          have hpj := (hpp j ps[j] (d.row ab[j].1 ab[j].2) (List.getElem?_eq_getElem hjp) (by rw [List.getElem?_map, List.getElem?_eq_getElem hja]; rfl)).same sm4
          have hps4 := sm4 _ _ hps
          have hrow : ((d.row ab[j].1 ab[j].2).map (·.2) == (d.row ab[i].1 ab[i].2).map (·.2)) = false := by
            refine beq_eq_false_iff_ne.mpr fun z => ?_
            have z' : [ab[j].1, ab[j].2] = [ab[i].1, ab[i].2] := z
            injection z' with z1 z2
            injection z2 with z2
            have : ab[j] = ab[i] := Prod.ext z1 z2
            have := (List.getElem_inj nd).mp this
            omega
          refine iteB rfl ⟨_, rfl, _, rfl, lo, _, _, _, rfl, rfl, SqL.of hps4, a2, _, rfl, 3, ps[j], ps[i], _, _, _, rfl, rfl, hpj.dw, hp4.dw, (pc_eq (r1 := d.row ab[j].1 ab[j].2) (r2 := d.row ab[i].1 ab[i].2) rfl).to hrow, (by decide), _, rfl, iteT ?_⟩
          refine ⟨_, rfl, _, rfl, lo, _, _, _, rfl, rfl, SqL.of hps4, a2, _, rfl, _, rfl, (by show 3 ≤ sizeLine; decide), fun tr htr => ?_⟩
          have S5 := Same.upd (o := .tup [V.ref ps[j], .ref ps[i], .ref p']) htr
          have up : ∀ {v : V} {dd : Dp}, Dw H5 3 dd v → Dw (upd H5 tr (.tup [V.ref ps[j], .ref ps[i], .ref p'])) 6 dd v := fun h => (h.up 6 (by decide)).same S5
          refine ⟨_, trD g d ab[j] ab[i], 20, rfl, (by decide), DwL.tup (.inl upd_same) (.cons (up hpj.dw) (.cons (up hp4.dw) (.cons (up hpn'.dw) .nil))), .tup (show 3 ≤ 1000 by decide) (fun dd hdd => ?_), fun v' H6 s6 dv => ?_⟩
          · rcases (show dd = _ ∨ dd = _ ∨ dd = _ by simpa using hdd) with rfl | rfl | rfl
            · exact row_sm ok.r1.nd ok.r1.le
            · exact row_sm ok.r1.nd ok.r1.le
            · exact gsm d ok _ _
          · have S6 := sm4.trans (S5.trans s6)
            refine q v' _ H6 (fr1.trans (.of S6)) (tab1.same S6) (.inr ⟨i, j, ab[i], ab[j], hji, List.getElem?_eq_getElem hia, List.getElem?_eq_getElem hja, heq, nh, hne, rfl⟩) ((dv.same (cut_dn (sm4.trans S5))).same (cut_dn' z1))
      · rintro σ H5 ⟨rfl, ⟨w7, rfl⟩, hne⟩
        refine ⟨_, rfl, .inl ⟨rfl, _, SqL.of hqs4⟩, _, rfl, nl, _, _, rfl, rfl, hqs4, (by rw [List.length_map, sizeLine_eq]; omega), ?_⟩
        refine ⟨sm4.put hnl, ⟨_, _, _, _, rfl⟩, fun l e pl pe hl he hpl hpe => ?_, qs ++ [p'], by rw [upd_same, List.map_append]; rfl, by rw [List.length_append, ql]; rfl, fun j qa p h1 h2 => ?_⟩
        · by_cases h : l < i
          · exact nh l e pl pe h he hpl hpe
          · obtain rfl : l = i := by omega
            rw [List.getElem?_eq_getElem hia] at hpl
            cases hpl
            exact hne e pe (by omega) hpe
        · rcases get_snoc h1 with h1 | ⟨rfl, rfl⟩
          · exact (hqp4 j qa p h1 h2).same nw_put
          · rw [ql, List.getElem?_eq_getElem hia] at h2
            cases h2
            exact hpn.same nw_put
    · rintro σ H' ⟨sm, ⟨u4, u5, u6, u7, rfl⟩, nh, _⟩
      rw [List.length_map, pl] at nh
      exact q .non _ H' (fr1.trans (.of sm)) (tab1.same sm) (.inl ⟨rfl, nh⟩) (.fl rfl)
end
end My

/-! x not in A LIST OF PAIRS, each a list of two numbers (own work); two rules laid side by side; comprehensions with a test. -/
namespace L2
open PySem PySem.Spec PyProof.Rows
def eqP (H : Hp) (x0 x1 : Int) : Value → Bool
  | .ref b => match H b with
    | some (.lst [.int i, .int j]) => i == x0 && j == x1
    | _ => false
  | _ => false
theorem vals_refs : ∀ {as : List Addr} {us : List Value}, Vals (as.map V.ref) us → us = as.map Value.ref
  | [], _, .nil => rfl
  | a :: as, _, .cons r t => by
    rw [vals_refs t]
    cases r
    rfl
section
variable {X : Cx}
theorem op_notInP (hu : X.A.units + 20 < cLine) : OpR X (compareOp .NotIn) (fun x y H Q => ∃ (a p : Addr) (x0 x1 : Int) (as : List Addr) (ab : List (Int × Int)), x = .ref a ∧ y = .ref p ∧ H a = some (.lst [.int x0, .int x1]) ∧ H p = some (.lst (as.map V.ref)) ∧ as.length = ab.length ∧ (∀ (j : Nat) (b : Addr) (q : Int × Int), as[j]? = some b → ab[j]? = some q → H b = some (.lst [.int q.1, .int q.2])) ∧ Q (.bl (!decide ((x0, x1) ∈ ab))) H) := by
  intro pins s σ H x y v u Q I rx ry h
  obtain ⟨a, p, x0, x1, as, ab, rfl, rfl, ha, hp, hl, hb, q⟩ := h
  cases rx
  cases ry
  obtain ⟨its, r, pl, _⟩ := I.list (xs := as.map V.ref) (.inl (.inl hp))
  have eits := vals_refs r
  have at_ : ∀ b ∈ as, ∃ q ∈ ab, H b = some (.lst [.int q.1, .int q.2]) := fun b hm => by
    obtain ⟨j, hj⟩ := List.getElem?_of_mem hm
    have hja : j < ab.length := by have := (List.getElem?_eq_some_iff.mp hj).1; omega
    exact ⟨ab[j], List.getElem_mem hja, hb j b _ hj (List.getElem?_eq_getElem hja)⟩
  have da : Dw H 1 (.lst [.fl (.int x0), .fl (.int x1)]) (.ref a) := DwL.lst ha (.cons (.fl rfl) (.cons (.fl rfl) .nil))
  refine SeqAt.notIn_listAt (eqP H x0 x1) pl.isList (fun w hw => ?_) ⟨.bl _, H, I, rfl, ?_⟩
  · have hw : w ∈ its := by simpa using hw
    rw [eits] at hw
    obtain ⟨b, hm, rfl⟩ := List.mem_map.mp hw
    obtain ⟨qq, _, e⟩ := at_ b hm
    have db : Dw H 1 (.lst [.fl (.int qq.1), .fl (.int qq.2)]) (.ref b) := DwL.lst e (.cons (.fl rfl) (.cons (.fl rfl) .nil))
    have := (eqAt_Dw I (DeqL.lst (.cons (Deq.int (i := qq.1) (j := x0)) (.cons (Deq.int (i := qq.2) (j := x1)) .nil))) db da rfl rfl (A := X.A.in1) (by show X.A.units + 1 + 1 < cLine; omega)).1
    have ee : eqP H x0 x1 (.ref b) = ((qq.1 == x0) && ((qq.2 == x1) && true)) := by
      show (match H b with | some (.lst [.int i, .int j]) => i == x0 && j == x1 | _ => false) = _
      rw [e, Bool.and_true]
    rw [ee]
    exact this
  · have e1 : its.toArray.any (eqP H x0 x1) = decide ((x0, x1) ∈ ab) := by
      rw [show its.toArray.any (eqP H x0 x1) = its.any (eqP H x0 x1) by simp, eits, Bool.eq_iff_iff, decide_eq_true_iff, List.any_eq_true]
      constructor
      · rintro ⟨w, hw, he⟩
        obtain ⟨b, hm, rfl⟩ := List.mem_map.mp hw
        obtain ⟨qq, hq, e⟩ := at_ b hm
        have he : (match H b with | some (.lst [.int i, .int j]) => i == x0 && j == x1 | _ => false) = true := he
        rw [e] at he
        have := Bool.and_eq_true_iff.mp he
        have e3 : qq = (x0, x1) := Prod.ext (eq_of_beq this.1) (eq_of_beq this.2)
        rw [← e3]
        exact hq
      · intro hm
        obtain ⟨j, hj⟩ := List.getElem?_of_mem hm
        have hja : j < as.length := by have := (List.getElem?_eq_some_iff.mp hj).1; omega
        refine ⟨.ref as[j], List.mem_map.mpr ⟨_, List.getElem_mem hja, rfl⟩, ?_⟩
        have e := hb j as[j] _ (List.getElem?_eq_getElem hja) hj
        show (match H as[j] with | some (.lst [.int i, .int j]) => i == x0 && j == x1 | _ => false) = true
        rw [e]
        simp
    rw [e1]
    exact q
end
theorem compW_flt {J : It} {g : TG} {tt : TT} {te : TE} {R : Addr → Hp → Prop} {D : Addr} {σ0 : St} {H0 : Hp} (n : Nat) (Pv : Nat → List V → St → Hp → Prop) (hn : n ≤ sizeLine) (h0 : Pv 0 [] σ0 H0) (hD0 : H0 D = some (.lst []))
    (hs : ∀ i σ H ys, i < n → Pv i ys σ H → H D = some (.lst ys) → J.go i H ∧ ∀ x H', J.yld i H x H' → g x σ H' fun σ2 H2 => tt σ2 H2 fun b H3 => if b = true then te σ2 H3 (fun y H4 => H4 D = some (.lst ys) ∧ Pv (i + 1) (ys ++ [y]) σ2 (upd H4 D (.lst (ys ++ [y])))) else H3 D = some (.lst ys) ∧ Pv (i + 1) ys σ2 H3)
    (hd : ∀ σ H ys, Pv n ys σ H → H D = some (.lst ys) → J.stop n H ∧ R D H) : CompW J g tt te R D σ0 H0 := by
  refine ⟨fun i m σ H => m = n - i ∧ i ≤ n ∧ ∃ ys, Pv i ys σ H ∧ H D = some (.lst ys) ∧ ys.length ≤ i, ⟨n, by omega, Nat.zero_le _, [], h0, hD0, Nat.le_refl _⟩, ?_⟩
  rintro i m σ H ⟨rfl, hi, ys, p, hD, hl⟩
  by_cases hlt : i < n
  · obtain ⟨go, st⟩ := hs i σ H ys hlt p hD
    refine .inr ⟨go, fun σ2 y H4 => H4 D = some (.lst ys) ∧ Pv (i + 1) (ys ++ [y]) σ2 (upd H4 D (.lst (ys ++ [y]))), fun σ2 H3 => H3 D = some (.lst ys) ∧ Pv (i + 1) ys σ2 H3, ?_, ?_, st⟩
    · rintro σ2 y H4 ⟨e, p'⟩
      exact ⟨_, e, by omega, n - (i + 1), by omega, rfl, hlt, _, p', upd_same, by simp; omega⟩
    · rintro σ2 H3 ⟨e, p'⟩
      exact ⟨n - (i + 1), by omega, rfl, hlt, _, p', e, by omega⟩
  · have e : i = n := by omega
    subst e
    exact .inl (hd σ H ys p hD)
end L2

namespace My
open PySem L2 PyProof.Rows
seal L2.PE L2.PT L2.PW L2.PS L2.PSs L2.PA L2.PI L2.PG L2.PGs L2.OpR L2.CallR L2.IxR L2.SlR L2.MtR L2.PIf L2.PO L2.MtM L2.PC
def NmsAt (H : Hp) (l : Addr) (T c1 c2 : Str) : Prop := H l = some (.lst [.str T, .str c1, .str c2])
def RwA (H : Hp) (l : Addr) (ab : List (Int × Int)) : Prop := ∃ rs : List Addr, H l = some (.lst (rs.map V.ref)) ∧ rs.length = ab.length ∧ ∀ (j : Nat) (r : Addr) (p : Int × Int), rs[j]? = some r → ab[j]? = some p → H r = some (.lst [.int p.1, .int p.2])
theorem RwA.nt {H H' : Hp} (s : Ntb H H') {l : Addr} {ab : List (Int × Int)} (h : RwA H l ab) : RwA H' l ab := let ⟨rs, a, b, c⟩ := h; ⟨rs, s _ _ a (fun _ h => by cases h), b, fun j r p x y => s _ _ (c j r p x y) (fun _ h => by cases h)⟩
def spWay (pm : Value) (PY : Addr) : Sp := fun vs H Q _ => ∃ (a : Addr) (ns : List Int), vs = [.ref a] ∧ H a = some (.lst (ns.map V.int)) ∧ TabOk PY wPos qW H ∧ ∀ f H', Fr PY H H' → TabOk PY wPos qW H' → WayAt pm H' f ns → Q (.ref f) H'
def spTl (K : PySem.W.Frag) : Sp := fun vs H Q _ => ∃ (a : Addr) (ns : List Int), vs = [.ref a] ∧ SqL K H a (ns.map V.int) ∧ ∀ (l : Addr) (ts : List Int) (H' : Hp), Same H H' → H' l = some (.lst (ts.map V.int)) → 0 < ts.length → (cel ns 1 % 3 ≠ 1 → ts.length = 8) → Q (.ref l) H'
def spRows (K : PySem.W.Frag) : Sp := fun vs H Q _ => ∃ (a : Addr) (ns : List Int) (wv : Int), vs = [.ref a, .int wv] ∧ SqL K H a (ns.map V.int) ∧ ∀ (l : Addr) (ab : List (Int × Int)) (H' : Hp), Same H H' → RwA H' l ab → ab.Nodup → ab.length ≤ 8 → Q (.ref l) H'
def nvw (wv : Int) (ts : List Int) (p : Int × Int) : List Int := if wv = 0 then [wy ts p.1, p.2] else if wv = 1 then [if ts.getD 0 0 < p.1 then ts.getD 0 0 else p.1, p.2] else [p.1]
def spNew (K : PySem.W.Frag) : Sp := fun vs H Q _ => ∃ (r tl : Addr) (wv : Int) (p : Int × Int) (ts : List Int), vs = [.int wv, .ref r, .ref tl] ∧ H r = some (.lst [.int p.1, .int p.2]) ∧ H tl = some (.lst (ts.map V.int)) ∧ 0 < ts.length ∧ (wv = 0 → ts.length = 8) ∧ ∀ l H', Same H H' → H' l = some (.lst ((nvw wv ts p).map V.int)) → Q (.ref l) H'
/-- the row of a list of one or two numbers -/
def rwO (c1 c2 : Str) : List Int → Row
  | [x] => [(c1, x)]
  | [x, y] => [(c1, x), (c2, y)]
  | _ => []
def spPiece : Sp := fun vs H Q _ => ∃ (l r : Addr) (T c1 c2 : Str) (xs : List Int), vs = [.ref l, .ref r] ∧ NmsAt H l T c1 c2 ∧ c1 ≠ c2 ∧ H r = some (.lst (xs.map V.int)) ∧ (xs.length = 1 ∨ xs.length = 2) ∧ ∀ p H', Same H H' → PcA (cut H H') p T (rwO c1 c2 xs) → Q (.ref p) H'
theorem big : (0 : Int) < 2 * 10 ^ (39 : Int).toNat + 1 := by decide +kernel
def toN : List Str := ["_law_script", "_law_base", "_law_number", "_law_told_here", "_law_k"]
def rwN : List Str := ["_law_script", "_law_way_here", "_law_base", "_law_start", "_law_many", "_law_rows_here"]
theorem map_nodup {f : Nat → Int × Int} {n : Nat} (h : ∀ i j, i < n → j < n → f i = f j → i = j) : ((List.range n).map f).Nodup := by
  rw [List.nodup_iff_pairwise_ne, List.pairwise_iff_getElem]
  intro i j hi hj hij e
  rw [List.length_map, List.length_range] at hi hj
  simp only [List.getElem_map, List.getElem_range] at e
  have := h i j hi hj e
  omega
theorem rw_of {H Hc : Hp} {D : Addr} {rs : List Addr} {f : Nat → Int × Int} {n : Nat} (hD : Hc D = some (.lst (rs.map V.ref))) (hl : rs.length = n) (h : ∀ (j : Nat) (r : Addr), rs[j]? = some r → nw H D Hc r = some (.lst [.int (f j).1, .int (f j).2])) : RwA Hc D ((List.range n).map f) := by
  refine ⟨rs, hD, by rw [List.length_map, List.length_range]; exact hl, fun j r p h1 h2 => ?_⟩
  have hj : j < n := by have := (List.getElem?_eq_some_iff.mp h1).1; omega
  rw [List.getElem?_map, List.getElem?_range hj] at h2
  cases h2
  exact cut_sub _ _ (nw_cut _ _ (h j r h1))
section
variable {P : Program} {w : World} {K : PySem.W.Frag} {mg : Str → Option Value} {base : Heap} {PW : Addr} {pm : Value}
theorem ok_way {f c0 : Addr} {fd : FuncData} (F : FunC K "_law_way" "_law_way" (top 60) f fd c0) (hC : PySem.W.codeHdIn K c0 PW = true) (hB : L2.BMain base mg) : FnOk P w K mg base CX0 1 f fd ["_law_told_here"] (spWay ((mg "__name__").getD .none) PW) := by
  have sc : FnScope ["_law_told_here"] ["_law_told_here"] (defScope (top 60)) := ⟨rfl, rfl, rfl, by decide +kernel, rfl, by decide +kernel, by decide +kernel⟩
  have SL : LamScope "_law_value" "_law_told_here" (lamScope lW) := ⟨rfl, rfl, rfl, by decide +kernel, rfl, rfl, by decide +kernel, by decide +kernel⟩
  refine F.okG (y := "_law_told_here") (i := 0) sc (fun vs H Q E h => ?_) rfl rfl rfl (fun n => rfl) (fun A outer s H vs Q E hr h => ?_)
  · obtain ⟨a, ns, rfl, _⟩ := h
    rfl
  · obtain ⟨a, ns, rfl, ha, tab, q⟩ := h
    have hlk : (envOfC "_law_way" (defScope (top 60)) s.heap.objs.size f (.ref c0)).cells.lookup ("_law_told_here" : Str) = some (s.heap.objs.size + 1) := rfl
    have hnm : (lamScope lW).names = [(("_law_value" : Str), NameKind.local), ("_law_told_here", NameKind.free), ("len", NameKind.globalImplicit)] := rfl
    have hL : closL (envOfC "_law_way" (defScope (top 60)) s.heap.objs.size f (.ref c0)) (lamScope lW).names = [(("_law_told_here" : Str), s.heap.objs.size + 1)] := by
      rw [hnm]
      show [(("_law_told_here" : Str), ((envOfC "_law_way" (defScope (top 60)) s.heap.objs.size f (.ref c0)).cells.lookup ("_law_told_here" : Str)).getD 0)] = _
      rw [hlk]
      rfl
    have hcl : closureFor (lamScope lW) (envOfC "_law_way" (defScope (top 60)) s.heap.objs.size f (.ref c0)) = pure [(("_law_told_here" : Str), s.heap.objs.size + 1)] := by
      rw [clos_ok (env := envOfC "_law_way" (defScope (top 60)) s.heap.objs.size f (.ref c0)) (scope := lamScope lW) fun y hy e => ⟨s.heap.objs.size + 1, by rw [SL.one y hy e]; exact hlk⟩, hL]
    refine ⟨_, .ref a, pe_lamC (clos := [(("_law_told_here" : Str), s.heap.objs.size + 1)]) rfl hC hB hcl, rfl, ?_⟩
    generalize s.heap.objs.size + 1 = c
    refine lam_madeC (q := qW) tab fun fw c' Hl fr tab' hfw nfw hc' o u0 ru ho hcn => ?_
    obtain rfl : u0 = Value.ref a := ru
    have T := Same.upd (o := .ext (atP c o)) hcn
    have na := (fr.nt tab) _ _ ha (fun _ h => by cases h)
    exact q fw _ (fr.trans (.of T)) (tab'.same T) ⟨c, c', a, o, T _ _ hfw, T _ _ hc', upd_same, ho, T _ _ na⟩
theorem ok_tl {f fC : Addr} {fd fdC : FuncData} (F : Fun K "_law_told" "_law_told" (top 63) f fd) (B : Bl mg) (DC : Df K mg "_law_cell" (top 58) fC fdC) : FnOk P w K mg base CX0 2 f fd ["_law_script"] (spTl K) := by
  have sc : FnScope toN ["_law_script"] (defScope (top 63)) := ⟨rfl, rfl, rfl, by decide +kernel, rfl, by decide +kernel, by decide +kernel⟩
  have GC : FnOk P w K mg base CX0 1 fC fdC ["_law_script", "_law_k"] (spCel K) := ok_cel DC.fn B
  have bC := DC.fn.binds (ps := ["_law_script", "_law_k"]) fun _ _ _ _ _ _ us hl => by obtain ⟨v0, v1, rfl⟩ := L2.ln2 hl; rfl
  refine F.ok sc (fun vs H Q E h => ?_) (fun cdv A outer s H vs Q E hr h => ?_)
  · obtain ⟨a, ns, rfl, _⟩ := h
    rfl
  · obtain ⟨a, ns, rfl, ha, q⟩ := h
    refine ⟨_, pss_cons (ps_if (pt_cmpR op_eq (pe_op op_mod (pe_call GC hr (by rfl) DC.mg DC.fn.kp bC .nil pass0 (pa_cons (pv 0) (pa_cons pe_int pa_nil))) pe_int) pe_int (nomark _))
        (pss_cons (ps_set (i := 1) sc.nd rfl (Or.inl rfl) (pe_op op_sub (pe_op op_mod (pe_call GC hr (by rfl) DC.mg DC.fn.kp bC .nil pass0 (pa_cons (pv 0) (pa_cons pe_int pa_nil))) (pe_op op_add (pe_op op_mul pe_int (pe_op op_pow pe_int pe_int)) pe_int)) (pe_op op_pow pe_int pe_int)))
        (pss_one (ps_ret (pe_lst (pa_cons (pe_op op_sub (pe_op op_add (pv 1) (pe_op op_mod (pe_call GC hr (by rfl) DC.mg DC.fn.kp bC .nil pass0 (pa_cons (pv 0) (pa_cons pe_int pa_nil))) pe_int)) pe_int) pa_nil))))) pss_nil)
      (pss_cons (ps_set (i := 2) sc.nd rfl (Or.inl rfl) (pe_call GC hr (by rfl) DC.mg DC.fn.kp bC .nil pass0 (pa_cons (pv 0) (pa_cons pe_int pa_nil))))
      (pss_cons (ps_set (i := 3) sc.nd rfl (Or.inl rfl) (pe_lst pa_nil))
      (pss_cons (ps_for PassesOwn.never rfl (pi_range1 rfl B.range (pa_cons pe_int pa_nil)) (pg_name (i := 4) sc.nd rfl (Or.inl rfl))
        (pss_one (ps_expr (pe_bm PySem.F.plainAttrs_list PySem.F.slot_list_append PySem.F.type_list_append mt_app (pv 3) (pa_cons (pe_op op_mod (pe_op op_add (pe_op op_fdiv (pv 2) (pe_op op_add (pv 4) pe_int)) (pe_op op_mul (pv 4) (pv 4))) pe_int) pa_nil)))))
      (pss_one (ps_ret (pv 3)))))), ?_⟩
    refine ⟨_, rfl, a, ns, 1, rfl, ha, (by decide), _, _, rfl, rfl, (pos rfl), rfl, _, rfl, ?_⟩
    by_cases h1 : cel ns 1 % 3 = 1
    · refine iteB (decide_eq_true (by show V.int (cel ns 1 % 3) = V.int 1; rw [h1])) ?_
      refine ⟨_, rfl, a, ns, 2, rfl, ha, (by decide), _, _, rfl, rfl, ⟨by decide, by decide, by decide⟩, _, _, rfl, rfl, .inl ⟨by decide, by decide⟩, _, _, rfl, rfl, _, _, rfl, rfl, big, _, _, rfl, rfl, ⟨by decide, by decide, by decide⟩, _, _, rfl, rfl, ?_⟩
      refine ⟨_, rfl, _, rfl, a, ns, 5, rfl, ha, (by decide), _, _, rfl, rfl, (pos rfl), _, _, rfl, rfl, _, _, rfl, rfl, (by show 1 ≤ sizeLine; decide), fun l hl => ?_⟩
      exact q l [_] _ (Same.upd hl) upd_same (by show 0 < 1; decide) (fun h => absurd h1 h)
    · refine iteC (decide_eq_false fun e => h1 (by injection e)) ?_
      refine ⟨_, rfl, a, ns, 5, rfl, ha, (by decide), Nat.zero_le _, fun l hl => ?_⟩
      have T1 := Same.upd (o := .lst ([] : List V)) hl
      generalize cel ns 5 = c5
      refine ⟨8, rfl, by decide, by decide, for_range (fun i σ H' => Same H H' ∧ (∃ u, σ = [some (.ref a), none, some (.int c5), some (.ref l), u]) ∧ ∃ ts : List Int, H' l = some (.lst (ts.map V.int)) ∧ ts.length = i) ⟨T1, ⟨_, rfl⟩, [], upd_same, rfl⟩ ?_ ?_⟩
      · rintro i σ H' hi ⟨sm, ⟨u, rfl⟩, ts, g1, g2⟩
        have hi8 : i < 8 := hi
        refine ⟨_, rfl, .inl ⟨rfl, _, SqL.of g1⟩, _, rfl, _, rfl, _, _, rfl, rfl, _, _, rfl, rfl, ⟨by omega, by omega⟩, _, rfl, _, rfl, _, _, rfl, rfl, .inl ⟨by omega, by omega⟩, _, _, rfl, rfl, _, _, rfl, rfl, (pos rfl), l, _, _, rfl, rfl, g1, (by rw [List.length_map, sizeLine_eq]; omega), ?_⟩
        exact ⟨sm.put hl, ⟨_, rfl⟩, ts ++ [_], by rw [upd_same, List.map_append]; rfl, by rw [List.length_append, g2]; rfl⟩
      · rintro σ H' ⟨sm, ⟨u, rfl⟩, ts, g1, g2⟩
        have g8 : ts.length = 8 := g2
        exact ⟨_, rfl, q l ts H' sm g1 (by omega) (fun _ => g8)⟩
theorem ok_rows {f fC : Addr} {fd fdC : FuncData} (F : Fun K "_law_rows" "_law_rows" (top 61) f fd) (B : Bl mg) (DC : Df K mg "_law_cell" (top 58) fC fdC) : FnOk P w K mg base CX0 2 f fd ["_law_script", "_law_way_here"] (spRows K) := by
  have sc : FnScope rwN ["_law_script", "_law_way_here"] (defScope (top 61)) := ⟨rfl, rfl, rfl, by decide +kernel, rfl, by decide +kernel, by decide +kernel⟩
  have GC : FnOk P w K mg base CX0 1 fC fdC ["_law_script", "_law_k"] (spCel K) := ok_cel DC.fn B
  have bC := DC.fn.binds (ps := ["_law_script", "_law_k"]) fun _ _ _ _ _ _ us hl => by obtain ⟨v0, v1, rfl⟩ := L2.ln2 hl; rfl
  have nd1 : (["_law_k", "_law_start"] : List Str).Nodup := by decide +kernel
  have nd2 : (["_law_k", "_law_base", "_law_start"] : List Str).Nodup := by decide +kernel
  have nd3 : (["_law_k", "_law_row", "_law_rows_here"] : List Str).Nodup := by decide +kernel
  refine F.ok sc (fun vs H Q E h => ?_) (fun cdv A outer s H vs Q E hr h => ?_)
  · obtain ⟨a, ns, wv, rfl, _⟩ := h
    rfl
  · obtain ⟨a, ns, wv, rfl, ha, q⟩ := h
    have u := u20 hr
    refine ⟨_, pss_cons (ps_set (i := 2) sc.nd rfl (Or.inr rfl) (pe_op op_sub (pe_op op_mod (pe_call GC hr (by rfl) DC.mg DC.fn.kp bC .nil pass0 (pa_cons (pv 0) (pa_cons pe_int pa_nil))) (pe_op op_add (pe_op op_mul pe_int (pe_op op_pow pe_int pe_int)) pe_int)) (pe_op op_pow pe_int pe_int)))
      (pss_cons (ps_set (i := 3) sc.nd rfl (Or.inr rfl) (pe_call GC hr (by rfl) DC.mg DC.fn.kp bC .nil pass0 (pa_cons (pv 0) (pa_cons pe_int pa_nil))))
      (pss_cons (ps_set (i := 4) sc.nd rfl (Or.inl rfl) (pe_op op_mod (pe_call GC hr (by rfl) DC.mg DC.fn.kp bC .nil pass0 (pa_cons (pv 0) (pa_cons pe_int pa_nil))) pe_int))
      (pss_cons (ps_if (pt_cmpR op_eq (pv 1) pe_int (nomark _)) (pss_one (ps_ret (pe_comp (osc := defScope (top 61)) (N0 := rwN) (xs := ["_law_k"]) (fr := [3]) ⟨rfl, by decide +kernel, by decide +kernel, by decide +kernel, (fun j hj => by
              have e : j = 3 := by simpa using hj
              subst e
              exact ⟨_, rfl, by decide +kernel⟩), by decide +kernel⟩ rfl rfl rfl (pi_range1 rfl B.range (pa_cons (pv 4) pa_nil))
            (fun s H fp => pg_name (i := 0) nd1 rfl (Or.inl rfl)) (fun s H fp => pif_nil)
            (fun s H fp => pe_lst (pa_cons (pe_op op_mod (pe_op op_add (pe_op op_mul pe_int (pv 0)) (pv 1)) pe_int) (pa_cons pe_int pa_nil)))))) pss_nil)
      (pss_cons (ps_if (pt_cmpR op_eq (pv 1) pe_int (nomark _)) (pss_one (ps_ret (pe_comp (osc := defScope (top 61)) (N0 := rwN) (xs := ["_law_k"]) (fr := [2, 3]) ⟨rfl, by decide +kernel, by decide +kernel, by decide +kernel, (fun j hj => by
              have e : j = 2 ∨ j = 3 := by simpa using hj
              rcases e with rfl | rfl
              · exact ⟨_, rfl, by decide +kernel⟩
              · exact ⟨_, rfl, by decide +kernel⟩), by decide +kernel⟩ rfl rfl rfl (pi_range1 rfl B.range (pa_cons (pv 4) pa_nil))
            (fun s H fp => pg_name (i := 0) nd2 rfl (Or.inl rfl)) (fun s H fp => pif_nil)
            (fun s H fp => pe_lst (pa_cons (pe_op op_add (pv 1) (pe_op op_mod (pe_op op_add (pe_op op_mul pe_int (pv 0)) (pv 2)) pe_int)) (pa_cons pe_int pa_nil)))))) pss_nil)
      (pss_cons (ps_set (i := 5) sc.nd rfl (Or.inr rfl) (pe_comp (osc := defScope (top 61)) (N0 := rwN) (xs := ["_law_k"]) (fr := [2, 3]) ⟨rfl, by decide +kernel, by decide +kernel, by decide +kernel, (fun j hj => by
              have e : j = 2 ∨ j = 3 := by simpa using hj
              rcases e with rfl | rfl
              · exact ⟨_, rfl, by decide +kernel⟩
              · exact ⟨_, rfl, by decide +kernel⟩), by decide +kernel⟩ rfl rfl rfl (pi_range1 rfl B.range (pa_cons (pv 4) pa_nil))
            (fun s H fp => pg_name (i := 0) nd2 rfl (Or.inl rfl)) (fun s H fp => pif_nil)
            (fun s H fp => pe_lst (pa_cons (pe_op op_add (pv 1) (pe_op op_mod (pe_op op_mul (pv 0) (pv 2)) pe_int)) (pa_cons (pe_op op_sub (pe_op op_mul (pe_op op_fdiv (pv 0) pe_int) pe_int) (pv 1)) pa_nil)))))
      (pss_one (ps_ret (pe_comp (osc := defScope (top 61)) (N0 := rwN) (xs := ["_law_k", "_law_row"]) (fr := [5]) ⟨rfl, by decide +kernel, by decide +kernel, by decide +kernel, (fun j hj => by
              have e : j = 5 := by simpa using hj
              subst e
              exact ⟨_, rfl, by decide +kernel⟩), by decide +kernel⟩ rfl rfl rfl (pi_enum (by rfl) B.enum (pa_cons (pv 5) pa_nil))
            (fun s H fp => pg_tupK (K := K) (n := 2) rfl rfl (pgs_cons (pg_name (i := 0) nd3 rfl (Or.inl rfl)) (pgs_cons (pg_name (i := 1) nd3 rfl (Or.inl rfl)) pgs_nil))) (fun s H fp => pif_one (pt_cmpR (op_notInP u) (pv 1) (pe_slice (r := rSlL K) sl_list (pv 2) po_none (po_some (pv 0))) (by with_unfolding_all rfl)))
            (fun s H fp => pv 1))))))))), ?_⟩
    refine ⟨_, rfl, a, ns, 2, rfl, ha, (by decide), _, _, rfl, rfl, ⟨by decide, by decide, by decide⟩, _, _, rfl, rfl, .inl ⟨by decide, by decide⟩, _, _, rfl, rfl, _, _, rfl, rfl, big, _, _, rfl, rfl, ⟨by decide, by decide, by decide⟩, _, _, rfl, rfl, ?_⟩
    refine ⟨_, rfl, a, ns, 3, rfl, ha, (by decide), ?_⟩
    refine ⟨_, rfl, a, ns, 4, rfl, ha, (by decide), _, _, rfl, rfl, (pos rfl), ?_⟩
    have m0 := Int.emod_nonneg (cel ns 4) (show (9 : Int) ≠ 0 by decide)
    have m9 := Int.emod_lt_of_pos (cel ns 4) (show (0 : Int) < 9 by decide)
    dsimp only
    generalize cel ns 4 % 9 = mn at *
    generalize cel ns 3 = st at *
    generalize cel ns 2 % (2 * 10 ^ (39 : Int).toNat + 1) - 10 ^ (39 : Int).toNat = bs at *
    refine ⟨_, rfl, rfl, _, rfl, ite2 (fun _ => ?_) (fun _ => ?_)⟩
    · refine ⟨_, rfl, _, rfl, (by omega), (by omega), fun D hD => ?_⟩
      refine compW_idx mn.toNat (fun i ys σ' Hc => (∃ t, σ' = [t, some (.int st)]) ∧ Same H Hc ∧ ∃ rs : List Addr, ys = rs.map V.ref ∧ ∀ (j : Nat) (r : Addr), rs[j]? = some r → nw H D Hc r = some (.lst [.int ((3 * (0 + (j : Int)) + st) % 8), .int 7])) (by rw [sizeLine_eq]; omega) ⟨⟨none, rfl⟩, Same.upd hD, [], rfl, (fun j r h => nomatch h)⟩ upd_same ?_ ?_
      · rintro i σ' Hc ys hi ⟨⟨t, rfl⟩, sm, rs, rfl, hrs⟩ hyl hD'
        rw [List.length_map] at hyl
        refine ⟨hi, ?_⟩
        rintro x H' ⟨rfl, rfl⟩
        refine ⟨_, rfl, _, _, rfl, rfl, .inl ⟨by decide, by decide⟩, _, rfl, _, _, rfl, rfl, _, _, rfl, rfl, (pos rfl), (by show 2 ≤ sizeLine; decide), fun r hr' => ?_⟩
        have T := Same.upd (o := .lst [V.int ((3 * (0 + (i : Int)) + st) % 8), .int 7]) hr'
        have nrD : r ≠ D := fun e => by rw [e, hD'] at hr'; cases hr'
        refine ⟨T _ _ hD', ⟨_, rfl⟩, (sm.trans T).put hD, rs ++ [r], by rw [List.map_append]; rfl, fun j r' h1 => ?_⟩
        rcases get_snoc h1 with h1 | ⟨rfl, rfl⟩
        · exact ((nw_up T).trans nw_put) _ _ (hrs j r' h1)
        · rw [hyl]
          exact nw_put _ _ (nw_at nrD (none_of sm hr') upd_same)
      · rintro σ' Hc ys ⟨_, sm, rs, rfl, hrs⟩ hDn hyl
        rw [List.length_map] at hyl
        refine ⟨Nat.le_refl _, q D _ Hc sm (rw_of (f := fun j => ((3 * (0 + (j : Int)) + st) % 8, 7)) hDn hyl hrs) (map_nodup fun i j h1 h2 e => ?_) (by rw [List.length_map, List.length_range]; omega)⟩
        have e1 : (3 * (0 + (i : Int)) + st) % 8 = (3 * (0 + (j : Int)) + st) % 8 := (Prod.mk.inj e).1
        omega
    refine ⟨_, rfl, rfl, _, rfl, ite2 (fun _ => ?_) (fun _ => ?_)⟩
    · refine ⟨_, rfl, _, rfl, (by omega), (by omega), fun D hD => ?_⟩
      refine compW_idx mn.toNat (fun i ys σ' Hc => (∃ t, σ' = [t, some (.int bs), some (.int st)]) ∧ Same H Hc ∧ ∃ rs : List Addr, ys = rs.map V.ref ∧ ∀ (j : Nat) (r : Addr), rs[j]? = some r → nw H D Hc r = some (.lst [.int (bs + (5 * (0 + (j : Int)) + st) % 8), .int 7])) (by rw [sizeLine_eq]; omega) ⟨⟨none, rfl⟩, Same.upd hD, [], rfl, (fun j r h => nomatch h)⟩ upd_same ?_ ?_
      · rintro i σ' Hc ys hi ⟨⟨t, rfl⟩, sm, rs, rfl, hrs⟩ hyl hD'
        rw [List.length_map] at hyl
        refine ⟨hi, ?_⟩
        rintro x H' ⟨rfl, rfl⟩
        refine ⟨_, rfl, _, rfl, _, _, rfl, rfl, .inl ⟨by decide, by decide⟩, _, rfl, _, _, rfl, rfl, _, _, rfl, rfl, (pos rfl), _, _, rfl, rfl, (by show 2 ≤ sizeLine; decide), fun r hr' => ?_⟩
        have T := Same.upd (o := .lst [V.int (bs + (5 * (0 + (i : Int)) + st) % 8), .int 7]) hr'
        have nrD : r ≠ D := fun e => by rw [e, hD'] at hr'; cases hr'
        refine ⟨T _ _ hD', ⟨_, rfl⟩, (sm.trans T).put hD, rs ++ [r], by rw [List.map_append]; rfl, fun j r' h1 => ?_⟩
        rcases get_snoc h1 with h1 | ⟨rfl, rfl⟩
        · exact ((nw_up T).trans nw_put) _ _ (hrs j r' h1)
        · rw [hyl]
          exact nw_put _ _ (nw_at nrD (none_of sm hr') upd_same)
      · rintro σ' Hc ys ⟨_, sm, rs, rfl, hrs⟩ hDn hyl
        rw [List.length_map] at hyl
        refine ⟨Nat.le_refl _, q D _ Hc sm (rw_of (f := fun j => (bs + (5 * (0 + (j : Int)) + st) % 8, 7)) hDn hyl hrs) (map_nodup fun i j h1 h2 e => ?_) (by rw [List.length_map, List.length_range]; omega)⟩
        have e1 : bs + (5 * (0 + (i : Int)) + st) % 8 = bs + (5 * (0 + (j : Int)) + st) % 8 := (Prod.mk.inj e).1
        omega
    -- made, then each but once
    refine ⟨_, rfl, _, rfl, (by omega), (by omega), fun D hD => ?_⟩
    refine compW_idx mn.toNat (fun i ys σ' Hc => (∃ t, σ' = [t, some (.int bs), some (.int st)]) ∧ Same H Hc ∧ ∃ rs : List Addr, ys = rs.map V.ref ∧ ∀ (j : Nat) (r : Addr), rs[j]? = some r → nw H D Hc r = some (.lst [.int (bs + (0 + (j : Int)) * st % 5), .int ((0 + (j : Int)) / 2 * 7 - bs)])) (by rw [sizeLine_eq]; omega) ⟨⟨none, rfl⟩, Same.upd hD, [], rfl, (fun j r h => nomatch h)⟩ upd_same ?_ ?_
    · rintro i σ' Hc ys hi ⟨⟨t, rfl⟩, sm, rs, rfl, hrs⟩ hyl hD'
      rw [List.length_map] at hyl
      refine ⟨hi, ?_⟩
      rintro x H' ⟨rfl, rfl⟩
      refine ⟨_, rfl, _, rfl, _, rfl, _, _, rfl, rfl, .inl ⟨by omega, by omega⟩, _, _, rfl, rfl, (pos rfl), _, _, rfl, rfl, _, rfl, _, _, rfl, rfl, ⟨by decide, by decide⟩, _, _, rfl, rfl, .inr ⟨by decide, by decide⟩, _, rfl, _, _, rfl, rfl, (by show 2 ≤ sizeLine; decide), fun r hr' => ?_⟩
      have T := Same.upd (o := .lst [V.int (bs + (0 + (i : Int)) * st % 5), .int ((0 + (i : Int)) / 2 * 7 - bs)]) hr'
      have nrD : r ≠ D := fun e => by rw [e, hD'] at hr'; cases hr'
      refine ⟨T _ _ hD', ⟨_, rfl⟩, (sm.trans T).put hD, rs ++ [r], by rw [List.map_append]; rfl, fun j r' h1 => ?_⟩
      rcases get_snoc h1 with h1 | ⟨rfl, rfl⟩
      · exact ((nw_up T).trans nw_put) _ _ (hrs j r' h1)
      · rw [hyl]
        exact nw_put _ _ (nw_at nrD (none_of sm hr') upd_same)
    rintro σ' H1 ys ⟨_, s1, rs, rfl, hrs⟩ hDn hyl
    rw [List.length_map] at hyl
    refine ⟨Nat.le_refl _, ?_⟩
    obtain ⟨rs', r1, r2, r3⟩ := rw_of (f := fun j => (bs + (0 + (j : Int)) * st % 5, (0 + (j : Int)) / 2 * 7 - bs)) hDn hyl hrs
    have er : rs' = rs := by
      rw [hDn] at r1
      injection r1 with r1
      injection r1 with r1
      have inj : Function.Injective V.ref := fun a b e => by injection e
      exact ((List.map_inj_right (fun a b e => by injection e)).mp r1).symm
    subst er
    generalize hab : (List.range mn.toNat).map (fun j : Nat => (bs + (0 + (j : Int)) * st % 5, (0 + (j : Int)) / 2 * 7 - bs)) = ab at *
    have abl : ab.length ≤ 8 := by rw [← hab, List.length_map, List.length_range]; omega
    refine ⟨_, rfl, D, rfl, ⟨_, SqL.of hDn⟩, fun L hL => ?_⟩
    refine compW_flt ab.length (fun i ys σ' Hc => (∃ t0 t1, σ' = [t0, t1, some (.ref D)]) ∧ Same H1 Hc ∧ ∃ (qs : List Addr) (cd : List (Int × Int)), ys = qs.map V.ref ∧ qs.length = cd.length ∧ cd.length ≤ i ∧ cd.Nodup ∧ (∀ p ∈ cd, p ∈ ab.take i) ∧ ∀ (j : Nat) (r : Addr) (p : Int × Int), qs[j]? = some r → cd[j]? = some p → H1 r = some (.lst [.int p.1, .int p.2])) (by rw [sizeLine_eq]; omega) ⟨⟨none, none, rfl⟩, Same.upd hL, [], [], rfl, rfl, Nat.le_refl _, List.nodup_nil, (fun p h => nomatch h), (fun j r p h => nomatch h)⟩ upd_same ?_ ?_
    · rintro i σ' Hc ys hi ⟨⟨t0, t1, rfl⟩, sm, qs, cd, rfl, qcl, cdl, cnd, csub, hqs⟩ hD'
      have hir : i < rs'.length := by omega
      refine ⟨⟨_, V.ref rs'[i], SqL.of (sm _ _ hDn), by rw [List.getElem?_map, List.getElem?_eq_getElem hir]; rfl⟩, ?_⟩
      rintro x H' ⟨y, p, hy, rfl, hp, rfl⟩
      have ey := hy _ (SqL.of (sm _ _ hDn))
      rw [List.getElem?_map, List.getElem?_eq_getElem hir] at ey
      cases ey
      have T := Same.upd (o := .tup [V.int i, .ref rs'[i]]) hp
      refine ⟨p, _, rfl, SqT.of upd_same, rfl, _, _, rfl, _, _, rfl, rfl, ?_⟩
      have S1 := sm.trans T
      have hL1 := T _ _ hD'
      generalize upd Hc p (.tup [V.int i, .ref rs'[i]]) = H2 at *
      refine ⟨_, rfl, _, rfl, _, rfl, _, rfl, D, _, rfl, SqL.of (S1 _ _ hDn), fun g hg => ?_⟩
      rw [cut_to (by omega) (by rw [List.length_map]; omega), Int.toNat_natCast, ← List.map_take]
      have T2 := Same.upd (o := .lst ((rs'.take i).map V.ref)) hg
      have S2 := S1.trans T2
      have hri := r3 i rs'[i] ab[i] (List.getElem?_eq_getElem hir) (List.getElem?_eq_getElem hi)
      refine ⟨rs'[i], g, ab[i].1, ab[i].2, rs'.take i, ab.take i, rfl, rfl, S2 _ _ hri, upd_same, (by rw [List.length_take, List.length_take, r2]), (fun j b q' h1 h2 => ?_), _, rfl, ?_⟩
      · rw [List.getElem?_take] at h1 h2
        split at h1
        · rename_i hji
          rw [if_pos hji] at h2
          exact S2 _ _ (r3 j b q' h1 h2)
        · cases h1
      have hL2 := T2 _ _ hL1
      by_cases hin : (ab[i].1, ab[i].2) ∈ ab.take i
      · refine iteC (by rw [decide_eq_true hin]; rfl) ?_
        exact ⟨hL2, ⟨_, _, rfl⟩, S2, qs, cd, rfl, qcl, by omega, cnd, (fun p h => List.mem_of_getElem? (i := (List.getElem?_of_mem (csub p h)).choose) (by
          have hs := (List.getElem?_of_mem (csub p h)).choose_spec
          rw [List.getElem?_take] at hs ⊢
          split at hs
          · rename_i hj
            rw [if_pos (by omega)]
            exact hs
          · cases hs)), hqs⟩
      · refine iteB (by rw [decide_eq_false hin]; rfl) ?_
        have msub : ∀ p ∈ ab.take i, p ∈ ab.take (i + 1) := fun p h => by
          rw [List.take_add_one, List.mem_append]
          exact .inl h
        refine ⟨_, rfl, hL2, ⟨_, _, rfl⟩, S2.put hL, qs ++ [rs'[i]], cd ++ [ab[i]], by rw [List.map_append]; rfl, by rw [List.length_append, List.length_append, qcl]; rfl, by rw [List.length_append]; show cd.length + 1 ≤ _; omega, ?_, fun p h => ?_, fun j r p h1 h2 => ?_⟩
        · rw [List.nodup_append]
          refine ⟨cnd, List.nodup_cons.mpr ⟨List.not_mem_nil, List.nodup_nil⟩, fun x hx y hy e => ?_⟩
          rw [List.mem_singleton.mp hy] at e
          exact hin (by rw [← e]; exact csub x hx)
        · rcases List.mem_append.mp h with h | h
          · exact msub p (csub p h)
          · rw [List.mem_singleton.mp h, List.take_add_one, List.mem_append, List.getElem?_eq_getElem hi]
            exact .inr (by simp)
        · rcases get_snoc h1 with h1 | ⟨rfl, rfl⟩
          · rcases get_snoc h2 with h2 | ⟨rfl, rfl⟩
            · exact hqs j r p h1 h2
            · have := (List.getElem?_eq_some_iff.mp h1).1
              omega
          · rcases get_snoc h2 with h2 | ⟨_, rfl⟩
            · have := (List.getElem?_eq_some_iff.mp h2).1
              omega
            · exact hri
    · rintro σ' Hc ys ⟨_, sm, qs, cd, rfl, qcl, cdl, cnd, csub, hqs⟩ hDc
      exact ⟨⟨_, SqL.of (sm _ _ hDn), by rw [List.length_map]; omega⟩, q L cd Hc (s1.trans sm) ⟨qs, hDc, qcl, fun j r p h1 h2 => sm _ _ (hqs j r p h1 h2)⟩ cnd (by omega)⟩
end
end My

namespace My
open PySem L2 PyProof.Rows
seal L2.PE L2.PT L2.PW L2.PS L2.PSs L2.PA L2.PI L2.PG L2.PGs L2.OpR L2.CallR L2.IxR L2.SlR L2.MtR L2.PIf L2.PO L2.MtM L2.PC
def dOf (T c1 c2 : Str) (ts : List Int) : Dt := ⟨T, c1, c2, ts, ts.getD 0 0⟩
def wgt (wv : Int) : Gw := if wv = 0 then gT else if wv = 1 then gC else gD
theorem gv_w {wv : Int} {T c1 c2 : Str} {ts : List Int} {p : Int × Int} : gv (wgt wv) (dOf T c1 c2 ts) p = nvw wv ts p := by
  unfold gv wgt nvw
  by_cases h0 : wv = 0
  · rw [if_pos h0, if_pos h0]
    rfl
  · rw [if_neg h0, if_neg h0]
    by_cases h1 : wv = 1
    · rw [if_pos h1, if_pos h1]
      rfl
    · rw [if_neg h1, if_neg h1]
      rfl
theorem rw_w {wv : Int} {T c1 c2 : Str} {ts : List Int} {p : Int × Int} : wgt wv (dOf T c1 c2 ts) p.1 p.2 = rwO c1 c2 (nvw wv ts p) := by
  unfold wgt nvw
  by_cases h0 : wv = 0
  · rw [if_pos h0, if_pos h0]
    rfl
  · rw [if_neg h0, if_neg h0]
    by_cases h1 : wv = 1
    · rw [if_pos h1, if_pos h1]
      rfl
    · rw [if_neg h1, if_neg h1]
      rfl
theorem nvw_len {wv : Int} {ts : List Int} {p q : Int × Int} : (nvw wv ts p).length = (nvw wv ts q).length ∧ ((nvw wv ts p).length = 1 ∨ (nvw wv ts p).length = 2) := by
  unfold nvw
  by_cases h0 : wv = 0
  · rw [if_pos h0, if_pos h0]
    exact ⟨rfl, .inr rfl⟩
  · rw [if_neg h0, if_neg h0]
    by_cases h1 : wv = 1
    · rw [if_pos h1, if_pos h1]
      exact ⟨rfl, .inr rfl⟩
    · rw [if_neg h1, if_neg h1]
      exact ⟨rfl, .inl rfl⟩
theorem li_dw {H : Hp} {l : Addr} {xs : List Int} (h : H l = some (.lst (xs.map V.int))) : Dw H 1 (.lst (xs.map fun x => .fl (.int x))) (.ref l) := by
  refine .lst h (by rw [List.length_map, List.length_map]) fun i v d h1 h2 => ?_
  rw [List.getElem?_map] at h1 h2
  obtain ⟨x, e1, rfl⟩ := Option.map_eq_some_iff.mp h1
  rw [e1] at h2
  cases h2
  exact .fl rfl
theorem li_eq : ∀ {xs ys : List Int}, xs.length = ys.length → DeqL (xs.map fun x => .fl (.int x)) (ys.map fun x => .fl (.int x)) (xs == ys)
  | [], [], _ => .nil
  | x :: xs, y :: ys, h => by
    rw [List.map_cons, List.map_cons, List.cons_beq_cons]
    exact .cons .int (li_eq (by simpa using h))
def spDue (K : PySem.W.Frag) : Sp := fun vs H Q _ => ∃ (l lr tl : Addr) (wv : Int) (T c1 c2 : Str) (ab : List (Int × Int)) (ts : List Int), vs = [.ref l, .int wv, .ref lr, .ref tl] ∧ NmsAt H l T c1 c2 ∧ c1 ≠ c2 ∧ RwA H lr ab ∧ ab.length ≤ 8 ∧ H tl = some (.lst (ts.map V.int)) ∧ 0 < ts.length ∧ (wv = 0 → ts.length = 8) ∧
  ∀ v c H', Same H H' → Lst (wgt wv) (dOf T c1 c2 ts) ab c → Dw H' 7 c v → Q v H'
def duN : List Str := ["_law_names_here", "_law_way_here", "_law_rows_here", "_law_told_here", "_law_late", "_law_early", "_law_new_here"]
section
variable {P : Program} {w : World} {K : PySem.W.Frag} {mg : Str → Option Value} {base : Heap} {PY CT CC CP CD : Addr} {pm : Value}
theorem ok_new {f : Addr} {fd : FuncData} (F : Fun K "_law_new" "_law_new" (top 62) f fd) (hmin : mg "min" = none) : FnOk P w K mg base CX0 1 f fd ["_law_way_here", "_law_row", "_law_told_here"] (spNew K) := by
  have sc : FnScope ["_law_way_here", "_law_row", "_law_told_here"] ["_law_way_here", "_law_row", "_law_told_here"] (defScope (top 62)) := ⟨rfl, rfl, rfl, by decide +kernel, rfl, by decide +kernel, by decide +kernel⟩
  refine F.ok sc (fun vs H Q E h => ?_) (fun cdv A outer s H vs Q E hr h => ?_)
  · obtain ⟨r, tl, wv, p, ts, rfl, _⟩ := h
    rfl
  · obtain ⟨r, tl, wv, p, ts, rfl, hrr, ht, t0, t8, q⟩ := h
    refine ⟨_, pss_cons (ps_if (pt_cmpR op_eq (pv 0) pe_int (nomark _)) (pss_one (ps_ret (pe_lst (pa_cons (pe_ix ix_list (pv 2) (pe_op op_mod (pe_ix ix_list (pv 1) pe_int (fun _ _ => rfl)) pe_int) (fun _ _ => rfl)) (pa_cons (pe_ix ix_list (pv 1) pe_int (fun _ _ => rfl)) pa_nil))))) pss_nil)
      (pss_cons (ps_if (pt_cmpR op_eq (pv 0) pe_int (nomark _)) (pss_one (ps_ret (pe_lst (pa_cons (pe_callB (call_min2 rfl) (by rfl) hmin boot_min (pa_cons (pe_ix ix_list (pv 1) pe_int (fun _ _ => rfl)) (pa_cons (pe_ix ix_list (pv 2) pe_int (fun _ _ => rfl)) pa_nil))) (pa_cons (pe_ix ix_list (pv 1) pe_int (fun _ _ => rfl)) pa_nil))))) pss_nil)
      (pss_one (ps_ret (pe_lst (pa_cons (pe_ix ix_list (pv 1) pe_int (fun _ _ => rfl)) pa_nil))))), ?_⟩
    refine ⟨_, rfl, rfl, _, rfl, ?_⟩
    by_cases h0 : wv = 0
    · refine iteB (decide_eq_true (by rw [h0])) ?_
      have l8 := t8 h0
      have m0 := Int.emod_nonneg p.1 (show (8 : Int) ≠ 0 by decide)
      have m1 := Int.emod_lt_of_pos p.1 (show (0 : Int) < 8 by decide)
      have ew : wy ts p.1 = ts.getD (p.1 % 8).toNat 0 := by unfold wy; rw [l8]; rfl
      refine ⟨_, rfl, _, rfl, r, _, 0, _, rfl, rfl, SqL.of hrr, rfl, _, _, rfl, rfl, (pos rfl), tl, _, _, _, rfl, rfl, SqL.of ht, item_ints m0 (by show p.1 % 8 < _; omega), _, rfl, r, _, 1, _, rfl, rfl, SqL.of hrr, rfl, (by show 2 ≤ sizeLine; decide), fun l hl => ?_⟩
      refine q l _ (Same.upd hl) ?_
      rw [upd_same]
      unfold nvw
      rw [if_pos h0, ew]
      rfl
    · refine iteC (decide_eq_false fun e => h0 (by injection e)) ?_
      refine ⟨_, rfl, rfl, _, rfl, ?_⟩
      by_cases h1 : wv = 1
      · refine iteB (decide_eq_true (by rw [h1])) ?_
        refine ⟨_, rfl, r, _, 0, _, rfl, rfl, SqL.of hrr, rfl, _, rfl, tl, _, 0, _, rfl, rfl, SqL.of ht, item_ints (by decide) (by omega), _, _, rfl, _, rfl, r, _, 1, _, rfl, rfl, SqL.of hrr, rfl, (by show 2 ≤ sizeLine; decide), fun l hl => ?_⟩
        refine q l _ (Same.upd hl) ?_
        rw [upd_same]
        unfold nvw
        rw [if_neg h0, if_pos h1]
        rfl
      · refine iteC (decide_eq_false fun e => h1 (by injection e)) ?_
        refine ⟨_, rfl, r, _, 0, _, rfl, rfl, SqL.of hrr, rfl, (by show 1 ≤ sizeLine; decide), fun l hl => ?_⟩
        refine q l _ (Same.upd hl) ?_
        rw [upd_same]
        unfold nvw
        rw [if_neg h0, if_neg h1]
        rfl
theorem ok_piece {f : Addr} {fd : FuncData} (F : Fun K "_law_piece" "_law_piece" (top 65) f fd) (B : Bl mg) : FnOk P w K mg base CX0 1 f fd ["_law_names_here", "_law_row"] spPiece := by
  have sc : FnScope ["_law_names_here", "_law_row", "_law_made"] ["_law_names_here", "_law_row"] (defScope (top 65)) := ⟨rfl, rfl, rfl, by decide +kernel, rfl, by decide +kernel, by decide +kernel⟩
  refine F.ok sc (fun vs H Q E h => ?_) (fun cdv A outer s H vs Q E hr h => ?_)
  · obtain ⟨l, r, T, c1, c2, xs, rfl, _⟩ := h
    rfl
  · obtain ⟨l, r, T, c1, c2, xs, rfl, hl, ne, hrr, hx, q⟩ := h
    have hl : H l = some (.lst [.str T, .str c1, .str c2]) := hl
    have hu : (A.deeper (envOfC "_law_piece" (defScope (top 65)) s.heap.objs.size f cdv)).units + 1 < cLine := hu_of hr
    refine ⟨_, pss_cons (ps_set (i := 2) sc.nd rfl (Or.inl rfl) (pe_disp (pps_cons (pe_ix ix_list (pv 0) pe_int (fun _ _ => rfl)) (pe_ix ix_list (pv 1) pe_int (fun _ _ => rfl)) pps_nil) rfl rfl (by simp) (by decide)))
      (pss_cons (ps_if (pt_cmpR op_gt (pe_callB call_len_seq (by rfl) B.len PySem.boot_len (pa_cons (pv 1) pa_nil)) pe_int (nomark _)) (pss_one (ps_dput hu (pv 2) (pe_ix ix_list (pv 0) pe_int (fun _ _ => rfl)) (pe_ix ix_list (pv 1) pe_int (fun _ _ => rfl)) rfl)) pss_nil)
      (pss_one (ps_ret (pe_disp (pps_cons (pe_ix ix_list (pv 0) pe_int (fun _ _ => rfl)) (pe_lst (pa_cons (pv 2) pa_nil)) pps_nil) rfl rfl (by simp) (by decide))))), ?_⟩
    obtain ⟨x, rest, rfl⟩ : ∃ x rest, xs = x :: rest := by
      cases xs with
      | nil => simp at hx
      | cons x rest => exact ⟨x, rest, rfl⟩
    intro m hm
    have T1 := Same.upd (o := .dK []) hm
    refine ⟨_, rfl, l, _, 1, _, rfl, rfl, SqL.of (T1 _ _ hl), rfl, _, rfl, r, _, 0, _, rfl, rfl, SqL.of (T1 _ _ hrr), atI_nat (j := 0) rfl, upd_same, [(.inr c1, .int x)], rfl, (by show 1 ≤ 15; decide), ?_⟩
    have S1 := T1.put (o := .dK (mergeK [] [((.inr c1 : Key), V.int x)])) hm
    have e1 := upd_same (H := upd H m (.dK [])) (a := m) (o := .dK (mergeK [] [((.inr c1 : Key), V.int x)]))
    generalize upd (upd H m (.dK [])) m (.dK (mergeK [] [((.inr c1 : Key), V.int x)])) = H1 at *
    have e1 : H1 m = some (.dK [(.inr c1, .int x)]) := e1
    have fin : ∀ (H2 : Hp) (row : Row), Same H H2 → H2 m = some (.dK (rK row)) → row = rwO c1 c2 (x :: rest) → (tRet (tDisp [(tOp (rIxL K) (tVar 0) (tC (.int 0)), tLst (tCons (tVar 2) tNil))])) { nx := fun _ H' => Q .non H', rt := Q } [some (.ref l), some (.ref r), some (.ref m)] H2 := fun H2 row S2 e2 er p hp => by
      have T3 := Same.upd (o := .dK []) hp
      refine ⟨_, rfl, l, _, 0, _, rfl, rfl, SqL.of (T3 _ _ (S2 _ _ hl)), rfl, _, rfl, (by show 1 ≤ sizeLine; decide), fun g hg => ?_⟩
      have T4 := Same.upd (o := .lst [V.ref m]) hg
      have hpn := T4 p _ upd_same
      refine ⟨hpn, [(.inr T, .ref g)], rfl, (by show 1 ≤ 15; decide), ?_⟩
      have ngp : g ≠ p := fun e => by rw [e, upd_same] at hg; cases hg
      have nmp : m ≠ p := fun z => by rw [← z, e2] at hp; cases hp
      refine q p _ (S2.trans ((T3.trans T4).put hp)) ⟨g, m, cut_at (none_of S2 hp) upd_same, cut_at (none_of (S2.trans T3) hg) ?_, cut_at hm ?_⟩
      · rw [upd_ne ngp]; exact upd_same
      · rw [upd_ne nmp, ← er]; exact (T3.trans T4) _ _ e2
    cases rest with
    | nil =>
      refine ⟨_, rfl, r, _, rfl, .inl (SqL.of (S1 _ _ hrr)), _, _, rfl, rfl, _, rfl, ?_⟩
      refine iteC (decide_eq_false (by show ¬ (1 : Int) < 1; decide)) ?_
      exact fin H1 [(c1, x)] S1 e1 rfl
    | cons y rest =>
      cases rest with
      | cons z rest => simp at hx
      | nil =>
        refine ⟨_, rfl, r, _, rfl, .inl (SqL.of (S1 _ _ hrr)), _, _, rfl, rfl, _, rfl, ?_⟩
        refine iteB (decide_eq_true (by show (1 : Int) < 2; decide)) ?_
        refine ⟨_, rfl, r, _, 1, _, rfl, rfl, SqL.of (S1 _ _ hrr), atI_nat (j := 1) rfl, _, rfl, _, rfl, l, _, 2, _, rfl, rfl, SqL.of (S1 _ _ hl), rfl, m, _, rfl, DPut.k (k := .inr c2) e1 (by show 1 < sizeLine; decide), ?_⟩
        have ep : putK [((.inr c1 : Key), V.int x)] (.inr c2) (.int y) = rK [(c1, x), (c2, y)] := by
          unfold putK
          rw [if_neg (by simp [ne])]
          rfl
        rw [ep]
        exact fin _ [(c1, x), (c2, y)] (S1.put hm) upd_same rfl
end
end My

namespace My
open PySem L2 PyProof.Rows
seal L2.PE L2.PT L2.PW L2.PS L2.PSs L2.PA L2.PI L2.PG L2.PGs L2.OpR L2.CallR L2.IxR L2.SlR L2.MtR L2.PIf L2.PO L2.MtM L2.PC
section
variable {P : Program} {w : World} {K : PySem.W.Frag} {mg : Str → Option Value} {base : Heap} {PY CT CC CP CD : Addr} {pm : Value}
theorem ok_due {f fN fP : Addr} {fd fdN fdP : FuncData} (F : Fun K "_law_due" "_law_due" (top 66) f fd) (B : Bl mg) (DN : Df K mg "_law_new" (top 62) fN fdN) (GN : FnOk P w K mg base CX0 1 fN fdN ["_law_way_here", "_law_row", "_law_told_here"] (spNew K))
    (DP : Df K mg "_law_piece" (top 65) fP fdP) (GP : FnOk P w K mg base CX0 1 fP fdP ["_law_names_here", "_law_row"] spPiece) : FnOk P w K mg base CX0 2 f fd ["_law_names_here", "_law_way_here", "_law_rows_here", "_law_told_here"] (spDue K) := by
  have sc : FnScope duN ["_law_names_here", "_law_way_here", "_law_rows_here", "_law_told_here"] (defScope (top 66)) := ⟨rfl, rfl, rfl, by decide +kernel, rfl, by decide +kernel, by decide +kernel⟩
  have bN := DN.fn.binds (ps := ["_law_way_here", "_law_row", "_law_told_here"]) fun _ _ _ _ _ _ us hl => by obtain ⟨v0, v1, v2, rfl⟩ := L2.ln3 hl; rfl
  have bP := DP.fn.binds (ps := ["_law_names_here", "_law_row"]) fun _ _ _ _ _ _ us hl => by obtain ⟨v0, v1, rfl⟩ := L2.ln2 hl; rfl
  refine F.ok sc (fun vs H Q E h => ?_) (fun cdv A outer s H vs Q E hr h => ?_)
  · obtain ⟨l, lr, tl, wv, T, c1, c2, ab, ts, rfl, _⟩ := h
    rfl
  · obtain ⟨l, lr, tl, wv, T, c1, c2, ab, ts, rfl, hl, ne, hrw, a8, ht, t0, t8, q⟩ := h
    have u := u20 hr
    refine ⟨_, pss_cons (ps_for PassesOwn.never rfl (pi_range1 rfl B.range (pa_cons (pe_callB call_len_seq (by rfl) B.len PySem.boot_len (pa_cons (pv 2) pa_nil)) pa_nil)) (pg_name (i := 4) sc.nd rfl (Or.inl rfl))
        (pss_one (ps_for PassesOwn.never rfl (pi_range1 rfl B.range (pa_cons (pv 4) pa_nil)) (pg_name (i := 5) sc.nd rfl (Or.inl rfl))
          (pss_cons (ps_set (i := 6) sc.nd rfl (Or.inl rfl) (pe_call GN hr (by rfl) DN.mg DN.fn.kp bN .nil pass0 (pa_cons (pv 1) (pa_cons (pe_ix ix_list (pv 2) (pv 4) (fun _ _ => rfl)) (pa_cons (pv 3) pa_nil)))))
          (pss_one (ps_if (pt_cmpR (op_eqW u) (pv 6) (pe_call GN hr (by rfl) DN.mg DN.fn.kp bN .nil pass0 (pa_cons (pv 1) (pa_cons (pe_ix ix_list (pv 2) (pv 5) (fun _ _ => rfl)) (pa_cons (pv 3) pa_nil)))) (nomark _))
            (pss_one (ps_ret (pe_tup (pa_cons (pe_call GP hr (by rfl) DP.mg DP.fn.kp bP .nil pass0 (pa_cons (pv 0) (pa_cons (pe_ix ix_list (pv 2) (pv 5) (fun _ _ => rfl)) pa_nil))) (pa_cons (pe_call GP hr (by rfl) DP.mg DP.fn.kp bP .nil pass0 (pa_cons (pv 0) (pa_cons (pe_ix ix_list (pv 2) (pv 4) (fun _ _ => rfl)) pa_nil))) (pa_cons (pe_call GP hr (by rfl) DP.mg DP.fn.kp bP .nil pass0 (pa_cons (pv 0) (pa_cons (pv 6) pa_nil))) pa_nil)))))) pss_nil))))))
      (pss_one (ps_ret pe_non)), ?_⟩
    obtain ⟨rs, hrs, rl, hrr⟩ := hrw
    have ln : rs.length ≤ 8 := by omega
    refine ⟨_, rfl, _, _, rfl, .inl (SqL.of hrs), _, rfl, (by rw [List.length_map]; omega), (by rw [List.length_map]; omega), for_range (fun i σ H' => Same H H' ∧ (∃ u4 u5 u6, σ = [some (.ref l), some (.int wv), some (.ref lr), some (.ref tl), u4, u5, u6]) ∧ NoHit (wgt wv) (dOf T c1 c2 ts) ab i) ⟨fun _ _ h => h, ⟨_, _, _, rfl⟩, (fun l e pl pe h => absurd h (Nat.not_lt_zero l))⟩ ?_ ?_⟩
    · rintro i σ H' hi ⟨sm, ⟨u4, u5, u6, rfl⟩, nh⟩
      have hir : i < rs.length := by rw [List.length_map] at hi; omega
      have hia : i < ab.length := by omega
      refine ⟨_, rfl, _, rfl, (by omega), (by omega), for_range (fun j σ H5 => Same H H5 ∧ (∃ u5 u6, σ = [some (.ref l), some (.int wv), some (.ref lr), some (.ref tl), some (.int (0 + (i : Int))), u5, u6]) ∧ ∀ (e : Nat) (pe : Int × Int), e < j → ab[e]? = some pe → gv (wgt wv) (dOf T c1 c2 ts) pe ≠ gv (wgt wv) (dOf T c1 c2 ts) ab[i]) ⟨sm, ⟨_, _, rfl⟩, (fun e pe h => absurd h (Nat.not_lt_zero e))⟩ ?_ ?_⟩
      · rintro j σ H5 hj ⟨sm5, ⟨w5, w6, rfl⟩, hne⟩
        have hji : j < i := by omega
        have hja : j < ab.length := by omega
        have hjr : j < rs.length := by omega
        have a1 : atI (rs.map V.ref) (0 + (i : Int)) = some (.ref rs[i]) := by rw [Int.zero_add]; exact atI_nat (by rw [List.getElem?_map, List.getElem?_eq_getElem hir]; rfl)
        have a2 : atI (rs.map V.ref) (0 + (j : Int)) = some (.ref rs[j]) := by rw [Int.zero_add]; exact atI_nat (by rw [List.getElem?_map, List.getElem?_eq_getElem hjr]; rfl)
        have ri := hrr i rs[i] ab[i] (List.getElem?_eq_getElem hir) (List.getElem?_eq_getElem hia)
        have rj := hrr j rs[j] ab[j] (List.getElem?_eq_getElem hjr) (List.getElem?_eq_getElem hja)
        refine ⟨_, rfl, _, rfl, _, rfl, lr, _, _, _, rfl, rfl, SqL.of (sm5 _ _ hrs), a1, _, rfl, rs[i], tl, wv, ab[i], ts, rfl, sm5 _ _ ri, sm5 _ _ ht, t0, t8, fun n1 H6 s6 hn1 => ?_⟩
        have sm6 := sm5.trans s6
        refine ⟨_, rfl, _, rfl, _, rfl, _, rfl, lr, _, _, _, rfl, rfl, SqL.of (sm6 _ _ hrs), a2, _, rfl, rs[j], tl, wv, ab[j], ts, rfl, sm6 _ _ rj, sm6 _ _ ht, t0, t8, fun n2 H7 s7 hn2 => ?_⟩
        have sm7 := sm6.trans s7
        have hn1' := s7 _ _ hn1
        refine ⟨1, n1, n2, _, _, _, rfl, rfl, li_dw hn1', li_dw hn2, (li_eq nvw_len.1).lst, (by decide), _, rfl, ?_⟩
        cases hb : (nvw wv ts ab[i] == nvw wv ts ab[j]) with
        | false =>
          refine iteF ⟨sm7, ⟨_, _, rfl⟩, fun e pe he hpe => ?_⟩
          by_cases h : e < j
          · exact hne e pe h hpe
          · obtain rfl : e = j := by omega
            rw [List.getElem?_eq_getElem hja] at hpe
            cases hpe
            intro z
            rw [gv_w, gv_w] at z
            rw [z, beq_self_eq_true] at hb
            cases hb
        | true =>
          have heq : gv (wgt wv) (dOf T c1 c2 ts) ab[j] = gv (wgt wv) (dOf T c1 c2 ts) ab[i] := by
            rw [gv_w, gv_w]
            exact (beq_iff_eq.mp hb).symm
          refine iteT ?_
          have hl7 : NmsAt H7 l T c1 c2 := sm7 _ _ hl
          refine ⟨_, rfl, _, rfl, _, rfl, lr, _, _, _, rfl, rfl, SqL.of (sm7 _ _ hrs), a2, l, rs[j], T, c1, c2, [ab[j].1, ab[j].2], rfl, hl7, ne, sm7 _ _ rj, .inr rfl, fun p1 H8 s8 hp1 => ?_⟩
          have sm8 := sm7.trans s8
          refine ⟨_, rfl, _, rfl, _, rfl, lr, _, _, _, rfl, rfl, SqL.of (sm8 _ _ hrs), a1, l, rs[i], T, c1, c2, [ab[i].1, ab[i].2], rfl, s8 _ _ hl7, ne, sm8 _ _ ri, .inr rfl, fun p2 H9 s9 hp2 => ?_⟩
          have sm9 := sm8.trans s9
          refine ⟨_, rfl, _, rfl, l, n1, T, c1, c2, nvw wv ts ab[i], rfl, (s8.trans s9) _ _ hl7, ne, (s8.trans s9) _ _ hn1', (nvw_len (q := ab[i])).2, fun p3 H10 s10 hp3 => ?_⟩
          refine ⟨(by show 3 ≤ sizeLine; decide), fun tr htr => ?_⟩
          have S5 := Same.upd (o := .tup [V.ref p1, .ref p2, .ref p3]) htr
          have d1 := ((hp1.same cut_sub).same ((s9.trans s10).trans S5)).dw.up 6 (by decide)
          have d2 := ((hp2.same cut_sub).same (s10.trans S5)).dw.up 6 (by decide)
          have d3 := ((hp3.same cut_sub).same S5).dw.up 6 (by decide)
          refine q _ (trD (wgt wv) (dOf T c1 c2 ts) ab[j] ab[i]) _ ((sm9.trans s10).trans S5) (.inr ⟨i, j, ab[i], ab[j], hji, List.getElem?_eq_getElem hia, List.getElem?_eq_getElem hja, heq, nh, hne, rfl⟩) ?_
          refine DwL.tup (.inl upd_same) (.cons d1 (.cons d2 (.cons ?_ .nil)))
          rw [rw_w]
          exact d3
      · rintro σ H5 ⟨sm5, ⟨w5, w6, rfl⟩, hne⟩
        refine ⟨sm5, ⟨_, _, _, rfl⟩, fun l e pl pe hl he hpl hpe => ?_⟩
        by_cases h : l < i
        · exact nh l e pl pe h he hpl hpe
        · obtain rfl : l = i := by omega
          rw [List.getElem?_eq_getElem hia] at hpl
          cases hpl
          exact hne e pe (by omega) hpe
    · rintro σ H' ⟨sm, ⟨u4, u5, u6, rfl⟩, nh⟩
      have e1 : ((rs.map V.ref).length : Int).toNat = ab.length := by rw [List.length_map]; omega
      rw [e1] at nh
      exact q .non _ H' sm (.inl ⟨rfl, nh⟩) (.fl rfl)
end
end My

namespace My
open PySem L2 PyProof.Rows
seal L2.PE L2.PT L2.PW L2.PS L2.PSs L2.PA L2.PI L2.PG L2.PGs L2.OpR L2.CallR L2.IxR L2.SlR L2.MtR L2.PIf L2.PO L2.MtM L2.PC
def mvW (wv : Int) (CT : Addr) (pm : Value) (CC CD CP : Addr) : MvP := if wv = 0 then MvT CT pm else if wv = 1 then MvC CC else MvD CD CP
def spMv (CT : Addr) (pm : Value) (CC CD CP PY : Addr) : Sp := fun vs H Q _ => ∃ (l tl : Addr) (wv : Int) (T c1 c2 : Str) (ts : List Int), vs = [.ref l, .int wv, .ref tl] ∧ NmsAt H l T c1 c2 ∧ H tl = some (.lst (ts.map V.int)) ∧ 0 < ts.length ∧ TabOk PY wPos qW H ∧
  ∀ x H', Fr PY H H' → TabOk PY wPos qW H' → mvW wv CT pm CC CD CP (dOf T c1 c2 ts) H' x → Q (.ref x) H'
section
variable {P : Program} {w : World} {K : PySem.W.Frag} {mg : Str → Option Value} {base : Heap} {PY CT CC CP CD : Addr} {pm : Value}
theorem ok_move {f fW tI cI pI dI : Addr} {fd fdW tdI cdI pdI ddI : FuncData} (F : Fun K "_law_move" "_law_move" (top 64) f fd)
    (mT : mg "Turn" = some (.ref CT)) (MT : Mk K CT tI) (FT : Fun K "__init__" "Turn.__init__" (tu 0) tI tdI) (LT : ClT K CT)
    (mC : mg "Cap" = some (.ref CC)) (MC : Mk K CC cI) (FC : Fun K "__init__" "Cap.__init__" (ca 0) cI cdI) (GC : FnOk P w K mg base CX0 5 cI cdI ["self", "table", "column", "top"] (spCI CC))
    (mP : mg "Put" = some (.ref CP)) (MP : Mk K CP pI) (FP : Fun K "__init__" "Put.__init__" (pu 0) pI pdI) (GP : FnOk P w K mg base CX0 5 pI pdI ["self", "table", "column", "kind", "value"] (spPI CP))
    (mD : mg "Turned" = some (.ref CD)) (MD : Mk K CD dI) (FD : Fun K "__init__" "Turned.__init__" (td 0) dI ddI) (LD : ClD K CD)
    (DW : Df K mg "_law_way" (top 60) fW fdW) (GW : FnOk P w K mg base CX0 1 fW fdW ["_law_told_here"] (spWay pm PY)) :
    FnOk P w K mg base CX0 7 f fd ["_law_names_here", "_law_way_here", "_law_told_here"] (spMv CT pm CC CD CP PY) := by
  have sc : FnScope ["_law_names_here", "_law_way_here", "_law_told_here", "_law_below"] ["_law_names_here", "_law_way_here", "_law_told_here"] (defScope (top 64)) := ⟨rfl, rfl, rfl, by decide +kernel, rfl, by decide +kernel, by decide +kernel⟩
  have GT : FnOk P w K mg base CX0 1 tI tdI ["self", "table", "column", "old", "new", "way_forth", "way_back"] (spTI CT) := ok_ti FT LT
  have bT := FT.binds (ps := ["self", "table", "column", "old", "new", "way_forth", "way_back"]) fun _ _ _ _ _ _ us hl => match us, hl with | [_, _, _, _, _, _, _], _ => rfl
  have GD : FnOk P w K mg base CX0 1 dI ddI ["self", "move"] (spDI CD) := ok_di FD LD
  have bD := FD.binds (ps := ["self", "move"]) fun _ _ _ _ _ _ us hl => by obtain ⟨v0, v1, rfl⟩ := L2.ln2 hl; rfl
  have bC := FC.binds (ps := ["self", "table", "column", "top"]) fun _ _ _ _ _ _ us hl => by obtain ⟨v0, v1, v2, v3, rfl⟩ := L2.ln4 hl; rfl
  have bP := FP.binds (ps := ["self", "table", "column", "kind", "value"]) fun _ _ _ _ _ _ us hl => match us, hl with | [_, _, _, _, _], _ => rfl
  have bW := DW.fn.binds (ps := ["_law_told_here"]) fun _ _ _ _ _ _ us hl => by obtain ⟨v0, rfl⟩ := L2.ln1 hl; rfl
  refine F.ok sc (fun vs H Q E h => ?_) (fun cdv A outer s H vs Q E hr h => ?_)
  · obtain ⟨l, tl, wv, T, c1, c2, ts, rfl, _⟩ := h
    rfl
  · obtain ⟨l, tl, wv, T, c1, c2, ts, rfl, hl, ht, t0, tab, q⟩ := h
    have hl : H l = some (.lst [.str T, .str c1, .str c2]) := hl
    have hr1 : Room 1 _ := hr.mono (by decide)
    refine ⟨_, pss_cons (ps_if (pt_cmpR op_eq (pv 1) pe_int (nomark _))
        (pss_cons (ps_set (i := 3) sc.nd rfl (Or.inl rfl) (pe_tup (pa_cons pe_str (pa_cons pe_int pa_nil))))
        (pss_one (ps_ret (pe_make MT GT (hr.mono (by decide)) (by rfl) mT bT .nil pass0 (pa_cons (pe_ix ix_list (pv 0) pe_int (fun _ _ => rfl)) (pa_cons (pe_ix ix_list (pv 0) pe_int (fun _ _ => rfl)) (pa_cons (pv 3) (pa_cons (pv 3) (pa_cons (pe_call GW hr1 (by rfl) DW.mg DW.fn.kp bW .nil pass0 (pa_cons (pv 2) pa_nil)) (pa_cons (pe_call GW hr1 (by rfl) DW.mg DW.fn.kp bW .nil pass0 (pa_cons (pv 2) pa_nil)) pa_nil)))))))))) pss_nil)
      (pss_cons (ps_if (pt_cmpR op_eq (pv 1) pe_int (nomark _))
        (pss_one (ps_ret (pe_make MC GC (hr.mono (by decide)) (by rfl) mC bC .nil pass0 (pa_cons (pe_ix ix_list (pv 0) pe_int (fun _ _ => rfl)) (pa_cons (pe_ix ix_list (pv 0) pe_int (fun _ _ => rfl)) (pa_cons (pe_ix ix_list (pv 2) pe_int (fun _ _ => rfl)) pa_nil)))))) pss_nil)
      (pss_one (ps_ret (pe_make MD GD (hr.mono (by decide)) (by rfl) mD bD .nil pass0 (pa_cons (pe_make MP GP (hr.mono (by decide)) (by rfl) mP bP .nil pass0 (pa_cons (pe_ix ix_list (pv 0) pe_int (fun _ _ => rfl)) (pa_cons (pe_ix ix_list (pv 0) pe_int (fun _ _ => rfl)) (pa_cons (pe_tup (pa_cons pe_str pa_nil)) (pa_cons pe_int pa_nil))))) pa_nil))))), ?_⟩
    refine ⟨_, rfl, rfl, _, rfl, ?_⟩
    by_cases h0 : wv = 0
    · refine iteB (decide_eq_true (by rw [h0])) ?_
      refine ⟨(by show 2 ≤ sizeLine; decide), fun ka hka => ?_⟩
      have T1 := Same.upd (o := .tup [V.str "below", .int 8]) hka
      refine ⟨_, rfl, l, _, 0, _, rfl, rfl, SqL.of (T1 _ _ hl), rfl, _, rfl, l, _, 1, _, rfl, rfl, SqL.of (T1 _ _ hl), rfl, _, rfl, _, rfl, _, rfl, tl, ts, rfl, T1 _ _ ht, tab.same T1, fun wf H3 fr3 tab3 hwf => ?_⟩
      have N3 : Ntb _ H3 := fr3.nt (tab.same T1)
      have M3 : Ntb H H3 := (Ntb.of T1).trans N3
      refine ⟨_, rfl, tl, ts, rfl, M3 _ _ ht (fun _ h => by cases h), tab3, fun wb H4 fr4 tab4 hwb => ?_⟩
      have N4 : Ntb H3 H4 := fr4.nt tab3
      intro x dx hx hdx ndx
      have T5 := Same.upd (o := .own x) hdx
      have hx5 : upd H4 dx (.own x) x = none := by rw [upd_ne (Ne.symm ndx)]; exact hx
      have T6 := Same.upd (o := .ins CT dx []) hx5
      have S6 := T5.trans T6
      refine ⟨x, dx, ka, ka, wf, wb, T, c1, rfl, upd_same, fun H' keep hx' => ⟨rfl, ?_⟩⟩
      have S7 : Same H4 H' := fun b o e => keep b o (ne_of_none e hx) (S6 _ _ e)
      refine q x H' (fun b o nb e => S7 _ _ (fr4 b o nb (fr3 b o nb (T1 _ _ e)))) (tab4.same S7) ?_
      unfold mvW
      rw [if_pos h0]
      refine ⟨dx, ka, wf, wb, hx', ?_, (hwf.nt N4).same S7⟩
      exact ⟨S7 _ _ (N4 _ _ (N3 _ _ upd_same (fun _ h => by cases h)) (fun _ h => by cases h)), (by decide : (1 : Int) ≤ 8)⟩
    · refine iteC (decide_eq_false fun e => h0 (by injection e)) ?_
      refine ⟨_, rfl, rfl, _, rfl, ?_⟩
      by_cases h1 : wv = 1
      · refine iteB (decide_eq_true (by rw [h1])) ?_
        refine ⟨_, rfl, l, _, 0, _, rfl, rfl, SqL.of hl, rfl, _, rfl, l, _, 1, _, rfl, rfl, SqL.of hl, rfl, _, rfl, tl, _, 0, _, rfl, rfl, SqL.of ht, item_ints (by decide) (by omega), ?_⟩
        intro x dx hx hdx ndx
        have T5 := Same.upd (o := .own x) hdx
        have hx5 : upd H dx (.own x) x = none := by rw [upd_ne (Ne.symm ndx)]; exact hx
        have T6 := Same.upd (o := .ins CC dx []) hx5
        have S6 := T5.trans T6
        refine ⟨x, dx, T, c1, _, rfl, upd_same, fun t H' keep hx' => ⟨rfl, ?_⟩⟩
        have S7 : Same H H' := fun b o e => keep b o (ne_of_none e hx) (S6 _ _ e)
        refine q x H' (.of S7) (tab.same S7) ?_
        unfold mvW
        rw [if_neg h0, if_pos h1]
        exact ⟨dx, t, hx'⟩
      · refine iteC (decide_eq_false fun e => h1 (by injection e)) ?_
        refine ⟨_, rfl, l, _, 0, _, rfl, rfl, SqL.of hl, rfl, _, rfl, l, _, 2, _, rfl, rfl, SqL.of hl, rfl, (by show 1 ≤ sizeLine; decide), fun ka hka => ?_⟩
        have T1 := Same.upd (o := .tup [V.str "whole"]) hka
        have e1 := upd_same (H := H) (a := ka) (o := .tup [V.str "whole"])
        generalize upd H ka (.tup [V.str "whole"]) = H1 at *
        intro x dx hx hdx ndx
        have T5 := Same.upd (o := .own x) hdx
        have hx5 : upd H1 dx (.own x) x = none := by rw [upd_ne (Ne.symm ndx)]; exact hx
        have T6 := Same.upd (o := .ins CP dx []) hx5
        have S6 := T5.trans T6
        have kw : KdH H1 ka .wh := by
          exact ⟨e1, trivial⟩
        refine ⟨x, dx, ka, T, c2, 4, rfl, upd_same, kw.nt (.of S6), fun t H' keep hx' => ⟨rfl, ?_⟩⟩
        have S7 : Same H1 H' := fun b o e => keep b o (ne_of_none e hx) (S6 _ _ e)
        intro y dy hy hdy ndy
        have T8 := Same.upd (o := .own y) hdy
        have hy8 : upd H' dy (.own y) y = none := by rw [upd_ne (Ne.symm ndy)]; exact hy
        have T9 := Same.upd (o := .ins CD dy []) hy8
        have S9 := T8.trans T9
        refine ⟨y, dy, x, rfl, upd_same, fun H2 keep2 hy' => ⟨rfl, ?_⟩⟩
        have S10 : Same H' H2 := fun b o e => keep2 b o (ne_of_none e hy) (S9 _ _ e)
        have S := T1.trans (S7.trans S10)
        refine q y H2 (.of S) (tab.same S) ?_
        unfold mvW
        rw [if_neg h0, if_neg h1]
        exact ⟨dy, x, hy', dx, ka, t, S10 _ _ hx', kw.nt (.of (S7.trans S10))⟩
end
end My

namespace L2
open PySem PySem.Spec PyProof.Rows My
def sCut54 (t : TS) : TS := fun D σ H => ∃ R : St → Hp → Prop, t { D with nx := R } σ H ∧ ∀ σ' H', R σ' H' → D.nx σ' H'
theorem ps_cut54 {X : Cx} {st : Stmt} {t : TS} (h : PS X st t) : PS X st (sCut54 t) := by
  intro pins s σ H D I hq
  obtain ⟨R, h1, h2⟩ := hq
  refine thn (h pins s σ H _ I h1) fun f s' hs => ?_
  cases f with
  | next => obtain ⟨σ', H', I', z⟩ := hs; exact ⟨σ', H', I', h2 _ _ z⟩
  | brk => exact hs
  | cont => exact hs
  | ret u => exact hs
def rNeF : R2 := fun x y H Q => (∃ (n : Nat) (d : Dp), Dw H n d x ∧ Dw H n d y ∧ n ≤ 16 ∧ (∃ a b, x = .ref a ∧ y = .ref b) ∧ Q (.bl false) H) ∨ (x = .non ∧ y = .non ∧ Q (.bl false) H)
def rEqF : R2 := fun x y H Q => (∃ (n : Nat) (d : Dp), Dw H n d x ∧ Dw H n d y ∧ n ≤ 16 ∧ (∃ a b, x = .ref a ∧ y = .ref b) ∧ Q (.bl true) H) ∨ (x = .non ∧ y = .non ∧ Q (.bl true) H)
theorem op_neF {X : Cx} (hu : X.A.units + 20 < cLine) : OpR X (compareOp .NotEq) rNeF := by
  intro pins s σ H x y v u Q I rx ry h
  rcases h with ⟨n, d, h1, h2, hn, ⟨a, b, rfl, rfl⟩, q⟩ | ⟨rfl, rfl, q⟩
  · exact op_neW hu pins s σ H _ _ v u Q I rx ry ⟨n, a, b, d, d, true, rfl, rfl, h1, h2, h1.refl, hn, q⟩
  · exact op_ne pins s σ H _ _ v u Q I rx ry ⟨rfl, q⟩
theorem op_eqF {X : Cx} (hu : X.A.units + 20 < cLine) : OpR X (compareOp .Eq) rEqF := by
  intro pins s σ H x y v u Q I rx ry h
  rcases h with ⟨n, d, h1, h2, hn, ⟨a, b, rfl, rfl⟩, q⟩ | ⟨rfl, rfl, q⟩
  · exact op_eqW hu pins s σ H _ _ v u Q I rx ry ⟨n, a, b, d, d, true, rfl, rfl, h1, h2, h1.refl, hn, q⟩
  · exact op_eq pins s σ H _ _ v u Q I rx ry ⟨rfl, q⟩
end L2
namespace My
open PySem L2 PyProof.Rows
seal L2.PE L2.PT L2.PW L2.PS L2.PSs L2.PA L2.PI L2.PG L2.PGs L2.OpR L2.CallR L2.IxR L2.SlR L2.MtR L2.PIf L2.PO L2.MtM L2.PC
def lwN : List Str := ["_law_script", "_law_names_here", "_law_way_here", "_law_told_here", "_law_rows_here", "_law_kind", "_law_form", "_law_move_here", "_law_olds", "_law_due_here", "_law_found", "_law_piece_here"]
def spLw (K : PySem.W.Frag) (PF PY : Addr) : Sp := fun vs H Q _ => ∃ (a : Addr) (ns : List Int), vs = [.ref a] ∧ SqL K H a (ns.map V.int) ∧ ns.length ≤ 63 ∧ H PF = some (.tbl #[]) ∧ H PY = some (.tbl #[]) ∧ PF ≠ PY ∧ ∀ H', Q (.bl true) H'
def hard : HO → Bool
  | .dK _ => false
  | .lst _ => false
  | _ => true
def KG (G H H' : Hp) : Prop := ∀ b o, (G b ≠ none ∨ hard o = true) → H b = some o → H' b = some o
theorem KG.nt {G H H' : Hp} (k : KG G H H') (s : Ntb G H) : Ntb G H' := fun b o e n => k b o (.inl (by rw [e]; simp)) (s b o e n)
theorem KG.tab {G H H' : Hp} (k : KG G H H') {P : Addr} {pos : Pos} {q : Str} (t : TabOk P pos q H) : TabOk P pos q H' := by
  rcases t with t | ⟨c', t1, t2⟩
  · exact .inl (k _ _ (.inr rfl) t)
  · exact .inr ⟨c', k _ _ (.inr rfl) t1, k _ _ (.inr rfl) t2⟩
theorem OlA.dw {H : Hp} {l : Addr} {T : Str} {rs : List Row} (h : OlA H l T rs) : Dw H 4 (.lst (rs.map (pcD T))) (.ref l) := by
  obtain ⟨ps, a, b, c⟩ := h
  refine .lst a (by rw [List.length_map, List.length_map]; exact b) fun i v d h1 h2 => ?_
  rw [List.getElem?_map] at h1 h2
  obtain ⟨p, e1, rfl⟩ := Option.map_eq_some_iff.mp h1
  obtain ⟨o, e2, rfl⟩ := Option.map_eq_some_iff.mp h2
  exact (c i p o e1 e2).dw
/-- the pieces of rows told -/
theorem pcs_ok {K : PySem.W.Frag} {l lr D : Addr} {T c1 c2 : Str} {ab : List (Int × Int)} {rs : List Addr} {R : Addr → Hp → Prop} {H : Hp} (hl : NmsAt H l T c1 c2) (ne : c1 ≠ c2) (ho : H lr = some (.lst (rs.map V.ref))) (rl : rs.length = ab.length) (hrr : ∀ (j : Nat) (r : Addr) (p : Int × Int), rs[j]? = some r → ab[j]? = some p → H r = some (.lst [.int p.1, .int p.2])) (hz : ab.length ≤ 8) (hD : H D = none)
    (q : ∀ H', Same H H' → OlA H' D T (ab.map fun p => [(c1, p.1), (c2, p.2)]) → (Itl K lr).stop rs.length H' ∧ R D H') :
    CompW (Itl K lr) (gName 0) tYes (tCall spPiece [] E0 (tCons (tVar 1) (tCons (tVar 0) tNil))) R D [none, some (.ref l)] (upd H D (.lst [])) := by
  refine compW_idx rs.length (fun i ys σ' Hc => (∃ t, σ' = [t, some (.ref l)]) ∧ Same H Hc ∧ ∃ ps : List Addr, ys = ps.map V.ref ∧ ∀ (j : Nat) (p : Addr) (o : Int × Int), ps[j]? = some p → ab[j]? = some o → PcA (nw H D Hc) p T [(c1, o.1), (c2, o.2)]) (by rw [sizeLine_eq]; omega) ⟨⟨none, rfl⟩, Same.upd hD, [], rfl, (fun j p o h => nomatch h)⟩ upd_same ?_ ?_
  · rintro i σ' Hc ys hi ⟨⟨t, rfl⟩, sm, ps, rfl, hps⟩ hyl hD'
    rw [List.length_map] at hyl
    have hia : i < ab.length := by omega
    refine ⟨⟨_, V.ref rs[i], SqL.of (sm _ _ ho), by rw [List.getElem?_map, List.getElem?_eq_getElem hi]; rfl⟩, ?_⟩
    rintro x H' ⟨rfl, hx'⟩
    have ex := hx' _ (SqL.of (sm _ _ ho))
    rw [List.getElem?_map, List.getElem?_eq_getElem hi] at ex
    cases ex
    refine ⟨_, rfl, _, rfl, l, rs[i], T, c1, c2, [ab[i].1, ab[i].2], rfl, sm _ _ hl, ne, sm _ _ (hrr i _ _ (List.getElem?_eq_getElem hi) (List.getElem?_eq_getElem hia)), .inr rfl, fun p H2 s2 hp => ⟨s2 _ _ hD', ⟨_, rfl⟩, (sm.trans s2).put hD, ps ++ [p], by rw [List.map_append]; rfl, fun j p' o h1 h2 => ?_⟩⟩
    rcases get_snoc h1 with h1 | ⟨rfl, rfl⟩
    · exact (hps j p' o h1 h2).same ((nw_up s2).trans nw_put)
    · rw [hyl, List.getElem?_eq_getElem hia] at h2
      cases h2
      exact hp.same ((nw_in sm hD').trans nw_put)
  · rintro σ' Hc ys ⟨_, sm, ps, rfl, hps⟩ hDn hyl
    rw [List.length_map] at hyl
    refine q Hc sm ⟨ps, hDn, by rw [List.length_map]; omega, fun j p o h1 h2 => ?_⟩
    rw [List.getElem?_map] at h2
    obtain ⟨z, e2, rfl⟩ := Option.map_eq_some_iff.mp h2
    exact ((hps j p z h1 e2).same nw_cut).same cut_sub
def kW (wv : Int) : Kk := if wv = 0 then .bel 8 else .wh
def spLoW (PF CT : Addr) (pm : Value) (CC CD CP : Addr) : Sp := fun vs H Q E => ∃ wv : Int, spLost PF (kW wv) (mvW wv CT pm CC CD CP) (wgt wv) vs H Q E
theorem mvW_nt {wv : Int} {CT CC CD CP : Addr} {pm : Value} {d : Dt} {H H' : Hp} {x : Addr} (h : mvW wv CT pm CC CD CP d H x) (s : Ntb H H') : mvW wv CT pm CC CD CP d H' x := by
  unfold mvW at *
  by_cases h0 : wv = 0
  · rw [if_pos h0] at *
    exact mvT.nt h s
  · rw [if_neg h0] at *
    by_cases h1 : wv = 1
    · rw [if_pos h1] at *
      exact mvC.nt h s
    · rw [if_neg h1] at *
      exact mvD.nt h s
theorem wgt_gn {wv : Int} {d : Dt} : ∀ p q : Int × Int, (wgt wv d p.1 p.2).map (·.1) = (wgt wv d q.1 q.2).map (·.1) := fun p q => by
  unfold wgt
  by_cases h0 : wv = 0
  · rw [if_pos h0]
    rfl
  · rw [if_neg h0]
    by_cases h1 : wv = 1
    · rw [if_pos h1]
      rfl
    · rw [if_neg h1]
      rfl
theorem Lst.cases {g : Gw} {d : Dt} {ab : List (Int × Int)} {c : Dp} (h : Lst g d ab c) : c = .fl .non ∨ ∃ pe pl, c = trD g d pe pl := by
  rcases h with ⟨h, _⟩ | ⟨l, e, pl, pe, _, _, _, _, _, _, h⟩
  · exact .inl h
  · exact .inr ⟨pe, pl, h⟩
theorem trD_of {G H : Hp} {g : Gw} {d : Dt} {pe pl : Int × Int} {v : V} (h : Dv (cut G H) 7 (trD g d pe pl) v) : ∃ (r : Addr) (vs : List V), v = .ref r ∧ H r = some (.tup vs) ∧ ∀ x ∈ vs, ∃ (p : Addr) (kvs : List (Key × V)), x = .ref p ∧ G p = none ∧ H p = some (.dK kvs) := by
  cases h with
  | @tup _ a vs _ ha hl hx =>
    refine ⟨a, vs, rfl, cut_sub _ _ ha, fun x hxm => ?_⟩
    obtain ⟨i, hi⟩ := List.getElem?_of_mem hxm
    have hil := (List.getElem?_eq_some_iff.mp hi).1
    have hl3 : vs.length = 3 := hl
    have key : ∃ r' : Row, Dv (cut G H) 6 (pcD d.T r') x := by
      match i, hil with
      | 0, _ => exact ⟨_, hx 0 x _ hi rfl⟩
      | 1, _ => exact ⟨_, hx 1 x _ hi rfl⟩
      | 2, _ => exact ⟨_, hx 2 x _ hi rfl⟩
      | n + 3, h => omega
    obtain ⟨r', hd⟩ := key
    cases hd with
    | dic hd _ _ _ => exact ⟨_, _, rfl, cut_new hd, cut_sub _ _ hd⟩
theorem ref_of {G H : Hp} {g : Gw} {d : Dt} {ab : List (Int × Int)} {c : Dp} {v dv : V} (h : Lst g d ab c) (hv : Dv (cut G H) 7 c v) (hd : Dw H 7 c dv) : (∃ a b, v = .ref a ∧ dv = .ref b) ∨ (v = .non ∧ dv = .non) := by
  rcases h.cases with rfl | ⟨pe, pl, rfl⟩
  · cases hv
    cases hd
    exact .inr ⟨rfl, rfl⟩
  · unfold trD at hv hd
    cases hv
    cases hd
    exact .inl ⟨_, _, rfl, rfl⟩
theorem ne_of {G H : Hp} {g : Gw} {d : Dt} {ab : List (Int × Int)} {c : Dp} {v dv : V} {Q : VK} (h : Lst g d ab c) (hv : Dv (cut G H) 7 c v) (hd : Dw H 7 c dv) (q : Q (.bl false) H) : rNeF v dv H Q := by
  rcases ref_of h hv hd with e | ⟨e1, e2⟩
  · exact .inl ⟨7, c, hv.dw.same cut_sub, hd, by decide, e, q⟩
  · exact .inr ⟨e1, e2, q⟩
theorem eq_of {G H : Hp} {g : Gw} {d : Dt} {ab : List (Int × Int)} {c : Dp} {v dv : V} {Q : VK} (h : Lst g d ab c) (hv : Dv (cut G H) 7 c v) (hd : Dw H 7 c dv) (q : Q (.bl true) H) : rEqF v dv H Q := by
  rcases ref_of h hv hd with e | ⟨e1, e2⟩
  · exact .inl ⟨7, c, hv.dw.same cut_sub, hd, by decide, e, q⟩
  · exact .inr ⟨e1, e2, q⟩
section
variable {P : Program} {w : World} {K : PySem.W.Frag} {mg : Str → Option Value} {base : Heap} {PF PY CT CC CP CD : Addr} {pm : Value}
theorem lost_all {f : Addr} {fd : FuncData} {k : Nat} {ps : List Str} (h0 : FnOk P w K mg base CX0 k f fd ps (spLost PF (.bel 8) (MvT CT pm) gT)) (h1 : FnOk P w K mg base CX0 k f fd ps (spLost PF .wh (MvC CC) gC)) (h2 : FnOk P w K mg base CX0 k f fd ps (spLost PF .wh (MvD CD CP) gD)) : FnOk P w K mg base CX0 k f fd ps (spLoW PF CT pm CC CD CP) := by
  have all : ∀ wv : Int, FnOk P w K mg base CX0 k f fd ps (spLost PF (kW wv) (mvW wv CT pm CC CD CP) (wgt wv)) := fun wv => by
    unfold kW mvW wgt
    by_cases z0 : wv = 0
    · rw [if_pos z0, if_pos z0, if_pos z0]
      exact h0
    · rw [if_neg z0, if_neg z0, if_neg z0]
      by_cases z1 : wv = 1
      · rw [if_pos z1, if_pos z1]
        exact h1
      · rw [if_neg z1, if_neg z1]
        exact h2
  exact ⟨fun vs H Q E ⟨i, h⟩ => (all i).len vs H Q E h, fun A outer s H args us vs Q E hr e b r ⟨i, h⟩ => (all i).run A outer s H args us vs Q E hr e b r h⟩
theorem ok_law {f fC fN fT fR fM fP fD fS : Addr} {fd fdC fdN fdT fdR fdM fdP fdD fdS : FuncData} (F : Fun K "law" "law" (top 67) f fd) (B : Bl mg)
    (DC : Df K mg "_law_cell" (top 58) fC fdC) (DN : Df K mg "_law_names" (top 59) fN fdN) (DT : Df K mg "_law_told" (top 63) fT fdT) (GT : FnOk P w K mg base CX0 2 fT fdT ["_law_script"] (spTl K)) (DR : Df K mg "_law_rows" (top 61) fR fdR) (GR : FnOk P w K mg base CX0 2 fR fdR ["_law_script", "_law_way_here"] (spRows K))
    (DM : Df K mg "_law_move" (top 64) fM fdM) (GM : FnOk P w K mg base CX0 7 fM fdM ["_law_names_here", "_law_way_here", "_law_told_here"] (spMv CT pm CC CD CP PY)) (DP : Df K mg "_law_piece" (top 65) fP fdP) (DD : Df K mg "_law_due" (top 66) fD fdD) (GD : FnOk P w K mg base CX0 2 fD fdD ["_law_names_here", "_law_way_here", "_law_rows_here", "_law_told_here"] (spDue K))
    (DS : Df K mg "show_lost" (top 49) fS fdS) (GS : FnOk P w K mg base CX0 10 fS fdS ["move", "form", "olds"] (spLoW PF CT pm CC CD CP)) :
    FnOk P w K mg base CX0 11 f fd ["_law_script"] (spLw K PF PY) := by
  have sc : FnScope lwN ["_law_script"] (defScope (top 67)) := ⟨rfl, rfl, rfl, by decide +kernel, rfl, by decide +kernel, by decide +kernel⟩
  have GC : FnOk P w K mg base CX0 1 fC fdC ["_law_script", "_law_k"] (spCel K) := ok_cel DC.fn B
  have GN : FnOk P w K mg base CX0 1 fN fdN ["_law_cell_here", "_law_many"] spNames := ok_names DN.fn B
  have GP : FnOk P w K mg base CX0 1 fP fdP ["_law_names_here", "_law_row"] spPiece := ok_piece DP.fn B
  have bC := DC.fn.binds (ps := ["_law_script", "_law_k"]) fun _ _ _ _ _ _ us hl => by obtain ⟨v0, v1, rfl⟩ := L2.ln2 hl; rfl
  have bN := DN.fn.binds (ps := ["_law_cell_here", "_law_many"]) fun _ _ _ _ _ _ us hl => by obtain ⟨v0, v1, rfl⟩ := L2.ln2 hl; rfl
  have bT := DT.fn.binds (ps := ["_law_script"]) fun _ _ _ _ _ _ us hl => by obtain ⟨v0, rfl⟩ := L2.ln1 hl; rfl
  have bR := DR.fn.binds (ps := ["_law_script", "_law_way_here"]) fun _ _ _ _ _ _ us hl => by obtain ⟨v0, v1, rfl⟩ := L2.ln2 hl; rfl
  have bM := DM.fn.binds (ps := ["_law_names_here", "_law_way_here", "_law_told_here"]) fun _ _ _ _ _ _ us hl => by obtain ⟨v0, v1, v2, rfl⟩ := L2.ln3 hl; rfl
  have bP := DP.fn.binds (ps := ["_law_names_here", "_law_row"]) fun _ _ _ _ _ _ us hl => by obtain ⟨v0, v1, rfl⟩ := L2.ln2 hl; rfl
  have bD := DD.fn.binds (ps := ["_law_names_here", "_law_way_here", "_law_rows_here", "_law_told_here"]) fun _ _ _ _ _ _ us hl => by obtain ⟨v0, v1, v2, v3, rfl⟩ := L2.ln4 hl; rfl
  have bS := DS.fn.binds (ps := ["move", "form", "olds"]) fun _ _ _ _ _ _ us hl => by obtain ⟨v0, v1, v2, rfl⟩ := L2.ln3 hl; rfl
  refine F.ok sc (fun vs H Q E h => ?_) (fun cdv A outer s H vs Q E hr h => ?_)
  · obtain ⟨a, ns, rfl, _⟩ := h
    rfl
  · obtain ⟨a, ns, rfl, ha, n63, hPF, hPW, nPP, q⟩ := h
    have u := u20 hr
    refine ⟨_, (pss_cons (ps_set (i := 1) sc.nd rfl (Or.inr rfl) (pe_call GN (hr.mono (by decide)) (by rfl) DN.mg DN.fn.kp bN .nil pass0 (pa_cons (pe_call GC (hr.mono (by decide)) (by rfl) DC.mg DC.fn.kp bC .nil pass0 (pa_cons (pv 0) (pa_cons pe_int pa_nil))) (pa_cons pe_int pa_nil))))
      (pss_cons (ps_set (i := 2) sc.nd rfl (Or.inl rfl) (pe_op op_mod (pe_call GC (hr.mono (by decide)) (by rfl) DC.mg DC.fn.kp bC .nil pass0 (pa_cons (pv 0) (pa_cons pe_int pa_nil))) pe_int))
      (pss_cons (ps_set (i := 3) sc.nd rfl (Or.inl rfl) (pe_call GT (hr.mono (by decide)) (by rfl) DT.mg DT.fn.kp bT .nil pass0 (pa_cons (pv 0) pa_nil)))
      (pss_cons (ps_set (i := 4) sc.nd rfl (Or.inl rfl) (pe_call GR (hr.mono (by decide)) (by rfl) DR.mg DR.fn.kp bR .nil pass0 (pa_cons (pv 0) (pa_cons (pv 2) pa_nil))))
      (pss_cons (ps_set (i := 5) sc.nd rfl (Or.inl rfl) (pe_tup (pa_cons pe_str pa_nil)))
      (pss_cons (ps_cut54 (ps_if (pt_cmpR op_eq (pv 2) pe_int (nomark _)) (pss_one (ps_set (i := 5) sc.nd rfl (Or.inl rfl) (pe_tup (pa_cons pe_str (pa_cons pe_int pa_nil))))) pss_nil))
      (pss_cons (ps_set (i := 6) sc.nd rfl (Or.inl rfl) (pe_tup (pa_cons pe_int (pa_cons (pe_tup (pa_cons (pe_tup (pa_cons (pe_ix ix_list (pv 1) pe_int (fun _ _ => rfl)) (pa_cons pe_str (pa_cons (pe_tupF (pa_cons (pe_tup (pa_cons (pe_ix ix_list (pv 1) pe_int (fun _ _ => rfl)) (pa_cons (pv 5) pa_nil))) (pa_cons (pe_tup (pa_cons (pe_ix ix_list (pv 1) pe_int (fun _ _ => rfl)) (pa_cons (pe_tup (pa_cons pe_str pa_nil)) pa_nil))) pa_nil))) pa_nil)))) pa_nil)) pa_nil))))
      (pss_cons (ps_set (i := 7) sc.nd rfl (Or.inl rfl) (pe_call GM (hr.mono (by decide)) (by rfl) DM.mg DM.fn.kp bM .nil pass0 (pa_cons (pv 1) (pa_cons (pv 2) (pa_cons (pv 3) pa_nil)))))
      (pss_cons (ps_comp (i := 8) (osc := defScope (top 67)) (N0 := lwN) (xs := ["_law_row"]) (fr := [1]) ⟨rfl, by decide +kernel, by decide +kernel, by decide +kernel, (fun j hj => by
              have e : j = 1 := by simpa using hj
              subst e
              exact ⟨_, rfl, by decide +kernel⟩), by decide +kernel⟩ rfl rfl rfl (pi_list (pv 4))
            (fun s H fp => pg_name (i := 0) (show (["_law_row", "_law_names_here"] : List Str).Nodup by decide +kernel) rfl (Or.inl rfl)) (fun s H fp => pif_nil)
            (fun s H fp => (pe_call GP (hr.mono (by decide)) (by rfl) DP.mg DP.fn.kp bP .nil pass0 (pa_cons (pv 1) (pa_cons (pv 0) pa_nil)))) sc.nd rfl (Or.inl rfl))
      (pss_cons (ps_set (i := 9) sc.nd rfl (Or.inl rfl) (pe_call GD (hr.mono (by decide)) (by rfl) DD.mg DD.fn.kp bD .nil pass0 (pa_cons (pv 1) (pa_cons (pv 2) (pa_cons (pv 4) (pa_cons (pv 3) pa_nil))))))
      (pss_cons (ps_set (i := 10) sc.nd rfl (Or.inl rfl) (pe_call GS (hr.mono (by decide)) (by rfl) DS.mg DS.fn.kp bS .nil pass0 (pa_cons (pv 7) (pa_cons (pv 6) (pa_cons (pv 8) pa_nil)))))
      (pss_cons (ps_if (PW.pt (pw_or (pt_cmpR (op_neF u) (pv 10) (pv 9) (nomark _)) (pw_or1 (pt_cmpR (op_neW u) (pv 8) (pe_comp (osc := defScope (top 67)) (N0 := lwN) (xs := ["_law_row"]) (fr := [1]) ⟨rfl, by decide +kernel, by decide +kernel, by decide +kernel, (fun j hj => by
              have e : j = 1 := by simpa using hj
              subst e
              exact ⟨_, rfl, by decide +kernel⟩), by decide +kernel⟩ rfl rfl rfl (pi_list (pv 4))
            (fun s H fp => pg_name (i := 0) (show (["_law_row", "_law_names_here"] : List Str).Nodup by decide +kernel) rfl (Or.inl rfl)) (fun s H fp => pif_nil)
            (fun s H fp => (pe_call GP (hr.mono (by decide)) (by rfl) DP.mg DP.fn.kp bP .nil pass0 (pa_cons (pv 1) (pa_cons (pv 0) pa_nil))))) (nomark _))))) pss_never pss_nil)
      (pss_cons (ps_cut54 (ps_if (pt_cmpR op_notN (pv 10) pe_non (nomark _)) (pss_one (ps_for PassesOwn.never rfl (pi_tup (pv 10)) (pg_name (i := 11) sc.nd rfl (Or.inl rfl)) (pss_one (ps_expr (pe_bm0 PySem.F.plainAttrs_dict PySem.F.slot_dict_clear PySem.F.type_dict_clear mt_dclear (pv 11)))))) pss_nil))
      (pss_one (ps_ret (pe_and (pe_cmpR (op_eqF u) (pe_call GS (hr.mono (by decide)) (by rfl) DS.mg DS.fn.kp bS .nil pass0 (pa_cons (pv 7) (pa_cons (pv 6) (pa_cons (pv 8) pa_nil)))) (pv 9) (nomark _)) (pe_one (pe_cmpR (op_eqW u) (pv 8) (pe_comp (osc := defScope (top 67)) (N0 := lwN) (xs := ["_law_row"]) (fr := [1]) ⟨rfl, by decide +kernel, by decide +kernel, by decide +kernel, (fun j hj => by
              have e : j = 1 := by simpa using hj
              subst e
              exact ⟨_, rfl, by decide +kernel⟩), by decide +kernel⟩ rfl rfl rfl (pi_list (pv 4))
            (fun s H fp => pg_name (i := 0) (show (["_law_row", "_law_names_here"] : List Str).Nodup by decide +kernel) rfl (Or.inl rfl)) (fun s H fp => pif_nil)
            (fun s H fp => (pe_call GP (hr.mono (by decide)) (by rfl) DP.mg DP.fn.kp bP .nil pass0 (pa_cons (pv 1) (pa_cons (pv 0) pa_nil))))) (nomark _))))))))))))))))))), ?_⟩
    refine ⟨_, rfl, a, ns, 0, rfl, ha, (by decide), _, 3, rfl, (by decide), (by decide), fun l zs H1 s1 hl hzl nd hz => ?_⟩
    obtain ⟨T, c1, c2, rfl⟩ : ∃ T c1 c2, zs = [T, c1, c2] := by
      match zs, hzl with
      | [T, c1, c2], _ => exact ⟨T, c1, c2, rfl⟩
    have hT := hz T (by simp)
    have h1 := hz c1 (by simp)
    have h2 := hz c2 (by simp)
    have ne : c1 ≠ c2 := by
      intro e
      rw [e] at nd
      simp at nd
    have hl1 : H1 l = some (.lst [.str T, .str c1, .str c2]) := cut_sub _ _ hl
    have ha1 := s1.seq ha
    refine ⟨_, rfl, a, ns, 1, rfl, ha1, (by decide), _, _, rfl, rfl, (pos rfl), ?_⟩
    have hw : ∃ wv : Int, wv = cel ns 1 % 3 := ⟨_, rfl⟩
    obtain ⟨wv, ew⟩ := hw
    dsimp only
    rw [← ew]
    refine ⟨_, rfl, a, ns, rfl, ha1, fun tl ts H2 s2 ht t0 t8 => ?_⟩
    have t8 : wv = 0 → ts.length = 8 := fun e => t8 (by omega)
    refine ⟨_, rfl, _, rfl, a, ns, wv, rfl, s2.seq ha1, fun lr ab H3 s3 hrw nda a8 => ?_⟩
    have hl3 := (s2.trans s3) _ _ hl1
    have ht3 := s3 _ _ ht
    have S3 := s1.trans (s2.trans s3)
    refine ⟨(by show 1 ≤ sizeLine; decide), fun kw hkw => ?_⟩
    have T4 := Same.upd (o := .tup [V.str "whole"]) hkw
    refine ⟨fun σ' H' => ∃ kx, σ' = [some (.ref a), some (.ref l), some (.int wv), some (.ref tl), some (.ref lr), some (.ref kx), none, none, none, none, none, none] ∧ Same H3 H' ∧ KdH H' kx (kW wv), ?_, ?_⟩
    · refine ⟨_, rfl, rfl, _, rfl, ?_⟩
      unfold kW
      by_cases h0 : wv = 0
      · refine iteB (decide_eq_true (by rw [h0])) ⟨(by show 2 ≤ sizeLine; decide), fun kx hkx => ?_⟩
        rw [if_pos h0]
        exact ⟨kx, rfl, T4.trans (Same.upd hkx), upd_same, (by decide : (1 : Int) ≤ 8)⟩
      · refine iteC (decide_eq_false fun e => h0 (by injection e)) ?_
        rw [if_neg h0]
        exact ⟨kw, rfl, T4, upd_same, trivial⟩
    rintro σ' H5 ⟨kx, rfl, s5, hkx⟩
    clear T4
    have hl5 := s5 _ _ hl3
    -- the form
    refine ⟨_, rfl, l, _, 0, _, rfl, rfl, SqL.of hl5, rfl, _, rfl, l, _, 1, _, rfl, rfl, SqL.of hl5, rfl, _, rfl, (by show 2 ≤ sizeLine; decide), fun p1 hp1 => ?_⟩
    have T1 := Same.upd (o := .tup [V.str c1, .ref kx]) hp1
    refine ⟨_, rfl, l, _, 2, _, rfl, rfl, SqL.of (T1 _ _ hl5), rfl, (by show 1 ≤ sizeLine; decide), fun k2 hk2 => ?_⟩
    have T2 := Same.upd (o := .tup [V.str "whole"]) hk2
    refine ⟨(by show 2 ≤ sizeLine; decide), fun p2 hp2 => ?_⟩
    have T3 := Same.upd (o := .tup [V.str c2, .ref k2]) hp2
    refine ⟨(by show 2 ≤ sizeLine; decide), fun ct o hct ho => ?_⟩
    have T4 := Same.upd (o := .frz o (.tup [V.ref p1, .ref p2])) hct
    refine ⟨(by show 3 ≤ sizeLine; decide), fun e he => ?_⟩
    have T5 := Same.upd (o := .tup [V.str T, .str "head", .ref ct]) he
    refine ⟨(by show 1 ≤ sizeLine; decide), fun tt htt => ?_⟩
    have T6 := Same.upd (o := .tup [V.ref e]) htt
    refine ⟨(by show 2 ≤ sizeLine; decide), fun fm hfm => ?_⟩
    have T7 := Same.upd (o := .tup [V.int 3, .ref tt]) hfm
    have X6 := T6.trans T7
    have X5 := T5.trans X6
    have X4 := T4.trans X5
    have X3 := T3.trans X4
    have X2 := T2.trans X3
    have X1 := T1.trans X2
    have fo0 := (⟨kx, k2, ⟨tt, e, upd_same, T7 _ _ upd_same, ct, X6 _ _ upd_same, o, [p1, p2], ho, X5 _ _ upd_same, rfl, fun j p c e1 e2 => by
      match j, e1, e2 with
      | 0, e1, e2 => cases e1; cases e2; exact X2 _ _ upd_same
      | 1, e1, e2 => cases e1; cases e2; exact X4 _ _ upd_same⟩, hkx.nt (.of X1), ⟨X3 _ _ upd_same, trivial⟩⟩ : FoA (kW wv) (dOf T c1 c2 ts) _ fm)
    generalize upd (upd (upd (upd (upd (upd (upd H5 p1 (.tup [V.str c1, .ref kx])) k2 (.tup [V.str "whole"])) p2 (.tup [V.str c2, .ref k2])) ct (.frz o (.tup [V.ref p1, .ref p2]))) e (.tup [V.str T, .str "head", .ref ct])) tt (.tup [V.ref e])) fm (.tup [V.int 3, .ref tt]) = H6 at *
    clear T2 T3 T4 T5 T6 T7 X6 X5 X4 X3 X2
    have S36 := s5.trans X1
    have hl6 : NmsAt H6 l T c1 c2 := S36 _ _ hl3
    have ht6 := S36 _ _ ht3
    have S6 := S3.trans S36
    have tW : TabOk PY wPos qW H6 := .inl (S6 _ _ hPW)
    have tF : TabOk PF foPos foQ H6 := .inl (S6 _ _ hPF)
    have hrw6 := hrw.nt (.of S36)
    have ok : (dOf T c1 c2 ts).Ok := ⟨hT, h1, h2, ne, t0⟩
    -- the move
    refine ⟨_, rfl, _, rfl, _, rfl, l, tl, wv, T, c1, c2, ts, rfl, hl6, ht6, t0, tW, fun mv H7 fr7 tW7 hmv => ?_⟩
    have N7 : Ntb H6 H7 := fr7.nt tW
    have tF7 := tF.fr fr7 nPP tW.tbl
    have hl7 : NmsAt H7 l T c1 c2 := N7 _ _ hl6 (fun _ h => by cases h)
    obtain ⟨rs, hrs, rl, hrr⟩ := hrw6.nt N7
    -- the old pieces
    refine ⟨_, rfl, lr, rfl, ⟨_, SqL.of hrs⟩, fun lo hlo => pcs_ok hl7 ne hrs rl hrr a8 hlo fun H8 s8 ol => ⟨⟨_, SqL.of (s8 _ _ hrs), by rw [List.length_map]; exact Nat.le_refl _⟩, ?_⟩⟩
    have ht8 := s8 _ _ (N7 _ _ ht6 (fun _ h => by cases h))
    refine ⟨_, rfl, _, rfl, _, rfl, _, rfl, l, lr, tl, wv, T, c1, c2, ab, ts, rfl, s8 _ _ hl7, ne, ⟨rs, s8 _ _ hrs, rl, fun j r p x y => s8 _ _ (hrr j r p x y)⟩, a8, ht8, t0, t8, fun dv cd G s9 hls hdv => ?_⟩
    have NG := N7.trans (.of (s8.trans s9))
    have hmv : mvW wv CT pm CC CD CP (dOf T c1 c2 ts) G mv := mvW_nt hmv (.of (s8.trans s9))
    have fo : FoA (kW wv) (dOf T c1 c2 ts) G fm := FoA.nt fo0 NG
    have tF9 := tF7.same (s8.trans s9)
    have ol : OlA G lo T (ab.map fun p => [(c1, p.1), (c2, p.2)]) := ol.nt (.of s9)
    have hlG : NmsAt G l T c1 c2 := (s8.trans s9) _ _ hl7
    have hrsG := (s8.trans s9) _ _ hrs
    have hrrG : ∀ (j : Nat) (r : Addr) (p : Int × Int), rs[j]? = some r → ab[j]? = some p → G r = some (.lst [.int p.1, .int p.2]) := fun j r p x y => (s8.trans s9) _ _ (hrr j r p x y)
    -- shown
    refine ⟨_, rfl, _, rfl, _, rfl, wv, mv, fm, lo, dOf T c1 c2 ts, ab, rfl, hmv, fo, ok, tF9, ol, by omega, nda, wgt_gn, fun v c H10 fr10 tF10 hls' hv => ?_⟩
    obtain rfl := hls.uniq hls'
    have N10 : Ntb G H10 := fr10.nt tF9
    refine ⟨_, rfl, _, rfl, ?_⟩
    have hdv10 := hdv.nt N10
    have hrs10 := N10 _ _ hrsG (fun _ h => by cases h)
    refine ne_of hls hv hdv10 ⟨_, rfl, iteF ?_⟩
    refine ⟨_, rfl, _, rfl, lr, rfl, ⟨_, SqL.of hrs10⟩, fun lq hlq => pcs_ok (N10 _ _ hlG (fun _ h => by cases h)) ne hrs10 rl (fun j r p x y => N10 _ _ (hrrG j r p x y) (fun _ h => by cases h)) a8 hlq fun H11 s11 oq => ⟨⟨_, SqL.of (s11 _ _ hrs10), by rw [List.length_map]; exact Nat.le_refl _⟩, ?_⟩⟩
    have N11 := N10.trans (.of s11)
    have od := (ol.nt N11).dw
    refine ⟨4, lo, lq, _, _, true, rfl, rfl, od, oq.dw, od.refl, (by decide), _, rfl, iteF ?_⟩
    have tF11 := tF10.same s11
    -- cleared
    refine ⟨fun σ' H' => (∃ u11, σ' = [some (.ref a), some (.ref l), some (.int wv), some (.ref tl), some (.ref lr), some (.ref kx), some (.ref fm), some (.ref mv), some (.ref lo), some dv, some v, u11]) ∧ KG G H11 H', ?_, ?_⟩
    · rcases hls.cases with rfl | ⟨pe, pl, rfl⟩
      · obtain rfl : v = .non := by cases hv; rfl
        exact ⟨_, rfl, rfl, _, rfl, iteC rfl ⟨⟨_, rfl⟩, fun b o _ e => e⟩⟩
      · obtain ⟨r, vs, rfl, hr0, hps⟩ := trD_of hv
        refine ⟨_, rfl, rfl, _, rfl, iteB rfl ?_⟩
        refine ⟨_, rfl, r, rfl, ⟨_, SqT.of (s11 _ _ hr0)⟩, for_tup (K := K) (a := r) (xs := vs) (fun i σ H' => KG G H11 H' ∧ H' r = some (.tup vs) ∧ (∀ v ∈ vs, ∃ (p : Addr) (kvs : List (Key × V)), v = .ref p ∧ G p = none ∧ H' p = some (.dK kvs)) ∧ ∃ u11, σ = [some (.ref a), some (.ref l), some (.int wv), some (.ref tl), some (.ref lr), some (.ref kx), some (.ref fm), some (.ref mv), some (.ref lo), some dv, some (.ref r), u11]) ⟨fun b o _ e => e, s11 _ _ hr0, (fun x hx => let ⟨p, kvs, e1, e2, e3⟩ := hps x hx; ⟨p, kvs, e1, e2, s11 _ _ e3⟩), _, rfl⟩ (fun i σ H' _ p => SqT.of p.2.1) ?_ ?_⟩
        · rintro i x σ H' hx' ⟨kg, er, ed, u11, rfl⟩
          obtain ⟨p, kvs, rfl, gp, ep⟩ := ed x (List.mem_of_getElem? hx')
          refine ⟨_, rfl, .inr (.inr (.inl ⟨rfl, .inl ⟨_, ep⟩⟩)), p, _, rfl, rfl, ep, ?_⟩
          refine ⟨fun b o hb e => ?_, ?_, fun v hv => ?_, _, rfl⟩
          · have e' := kg b o hb e
            rw [upd_ne (fun z => by
              rcases hb with hb | hb
              · exact hb (by rw [z]; exact gp)
              · rw [z, ep] at e'
                cases e'
                cases hb)]
            exact e'
          · rw [upd_ne (fun z => by rw [z, ep] at er; cases er)]
            exact er
          · obtain ⟨p', kvs', e1, g1, e2⟩ := ed v hv
            by_cases hpp : p' = p
            · exact ⟨p', [], e1, g1, by rw [hpp]; exact upd_same⟩
            · exact ⟨p', kvs', e1, g1, by rw [upd_ne hpp]; exact e2⟩
        · rintro σ H' ⟨kg, er, ed, u11, rfl⟩
          exact ⟨⟨_, rfl⟩, kg⟩
    rintro σ' H12 ⟨⟨u11, rfl⟩, kg⟩
    have N12 : Ntb G H12 := kg.nt N11
    have tF12 := kg.tab tF11
    refine ⟨_, rfl, _, rfl, _, rfl, wv, mv, fm, lo, dOf T c1 c2 ts, ab, rfl, mvW_nt hmv N12, FoA.nt fo N12, ok, tF12, ol.nt N12, by omega, nda, wgt_gn, fun v2 c2' H13 fr13 tF13 hls2 hv2 => ?_⟩
    obtain rfl := hls.uniq hls2
    have N13 := N12.trans (fr13.nt tF12)
    have hrs13 := N13 _ _ hrsG (fun _ h => by cases h)
    refine ⟨_, rfl, eq_of hls hv2 (hdv.nt N13) ⟨_, rfl, iteT ?_⟩⟩
    refine ⟨_, rfl, _, rfl, lr, rfl, ⟨_, SqL.of hrs13⟩, fun lq hlq => pcs_ok (N13 _ _ hlG (fun _ h => by cases h)) ne hrs13 rl (fun j r p x y => N13 _ _ (hrrG j r p x y) (fun _ h => by cases h)) a8 hlq fun H14 s14 oq => ⟨⟨_, SqL.of (s14 _ _ hrs13), by rw [List.length_map]; exact Nat.le_refl _⟩, ?_⟩⟩
    have od := (ol.nt (N13.trans (.of s14))).dw
    exact ⟨4, lo, lq, _, _, true, rfl, rfl, od, oq.dw, od.refl, (by decide), q _⟩
end
end My

namespace L2
open PySem PySem.Spec PyProof.Rows
/-- a method of a class, as the top has made it -/
def MethIn (K : PySem.W.Frag) (C : Addr) (m qual : Str) (st : Stmt) : Prop := ∃ f fd, Fun K m qual st f fd ∧ Meth K C m f
theorem methIn_mk {K : PySem.W.Frag} {C f : Addr} {m qual : Str} {st : Stmt} {oc : Value} {od an : Option Addr} {osl : Array (Option Value)} {kV doc pm cdv ct : Value} (a : PySem.W.findIn K (.ref C) m = some (some (.ref f))) (i : PySem.W.isFn K (.ref f) = true)
    (l : K.lookup f = some ⟨oc, od, .func (PySem.W.fnOf m qual (defArgs st) (defBody st) (defScope st) .none kV doc pm an cdv ct), osl⟩) (c : PySem.W.codeIn K cdv qual = true) (k : PySem.W.keepIn K (.ref f) = true) : MethIn K C m qual st :=
  ⟨f, _, fun_mk l c k, ⟨a, i, k⟩⟩
/-- a def of the text that makes functions: its code object and that one's table are known -/
def DefInC (K : PySem.W.Frag) (x : Str) (st : Stmt) (P : Addr) : Prop := ∃ (f c : Addr) (oc : Value) (od : Option Addr) (kV doc pm : Value) (an : Option Addr) (ct : Value) (osl : Array (Option Value)),
  PySem.W.nsIn K mainGlobals x = some (some (.ref f)) ∧ K.lookup f = some ⟨oc, od, .func (PySem.W.fnOf x x (defArgs st) (defBody st) (defScope st) .none kV doc pm an (.ref c) ct), osl⟩ ∧ PySem.W.codeIn K (.ref c) x = true ∧ PySem.W.keepIn K (.ref f) = true ∧ PySem.W.codeHdIn K c P = true ∧ K.lookup P = none
theorem defInC_mk {K : PySem.W.Frag} {x : Str} {st : Stmt} {P f c : Addr} {oc : Value} {od an : Option Addr} {osl : Array (Option Value)} {kV doc pm ct : Value} (a : PySem.W.nsIn K mainGlobals x = some (some (.ref f)))
    (l : K.lookup f = some ⟨oc, od, .func (PySem.W.fnOf x x (defArgs st) (defBody st) (defScope st) .none kV doc pm an (.ref c) ct), osl⟩) (cd : PySem.W.codeIn K (.ref c) x = true) (k : PySem.W.keepIn K (.ref f) = true) (t : PySem.W.codeHdIn K c P = true) (n : K.lookup P = none) : DefInC K x st P :=
  ⟨f, c, oc, od, kV, doc, pm, an, ct, osl, a, l, cd, k, t, n⟩
theorem DefInC.get {K : PySem.W.Frag} {h : Heap} {mg : Str → Option Value} {x : Str} {st : Stmt} {P : Addr} (d : DefInC K x st P) (X : K.In h) (G : h.Ns mainGlobals mg) : ∃ f fd c, FunC K x x st f fd c ∧ mg x = some (.ref f) ∧ PySem.W.codeHdIn K c P = true := by
  obtain ⟨f, c, oc, od, kV, doc, pm, an, ct, osl, a, l, cd, k, t, n⟩ := d
  exact ⟨f, _, c, ⟨⟨oc, od, kV, doc, pm, an, ct, osl, rfl, l, cd⟩, k⟩, PySem.W.mg_of X G a, t⟩
theorem DefInC.tab {K : PySem.W.Frag} {x : Str} {st : Stmt} {P : Addr} (d : DefInC K x st P) : (∃ c, PySem.W.codeHdIn K c P = true) ∧ K.lookup P = none := by
  obtain ⟨f, c, oc, od, kV, doc, pm, an, ct, osl, a, l, cd, k, t, n⟩ := d
  exact ⟨⟨c, t⟩, n⟩
theorem FnOk.to {P : Program} {w : World} {K : PySem.W.Frag} {mg : Str → Option Value} {base : Heap} {k k' : Nat} {f : Addr} {fd : FuncData} {ps : List Str} {sp sp' : Sp} (F : FnOk P w K mg base CX0 k f fd ps sp) (hk : k ≤ k') (h : ∀ vs H Q E, sp' vs H Q E → sp vs H Q E) : FnOk P w K mg base CX0 k' f fd ps sp' :=
  ⟨fun vs H Q E z => F.len vs H Q E (h _ _ _ _ z), fun A outer s H args us vs Q E hr e b r z => F.run A outer s H args us vs Q E (hr.mono hk) e b r (h _ _ _ _ z)⟩
end L2
namespace My
open PySem L2
theorem non_lft {Mv : MvP} (vs : List V) (H : Hp) (Q : VK) (E : XK) (h : spLft Mv vs H Q E) : spNon4 vs H Q E := let ⟨x, y, z, r, d, e, _, q⟩ := h; ⟨.ref x, y, z, r, e, q⟩
theorem all_mk {l : PySem.W.OpenLaw} {w : World} {K : PySem.W.Frag} {h : Heap} {mg : Str → Option Value} {fa CT CC CP CD wA fA fB fE fO PF PY : Addr} {tk tL tN tM tw : Tok} {nK : Nat} {ocA dVA kVA docA pmA cdA ctA ocB dVB kVB docB pmB cdB ctB ocE dVE kVE docE pmE cdE ctE ocO dVO kVO docO pmO cdO ctO : Value} {odA anA odB anB odE anE odO anO odW : Option Addr} {slA slB slE slO slW : Array (Option Value)} (X : K.In h) (G : h.Ns mainGlobals mg) (hfa : mg "law" = some (.ref fa))
    (dF : DefInC K "form_of" (top 23) PF) (dL : DefInC K "_law_way" (top 60) PY)
    (gL : PySem.W.nsIn K mainGlobals "LETTERS" = some (some (.str "abcdefghijklmnopqrstuvwxyz" tL)))
    (gN : PySem.W.nsIn K mainGlobals "LONGEST_NAME" = some (some (.int 8 tN)))
    (gM : PySem.W.nsIn K mainGlobals "MOST_PIECES" = some (some (.int 60 tM)))
    (gW : PySem.W.nsIn K mainGlobals "WHOLE" = some (some (.ref wA)))
    (lW : K.lookup wA = some ⟨.type "tuple", odW, .seq #[.str "whole" tw] nK, slW⟩)
    (aMT : PySem.W.nsIn K mainGlobals "Turn" = some (some (.ref CT)))
    (pgT : PySem.W.plainGet K CT Str.empty = true)
    (hdT : PySem.W.hasDictIn K CT = true)
    (poT : PySem.W.plainOver K CT = true)
    (psaT : PySem.W.findIn K (.ref CT) "__setattr__" = some (some (.builtin "object.__setattr__")))
    (mkT : PySem.W.makesIn K CT = true)
    (kcT : PySem.W.keepIn K (.ref CT) = true)
    (nT0 : PySem.W.findIn K (.ref CT) "table" = some none)
    (nT1 : PySem.W.findIn K (.ref CT) "column" = some none)
    (nT2 : PySem.W.findIn K (.ref CT) "old" = some none)
    (nT3 : PySem.W.findIn K (.ref CT) "new" = some none)
    (nT4 : PySem.W.findIn K (.ref CT) "way_forth" = some none)
    (nT5 : PySem.W.findIn K (.ref CT) "way_back" = some none)
    (aMC : PySem.W.nsIn K mainGlobals "Cap" = some (some (.ref CC)))
    (pgC : PySem.W.plainGet K CC Str.empty = true)
    (hdC : PySem.W.hasDictIn K CC = true)
    (poC : PySem.W.plainOver K CC = true)
    (psaC : PySem.W.findIn K (.ref CC) "__setattr__" = some (some (.builtin "object.__setattr__")))
    (mkC : PySem.W.makesIn K CC = true)
    (kcC : PySem.W.keepIn K (.ref CC) = true)
    (nC0 : PySem.W.findIn K (.ref CC) "table" = some none)
    (nC1 : PySem.W.findIn K (.ref CC) "column" = some none)
    (nC2 : PySem.W.findIn K (.ref CC) "top" = some none)
    (nC3 : PySem.W.findIn K (.ref CC) "told" = some none)
    (aMP : PySem.W.nsIn K mainGlobals "Put" = some (some (.ref CP)))
    (pgP : PySem.W.plainGet K CP Str.empty = true)
    (hdP : PySem.W.hasDictIn K CP = true)
    (poP : PySem.W.plainOver K CP = true)
    (psaP : PySem.W.findIn K (.ref CP) "__setattr__" = some (some (.builtin "object.__setattr__")))
    (mkP : PySem.W.makesIn K CP = true)
    (kcP : PySem.W.keepIn K (.ref CP) = true)
    (nP0 : PySem.W.findIn K (.ref CP) "table" = some none)
    (nP1 : PySem.W.findIn K (.ref CP) "column" = some none)
    (nP2 : PySem.W.findIn K (.ref CP) "kind" = some none)
    (nP3 : PySem.W.findIn K (.ref CP) "value" = some none)
    (nP4 : PySem.W.findIn K (.ref CP) "told" = some none)
    (aMD : PySem.W.nsIn K mainGlobals "Turned" = some (some (.ref CD)))
    (pgD : PySem.W.plainGet K CD Str.empty = true)
    (hdD : PySem.W.hasDictIn K CD = true)
    (poD : PySem.W.plainOver K CD = true)
    (psaD : PySem.W.findIn K (.ref CD) "__setattr__" = some (some (.builtin "object.__setattr__")))
    (mkD : PySem.W.makesIn K CD = true)
    (kcD : PySem.W.keepIn K (.ref CD) = true)
    (nD0 : PySem.W.findIn K (.ref CD) "move" = some none)
    (iAT : PySem.W.findIn K (.ref CT) "left" = some (some (.ref fA)))
    (iAC : PySem.W.findIn K (.ref CC) "left" = some (some (.ref fA)))
    (jA : PySem.W.isFn K (.ref fA) = true)
    (lA : K.lookup fA = some ⟨ocA, odA, .func (PySem.W.fnOf "left" "Move.left" (defArgs (inClass (top 35) 4)) (defBody (inClass (top 35) 4)) (defScope (inClass (top 35) 4)) dVA kVA docA pmA anA cdA ctA), slA⟩)
    (cA : PySem.W.codeIn K cdA "Move.left" = true)
    (kA : PySem.W.keepIn K (.ref fA) = true)
    (qA : ∀ (u v x : Value) (S : Setting), PySem.W.peek K S (bindArgs (PySem.W.fnOf "left" "Move.left" (defArgs (inClass (top 35) 4)) (defBody (inClass (top 35) 4)) (defScope (inClass (top 35) 4)) dVA kVA docA pmA anA cdA ctA) ⟨[u, v, x], []⟩) = some ([("self", u), ("form", v), ("piece", x), ("rest", .none)] : List (Str × Value)))
    (iBP : PySem.W.findIn K (.ref CP) "right" = some (some (.ref fB)))
    (jB : PySem.W.isFn K (.ref fB) = true)
    (lB : K.lookup fB = some ⟨ocB, odB, .func (PySem.W.fnOf "right" "Move.right" (defArgs (inClass (top 35) 5)) (defBody (inClass (top 35) 5)) (defScope (inClass (top 35) 5)) dVB kVB docB pmB anB cdB ctB), slB⟩)
    (cB : PySem.W.codeIn K cdB "Move.right" = true)
    (kB : PySem.W.keepIn K (.ref fB) = true)
    (pB : ∀ (u v x y : Value) (S : Setting), PySem.W.peek K S (bindArgs (PySem.W.fnOf "right" "Move.right" (defArgs (inClass (top 35) 5)) (defBody (inClass (top 35) 5)) (defScope (inClass (top 35) 5)) dVB kVB docB pmB anB cdB ctB) ⟨[u, v, x, y], []⟩) = some ([("self", u), ("form", v), ("piece", x), ("rest", y)] : List (Str × Value)))
    (iED : PySem.W.findIn K (.ref CD) "left" = some (some (.ref fE)))
    (jE : PySem.W.isFn K (.ref fE) = true)
    (lE : K.lookup fE = some ⟨ocE, odE, .func (PySem.W.fnOf "left" "Turned.left" (defArgs (td 5)) (defBody (td 5)) (defScope (td 5)) dVE kVE docE pmE anE cdE ctE), slE⟩)
    (cE : PySem.W.codeIn K cdE "Turned.left" = true)
    (kE : PySem.W.keepIn K (.ref fE) = true)
    (qE : ∀ (u v x : Value) (S : Setting), PySem.W.peek K S (bindArgs (PySem.W.fnOf "left" "Turned.left" (defArgs (td 5)) (defBody (td 5)) (defScope (td 5)) dVE kVE docE pmE anE cdE ctE) ⟨[u, v, x], []⟩) = some ([("self", u), ("form", v), ("piece", x), ("rest", .none)] : List (Str × Value)))
    (iO : PySem.W.nsIn K mainGlobals "owned" = some (some (.ref fO)))
    (lO : K.lookup fO = some ⟨ocO, odO, .func (PySem.W.fnOf "owned" "owned" (defArgs (top 46)) (defBody (top 46)) (defScope (top 46)) dVO kVO docO pmO anO cdO ctO), slO⟩)
    (cO : PySem.W.codeIn K cdO "owned" = true)
    (kO : PySem.W.keepIn K (.ref fO) = true)
    (pO : ∀ (u v : Value) (S : Setting), PySem.W.peek K S (bindArgs (PySem.W.fnOf "owned" "owned" (defArgs (top 46)) (defBody (top 46)) (defScope (top 46)) dVO kVO docO pmO anO cdO ctO) ⟨[u, v], []⟩) = some ([("thing", u), ("depth", v)] : List (Str × Value)))
    (qO : ∀ (u : Value) (S : Setting), PySem.W.peek K S (bindArgs (PySem.W.fnOf "owned" "owned" (defArgs (top 46)) (defBody (top 46)) (defScope (top 46)) dVO kVO docO pmO anO cdO ctO) ⟨[u], []⟩) = some ([("thing", u), ("depth", .int 20 tk)] : List (Str × Value)))
    (hT0 : MethIn K CT "__init__" "Turn.__init__" (tu 0))
    (hT1 : MethIn K CT "after" "Turn.after" (tu 1))
    (hT3 : MethIn K CT "forth" "Turn.forth" (tu 3))
    (hC0 : MethIn K CC "__init__" "Cap.__init__" (ca 0))
    (hC1 : MethIn K CC "after" "Cap.after" (ca 1))
    (hC3 : MethIn K CC "forth" "Cap.forth" (ca 3))
    (hP0 : MethIn K CP "__init__" "Put.__init__" (pu 0))
    (hP2 : MethIn K CP "before" "Put.before" (pu 2))
    (hP3 : MethIn K CP "is_sound" "Put.is_sound" (pu 3))
    (hP5 : MethIn K CP "back" "Put.back" (pu 5))
    (hD0 : MethIn K CD "__init__" "Turned.__init__" (td 0))
    (hD1 : MethIn K CD "after" "Turned.after" (td 1))
    (hD3 : MethIn K CD "forth" "Turned.forth" (td 3))
    (d12 : DefIn K "is_whole" (top 12))
    (d13 : DefIn K "is_name" (top 13))
    (d15 : DefIn K "is_plain" (top 15))
    (d16 : DefIn K "is_plain_pair" (top 16))
    (d17 : DefIn K "is_kind" (top 17))
    (d18 : DefIn K "fits" (top 18))
    (d20 : DefIn K "fits_plain" (top 20))
    (d24 : DefIn K "ask_sorts" (top 24))
    (d25 : DefIn K "ask_names" (top 25))
    (d26 : DefIn K "columns_made" (top 26))
    (d27 : DefIn K "tables_of" (top 27))
    (d28 : DefIn K "columns_of" (top 28))
    (d29 : DefIn K "table_in" (top 29))
    (d30 : DefIn K "parts_of" (top 30))
    (d31 : DefIn K "with_columns" (top 31))
    (d32 : DefIn K "copied" (top 32))
    (d38 : DefIn K "ask_fit" (top 38))
    (d39 : DefIn K "columns_in" (top 39))
    (d40 : DefIn K "with_kind" (top 40))
    (d41 : DefIn K "with_rows" (top 41))
    (d42 : DefIn K "with_values" (top 42))
    (d43 : DefIn K "values_in" (top 43))
    (d44 : DefIn K "without_column" (top 44))
    (d49 : DefIn K "show_lost" (top 49))
    (d50 : DefIn K "ask_few" (top 50))
    (d51 : DefIn K "led_forth" (top 51))
    (d56 : DefIn K "led_along" (top 56))
    (d58 : DefIn K "_law_cell" (top 58))
    (d59 : DefIn K "_law_names" (top 59))
    (d61 : DefIn K "_law_rows" (top 61))
    (d62 : DefIn K "_law_new" (top 62))
    (d63 : DefIn K "_law_told" (top 63))
    (d64 : DefIn K "_law_move" (top 64))
    (d65 : DefIn K "_law_piece" (top 65))
    (d66 : DefIn K "_law_due" (top 66))
    (d67 : DefIn K "law" (top 67))
    (zb : BlK K) (zz : PySem.W.nsIn K mainGlobals "zip" = some none) (zm : PySem.W.nsIn K mainGlobals "min" = some none) :
    ∃ fd : FuncData, (∀ (s : Shared) (v : Value), BindsTo s fd ⟨[v], []⟩ [("_law_script", v)]) ∧ ∀ base : Heap, K.In base → base.Ns mainGlobals mg → L2.BMain base mg → FnOk l.prog w K mg base CX0 11 fa fd ["_law_script"] (spLw K PF PY) := by
  have B : Bl mg := zb.bl X G
  have hz : mg "zip" = none := PySem.W.mg_none_of X G zz
  have hM : mg "min" = none := PySem.W.mg_none_of X G zm
  have mL := PySem.W.mg_of X G gL
  have mN := PySem.W.mg_of X G gN
  have mM := PySem.W.mg_of X G gM
  have L4 := funX_mk (st := inClass (top 35) 4) lA cA kA
  have LR := funX_mk (st := inClass (top 35) 5) lB cB kB
  have L5 := funX_mk (st := td 5) lE cE kE
  have LO := funX_mk (st := top 46) lO cO kO
  have mO : mg "owned" = some (.ref fO) := PySem.W.mg_of X G iO
  have mW : mg "WHOLE" = some (.ref wA) := PySem.W.mg_of X G gW
  have qW : ∀ H, SqT K H wA [.str "whole"] := fun H => .inr ⟨_, _, _, lW, rfl, rfl, (by show 1 ≤ sizeLine; decide), .cons ⟨tw, rfl⟩ .nil⟩
  have bA1 : Binds K (PySem.W.fnOf "left" "Move.left" (defArgs (inClass (top 35) 4)) (defBody (inClass (top 35) 4)) (defScope (inClass (top 35) 4)) dVA kVA docA pmA anA cdA ctA) ["self", "form", "piece", "rest"] [.none] := fun s us kin hl => by
    have h1 : us.length = 3 := by simpa using hl
    match us, h1 with
    | [u, v, x], _ => exact PySem.W.kp_binds kin (qA u v x)
  have bE1 : Binds K (PySem.W.fnOf "left" "Turned.left" (defArgs (td 5)) (defBody (td 5)) (defScope (td 5)) dVE kVE docE pmE anE cdE ctE) ["self", "form", "piece", "rest"] [.none] := fun s us kin hl => by
    have h1 : us.length = 3 := by simpa using hl
    match us, h1 with
    | [u, v, x], _ => exact PySem.W.kp_binds kin (qE u v x)
  have bB0 : Binds K (PySem.W.fnOf "right" "Move.right" (defArgs (inClass (top 35) 5)) (defBody (inClass (top 35) 5)) (defScope (inClass (top 35) 5)) dVB kVB docB pmB anB cdB ctB) ["self", "form", "piece", "rest"] [] := fun s us kin hl => by
    have h1 : us.length = 4 := by simpa using hl
    match us, h1 with
    | [u, v, x, y], _ => exact PySem.W.kp_binds kin (pB u v x y)
  have bO0 : Binds K (PySem.W.fnOf "owned" "owned" (defArgs (top 46)) (defBody (top 46)) (defScope (top 46)) dVO kVO docO pmO anO cdO ctO) ["thing", "depth"] [] := fun s us kin hl => by
    have h1 : us.length = 2 := by simpa using hl
    match us, h1 with
    | [u, v], _ => exact PySem.W.kp_binds kin (pO u v)
  have bO1 : Binds K (PySem.W.fnOf "owned" "owned" (defArgs (top 46)) (defBody (top 46)) (defScope (top 46)) dVO kVO docO pmO anO cdO ctO) ["thing", "depth"] [.int 20 tk] := fun s us kin hl => by
    have h1 : us.length = 1 := by simpa using hl
    match us, h1 with
    | [u], _ => exact PySem.W.kp_binds kin (qO u)
  have MLT : Meth K CT "left" fA := ⟨iAT, jA, kA⟩
  have MLC : Meth K CC "left" fA := ⟨iAC, jA, kA⟩
  have MLD : Meth K CD "left" fE := ⟨iED, jE, kE⟩
  have MRP : Meth K CP "right" fB := ⟨iBP, jB, kB⟩
  have LT : ClT K CT := ⟨⟨pgT, hdT, poT, psaT⟩, nT0, nT1, nT2, nT3, nT4, nT5⟩
  have LC : ClC K CC := ⟨⟨pgC, hdC, poC, psaC⟩, nC0, nC1, nC2, nC3⟩
  have LP : ClP K CP := ⟨⟨pgP, hdP, poP, psaP⟩, nP0, nP1, nP2, nP3, nP4⟩
  have LD : ClD K CD := ⟨⟨pgD, hdD, poD, psaD⟩, nD0⟩
  obtain ⟨gT0, gdT0, FT0, MT0⟩ := hT0
  obtain ⟨gT1, gdT1, FT1, MT1⟩ := hT1
  obtain ⟨gT3, gdT3, FT3, MT3⟩ := hT3
  obtain ⟨gC0, gdC0, FC0, MC0⟩ := hC0
  obtain ⟨gC1, gdC1, FC1, MC1⟩ := hC1
  obtain ⟨gC3, gdC3, FC3, MC3⟩ := hC3
  obtain ⟨gP0, gdP0, FP0, MP0⟩ := hP0
  obtain ⟨gP2, gdP2, FP2, MP2⟩ := hP2
  obtain ⟨gP3, gdP3, FP3, MP3⟩ := hP3
  obtain ⟨gP5, gdP5, FP5, MP5⟩ := hP5
  obtain ⟨gD0, gdD0, FD0, MD0⟩ := hD0
  obtain ⟨gD1, gdD1, FD1, MD1⟩ := hD1
  obtain ⟨gD3, gdD3, FD3, MD3⟩ := hD3
  have bT1 := FT1.binds (ps := ["self", "form"]) fun _ _ _ _ _ _ us hl => by obtain ⟨v0, v1, rfl⟩ := L2.ln2 hl; rfl
  have bT3 := FT3.binds (ps := ["self", "form", "piece", "rest"]) fun _ _ _ _ _ _ us hl => by obtain ⟨v0, v1, v2, v3, rfl⟩ := L2.ln4 hl; rfl
  have bC1 := FC1.binds (ps := ["self", "form"]) fun _ _ _ _ _ _ us hl => by obtain ⟨v0, v1, rfl⟩ := L2.ln2 hl; rfl
  have bC3 := FC3.binds (ps := ["self", "form", "piece", "rest"]) fun _ _ _ _ _ _ us hl => by obtain ⟨v0, v1, v2, v3, rfl⟩ := L2.ln4 hl; rfl
  have bD1 := FD1.binds (ps := ["self", "form"]) fun _ _ _ _ _ _ us hl => by obtain ⟨v0, v1, rfl⟩ := L2.ln2 hl; rfl
  have bD3 := FD3.binds (ps := ["self", "form", "piece", "rest"]) fun _ _ _ _ _ _ us hl => by obtain ⟨v0, v1, v2, v3, rfl⟩ := L2.ln4 hl; rfl
  have bP2 := FP2.binds (ps := ["self", "form"]) fun _ _ _ _ _ _ us hl => by obtain ⟨v0, v1, rfl⟩ := L2.ln2 hl; rfl
  have bP3 := FP3.binds (ps := ["self", "size"]) fun _ _ _ _ _ _ us hl => by obtain ⟨v0, v1, rfl⟩ := L2.ln2 hl; rfl
  have bP5 := FP5.binds (ps := ["self", "form", "piece", "rest"]) fun _ _ _ _ _ _ us hl => by obtain ⟨v0, v1, v2, v3, rfl⟩ := L2.ln4 hl; rfl
  obtain ⟨f12, fd12, D12⟩ := d12.df X G
  obtain ⟨f13, fd13, D13⟩ := d13.df X G
  obtain ⟨f15, fd15, D15⟩ := d15.df X G
  obtain ⟨f16, fd16, D16⟩ := d16.df X G
  obtain ⟨f17, fd17, D17⟩ := d17.df X G
  obtain ⟨f18, fd18, D18⟩ := d18.df X G
  obtain ⟨f20, fd20, D20⟩ := d20.df X G
  obtain ⟨f24, fd24, D24⟩ := d24.df X G
  obtain ⟨f25, fd25, D25⟩ := d25.df X G
  obtain ⟨f26, fd26, D26⟩ := d26.df X G
  obtain ⟨f27, fd27, D27⟩ := d27.df X G
  obtain ⟨f28, fd28, D28⟩ := d28.df X G
  obtain ⟨f29, fd29, D29⟩ := d29.df X G
  obtain ⟨f30, fd30, D30⟩ := d30.df X G
  obtain ⟨f31, fd31, D31⟩ := d31.df X G
  obtain ⟨f32, fd32, D32⟩ := d32.df X G
  obtain ⟨f38, fd38, D38⟩ := d38.df X G
  obtain ⟨f39, fd39, D39⟩ := d39.df X G
  obtain ⟨f40, fd40, D40⟩ := d40.df X G
  obtain ⟨f41, fd41, D41⟩ := d41.df X G
  obtain ⟨f42, fd42, D42⟩ := d42.df X G
  obtain ⟨f43, fd43, D43⟩ := d43.df X G
  obtain ⟨f44, fd44, D44⟩ := d44.df X G
  obtain ⟨f49, fd49, D49⟩ := d49.df X G
  obtain ⟨f50, fd50, D50⟩ := d50.df X G
  obtain ⟨f51, fd51, D51⟩ := d51.df X G
  obtain ⟨f56, fd56, D56⟩ := d56.df X G
  obtain ⟨f58, fd58, D58⟩ := d58.df X G
  obtain ⟨f59, fd59, D59⟩ := d59.df X G
  obtain ⟨f61, fd61, D61⟩ := d61.df X G
  obtain ⟨f62, fd62, D62⟩ := d62.df X G
  obtain ⟨f63, fd63, D63⟩ := d63.df X G
  obtain ⟨f64, fd64, D64⟩ := d64.df X G
  obtain ⟨f65, fd65, D65⟩ := d65.df X G
  obtain ⟨f66, fd66, D66⟩ := d66.df X G
  obtain ⟨f23, fd23, c23, F23, m23, t23⟩ := dF.get X G
  obtain ⟨f60, fd60, c60, F60, m60, t60⟩ := dL.get X G
  have D23 : Df K mg "form_of" (top 23) f23 fd23 := ⟨F23.fn, m23⟩
  have D60 : Df K mg "_law_way" (top 60) f60 fd60 := ⟨F60.fn, m60⟩
  obtain ⟨f, oc, od, kV, doc, pm, an, cdv, ct, osl, a, lk, c, k⟩ := d67
  have e := hfa.symm.trans (PySem.W.mg_of X G a)
  cases e
  refine ⟨PySem.W.fnOf "law" "law" (defArgs (top 67)) (defBody (top 67)) (defScope (top 67)) .none kV doc pm an cdv ct, fun s v => .of_eq rfl, fun base _ _ hB => ?_⟩
  have GN : FnOk l.prog w K mg base CX0 1 f13 fd13 ["thing"] spName := ok_name D13.fn B mL ⟨tL, rfl⟩ mN ⟨tN, rfl⟩
  have GK : FnOk l.prog w K mg base CX0 4 f17 fd17 ["thing"] spKd := ok_kd D17.fn B D15 D12 D16
  have GF : FnOk l.prog w K mg base CX0 6 f23 fd23 ["size", "tables"] (spForm PF) := ok_form F23 B t23 hB D12 (ok_wh D12.fn B) D24 (ok_askS (sA := 0) D24.fn) D25 (ok_askN D25.fn D13 GN) D26 (ok_colM D26.fn B D13 GN D17 GK)
  have GWC : FnOk l.prog w K mg base CX0 7 f31 fd31 ["form", "table", "columns"] (spWithC PF) := ok_withC D31.fn D23 GF B D30 D29
  have GCI : FnOk l.prog w K mg base CX0 3 f39 fd39 ["form", "table"] spColsOf := ok_colsIn D39.fn B D38 D27 D28 D29
  have GWK : FnOk l.prog w K mg base CX0 8 f40 fd40 ["form", "table", "column", "old", "new"] (spWithK K PF) := ok_withK D40.fn D39 GCI D38 D13 GN D31 GWC
  have GOw := ok_ow (P := l.prog) (w := w) (base := base) LO B mO bO0
  have GFw : FnOk l.prog w K mg base CX0 1 f50 fd50 ["pieces"] spFew := ok_few D50.fn B mM ⟨tM, rfl⟩
  have aT : FnOk l.prog w K mg base CX0 9 gT1 gdT1 ["self", "form"] (spAft PF (.bel 8) (MvT CT ((mg "__name__").getD .none))) := ok_aftT FT1 LT B D38 D15 D12 D16 D40 GWK
  have tT : FnOk l.prog w K mg base CX0 4 gT3 gdT3 ["self", "form", "piece", "rest"] (spFth (MvT CT ((mg "__name__").getD .none)) gT) := ok_fthT FT3 LT B hz D56 D43 D42 D32
  have aC : FnOk l.prog w K mg base CX0 9 gC1 gdC1 ["self", "form"] (spAft PF .wh (MvC CC)) := ok_aftC FC1 LC B D38 D12 mW qW D40 GWK
  have tC : FnOk l.prog w K mg base CX0 4 gC3 gdC3 ["self", "form", "piece", "rest"] (spFth (MvC CC) gC) := (ok_fthC FC3 LC B hz hM D43 D42 D32).to (by decide) fun _ _ _ _ z => z
  have aD : FnOk l.prog w K mg base CX0 9 gD1 gdD1 ["self", "form"] (spAft PF .wh (MvD CD CP)) := ok_aftD FD1 LD LP MP2 (ok_bef FP2 LP MP3 (ok_snd (fR := 0) (fT := 0) (fdR := fd12) (fdT := fd12) FP3 LP B D13 GN D17 GK D18 D20 D12) bP3 D39 GCI D38 D31 GWC) bP2
  have tD : FnOk l.prog w K mg base CX0 4 gD3 gdD3 ["self", "form", "piece", "rest"] (spFth (MvD CD CP) gD) := ok_fthD FD3 LD LP MP5 (ok_bak FP5 LP B D41 D32 D44 D43) bP5
  have lT : FnOk l.prog w K mg base CX0 10 f49 fd49 ["move", "form", "olds"] (spLost PF (.bel 8) (MvT CT ((mg "__name__").getD .none)) gT) := ok_lost D49.fn B mvT LT.cl MT1 aT bT1 D51 (ok_lf D51.fn mvT LT.cl MT3 tT bT3 MLT ((ok_left L4).to (by decide) non_lft) bA1) D50 GFw mO kO (GOw 7) bO1 (fun d ok a b => row_sm (ok.r1 (x := wy d.ns a) (y := b)).nd (ok.r1 (x := wy d.ns a) (y := b)).le)
  have lC : FnOk l.prog w K mg base CX0 10 f49 fd49 ["move", "form", "olds"] (spLost PF .wh (MvC CC) gC) := ok_lost D49.fn B mvC LC.cl MC1 aC bC1 D51 (ok_lf D51.fn mvC LC.cl MC3 tC bC3 MLC ((ok_left L4).to (by decide) non_lft) bA1) D50 GFw mO kO (GOw 7) bO1 (fun d ok a b => row_sm (ok.r1 (x := if d.top < a then d.top else a) (y := b)).nd (ok.r1 (x := if d.top < a then d.top else a) (y := b)).le)
  have lD : FnOk l.prog w K mg base CX0 10 f49 fd49 ["move", "form", "olds"] (spLost PF .wh (MvD CD CP) gD) := ok_lost D49.fn B mvD LD.cl MD1 aD bD1 D51 (ok_lf D51.fn mvD LD.cl MD3 tD bD3 MLD (ok_lftD L5 LD LP MRP (ok_right LR) bB0) bE1) D50 GFw mO kO (GOw 7) bO1 (fun d ok a b => row_sm (by show ([d.c1] : List Str).Nodup; simp) (by show 1 ≤ 12; decide))
  have GP : FnOk l.prog w K mg base CX0 1 f65 fd65 ["_law_names_here", "_law_row"] spPiece := ok_piece D65.fn B
  have GM := ok_move (P := l.prog) (w := w) (base := base) D64.fn (PySem.W.mg_of X G aMT) ⟨mkT, MT0.at_, MT0.fn, kcT⟩ FT0 LT (PySem.W.mg_of X G aMC) ⟨mkC, MC0.at_, MC0.fn, kcC⟩ FC0 (ok_ci FC0 LC mO kO (GOw 3) bO1) (PySem.W.mg_of X G aMP) ⟨mkP, MP0.at_, MP0.fn, kcP⟩ FP0 (ok_pi FP0 LP mO kO (GOw 3) bO1) (PySem.W.mg_of X G aMD) ⟨mkD, MD0.at_, MD0.fn, kcD⟩ FD0 LD D60 (ok_way F60 t60 hB)
  exact ok_law (fun_mk lk c k) B D58 D59 D63 (ok_tl D63.fn B D58) D61 (ok_rows D61.fn B D58) D64 GM D65 D66 (ok_due D66.fn B D62 (ok_new D62.fn hM) D65 GP) D49 (lost_all lT lC lD)
theorem walk5 {l : PySem.W.OpenLaw} {q : Program} {loose : List Str} {XP : (Str → Option Value) → Heap → Prop} {d : DefRec} {K : Params → PySem.W.Frag} {as : List Addr} {e : ∀ P, as = (K P).map (·.1)} {PY PF : Addr} (hk : Room 11 callerA) (hn : l.most = some 63) (hdf : d.params.defaults = []) (ne : PF ≠ PY)
    (DL : ∀ w : World, DefInC (K w.params) "_law_way" (top 60) PY) (DF : ∀ w : World, DefInC (K w.params) "form_of" (top 23) PF)
    (F : ∀ (w : World) (mg : Str → Option Value) (fa : Addr) (h : Heap), (K w.params).In h → h.Ns mainGlobals mg → mg d.name = some (.ref fa) → DefInC (K w.params) "form_of" (top 23) PF → DefInC (K w.params) "_law_way" (top 60) PY →
      ∃ fd : FuncData, (∀ (s : Shared) (u : Value), BindsTo s fd ⟨[u], []⟩ [("_law_script", u)]) ∧ ∀ base : Heap, (K w.params).In base → base.Ns mainGlobals mg → L2.BMain base mg → FnOk l.prog w (K w.params) mg base CX0 11 fa fd ["_law_script"] (spLw (K w.params) PF PY)) :
    PySem.W.WalkO q loose XP (PySem.W.kmHook K as e [PY, PF]).says l.row.toRowW d [] (fun f vs => PySem.call f vs) := by
  refine L2.walk_ofT (n := 63) (k := 11) (x := "_law_script") (CX := fun _ => CX0) (sp := fun w => spLw (K w.params) PF PY) (tx := fun _ => [PY, PF]) hn (by decide) hdf hk (fun w h Y => PySem.W.km_in_of Y) (fun w h Y b hb => ?_) (fun w mg fa h X G m => F w mg fa h X G m (DF w) (DL w)) (fun w H a ns hl hO hS => ?_) fun _ _ _ _ _ z => z
  · have g := PySem.W.km_tabs_of Y b hb
    rcases List.mem_cons.mp hb with rfl | hb
    · obtain ⟨⟨c, t⟩, n⟩ := (DL w).tab
      exact L2.tab_is (PySem.W.km_in_of Y) g t n
    · have e : b = PF := by simpa using hb
      subst e
      obtain ⟨⟨c, t⟩, n⟩ := (DF w).tab
      exact L2.tab_is (PySem.W.km_in_of Y) g t n
  · exact ⟨a, ns, rfl, hS, hl, hO.2 PF (by simp), hO.2 PY (by simp), ne, fun _ => rfl⟩
end My

namespace PySem.W.Fast
def tw17965277711965948028 : Unit := ()
def tw6610583260751428118 : Unit := ()
def tw2182051377099204406 : Unit := ()
def tw749361704326541930 : Unit := ()
def tw9372215181521556272 : Unit := ()
def tw7921784715279869107 : Unit := ()
def tw5948905781632624602 : Unit := ()
def tw6059238705902798442 : Unit := ()
def tw15934405116468649243 : Unit := ()
def tw7492595477952841868 : Unit := ()
def tw9558083444286906337 : Unit := ()
def tw11969687069107830162 : Unit := ()
def tw2874160894274844909 : Unit := ()
def tw2814300389627535912 : Unit := ()
def tw14147891600045779571 : Unit := ()
def tw14110063511547541628 : Unit := ()
def tw7338722251708618238 : Unit := ()
def tw17664202018251589960 : Unit := ()
def tw3805056847069412293 : Unit := ()
def tw4056241956290417584 : Unit := ()
def tw9384992354491383996 : Unit := ()
def tw5911527548293683190 : Unit := ()
def tw18174235705687499496 : Unit := ()
def tw661760257815242284 : Unit := ()
def tw5567797071070281099 : Unit := ()
def tw16133760796897714049 : Unit := ()
def tw14939135731792503989 : Unit := ()
def tw13871525647349087190 : Unit := ()
def tw15041186087937938186 : Unit := ()
def tw10794187947955094625 : Unit := ()
def tw2871504259309142521 : Unit := ()
def tw7629823011173711873 : Unit := ()
def tw2864933322771845932 : Unit := ()
def tw4726130754690560214 : Unit := ()
def tw5858641537831067139 : Unit := ()
def tw10922745983265680232 : Unit := ()
def tw8324968159894969233 : Unit := ()
def tw11961913657123899064 : Unit := ()
def tw5746656805459314643 : Unit := ()
def tw3929975341215691057 : Unit := ()
end PySem.W.Fast
open PySem PySem.W PyProof.Rows
set_option maxRecDepth 100000 in
set_option maxHeartbeats 0 in
theorem PySem.Challenge.cw_halfmoved_k54_what_is_lost_holds : PySem.Challenge.rw_halfmoved_k54_what_is_lost.Holds := by
  w_on; o_law; k_head; (case hw => w_witness2)
  k_fill
  refine' My.walk5 (l := PySem.Challenge.rw_halfmoved_k54_what_is_lost) ⟨rfl, by decide, by decide⟩ rfl rfl (by decide) ?DL ?DF ?F
  case DL =>
    intro w
    refine' L2.defInC_mk ?a ?l ?c ?k ?t ?n; (case a => k_is); (case l => k_is); (case c => k_is); (case k => k_is); (case t => rfl); (case n => rfl)
  case DF =>
    intro w
    refine' L2.defInC_mk ?a ?l ?c ?k ?t ?n; (case a => k_is); (case l => k_is); (case c => k_is); (case k => k_is); (case t => rfl); (case n => rfl)
  case F =>
    intro w mg fa h KX G hmg dF dL
    refine' My.all_mk KX G hmg dF dL ?gL ?gN ?gM ?gW ?lW ?aMT ?pgT ?hdT ?poT ?psaT ?mkT ?kcT ?nT0 ?nT1 ?nT2 ?nT3 ?nT4 ?nT5 ?aMC ?pgC ?hdC ?poC ?psaC ?mkC ?kcC ?nC0 ?nC1 ?nC2 ?nC3 ?aMP ?pgP ?hdP ?poP ?psaP ?mkP ?kcP ?nP0 ?nP1 ?nP2 ?nP3 ?nP4 ?aMD ?pgD ?hdD ?poD ?psaD ?mkD ?kcD ?nD0 ?iAT ?iAC ?jA ?lA ?cA ?kA ?qA ?iBP ?jB ?lB ?cB ?kB ?pB ?iED ?jE ?lE ?cE ?kE ?qE ?iO ?lO ?cO ?kO ?pO ?qO ?hT0 ?hT1 ?hT3 ?hC0 ?hC1 ?hC3 ?hP0 ?hP2 ?hP3 ?hP5 ?hD0 ?hD1 ?hD3 ?d12 ?d13 ?d15 ?d16 ?d17 ?d18 ?d20 ?d24 ?d25 ?d26 ?d27 ?d28 ?d29 ?d30 ?d31 ?d32 ?d38 ?d39 ?d40 ?d41 ?d42 ?d43 ?d44 ?d49 ?d50 ?d51 ?d56 ?d58 ?d59 ?d61 ?d62 ?d63 ?d64 ?d65 ?d66 ?d67 ?zb ?zz ?zm
    (case gL => k_is)
    (case gN => k_is)
    (case gM => k_is)
    (case gW => k_is)
    (case lW => k_is)
    (case aMT => k_is)
    (case pgT => k_is)
    (case hdT => k_is)
    (case poT => k_is)
    (case psaT => k_is)
    (case mkT => k_is)
    (case kcT => k_is)
    (case nT0 => k_is)
    (case nT1 => k_is)
    (case nT2 => k_is)
    (case nT3 => k_is)
    (case nT4 => k_is)
    (case nT5 => k_is)
    (case aMC => k_is)
    (case pgC => k_is)
    (case hdC => k_is)
    (case poC => k_is)
    (case psaC => k_is)
    (case mkC => k_is)
    (case kcC => k_is)
    (case nC0 => k_is)
    (case nC1 => k_is)
    (case nC2 => k_is)
    (case nC3 => k_is)
    (case aMP => k_is)
    (case pgP => k_is)
    (case hdP => k_is)
    (case poP => k_is)
    (case psaP => k_is)
    (case mkP => k_is)
    (case kcP => k_is)
    (case nP0 => k_is)
    (case nP1 => k_is)
    (case nP2 => k_is)
    (case nP3 => k_is)
    (case nP4 => k_is)
    (case aMD => k_is)
    (case pgD => k_is)
    (case hdD => k_is)
    (case poD => k_is)
    (case psaD => k_is)
    (case mkD => k_is)
    (case kcD => k_is)
    (case nD0 => k_is)
    (case iAT => k_is)
    (case iAC => k_is)
    (case jA => k_is)
    (case lA => k_is)
    (case cA => k_is)
    (case kA => k_is)
    (case qA => intro u v x S; rfl)
    (case iBP => k_is)
    (case jB => k_is)
    (case lB => k_is)
    (case cB => k_is)
    (case kB => k_is)
    (case pB => intro u v x y S; rfl)
    (case iED => k_is)
    (case jE => k_is)
    (case lE => k_is)
    (case cE => k_is)
    (case kE => k_is)
    (case qE => intro u v x S; rfl)
    (case iO => k_is)
    (case lO => k_is)
    (case cO => k_is)
    (case kO => k_is)
    (case pO => intro u v S; rfl)
    (case qO => intro u S; rfl)
    (case hT0 => refine' L2.methIn_mk ?a ?i ?l ?c ?k; (case a => k_is); (case i => k_is); (case l => k_is); (case c => k_is); (case k => k_is))
    (case hT1 => refine' L2.methIn_mk ?a ?i ?l ?c ?k; (case a => k_is); (case i => k_is); (case l => k_is); (case c => k_is); (case k => k_is))
    (case hT3 => refine' L2.methIn_mk ?a ?i ?l ?c ?k; (case a => k_is); (case i => k_is); (case l => k_is); (case c => k_is); (case k => k_is))
    (case hC0 => refine' L2.methIn_mk ?a ?i ?l ?c ?k; (case a => k_is); (case i => k_is); (case l => k_is); (case c => k_is); (case k => k_is))
    (case hC1 => refine' L2.methIn_mk ?a ?i ?l ?c ?k; (case a => k_is); (case i => k_is); (case l => k_is); (case c => k_is); (case k => k_is))
    (case hC3 => refine' L2.methIn_mk ?a ?i ?l ?c ?k; (case a => k_is); (case i => k_is); (case l => k_is); (case c => k_is); (case k => k_is))
    (case hP0 => refine' L2.methIn_mk ?a ?i ?l ?c ?k; (case a => k_is); (case i => k_is); (case l => k_is); (case c => k_is); (case k => k_is))
    (case hP2 => refine' L2.methIn_mk ?a ?i ?l ?c ?k; (case a => k_is); (case i => k_is); (case l => k_is); (case c => k_is); (case k => k_is))
    (case hP3 => refine' L2.methIn_mk ?a ?i ?l ?c ?k; (case a => k_is); (case i => k_is); (case l => k_is); (case c => k_is); (case k => k_is))
    (case hP5 => refine' L2.methIn_mk ?a ?i ?l ?c ?k; (case a => k_is); (case i => k_is); (case l => k_is); (case c => k_is); (case k => k_is))
    (case hD0 => refine' L2.methIn_mk ?a ?i ?l ?c ?k; (case a => k_is); (case i => k_is); (case l => k_is); (case c => k_is); (case k => k_is))
    (case hD1 => refine' L2.methIn_mk ?a ?i ?l ?c ?k; (case a => k_is); (case i => k_is); (case l => k_is); (case c => k_is); (case k => k_is))
    (case hD3 => refine' L2.methIn_mk ?a ?i ?l ?c ?k; (case a => k_is); (case i => k_is); (case l => k_is); (case c => k_is); (case k => k_is))
    (case d12 => refine' L2.defIn_mk ?a ?l ?c ?k; (case a => k_is); (case l => k_is); (case c => k_is); (case k => k_is))
    (case d13 => refine' L2.defIn_mk ?a ?l ?c ?k; (case a => k_is); (case l => k_is); (case c => k_is); (case k => k_is))
    (case d15 => refine' L2.defIn_mk ?a ?l ?c ?k; (case a => k_is); (case l => k_is); (case c => k_is); (case k => k_is))
    (case d16 => refine' L2.defIn_mk ?a ?l ?c ?k; (case a => k_is); (case l => k_is); (case c => k_is); (case k => k_is))
    (case d17 => refine' L2.defIn_mk ?a ?l ?c ?k; (case a => k_is); (case l => k_is); (case c => k_is); (case k => k_is))
    (case d18 => refine' L2.defIn_mk ?a ?l ?c ?k; (case a => k_is); (case l => k_is); (case c => k_is); (case k => k_is))
    (case d20 => refine' L2.defIn_mk ?a ?l ?c ?k; (case a => k_is); (case l => k_is); (case c => k_is); (case k => k_is))
    (case d24 => refine' L2.defIn_mk ?a ?l ?c ?k; (case a => k_is); (case l => k_is); (case c => k_is); (case k => k_is))
    (case d25 => refine' L2.defIn_mk ?a ?l ?c ?k; (case a => k_is); (case l => k_is); (case c => k_is); (case k => k_is))
    (case d26 => refine' L2.defIn_mk ?a ?l ?c ?k; (case a => k_is); (case l => k_is); (case c => k_is); (case k => k_is))
    (case d27 => refine' L2.defIn_mk ?a ?l ?c ?k; (case a => k_is); (case l => k_is); (case c => k_is); (case k => k_is))
    (case d28 => refine' L2.defIn_mk ?a ?l ?c ?k; (case a => k_is); (case l => k_is); (case c => k_is); (case k => k_is))
    (case d29 => refine' L2.defIn_mk ?a ?l ?c ?k; (case a => k_is); (case l => k_is); (case c => k_is); (case k => k_is))
    (case d30 => refine' L2.defIn_mk ?a ?l ?c ?k; (case a => k_is); (case l => k_is); (case c => k_is); (case k => k_is))
    (case d31 => refine' L2.defIn_mk ?a ?l ?c ?k; (case a => k_is); (case l => k_is); (case c => k_is); (case k => k_is))
    (case d32 => refine' L2.defIn_mk ?a ?l ?c ?k; (case a => k_is); (case l => k_is); (case c => k_is); (case k => k_is))
    (case d38 => refine' L2.defIn_mk ?a ?l ?c ?k; (case a => k_is); (case l => k_is); (case c => k_is); (case k => k_is))
    (case d39 => refine' L2.defIn_mk ?a ?l ?c ?k; (case a => k_is); (case l => k_is); (case c => k_is); (case k => k_is))
    (case d40 => refine' L2.defIn_mk ?a ?l ?c ?k; (case a => k_is); (case l => k_is); (case c => k_is); (case k => k_is))
    (case d41 => refine' L2.defIn_mk ?a ?l ?c ?k; (case a => k_is); (case l => k_is); (case c => k_is); (case k => k_is))
    (case d42 => refine' L2.defIn_mk ?a ?l ?c ?k; (case a => k_is); (case l => k_is); (case c => k_is); (case k => k_is))
    (case d43 => refine' L2.defIn_mk ?a ?l ?c ?k; (case a => k_is); (case l => k_is); (case c => k_is); (case k => k_is))
    (case d44 => refine' L2.defIn_mk ?a ?l ?c ?k; (case a => k_is); (case l => k_is); (case c => k_is); (case k => k_is))
    (case d49 => refine' L2.defIn_mk ?a ?l ?c ?k; (case a => k_is); (case l => k_is); (case c => k_is); (case k => k_is))
    (case d50 => refine' L2.defIn_mk ?a ?l ?c ?k; (case a => k_is); (case l => k_is); (case c => k_is); (case k => k_is))
    (case d51 => refine' L2.defIn_mk ?a ?l ?c ?k; (case a => k_is); (case l => k_is); (case c => k_is); (case k => k_is))
    (case d56 => refine' L2.defIn_mk ?a ?l ?c ?k; (case a => k_is); (case l => k_is); (case c => k_is); (case k => k_is))
    (case d58 => refine' L2.defIn_mk ?a ?l ?c ?k; (case a => k_is); (case l => k_is); (case c => k_is); (case k => k_is))
    (case d59 => refine' L2.defIn_mk ?a ?l ?c ?k; (case a => k_is); (case l => k_is); (case c => k_is); (case k => k_is))
    (case d61 => refine' L2.defIn_mk ?a ?l ?c ?k; (case a => k_is); (case l => k_is); (case c => k_is); (case k => k_is))
    (case d62 => refine' L2.defIn_mk ?a ?l ?c ?k; (case a => k_is); (case l => k_is); (case c => k_is); (case k => k_is))
    (case d63 => refine' L2.defIn_mk ?a ?l ?c ?k; (case a => k_is); (case l => k_is); (case c => k_is); (case k => k_is))
    (case d64 => refine' L2.defIn_mk ?a ?l ?c ?k; (case a => k_is); (case l => k_is); (case c => k_is); (case k => k_is))
    (case d65 => refine' L2.defIn_mk ?a ?l ?c ?k; (case a => k_is); (case l => k_is); (case c => k_is); (case k => k_is))
    (case d66 => refine' L2.defIn_mk ?a ?l ?c ?k; (case a => k_is); (case l => k_is); (case c => k_is); (case k => k_is))
    (case d67 => refine' L2.defIn_mk ?a ?l ?c ?k; (case a => k_is); (case l => k_is); (case c => k_is); (case k => k_is))
    (case zb => refine' My.BlK.mk ?b0 ?b1 ?b2 ?b3 ?b4 ?b5 ?b6 ?b7 ?b8 ?b9 ?b10 ?b11 ?b12 ?b13 ?b14 ?b15; (case b0 => k_is); (case b1 => k_is); (case b2 => k_is); (case b3 => k_is); (case b4 => k_is); (case b5 => k_is); (case b6 => k_is); (case b7 => k_is); (case b8 => k_is); (case b9 => k_is); (case b10 => k_is); (case b11 => k_is); (case b12 => k_is); (case b13 => k_is); (case b14 => k_is); (case b15 => k_is))
    (case zz => k_is)
    (case zm => k_is)
#print axioms PySem.Challenge.cw_halfmoved_k54_what_is_lost_holds

