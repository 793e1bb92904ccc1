import PyProof.Rows.All
import Wide.All
import OpenK.AllK
import Wide.FinOn
import Lean
import PyProof.EqAt
import PyProof.EqKinds
import PyProof.TupleCall
import KE.KDictSum
import PyProof.EnumMake
import PyProof.EnumStmt
import PyProof.StationsW
import PyProof.RulesTry
import PyProof.InstStoreFacts
import PyProof.ExcBaseAll.ValueError
import PyProof.ExcAttrAll.ValueError
import PyProof.NsDelKeeps
import PyProof.ZipIter
import PyProof.TupleIter
import PyProof.ListRange
import KE.KPar
import KE.KSortTup
import PyProof.NeKinds
import KE.KItemsList
import PyProof.StrCalls6
import PyProof.StrBlock
import PyProof.StrBlockL
import PyProof.Rows.StrJoin2
import KE.KIntText
import KE.KTabLook
import PyProof.MeetsStr
import PyProof.StrLawsTight
import PyProof.MeetsStr2
import PyProof.DictValues
import PyProof.FactsAll.dict_valueiterator_1
import KE.KDictList
import PyProof.DictUpdate
import PySem.Challenge.RW_halfmoved_k23_a_column_put_into_pieces
set_option Elab.async false
set_option linter.all false
set_option maxRecDepth 100000
set_option maxHeartbeats 4000000

/-! THE HAND LAYER, for ints, bools, texts, own classes, LISTS and tuples (index, slices, in, append, pop ..), calls, loops. Paste it whole ahead of your own text; what your proof does not reach may be deleted. -/
namespace L2
theorem ln0 {α : Type} {l : List α} (h : l.length = 0) : l = [] := List.eq_nil_of_length_eq_zero h
theorem ln1 {α : Type} {l : List α} (h : l.length = 1) : ∃ a, l = [a] := List.length_eq_one_iff.mp h
theorem ln2 {α : Type} {l : List α} (h : l.length = 2) : ∃ a b, l = [a, b] := by
  cases l with
  | nil => cases h
  | cons a r => obtain ⟨b, rfl⟩ := ln1 (Nat.succ.inj h); exact ⟨a, b, rfl⟩
theorem ln3 {α : Type} {l : List α} (h : l.length = 3) : ∃ a b c, l = [a, b, c] := by
  cases l with
  | nil => cases h
  | cons a r => obtain ⟨b, c, rfl⟩ := ln2 (Nat.succ.inj h); exact ⟨a, b, c, rfl⟩
theorem ln4 {α : Type} {l : List α} (h : l.length = 4) : ∃ a b c d, l = [a, b, c, d] := by
  cases l with
  | nil => cases h
  | cons a r => obtain ⟨b, c, d, rfl⟩ := ln3 (Nat.succ.inj h); exact ⟨a, b, c, d, rfl⟩
end L2
namespace L2
open PySem PySem.Spec PyProof.Rows

/-- a key: an int or a str -/
abbrev Key := Sum Int Str
def keyIs : Key → Value → Bool
  | .inl k, v => Value.isInt k v
  | .inr x, v => Value.isStrOf x v
def keyH (w : World) : Key → Int
  | .inl k => hashInt k
  | .inr x => hashStr w x
theorem keyIs_shape : ∀ {k : Key} {v : Value}, keyIs k v = true → (∃ i t, k = Sum.inl i ∧ v = Value.int i t) ∨ (∃ x t, k = Sum.inr x ∧ v = Value.str x t)
  | .inl i, v, h => by
    obtain ⟨t, e⟩ := Value.isInt_shape (k := i) (v := v) h
    exact .inl ⟨i, t, rfl, e⟩
  | .inr x, v, h => by
    obtain ⟨t, e⟩ := Value.isStrOf_shape (x := x) (v := v) h
    exact .inr ⟨x, t, rfl, e⟩
theorem keyIs_int (i : Int) (t : Tok) : keyIs (.inl i) (.int i t) = true := by simp [keyIs, Value.isInt]
theorem keyIs_str (x : Str) (t : Tok) : keyIs (.inr x) (.str x t) = true := by simp [keyIs, Value.isStrOf]
theorem key_ll (a b : Int) : decide ((Sum.inl a : Key) = Sum.inl b) = (a == b) := by
  by_cases e : a = b
  · subst e; simp
  · have h : ¬ (Sum.inl a : Key) = Sum.inl b := fun q => e (Sum.inl.inj q)
    rw [decide_eq_false h]
    exact (beq_eq_false_iff_ne.mpr e).symm
theorem key_rr (a b : Str) : decide ((Sum.inr a : Key) = Sum.inr b) = decide (a = b) := by
  by_cases e : a = b
  · subst e; simp
  · have h : ¬ (Sum.inr a : Key) = Sum.inr b := fun q => e (Sum.inr.inj q)
    rw [decide_eq_false h, decide_eq_false e]
theorem key_lr (a : Int) (b : Str) : decide ((Sum.inl a : Key) = Sum.inr b) = false := decide_eq_false (fun q => nomatch q)
theorem key_rl (a : Str) (b : Int) : decide ((Sum.inr a : Key) = Sum.inl b) = false := decide_eq_false (fun q => nomatch q)

def mixKind (prog : Program) (w : World) : PySem.KeyKind prog w Key where
  is := keyIs
  hash := keyH w
  inj := fun v a b ha hb => by
    rcases keyIs_shape ha with ⟨i, t, rfl, rfl⟩ | ⟨x, t, rfl, rfl⟩
    · rcases keyIs_shape hb with ⟨j, u, rfl, e⟩ | ⟨y, u, rfl, e⟩
      · injection e with e1 _; rw [e1]
      · exact nomatch e
    · rcases keyIs_shape hb with ⟨j, u, rfl, e⟩ | ⟨y, u, rfl, e⟩
      · exact nomatch e
      · injection e with e1 _; rw [e1]
  byValue := fun k v h => by
    rcases keyIs_shape h with ⟨i, t, rfl, rfl⟩ | ⟨x, t, rfl, rfl⟩ <;> rfl
  pyHash := fun hv h => by
    rcases keyIs_shape hv with ⟨i, t, rfl, rfl⟩ | ⟨x, t, rfl, rfl⟩
    · exact wpAny_pyHash_int h
    · exact wpAny_pyHash_str h
  eqBool := fun hu hv h => by
    rcases keyIs_shape hu with ⟨i, t, rfl, rfl⟩ | ⟨x, t, rfl, rfl⟩
    · rcases keyIs_shape hv with ⟨j, u, rfl, rfl⟩ | ⟨y, u, rfl, rfl⟩
      · rw [key_ll] at h; exact wpAny_eqBool_int h
      · rw [key_lr] at h; exact SeqAt.EqAt.int_str i t y u _ _ _ _ h
    · rcases keyIs_shape hv with ⟨j, u, rfl, rfl⟩ | ⟨y, u, rfl, rfl⟩
      · rw [key_rl] at h; exact SeqAt.EqAt.str_int x t j u _ _ _ _ h
      · rw [key_rr] at h; exact wpAny_eqBool_str h
  «strs» := fun k x t v h => by
    rcases keyIs_shape h with ⟨i, u, rfl, e⟩ | ⟨y, u, rfl, e⟩
    · exact nomatch e
    · injection e with e1 _
      subst e1
      cases v <;> rfl

theorem mixKind_int (prog : Program) (w : World) (i : Int) (t : Tok) : (mixKind prog w).is (.inl i) (.int i t) = true := keyIs_int i t
theorem mixKind_str (prog : Program) (w : World) (x : Str) (t : Tok) : (mixKind prog w).is (.inr x) (.str x t) = true := keyIs_str x t
end L2

namespace L2
open PySem PySem.Spec PyProof.Rows

/-- a value, without the heap -/
inductive V where
  | non | bl (b : Bool) | int (i : Int) | str (x : Str) | byt (b : Array UInt8) | flt (b : UInt64) | ref (a : Addr) | ty (n : String)
  deriving DecidableEq

def RelV : V → Value → Prop
  | .non, u => u = Value.none
  | .bl b, u => u = Value.bool b
  | .int i, u => ∃ t, u = Value.int i t
  | .str x, u => ∃ t, u = Value.str x t
  | .byt b, u => ∃ t, u = Value.bytes b t
  | .flt b, u => ∃ t, u = Value.float b t
  | .ref a, u => u = Value.ref a
  | .ty n, u => u = Value.type n

abbrev Vals : List V → List Value → Prop := Paired RelV
theorem Vals.length {xs : List V} {us : List Value} (r : Vals xs us) : xs.length = us.length := Paired.length r
theorem Vals.get : ∀ {xs : List V} {us : List Value} {i : Nat} {x : V}, Vals xs us → xs[i]? = some x → ∃ u, us[i]? = some u ∧ RelV x u
  | _, _, _, _, .nil, e => by simp at e
  | _, _, 0, _, .cons r _, e => by simp at e; subst e; exact ⟨_, rfl, r⟩
  | _, _, i + 1, x, .cons _ t, e => by
    obtain ⟨u, h1, h2⟩ := Vals.get (i := i) (x := x) t (by simpa using e)
    exact ⟨u, by simpa using h1, h2⟩
theorem Vals.append : ∀ {xs ys : List V} {us ws : List Value}, Vals xs us → Vals ys ws → Vals (xs ++ ys) (us ++ ws)
  | _, _, _, _, .nil, s => s
  | _, _, _, _, .cons r t, s => .cons r (Vals.append t s)
theorem Vals.take : ∀ {xs : List V} {us : List Value} (n : Nat), Vals xs us → Vals (xs.take n) (us.take n)
  | _, _, 0, _ => .nil
  | _, _, _ + 1, .nil => .nil
  | _, _, n + 1, .cons r t => .cons r (Vals.take n t)
theorem Vals.drop : ∀ {xs : List V} {us : List Value} (n : Nat), Vals xs us → Vals (xs.drop n) (us.drop n)
  | _, _, 0, r => r
  | _, _, _ + 1, .nil => .nil
  | _, _, n + 1, .cons _ t => Vals.drop n t
def RelO : Option V → Option Value → Prop
  | some v, some u => RelV v u
  | none, none => True
  | _, _ => False
def KV {κ : Type} : List (κ × V) → List (κ × Value) → Prop := Paired fun (p : κ × V) (q : κ × Value) => p.1 = q.1 ∧ RelV p.2 q.2

/-- a key of a dict (00_mix): an int or a text -/
def kV : Key → V
  | .inl i => .int i
  | .inr x => .str x

/-- what stands at a tracked address -/
inductive HO where
  /-- a list -/
  | lst (xs : List V)
  /-- a tuple (never changes) -/
  | tup (xs : List V)
  /-- a dict whose keys are ints and texts; one whose keys are tuples of ints and texts (the empty one is both) -/
  | dK (kvs : List (Key × V)) | dT (kvs : List (List Key × V))
  /-- a set of ints: its members, its size -/
  | set (S : Int → Bool) (n : Nat)
  /-- an instance of the class at C, its dict at dx, its attributes -/
  | ins (C dx : Addr) (fs : List (Str × V))
  /-- the dict of the instance at x -/
  | own (x : Addr)
  /-- the dict of an exception -/
  | xd (fs : List (Str × V))
  /-- a bound method, f of x -/
  | met (f x : Addr)
  /-- a range object lo, lo + 1, .. below hi -/
  | rng (lo hi : Int)
  /-- a thing that is known to the object (the script; a dict while a loop walks it): read, never written while it is so -/
  | frz (o : Obj) (u : HO)
  /-- a code object's table -/
  | tbl (ps : Array Value)
  /-- any other thing, by what is true of its one object (a def of one's own: SetO a S n := HO.ext fun h => ..) -/
  | ext (φ : Heap → Prop)

abbrev Hp := Addr → Option HO
def upd (H : Hp) (a : Addr) (o : HO) : Hp := fun b => if b = a then some o else H b
theorem upd_same {H : Hp} {a : Addr} {o : HO} : upd H a o a = some o := by unfold upd; rw [if_pos rfl]
theorem upd_ne {H : Hp} {a b : Addr} {o : HO} (h : b ≠ a) : upd H a o b = H b := by unfold upd; rw [if_neg h]
theorem upd_upd {H : Hp} {a : Addr} {o u : HO} : upd (upd H a o) a u = upd H a u := by
  funext b; unfold upd; split <;> rfl
/-- two objects of different content stand apart -/
theorem ne_of {H : Hp} {a b : Addr} {o u : HO} (h : H a = some o) (h' : H b = some u) (d : o ≠ u) : a ≠ b := by
  intro e; subst e; rw [h] at h'; exact d (Option.some.inj h')
theorem ne_of_none {H : Hp} {a b : Addr} {o : HO} (h : H a = some o) (h' : H b = none) : a ≠ b := by
  intro e; subst e; rw [h] at h'; cases h'

section
variable (P : Program) (w : World)
def ObjOk (H : Hp) (h : Heap) (a : Addr) : HO → Prop
  | .lst xs => xs.length ≤ sizeLine ∧ ∃ (its : List Value) (n : Nat), Vals xs its ∧ h.get? a = some { cls := .type "list", data := .seq its.toArray n }
  | .tup xs => xs.length ≤ sizeLine ∧ ∃ its : List Value, Vals xs its ∧ IsTup h a its.toArray
  | .dK kvs => kvs.length ≤ sizeLine ∧ (a == sysModules) = false ∧ ∃ vs, KV kvs vs ∧ h.DictOf (mixKind P w) a vs
  | .dT kvs => kvs.length ≤ sizeLine ∧ (a == sysModules) = false ∧ ∃ xs : List (List Key × Addr × Value),
      Paired (fun (p : List Key × V) (q : List Key × Addr × Value) => p.1 = q.1 ∧ H q.2.1 = some (.tup (p.1.map kV)) ∧ RelV p.2 q.2.2) kvs xs ∧
      ∃ o es ep, h.get? a = some o ∧ o.ExactDict ∧ o.data = .dict es ep ∧ es.toList = xs.map (entryOfKey (tupleKind (mixKind P w))) ∧ (xs.map (·.1)).Nodup
  | .set S n => h.SetOf (intKind P w) a S n
  | .ins C dx fs => H dx = some (.own a) ∧ fs.length ≤ 1000 ∧ dx ≠ a ∧ h.get? a = some (PySem.W.instObj C dx) ∧
      ∃ mA, h.Ns1 dx mA ∧ (∀ f, RelO (fs.lookup f) (mA f)) ∧ PySem.Within mA (fs.map (·.1))
  | .own _ => ∃ o, h.get? a = some o
  | .xd fs => ∃ mA, h.Ns1 a mA ∧ ∀ f, RelO (fs.lookup f) (mA f)
  | .rng lo hi => ∃ t u v, h.get? a = some { cls := .type "range", data := .fields #[.int lo t, .int hi u, .int 1 v] }
  | .frz o u => h.get? a = some o ∧ ObjOk H h a u
  | .tbl ps => h.get? a = some { cls := .none, data := .fields ps }
  | .met f x => h.get? a = some (PySem.W.methodObj (.ref f) (.ref x))
  | .ext φ => φ h ∧ (∃ o, h.get? a = some o) ∧ ∀ h1 h2 : Heap, φ h1 → (∀ o, h1.get? a = some o → h2.get? a = some o) → φ h2
/-- the abstract heap is held -/
def HOk (H : Hp) (h : Heap) : Prop := ∀ a o, H a = some o → ObjOk P w H h a o
end

section
variable {P : Program} {w : World} {H H' : Hp} {h h' : Heap} {a : Addr} {o : HO}
theorem ObjOk.lt (x : ObjOk P w H h a o) : a < h.objs.size := by
  cases o with
  | lst xs => obtain ⟨_, _, _, _, e⟩ := x; exact Heap.lt_size e
  | tup xs => obtain ⟨_, _, _, p⟩ := x; exact p.lt
  | dK kvs => obtain ⟨_, _, _, _, o, _, _, e, _⟩ := x; exact Heap.lt_size e
  | dT kvs => obtain ⟨_, _, _, _, o, _, _, e, _⟩ := x; exact Heap.lt_size e
  | set S n => obtain ⟨o, _, _, _, e, _⟩ := x; exact Heap.lt_size e
  | ins C dx fs => obtain ⟨_, _, _, e, _⟩ := x; exact Heap.lt_size e
  | own y => obtain ⟨_, e⟩ := x; exact Heap.lt_size e
  | xd fs => obtain ⟨_, ⟨_, _, _, e, _⟩, _⟩ := x; exact Heap.lt_size e
  | rng lo hi => obtain ⟨_, _, _, e⟩ := x; exact Heap.lt_size e
  | frz ob u => obtain ⟨e, _⟩ := x; exact Heap.lt_size e
  | tbl ps => exact Heap.lt_size (show h.get? a = some _ from x)
  | met f y => exact Heap.lt_size (show h.get? a = some _ from x)
  | ext φ => obtain ⟨_, ⟨_, e⟩, _⟩ := x; exact Heap.lt_size e
theorem Paired.mapP {α β : Type} {F G : α → β → Prop} : ∀ {l₁ : List α} {l₂ : List β}, Paired F l₁ l₂ → (∀ a b, F a b → G a b) → Paired G l₁ l₂
  | _, _, .nil, _ => .nil
  | _, _, .cons r t, f => .cons (f _ _ r) (Paired.mapP t f)
/-- what an object's description leans on: its own object, its own dict, the tuples -/
theorem ObjOk.stay (x : ObjOk P w H h a o) (k : ∀ b u, (b = a ∨ H b = some (.own a)) → h.get? b = some u → h'.get? b = some u)
    (ho : ∀ b, H b = some (.own a) → H' b = some (.own a)) (ht : ∀ b xs, H b = some (.tup xs) → H' b = some (.tup xs)) : ObjOk P w H' h' a o := by
  induction o with
  | lst xs => obtain ⟨z, its, n, r, e⟩ := x; exact ⟨z, its, n, r, k _ _ (.inl rfl) e⟩
  | tup xs => obtain ⟨z, its, r, ob, e, c⟩ := x; exact ⟨z, its, r, ob, k _ _ (.inl rfl) e, c⟩
  | dK kvs => obtain ⟨z, y, vs, r, ob, es, ep, e, c⟩ := x; exact ⟨z, y, vs, r, ob, es, ep, k _ _ (.inl rfl) e, c⟩
  | dT kvs =>
    obtain ⟨z, y, xs, r, ob, es, ep, e, c⟩ := x
    exact ⟨z, y, xs, Paired.mapP r fun p q z => ⟨z.1, ht _ _ z.2.1, z.2.2⟩, ob, es, ep, k _ _ (.inl rfl) e, c⟩
  | set S n => obtain ⟨ob, es, ep, t, e, c⟩ := x; exact ⟨ob, es, ep, t, k _ _ (.inl rfl) e, c⟩
  | ins C dx fs =>
    obtain ⟨d, z, ne, e, mA, ⟨od, es, ep, e2, c⟩, r⟩ := x
    exact ⟨ho _ d, z, ne, k _ _ (.inl rfl) e, mA, ⟨od, es, ep, k _ _ (.inr d) e2, c⟩, r⟩
  | own y => obtain ⟨ob, e⟩ := x; exact ⟨ob, k _ _ (.inl rfl) e⟩
  | xd fs => obtain ⟨mA, ⟨od, es, ep, e, c⟩, r⟩ := x; exact ⟨mA, ⟨od, es, ep, k _ _ (.inl rfl) e, c⟩, r⟩
  | rng lo hi => obtain ⟨t, u, v, e⟩ := x; exact ⟨t, u, v, k _ _ (.inl rfl) e⟩
  | frz ob u ih => obtain ⟨e, q⟩ := x; exact ⟨k _ _ (.inl rfl) e, ih q⟩
  | tbl ps =>
    have e : h.get? a = some { cls := .none, data := .fields ps } := x
    show h'.get? a = some { cls := .none, data := .fields ps }
    exact k a _ (.inl rfl) e
  | met f y =>
    have e : h.get? a = some (PySem.W.methodObj (.ref f) (.ref y)) := x
    show h'.get? a = some (PySem.W.methodObj (.ref f) (.ref y))
    exact k a _ (.inl rfl) e
  | ext φ => obtain ⟨p, ⟨o, e⟩, st⟩ := x; exact ⟨st _ _ p fun o q => k _ _ (.inl rfl) q, ⟨o, k _ _ (.inl rfl) e⟩, st⟩
theorem HOk.lt (x : HOk P w H h) (e : H a = some o) : a < h.objs.size := (x a o e).lt
theorem HOk.fresh (x : HOk P w H h) (e : h.objs.size ≤ a) : H a = none := by
  cases q : H a with
  | none => rfl
  | some u => exact absurd (Nat.lt_of_lt_of_le (x.lt q) e) (Nat.lt_irrefl _)
/-- every object of the heap is kept -/
theorem HOk.kept (x : HOk P w H h) (k : ∀ b u, h.get? b = some u → h'.get? b = some u) : HOk P w H h' := fun a o e =>
  (x a o e).stay (fun b u _ q => k b u q) (fun _ q => q) fun _ _ q => q
/-- a new object is laid and tracked -/
theorem HOk.laid (x : HOk P w H h) (k : ∀ b u, h.get? b = some u → h'.get? b = some u) (hp : h.objs.size ≤ a) (new : ObjOk P w (upd H a o) h' a o) : HOk P w (upd H a o) h' := fun b u e => by
  have hn := x.fresh hp
  by_cases hb : b = a
  · subst hb; rw [upd_same] at e; cases e; exact new
  · rw [upd_ne hb] at e
    exact (x b u e).stay (fun c v _ q => k c v q) (fun c q => by rw [upd_ne (ne_of_none q hn)]; exact q) fun c xs q => by rw [upd_ne (ne_of_none q hn)]; exact q
end

/-- what may be read as u: it is u, or a known u -/
def Rd (H : Hp) (a : Addr) (u : HO) : Prop := H a = some u ∨ ∃ o, H a = some (.frz o u)
theorem Rd.ok {P : Program} {w : World} {H : Hp} {h : Heap} {a : Addr} {u : HO} (r : Rd H a u) (x : HOk P w H h) : ObjOk P w H h a u := by
  rcases r with r | ⟨o, r⟩
  · exact x a u r
  · obtain ⟨_, q⟩ := x a _ r
    exact q
/-- what may be written -/
def Mut : Option HO → Prop
  | some (.lst _) => True
  | some (.dK _) => True
  | some (.dT _) => True
  | some (.set _ _) => True
  | some (.ins _ _ _) => True
  | some (.ext _) => True
  | _ => False
section
variable {P : Program} {w : World} {H : Hp} {h h' : Heap} {x e : Addr} {o' : HO}
/-- the object at e is changed: x itself, or the dict of the instance x -/
theorem HOk.write (ok : HOk P w H h) (mu : Mut (H x)) (he : e = x ∨ H e = some (.own x)) (k : ∀ b u, b ≠ e → h.get? b = some u → h'.get? b = some u) (heo : ∃ u, h'.get? e = some u)
    (new : ObjOk P w (upd H x o') h' x o') : HOk P w (upd H x o') h' := fun b u q => by
  have nown : ∀ c y, H c = some (.own y) → c ≠ x := fun c y r z => by subst z; rw [r] at mu; exact mu
  have ntup : ∀ c xs, H c = some (.tup xs) → c ≠ x := fun c xs r z => by subst z; rw [r] at mu; exact mu
  by_cases hb : b = x
  · subst hb; rw [upd_same] at q; cases q; exact new
  · rw [upd_ne hb] at q
    by_cases hbe : b = e
    · have q' : H b = some (.own x) := by
        rcases he with z | z
        · exact absurd (hbe.trans z) hb
        · rw [hbe]; exact z
      rw [q] at q'; cases q'
      obtain ⟨v, hv⟩ := heo
      exact ⟨v, by rw [hbe]; exact hv⟩
    · refine (ok b u q).stay (fun c v hc r => k c v ?_ r) (fun c r => by rw [upd_ne (nown c b r)]; exact r) fun c xs r => by rw [upd_ne (ntup c xs r)]; exact r
      rcases hc with rfl | hc
      · exact hbe
      · rintro rfl
        rcases he with z | z
        · exact nown c b hc z
        · rw [hc] at z; cases z; exact hb rfl
end

/-! ### kept unless tracked; of the frames at fs (the callers') the slots may change (an exception that passes writes there); of the records at ex (iterators) nothing is said -/
structure Un (fs ex : List Addr) (H H' : Hp) (h h' : Heap) : Prop where
  keep : ∀ b o, h.get? b = some o → H b = none → b ∉ fs → b ∉ ex → h'.get? b = some o
  slot : ∀ b o, h.get? b = some o → H b = none → b ∈ fs → b ∉ ex → ∃ sl, h'.get? b = some { o with slots := sl }
  free : ∀ b o, h.get? b = some o → H b = none → b ∉ ex → H' b = none
  there : ∀ b o, h.get? b = some o → b ∉ ex → ∃ o', h'.get? b = some o'
  tups : ∀ b xs, H b = some (.tup xs) → H' b = some (.tup xs)
  frzs : ∀ b o u, H b = some (.frz o u) → H' b = some (.frz o u)
  tbls : ∀ b ps, H b = some (.tbl ps) → ∃ more, H' b = some (.tbl (ps ++ more))
section
variable {fs fs' ex ex' : List Addr} {H H1 H2 : Hp} {h h1 h2 h' : Heap} {a x e : Addr} {o : HO}
theorem Un.any (u : Un fs ex H H1 h h1) {b : Addr} {ob : Obj} (q : h.get? b = some ob) (n : H b = none) (hx : b ∉ ex) : ∃ sl, h1.get? b = some { ob with slots := sl } := by
  by_cases hb : b ∈ fs
  · exact u.slot b ob q n hb hx
  · exact ⟨ob.slots, u.keep b ob q n hb hx⟩
theorem Un.kept (k : ∀ b u, h.get? b = some u → h'.get? b = some u) : Un fs ex H H h h' :=
  ⟨fun b ob q _ _ _ => k b ob q, fun b ob q _ _ _ => ⟨ob.slots, k b ob q⟩, fun _ _ _ n _ => n, fun b ob q _ => ⟨ob, k b ob q⟩, fun _ _ q => q, fun _ _ _ q => q, fun _ ps q => ⟨#[], by rw [q]; simp⟩⟩
theorem Un.refl : Un fs ex H H h h := Un.kept fun _ _ q => q
theorem Un.laid (k : ∀ b u, h.get? b = some u → h'.get? b = some u) (hp : h.objs.size ≤ a) (hn : H a = none) : Un fs ex H (upd H a o) h h' where
  keep := fun b u q _ _ _ => k b u q
  slot := fun b u q _ _ _ => ⟨u.slots, k b u q⟩
  free := fun b u q n _ => by rw [upd_ne (Nat.ne_of_lt (Nat.lt_of_lt_of_le (Heap.lt_size q) hp))]; exact n
  there := fun b u q _ => ⟨u, k b u q⟩
  tups := fun b xs q => by rw [upd_ne (ne_of_none q hn)]; exact q
  frzs := fun b u xs q => by rw [upd_ne (ne_of_none q hn)]; exact q
  tbls := fun b ps q => ⟨#[], by rw [upd_ne (ne_of_none q hn), q]; simp⟩
theorem Un.write (mu : Mut (H x)) (he : e = x ∨ H e = some (.own x)) (k : ∀ b u, b ≠ e → h.get? b = some u → h'.get? b = some u) (heo : ∃ u, h'.get? e = some u) : Un fs ex H (upd H x o) h h' := by
  have hx : ∀ b, H b = none → b ≠ x := fun b n z => by subst z; rw [n] at mu; exact mu
  have hb : ∀ b, H b = none → b ≠ e := fun b n z => by
    subst z
    rcases he with r | r
    · exact hx b n r
    · rw [n] at r; cases r
  have hm : ∀ b u, H b = some u → ¬ Mut (some u) → b ≠ x := fun b u q nm z => by subst z; rw [q] at mu; exact nm mu
  refine ⟨fun b u q n _ _ => k b u (hb b n) q, fun b u q n _ _ => ⟨u.slots, k b u (hb b n) q⟩, fun b u q n _ => by rw [upd_ne (hx b n)]; exact n, fun b u q _ => ?_,
    fun b xs q => by rw [upd_ne (hm b _ q fun z => z)]; exact q, fun b u xs q => by rw [upd_ne (hm b _ q fun z => z)]; exact q, fun b ps q => ⟨#[], by rw [upd_ne (hm b _ q fun z => z), q]; simp⟩⟩
  by_cases hbe : b = e
  · subst hbe; exact heo
  · exact ⟨u, k b u hbe q⟩
end

/-! ### the heap without what is tracked -/
def trk (h : Heap) (H : Hp) : List Addr := (List.range h.objs.size).filter fun a => (H a).isSome
def hidT (h : Heap) (H : Hp) : Heap := PySem.W.hideAll h (trk h H)
theorem hidT_size (h : Heap) (H : Hp) : (hidT h H).objs.size = h.objs.size := PySem.W.hideAll_size _ _
theorem hidT_get {h : Heap} {H : Hp} {b : Addr} {o : Obj} (e : h.get? b = some o) (n : H b = none) : (hidT h H).get? b = some o :=
  PySem.W.hideAll_get _ e fun hm => by
    have q : (H b).isSome = true := (List.mem_filter.mp hm).2
    rw [n] at q; simp at q
theorem of_hidT {h : Heap} {H : Hp} {b : Addr} {o : Obj} (e : (hidT h H).get? b = some o) : h.get? b = some o ∧ H b = none := by
  have e' : h.get? b = some o := PySem.W.of_hideAll (trk h H) e
  refine ⟨e', ?_⟩
  cases q : H b with
  | none => rfl
  | some x =>
    have hm : b ∈ trk h H := List.mem_filter.mpr ⟨List.mem_range.mpr (Heap.lt_size e'), by simp [q]⟩
    have z : (hidT h H).get? b = none := PySem.W.hideAll_none (trk h H) hm
    rw [z] at e; cases e

/-! ### OpenK's ledger, filled with every new object but one -/
end L2

namespace L2
open PySem PySem.Spec PyProof.Rows

/-- the module's facts, over the base: the heap at the law's entry without what is tracked there -/
structure Mod (K : PySem.W.Frag) (mg : Str → Option Value) (base : Heap) : Prop where
  kin : K.In base
  glob : base.Ns mainGlobals mg
  blt : ∃ mb, base.Ns builtinsNs mb ∧ ∀ x : Str, x ≠ "__name__" → mb x = bootBuiltins x
  nolimit : base.NoLimit

/-- the context: a def's body (or a comprehension's block) running. base: fixed through the whole law; s₀, H₀: the entry; outer: the frames whose slots others may change (a def's callers); stack: all frames that run;
   ex: iterators that were made ahead of the entry and are walked here (a comprehension's); fn: the names whose cells were made at the entry (a def: all; a comprehension's block: its own); calm: not within an except suite; pn: pins that every state bears; xe: what is wanted of an exception that leaves the code -/
structure Cx where
  prog : Program
  w : World
  K : PySem.W.Frag
  mg : Str → Option Value
  base : Heap
  A : Around
  N : List Str
  s₀ : Shared
  H₀ : Hp
  env : Env
  outer : List Env
  stack : List Env
  ex : List Addr
  fn : Str → Bool
  calm : Bool
  pn : List (Addr × Obj)
  xe : Value → Shared → Prop
/-- the callers' frames -/
def frs (l : List Env) : List Addr := l.filterMap (·.frame)
abbrev Cx.fs (X : Cx) : List Addr := frs X.outer

def Vis (sc : Scope) (x : Str) : Prop := sc.names.lookup x = some .local ∨ sc.names.lookup x = some .cell ∨ sc.names.lookup x = some .free
def Loc (sc : Scope) (x : Str) : Prop := sc.names.lookup x = some .local ∨ sc.names.lookup x = some .cell
def Look (env : Env) (h : Heap) (m : Str → Option Value) (x : Str) (u : Value) : Prop :=
  (env.kindOf x = some .local ∧ m x = some u) ∨ ((env.kindOf x = some .cell ∨ env.kindOf x = some .free) ∧ ∃ c, env.cells.lookup x = some c ∧ h.IsCell c (some u))

structure Cx.Ok (X : Cx) : Prop where
  mod : Mod X.K X.mg X.base
  kind : X.env.scope.kind = .function
  glob : X.env.globals = mainGlobals
  blt : X.env.builtins = builtinsNs
  above : X.s₀.heap.objs.size ≤ X.env.locals
  inj : ∀ x y c, X.env.cells.lookup x = some c → X.env.cells.lookup y = some c → x = y
  has : ∀ x, (X.env.kindOf x = some .cell ∨ X.env.kindOf x = some .free) → ∃ c, X.env.cells.lookup x = some c
  cab : ∀ x c, X.fn x = true → X.env.cells.lookup x = some c → X.s₀.heap.objs.size ≤ c
  hd : X.calm = true → X.A.handled = none
  frames : X.A.frames = some X.stack
  stk : X.stack = X.outer ∨ (X.stack = X.env :: X.outer ∧ X.env.frame = some X.env.locals)
  exf : ∀ b ∈ X.ex, b ≠ X.env.locals ∧ ∀ x c, X.env.cells.lookup x = some c → c ≠ b
  bs : ∀ b o, X.base.get? b = some o → X.s₀.heap.get? b = some o ∧ X.H₀ b = none
  bsz : X.base.objs.size ≤ X.s₀.heap.objs.size
  noex : ∀ b o, X.base.get? b = some o → b ∉ X.ex
  exfs : ∀ b ∈ X.ex, b ∉ X.fs
  funs : X.s₀.heap.FunFrames X.base X.outer
  frf : ∀ b ∈ X.fs, X.H₀ b = none

structure Inv (X : Cx) (pins : List (Addr × Obj)) (σ : List (Option V)) (H : Hp) (s : Shared) : Prop where
  ok : X.Ok
  os : s.os = X.s₀.os
  bare : AllBare s.gens
  base : Un X.fs X.ex X.H₀ H X.s₀.heap s.heap
  loc : ∃ m, s.heap.Ns X.env.locals m ∧ ∀ (i : Nat) (x : Str) (v : V), X.N[i]? = some x → σ[i]? = some (some v) → Vis X.env.scope x → ∃ u, RelV v u ∧ Look X.env s.heap m x u
  cell : ∀ x c, X.env.cells.lookup x = some c → ∃ v, s.heap.IsCell c v
  free : H X.env.locals = none
  freeC : ∀ x c, X.env.cells.lookup x = some c → H c = none
  pin : ∀ p ∈ X.pn ++ pins, s.heap.get? p.1 = some p.2 ∧ H p.1 = none ∧ p.1 ≠ X.env.locals ∧ p.1 ∉ X.fs ∧ ∀ v, p.2.data ≠ .cell v
  hok : HOk X.prog X.w H s.heap
  len : σ.length = X.N.length

section
variable {X : Cx} {pins : List (Addr × Obj)} {σ : List (Option V)} {H H' : Hp} {s : Shared} {h' : Heap}

theorem Cx.Ok.nofr (ok : X.Ok) {b : Addr} {o : Obj} (e : X.base.get? b = some o) : b ∉ X.fs := fun hb => by
  have := (ok.funs.mem hb).1
  rw [e] at this; cases this
theorem Inv.bs (I : Inv X pins σ H s) : ∀ b o, X.base.get? b = some o → s.heap.get? b = some o ∧ H b = none := fun b o e =>
  ⟨I.base.keep b o (I.ok.bs b o e).1 (I.ok.bs b o e).2 (I.ok.nofr e) (I.ok.noex b o e), I.base.free b o (I.ok.bs b o e).1 (I.ok.bs b o e).2 (I.ok.noex b o e)⟩
theorem Inv.bk (I : Inv X pins σ H s) : ∀ b o, X.base.get? b = some o → s.heap.get? b = some o := fun b o e => (I.bs b o e).1
theorem Inv.mod (I : Inv X pins σ H s) : Mod X.K X.mg X.base := I.ok.mod
theorem Inv.kIn (I : Inv X pins σ H s) : X.K.In s.heap := I.ok.mod.kin.keeps I.bk
theorem Inv.lt (I : Inv X pins σ H s) : X.env.locals < s.heap.objs.size := let ⟨_, hn, _⟩ := I.loc; hn.lt
theorem Inv.sz (I : Inv X pins σ H s) : X.s₀.heap.objs.size ≤ s.heap.objs.size := Nat.le_trans I.ok.above (Nat.le_of_lt I.lt)
theorem Inv.nofs (I : Inv X pins σ H s) {a : Addr} (h : s.heap.objs.size ≤ a) : a ∉ X.fs := fun hb => by
  obtain ⟨_, o, ho, _⟩ := I.ok.funs.mem hb
  exact absurd (Nat.lt_of_lt_of_le (Heap.lt_size ho) (Nat.le_trans I.sz h)) (Nat.lt_irrefl _)
theorem Inv.cne (I : Inv X pins σ H s) : ∀ x c, X.env.cells.lookup x = some c → c ≠ X.env.locals := fun x c e z => by
  obtain ⟨v, o, ho, hd⟩ := I.cell x c e
  obtain ⟨m, ⟨o', es, ep, ho', hd', _⟩, _⟩ := I.loc
  rw [z, ho'] at ho; cases ho; rw [hd'] at hd; cases hd
theorem Inv.funs (I : Inv X pins σ H s) : s.heap.FunFrames X.base X.outer := by
  have all : ∀ (l : List Env), (∀ b ∈ frs l, b ∈ X.fs) → X.s₀.heap.FunFrames X.base l → s.heap.FunFrames X.base l := by
    intro l
    induction l with
    | nil => intro _ _; trivial
    | cons env r ih =>
      intro hs hl
      obtain ⟨hk, ⟨L, o, hf, hn, ho, hd⟩, hr⟩ := hl
      have hL : L ∈ X.fs := hs L (by unfold frs; rw [List.filterMap_cons, hf]; exact List.mem_cons_self)
      obtain ⟨sl, e⟩ := I.base.slot L o ho (I.ok.frf L hL) hL fun z => I.ok.exfs L z hL
      exact ⟨hk, ⟨L, _, hf, hn, e, hd⟩, ih (fun b hb => hs b (by unfold frs; rw [List.filterMap_cons, hf]; exact List.mem_cons_of_mem _ hb)) hr⟩
  exact all X.outer (fun _ hb => hb) I.ok.funs

/-- the frames that run, for a call -/
theorem Inv.stack (I : Inv X pins σ H s) : s.heap.FunFrames X.base X.stack := by
  rcases I.ok.stk with e | ⟨e, hf⟩
  · rw [e]; exact I.funs
  · rw [e]
    obtain ⟨m, hn, _⟩ := I.loc
    refine .cons (by rw [I.ok.kind]; decide) hf hn ?_ I.funs
    exact Heap.get?_none_of_le (Nat.le_trans I.ok.bsz I.ok.above)
theorem Inv.stkSub (I : Inv X pins σ H s) : ∀ b ∈ frs X.stack, b ∈ X.env.locals :: X.fs := fun b hb => by
  rcases I.ok.stk with e | ⟨e, hf⟩
  · rw [e] at hb; exact List.mem_cons_of_mem _ hb
  · rw [e] at hb
    unfold frs at hb
    rw [List.filterMap_cons, hf] at hb
    exact hb
theorem Inv.stkFree (I : Inv X pins σ H s) : ∀ b ∈ frs X.stack, H b = none := fun b hb => by
  rcases List.mem_cons.mp (I.stkSub b hb) with e | hb
  · rw [e]; exact I.free
  · obtain ⟨_, o, ho, _⟩ := I.ok.funs.mem hb
    exact I.base.free b o ho (I.ok.frf b hb) fun z => I.ok.exfs b z hb

/-- THE STEP: the untracked objects but the frame and the records at ch are kept (the callers' frames up to slots), the frame's map is kept, the new abstract heap is held -/
theorem Inv.step {g' : Array GenState} {t' : Nat} {d' : Drawn} {ch : List Addr} (I : Inv X pins σ H s)
    (hch : ∀ b ∈ ch, (b ∈ X.ex ∨ X.s₀.heap.objs.size ≤ b) ∧ b ≠ X.env.locals ∧ (∀ x c, X.env.cells.lookup x = some c → c ≠ b) ∧ ∀ p ∈ X.pn ++ pins, p.1 ≠ b)
    (keep : ∀ b o, b ≠ X.env.locals → b ∉ X.fs → b ∉ ch → s.heap.get? b = some o → H b = none → h'.get? b = some o)
    (slot : ∀ b o, b ≠ X.env.locals → b ∈ X.fs → b ∉ ch → s.heap.get? b = some o → H b = none → ∃ sl, h'.get? b = some { o with slots := sl }) (free : ∀ b o, b ∉ ch → s.heap.get? b = some o → H b = none → H' b = none)
    (there : ∀ b o, b ∉ ch → s.heap.get? b = some o → ∃ o', h'.get? b = some o')
    (tups : ∀ b xs, H b = some (.tup xs) → H' b = some (.tup xs)) (frzs : ∀ b o u, H b = some (.frz o u) → H' b = some (.frz o u)) (tbls : ∀ b ps, H b = some (.tbl ps) → ∃ more, H' b = some (.tbl (ps ++ more)))
    (ns : ∀ m, s.heap.Ns X.env.locals m → h'.Ns X.env.locals m) (hok : HOk X.prog X.w H' h') (hg : AllBare g') :
    Inv X pins σ H' { s with heap := h', gens := g', drawn := d', toks := t' } := by
  have neL : ∀ b o, X.s₀.heap.get? b = some o → b ≠ X.env.locals := fun b o e => Nat.ne_of_lt (Nat.lt_of_lt_of_le (Heap.lt_size e) I.ok.above)
  have neC : ∀ b o, X.s₀.heap.get? b = some o → b ∉ X.ex → b ∉ ch := fun b o e hx hb => by
    rcases (hch b hb).1 with z | z
    · exact hx z
    · exact absurd (Nat.lt_of_lt_of_le (Heap.lt_size e) z) (Nat.lt_irrefl _)
  have cellK : ∀ x c, X.env.cells.lookup x = some c → ∀ v, s.heap.IsCell c v → h'.IsCell c v := fun x c e v ⟨o, ho, hd⟩ => by
    have nch : c ∉ ch := fun z => (hch c z).2.2.1 x c e rfl
    by_cases hc : c ∈ X.fs
    · obtain ⟨sl, q⟩ := slot c o (I.cne x c e) hc nch ho (I.freeC x c e)
      exact ⟨_, q, hd⟩
    · exact ⟨o, keep c o (I.cne x c e) hc nch ho (I.freeC x c e), hd⟩
  refine ⟨I.ok, I.os, hg, ⟨fun b o e n hb hx => ?_, fun b o e n hb hx => ?_, fun b o e n hx => ?_, fun b o e hx => ?_, fun b xs e => tups b xs (I.base.tups b xs e), fun b o xs e => frzs b o xs (I.base.frzs b o xs e), fun b ps e => ?_⟩, ?_, fun x c e => ?_, ?_, fun x c e => ?_, fun p hp => ?_, hok, I.len⟩
  · exact keep b o (neL b o e) hb (neC b o e hx) (I.base.keep b o e n hb hx) (I.base.free b o e n hx)
  · obtain ⟨sl, e1⟩ := I.base.slot b o e n hb hx
    obtain ⟨sl', e2⟩ := slot b _ (neL b o e) hb (neC b o e hx) e1 (I.base.free b o e n hx)
    exact ⟨sl', e2⟩
  · obtain ⟨o', e1⟩ := I.base.there b o e hx
    exact free b o' (neC b o e hx) e1 (I.base.free b o e n hx)
  · obtain ⟨o', e1⟩ := I.base.there b o e hx
    exact there b o' (neC b o e hx) e1
  · obtain ⟨m1, e1⟩ := I.base.tbls b ps e
    obtain ⟨m2, e2⟩ := tbls b _ e1
    exact ⟨m1 ++ m2, by rw [e2, Array.append_assoc]⟩
  · obtain ⟨m, hn, hl⟩ := I.loc
    refine ⟨m, ns m hn, fun i x v e1 e2 e3 => ?_⟩
    obtain ⟨u, r, l⟩ := hl i x v e1 e2 e3
    refine ⟨u, r, ?_⟩
    rcases l with l | ⟨k, c, e, z⟩
    · exact .inl l
    · exact .inr ⟨k, c, e, cellK x c e _ z⟩
  · obtain ⟨v, z⟩ := I.cell x c e
    exact ⟨v, cellK x c e v z⟩
  · obtain ⟨m, ⟨o, _, _, ho, _⟩, _⟩ := I.loc
    exact free _ o (fun z => (hch _ z).2.1 rfl) ho I.free
  · obtain ⟨v, o, ho, hd⟩ := I.cell x c e
    exact free c o (fun z => (hch c z).2.2.1 x c e rfl) ho (I.freeC x c e)
  · obtain ⟨e, n, ne, nf, d⟩ := I.pin p hp
    have nch : p.1 ∉ ch := fun z => (hch p.1 z).2.2.2 p hp rfl
    exact ⟨keep p.1 p.2 ne nf nch e n, free p.1 p.2 nch e n, ne, nf, d⟩
/-- .. where the frame's own object is kept too -/
theorem Inv.un {t' : Nat} (I : Inv X pins σ H s) (u : Un X.fs [] H H' s.heap h') (hok : HOk X.prog X.w H' h') : Inv X pins σ H' { s with heap := h', toks := t' } := by
  obtain ⟨m, ⟨o, es, ep, ho, r⟩, _⟩ := id I.loc
  obtain ⟨sl, hL⟩ := u.any ho I.free (by simp)
  exact I.step (g' := s.gens) (d' := s.drawn) (ch := []) (fun _ z => nomatch z) (fun b o _ hb _ e n => u.keep b o e n hb (by simp)) (fun b o _ hb _ e n => u.slot b o e n hb (by simp)) (fun b o _ e n => u.free b o e n (by simp)) (fun b o _ e => u.there b o e (by simp)) u.tups u.frzs u.tbls (fun m' hm => by
    obtain ⟨o', es', ep', ho', r'⟩ := hm
    rw [ho] at ho'; cases ho'
    exact ⟨_, es', ep', hL, r'⟩) hok I.bare
/-- behind a call (or a comprehension's block): the slots of this frame may have changed too, the records at ch may have turned -/
theorem Inv.call {g' : Array GenState} {t' : Nat} {d' : Drawn} {ch : List Addr} (I : Inv X pins σ H s) (u : Un (frs X.stack) ch H H' s.heap h') (hok : HOk X.prog X.w H' h') (hg : AllBare g')
    (hch : ∀ b ∈ ch, (b ∈ X.ex ∨ X.s₀.heap.objs.size ≤ b) ∧ b ≠ X.env.locals ∧ (∀ x c, X.env.cells.lookup x = some c → c ≠ b) ∧ ∀ p ∈ X.pn ++ pins, p.1 ≠ b) :
    Inv X pins σ H' { s with heap := h', gens := g', drawn := d', toks := t' } := by
  obtain ⟨m, ⟨o, es, ep, ho, r⟩, _⟩ := id I.loc
  obtain ⟨sl, hL⟩ := u.any ho I.free fun z => (hch _ z).2.1 rfl
  exact I.step (ch := ch) hch (fun b o hL hb hc e n => u.keep b o e n (fun z => (List.mem_cons.mp (I.stkSub b z)).elim hL hb) hc) (fun b o _ _ hc e n => u.any e n hc) (fun b o hc e n => u.free b o e n hc) (fun b o hc e => u.there b o e hc) u.tups u.frzs u.tbls (fun m' hm => by
    obtain ⟨o', es', ep', ho', r'⟩ := hm
    rw [ho] at ho'; cases ho'
    exact ⟨_, es', ep', hL, r'⟩) hok hg
/-- an untracked record of ours (an iterator) has turned -/
theorem Inv.turned {t' : Nat} {it : Addr} (I : Inv X pins σ H s) (k : ∀ b o, b ≠ it → s.heap.get? b = some o → h'.get? b = some o) (hn : H it = none) (hL : it ≠ X.env.locals)
    (h1 : it ∈ X.ex ∨ X.s₀.heap.objs.size ≤ it) (h2 : ∀ x c, X.env.cells.lookup x = some c → c ≠ it) (h3 : ∀ p ∈ X.pn ++ pins, p.1 ≠ it) : Inv X pins σ H { s with heap := h', toks := t' } := by
  have nit : ∀ b u, H b = some u → b ≠ it := fun b u e z => by rw [z, hn] at e; cases e
  refine I.step (g' := s.gens) (d' := s.drawn) (ch := [it]) (fun b hb => ?_) (fun b o _ _ hc e _ => k b o (fun z => hc (by simp [z])) e) (fun b o _ _ hc e _ => ⟨o.slots, k b o (fun z => hc (by simp [z])) e⟩) (fun _ _ _ _ n => n)
    (fun b o hc e => ⟨o, k b o (fun z => hc (by simp [z])) e⟩) (fun _ _ e => e) (fun _ _ _ e => e) (fun b ps e => ⟨#[], by rw [e]; simp⟩) (fun m hm => ?_) (fun b u e => ?_) I.bare
  · have e : b = it := by simpa using hb
    subst e
    exact ⟨h1, hL, h2, h3⟩
  · obtain ⟨o, es, ep, ho, r⟩ := hm
    exact ⟨o, es, ep, k _ o (Ne.symm hL) ho, r⟩
  · refine (I.hok b u e).stay (fun c v hc q => k c v ?_ q) (fun _ q => q) fun _ _ q => q
    rcases hc with z | z
    · rw [z]; exact nit b u e
    · exact nit c _ z
theorem Inv.tok (I : Inv X pins σ H s) (t : Nat) : Inv X pins σ H { s with toks := t } := I.un (h' := s.heap) (t' := t) Un.refl I.hok
/-- all objects kept -/
theorem Inv.kept {t' : Nat} (I : Inv X pins σ H s) (k : ∀ b u, s.heap.get? b = some u → h'.get? b = some u) : Inv X pins σ H { s with heap := h', toks := t' } := I.un (Un.kept k) (I.hok.kept k)
/-- a new object laid and tracked -/
theorem Inv.laid {a : Addr} {o : HO} {t' : Nat} (I : Inv X pins σ H s) (k : ∀ b u, s.heap.get? b = some u → h'.get? b = some u) (hp : s.heap.objs.size ≤ a) (new : ObjOk X.prog X.w (upd H a o) h' a o) :
    Inv X pins σ (upd H a o) { s with heap := h', toks := t' } := I.un (Un.laid k hp (I.hok.fresh hp)) (I.hok.laid k hp new)
/-- an object written -/
theorem Inv.write {x e : Addr} {o : HO} {t' : Nat} (I : Inv X pins σ H s) (mu : Mut (H x)) (he : e = x ∨ H e = some (.own x)) (k : ∀ b u, b ≠ e → s.heap.get? b = some u → h'.get? b = some u) (heo : ∃ u, h'.get? e = some u)
    (new : ObjOk X.prog X.w (upd H x o) h' x o) : Inv X pins σ (upd H x o) { s with heap := h', toks := t' } := I.un (Un.write mu he k heo) (I.hok.write mu he k heo new)
theorem Inv.pins_of {pins' : List (Addr × Obj)} (I : Inv X pins σ H s) (h : ∀ p ∈ pins', s.heap.get? p.1 = some p.2 ∧ H p.1 = none ∧ p.1 ≠ X.env.locals ∧ p.1 ∉ X.fs ∧ ∀ v, p.2.data ≠ .cell v) : Inv X pins' σ H s :=
  ⟨I.ok, I.os, I.bare, I.base, I.loc, I.cell, I.free, I.freeC, fun p hp => (List.mem_append.mp hp).elim (fun z => I.pin p (List.mem_append_left _ z)) (h p), I.hok, I.len⟩

theorem nodup_ix {N : List Str} (hN : N.Nodup) {i j : Nat} {x : Str} (a : N[i]? = some x) (b : N[j]? = some x) : i = j := by
  obtain ⟨h1, e1⟩ := List.getElem?_eq_some_iff.mp a
  obtain ⟨h2, e2⟩ := List.getElem?_eq_some_iff.mp b
  exact (List.getElem_inj hN).mp (e1.trans e2.symm)

/-- a name is stored; what changed -/
theorem store_ok2 {M : Model} {A : Around} {E : Value → Shared → Prop} {i : Nat} {x : Str} {v : V} {u : Value} {Q : Unit → Shared → Prop} (I : Inv X pins σ H s) (hN : X.N.Nodup) (hi : X.N[i]? = some x) (hx : Loc X.env.scope x) (r : RelV v u)
    (h : ∀ s', Inv X pins (σ.set i (some v)) H s' → (∃ a, Heap.SameBut a s.heap s'.heap ∧ (a = X.env.locals ∨ X.env.cells.lookup x = some a)) → Q () s') (hf : X.fn x = true ∨ X.env.scope.names.lookup x = some .local := by first | exact .inl rfl | exact .inr rfl | assumption) : wpAny M A (storeName X.env x u) Q E s := by
  obtain ⟨m, hn, hl⟩ := id I.loc
  have hcls : (X.env.scope.kind == .class || (X.env.scope.kind == .module && X.env.locals != X.env.globals)) = false := by rw [I.ok.kind]; rfl
  have hiσ : i < σ.length := by rw [I.len]; exact (List.getElem?_eq_some_iff.mp hi).1
  have cne := I.cne
  have tracked : ∀ {a : Addr} {h' : Heap}, (∃ o, s.heap.get? a = some o ∧ H a = none) → Heap.SameBut a s.heap h' → HOk X.prog X.w H h' := fun {a h'} ha hs b ob e => by
    obtain ⟨_, _, hfree⟩ := ha
    refine (I.hok b ob e).stay (fun c w' hc q => (hs.2 c ?_).trans q) (fun _ q => q) fun _ _ q => q
    rintro rfl
    rcases hc with rfl | hc
    · rw [hfree] at e; cases e
    · rw [hfree] at hc; cases hc
  rcases hx with hk | hk
  · refine wpAny_storeName_local hk hn (fun h' hn' hs => ?_) hcls
    obtain ⟨oL, _, _, hoL, _⟩ := id hn
    refine h _ ⟨I.ok, I.os, I.bare, ⟨fun b o e n hb hx => ?_, fun b o e n hb hx => ?_, I.base.free, fun b o e hx => ?_, I.base.tups, I.base.frzs, I.base.tbls⟩, ⟨_, hn', fun j y v' e1 e2 e3 => ?_⟩, fun y c e => ?_, I.free, I.freeC, fun p hp => ?_, tracked ⟨oL, hoL, I.free⟩ hs, by simpa using I.len⟩ ⟨_, hs, .inl rfl⟩
    · exact (hs.2 b (Nat.ne_of_lt (Nat.lt_of_lt_of_le (Heap.lt_size e) I.ok.above))).trans (I.base.keep b o e n hb hx)
    · obtain ⟨sl, e1⟩ := I.base.slot b o e n hb hx
      exact ⟨sl, (hs.2 b (Nat.ne_of_lt (Nat.lt_of_lt_of_le (Heap.lt_size e) I.ok.above))).trans e1⟩
    · obtain ⟨o', e1⟩ := I.base.there b o e hx
      exact ⟨o', (hs.2 b (Nat.ne_of_lt (Nat.lt_of_lt_of_le (Heap.lt_size e) I.ok.above))).trans e1⟩
    · by_cases hj : j = i
      · subst hj
        rw [hi] at e1; cases e1
        rw [List.getElem?_set_self hiσ] at e2
        cases e2
        exact ⟨u, r, .inl ⟨hk, by simp⟩⟩
      · rw [List.getElem?_set_ne (Ne.symm hj)] at e2
        obtain ⟨u', r', q⟩ := hl j y v' e1 e2 e3
        refine ⟨u', r', ?_⟩
        rcases q with ⟨k, e⟩ | ⟨k, c, e, z⟩
        · refine .inl ⟨k, ?_⟩
          have : y ≠ x := fun e => hj (nodup_ix hN e1 (e ▸ hi))
          simp [this, e]
        · exact .inr ⟨k, c, e, z.sameBut hs (cne y c e)⟩
    · obtain ⟨w', z⟩ := I.cell y c e
      exact ⟨w', z.sameBut hs (cne y c e)⟩
    · obtain ⟨e, n, ne, nf, d⟩ := I.pin p hp
      exact ⟨(hs.2 p.1 ne).trans e, n, ne, nf, d⟩
  · have hfn : X.fn x = true := by
      rcases hf with z | z
      · exact z
      · rw [z] at hk; cases hk
    obtain ⟨c, hc⟩ := I.ok.has x (.inl hk)
    obtain ⟨w', z⟩ := I.cell x c hc
    refine wpAny_storeName_cell I.ok.kind hk hc z (fun h' hc' hs => ?_)
    obtain ⟨oc, hoc, hocd⟩ := id z
    refine h { s with heap := h' } ⟨I.ok, I.os, I.bare, ⟨fun b o e n hb hx => ?_, fun b o e n hb hx => ?_, I.base.free, fun b o e hx => ?_, I.base.tups, I.base.frzs, I.base.tbls⟩, ⟨m, hn.sameBut hs (Ne.symm (cne x c hc)), fun j y v' e1 e2 e3 => ?_⟩, fun y c' e => ?_, I.free, I.freeC, fun p hp => ?_, tracked ⟨oc, hoc, I.freeC x c hc⟩ hs, by simpa using I.len⟩ ⟨c, hs, .inr hc⟩
    · exact (hs.2 b (Nat.ne_of_lt (Nat.lt_of_lt_of_le (Heap.lt_size e) (I.ok.cab x c hfn hc)))).trans (I.base.keep b o e n hb hx)
    · obtain ⟨sl, e1⟩ := I.base.slot b o e n hb hx
      exact ⟨sl, (hs.2 b (Nat.ne_of_lt (Nat.lt_of_lt_of_le (Heap.lt_size e) (I.ok.cab x c hfn hc)))).trans e1⟩
    · obtain ⟨o', e1⟩ := I.base.there b o e hx
      exact ⟨o', (hs.2 b (Nat.ne_of_lt (Nat.lt_of_lt_of_le (Heap.lt_size e) (I.ok.cab x c hfn hc)))).trans e1⟩
    · by_cases hj : j = i
      · subst hj
        rw [hi] at e1; cases e1
        rw [List.getElem?_set_self hiσ] at e2
        cases e2
        exact ⟨u, r, .inr ⟨.inl hk, c, hc, hc'⟩⟩
      · rw [List.getElem?_set_ne (Ne.symm hj)] at e2
        obtain ⟨u', r', q⟩ := hl j y v' e1 e2 e3
        refine ⟨u', r', ?_⟩
        rcases q with q | ⟨k, c', e, z'⟩
        · exact .inl q
        · refine .inr ⟨k, c', e, z'.sameBut hs ?_⟩
          rintro rfl
          exact hj (nodup_ix hN e1 (I.ok.inj _ _ _ e hc ▸ hi))
    · by_cases hcc : c' = c
      · subst hcc; exact ⟨_, hc'⟩
      · obtain ⟨w2, z2⟩ := I.cell y c' e
        exact ⟨w2, z2.sameBut hs hcc⟩
    · obtain ⟨e, n, ne, nf, d⟩ := I.pin p hp
      refine ⟨(hs.2 p.1 ?_).trans e, n, ne, nf, d⟩
      intro q
      rw [q, hoc] at e
      have q' : oc = p.2 := Option.some.inj e
      exact d w' (by rw [← q']; exact hocd)
theorem store_ok {M : Model} {A : Around} {E : Value → Shared → Prop} {i : Nat} {x : Str} {v : V} {u : Value} {Q : Unit → Shared → Prop} (I : Inv X pins σ H s) (hN : X.N.Nodup) (hi : X.N[i]? = some x) (hx : Loc X.env.scope x) (r : RelV v u)
    (h : ∀ s', Inv X pins (σ.set i (some v)) H s' → Q () s') (hf : X.fn x = true ∨ X.env.scope.names.lookup x = some .local := by first | exact .inl rfl | exact .inr rfl | assumption) : wpAny M A (storeName X.env x u) Q E s :=
  store_ok2 I hN hi hx r (fun s' I' _ => h s' I') hf
/-- behind a call or a block, the state as it is -/
theorem Inv.call' {s' : Shared} {ch : List Addr} (I : Inv X pins σ H s) (ho : s'.os = s.os) (u : Un (frs X.stack) ch H H' s.heap s'.heap) (hok : HOk X.prog X.w H' s'.heap) (hg : AllBare s'.gens)
    (hch : ∀ b ∈ ch, (b ∈ X.ex ∨ X.s₀.heap.objs.size ≤ b) ∧ b ≠ X.env.locals ∧ (∀ x c, X.env.cells.lookup x = some c → c ≠ b) ∧ ∀ p ∈ X.pn ++ pins, p.1 ≠ b) : Inv X pins σ H' s' := by
  obtain ⟨h', g', d', t', o'⟩ := s'
  have e : o' = s.os := ho
  subst e
  exact I.call (g' := g') (t' := t') (d' := d') u hok hg hch
end

/-! ### the judgements -/
/-- an exception: its class, its own dict's address (where it has one), the abstract heap behind it -/
abbrev XK := Value → Option Addr → Hp → Prop
abbrev St := List (Option V)
abbrev VK := V → Hp → Prop
/-- an expression's reading; a test's; an argument list's -/
abbrev TE := St → Hp → VK → Prop
abbrev TT := St → Hp → (Bool → Hp → Prop) → Prop
abbrev TA := St → Hp → (List V → Hp → Prop) → Prop
/-- what is wanted behind a statement -/
structure Ends where
  nx : St → Hp → Prop
  rt : VK
  bk : St → Hp → Prop := fun _ _ => False
  ct : St → Hp → Prop := fun _ _ => False
abbrev TS := Ends → St → Hp → Prop

def EP (X : Cx) (pins : List (Addr × Obj)) (σ : St) (Q : VK) (u : Value) (s' : Shared) : Prop := ∃ v H', Inv X pins σ H' s' ∧ RelV v u ∧ Q v H'
def TP (X : Cx) (pins : List (Addr × Obj)) (σ : St) (Q : Bool → Hp → Prop) (b : Bool) (s' : Shared) : Prop := ∃ H', Inv X pins σ H' s' ∧ Q b H'
def AP (X : Cx) (pins : List (Addr × Obj)) (σ : St) (Q : List V → Hp → Prop) (us : List Value) (s' : Shared) : Prop := ∃ vs H', Inv X pins σ H' s' ∧ Vals vs us ∧ Q vs H'
def SP (X : Cx) (pins : List (Addr × Obj)) (D : Ends) (f : Flow) (s' : Shared) : Prop :=
  match f with
  | .next => ∃ σ' H', Inv X pins σ' H' s' ∧ D.nx σ' H'
  | .brk => ∃ σ' H', Inv X pins σ' H' s' ∧ D.bk σ' H'
  | .cont => ∃ σ' H', Inv X pins σ' H' s' ∧ D.ct σ' H'
  | .ret u => ∃ v σ' H', Inv X pins σ' H' s' ∧ RelV v u ∧ D.rt v H'

def PE (X : Cx) (e : Expr) (t : TE) : Prop :=
  ∀ (pins : List (Addr × Obj)) (s : Shared) (σ : St) (H : Hp) (Q : VK), Inv X pins σ H s → t σ H Q → wpAny (model X.prog X.w) X.A (eval e X.env) (EP X pins σ Q) X.xe s
def PT (X : Cx) (e : Expr) (t : TT) : Prop :=
  ∀ (pins : List (Addr × Obj)) (s : Shared) (σ : St) (H : Hp) (Q : Bool → Hp → Prop), Inv X pins σ H s → t σ H Q → wpAny (model X.prog X.w) X.A (isTrue e X.env (eval e X.env)) (TP X pins σ Q) X.xe s
/-- a test whatever its 'whole' is (and, or) -/
def PW (X : Cx) (e : Expr) (t : TT) : Prop :=
  ∀ (whole : Sem Value) (pins : List (Addr × Obj)) (s : Shared) (σ : St) (H : Hp) (Q : Bool → Hp → Prop), Inv X pins σ H s → t σ H Q → wpAny (model X.prog X.w) X.A (isTrue e X.env whole) (TP X pins σ Q) X.xe s
theorem PW.pt {X : Cx} {e : Expr} {t : TT} (h : PW X e t) : PT X e t := h _
/-- an argument list (no star), from the left -/
def PA (X : Cx) (es : List Expr) (t : TA) : Prop :=
  ∀ (pos : Pos) (pins : List (Addr × Obj)) (s : Shared) (σ : St) (H : Hp) (Q : List V → Hp → Prop), Inv X pins σ H s → t σ H Q → wpAny (model X.prog X.w) X.A (spliced (backTo pos (starEach es X.env))) (AP X pins σ Q) X.xe s
def PS (X : Cx) (st : Stmt) (t : TS) : Prop :=
  ∀ (pins : List (Addr × Obj)) (s : Shared) (σ : St) (H : Hp) (D : Ends), Inv X pins σ H s → t D σ H → wpAny (model X.prog X.w) X.A (exec st X.env) (SP X pins D) X.xe s
def PSs (X : Cx) (st : List Stmt) (t : TS) : Prop :=
  ∀ (pins : List (Addr × Obj)) (s : Shared) (σ : St) (H : Hp) (D : Ends), Inv X pins σ H s → t D σ H → wpAny (model X.prog X.w) X.A (execs st X.env) (SP X pins D) X.xe s
/-- weaken the end -/
theorem thn {α : Type} {t : Sem α} {Q Q' : α → Shared → Prop} {M : Model} {A : Around} {E : Value → Shared → Prop} {s : Shared} (h : wpAny M A t Q E s) (hQ : ∀ a s, Q a s → Q' a s) : wpAny M A t Q' E s := wpAny_mono h hQ fun _ _ x => x
end L2

namespace L2
open PySem PySem.Spec PyProof.Rows
section
variable {X : Cx}

/-- two expressions in a row -/
theorem bin {a b : Expr} {ta tb : TE} (ha : PE X a ta) (hb : PE X b tb) {pins : List (Addr × Obj)} {s : Shared} {σ : St} {H : Hp} {R : V → V → Hp → Prop} (I : Inv X pins σ H s) (h : ta σ H fun x H1 => tb σ H1 fun y H2 => R x y H2)
    {α : Type} {Q : α → Shared → Prop} {f : Value → Value → Sem α}
    (hf : ∀ v u s2 x y H2, Inv X pins σ H2 s2 → RelV x v → RelV y u → R x y H2 → wpAny (model X.prog X.w) X.A (f v u) Q X.xe s2) :
    wpAny (model X.prog X.w) X.A (eval a X.env) (fun v s₁ => wpAny (model X.prog X.w) X.A (eval b X.env) (fun u s₂ => wpAny (model X.prog X.w) X.A (f v u) Q X.xe s₂) X.xe s₁) X.xe s := by
  refine thn (ha pins s σ H _ I h) fun v s1 ⟨x, H1, I1, r1, q1⟩ => ?_
  refine thn (hb pins s1 σ H1 _ I1 q1) fun u s2 ⟨y, H2, I2, r2, q2⟩ => ?_
  exact hf v u s2 x y H2 I2 r1 r2 q2

/-! ### names and constants -/
def tVar (i : Nat) : TE := fun σ H Q => ∃ v, σ[i]? = some (some v) ∧ Q v H
def tC (v : V) : TE := fun _ H Q => Q v H
theorem pe_var {i : Nat} {x : Str} {pos : Pos} (hN : X.N[i]? = some x) (hv : Vis X.env.scope x) (hd : (x == ("__debug__" : Str)) = false := by decide) (hcd : (x == ("__classdict__" : Str)) = false := by decide) : PE X (.Name x pos) (tVar i) := by
  intro pins s σ H Q I h
  obtain ⟨v, e, h⟩ := h
  obtain ⟨m, hn, hl⟩ := I.loc
  obtain ⟨u, r, l⟩ := hl i x v hN e hv
  have fin : EP X pins σ Q u s := ⟨v, H, I, r, h⟩
  rcases l with ⟨hk, hm⟩ | ⟨hk, c, hc, hcell⟩
  · exact wpAny_Name (wpAny_loadName_local I.ok.kind hk hn hm fin) hd
  · rcases hk with hk | hk
    · exact wpAny_Name (wpAny_loadName_cell I.ok.kind hk hc hcell fin) hd
    · exact wpAny_Name (wpAny_loadName_free I.ok.kind hk hc hcell fin hcd) hd
theorem pe_int {i j pos} : PE X (.Constant (.int i) j pos) (tC (.int i)) := fun _ _ _ H _ I h => wpAny_Constant_int ⟨.int i, H, I.tok _, ⟨_, rfl⟩, h⟩
theorem pe_bl {b j pos} : PE X (.Constant (.bool b) j pos) (tC (.bl b)) := fun _ _ _ H _ I h => Constant_bool ⟨.bl b, H, I, rfl, h⟩
theorem pe_non {j pos} : PE X (.Constant .none j pos) (tC .non) := fun _ _ _ H _ I h => Constant_none ⟨.non, H, I, rfl, h⟩
theorem pe_str {x j pos} : PE X (.Constant (.str x) j pos) (tC (.str x)) := fun _ _ _ H _ I h => Calls.Constant_str ⟨.str x, H, I.tok _, ⟨_, rfl⟩, h⟩

/-- a global name of the def -/
def Gl (X : Cx) (x : Str) : Prop := X.env.kindOf x = some .globalImplicit
theorem ld_glob {E : Value → Shared → Prop} {pins : List (Addr × Obj)} {s : Shared} {σ : St} {H : Hp} {x : Str} {u : Value} {pos : Pos} {Q : Value → Shared → Prop} (I : Inv X pins σ H s) (hg : Gl X x) (hm : X.mg x = some u) (h : Q u s)
    (hd : (x == ("__debug__" : Str)) = false := by decide) : wpAny (model X.prog X.w) X.A (eval (.Name x pos) X.env) Q E s :=
  Calls.Name_function_global I.ok.kind hg (Calls.loadGlobal_global (by rw [I.ok.glob]; exact I.mod.glob.keeps I.bk) hm h) hd
theorem ld_blt {E : Value → Shared → Prop} {pins : List (Addr × Obj)} {s : Shared} {σ : St} {H : Hp} {x : Str} {u : Value} {pos : Pos} {Q : Value → Shared → Prop} (I : Inv X pins σ H s) (hg : Gl X x) (hm : X.mg x = none) (hv : bootBuiltins x = some u) (h : Q u s)
    (hn : x ≠ "__name__" := by decide) (hd : (x == ("__debug__" : Str)) = false := by decide) : wpAny (model X.prog X.w) X.A (eval (.Name x pos) X.env) Q E s := by
  obtain ⟨mb, h1, h2⟩ := I.mod.blt
  exact Calls.Name_function_global I.ok.kind hg (Calls.loadGlobal_builtin (by rw [I.ok.glob]; exact I.mod.glob.keeps I.bk) hm (by rw [I.ok.blt]; exact h1.keeps I.bk) ((h2 x hn).trans hv) h) hd
theorem pe_bltn {x : Str} {v : V} {u : Value} {pos : Pos} (hg : Gl X x) (hm : X.mg x = none) (hv : bootBuiltins x = some u) (r : RelV v u) (hn : x ≠ "__name__" := by decide) (hd : (x == ("__debug__" : Str)) = false := by decide) : PE X (.Name x pos) (tC v) :=
  fun _ _ _ H _ I h => ld_blt I hg hm hv ⟨v, H, I, r, h⟩ hn hd

/-! ### arithmetic -/
variable {a b : Expr} {ta tb : TE} {pos : Pos}
/-! ### comparisons -/
def PC (X : Cx) (op : CmpOp) (a b : Expr) (t : TE) : Prop :=
  ∀ (pins : List (Addr × Obj)) (s : Shared) (σ : St) (H : Hp) (Q : VK), Inv X pins σ H s → t σ H Q →
    wpAny (model X.prog X.w) X.A (eval a X.env) (fun v s₁ => wpAny (model X.prog X.w) X.A (eval b X.env) (fun u s₂ => wpAny (model X.prog X.w) X.A (compareOp op v u) (EP X pins σ Q) X.xe s₂) X.xe s₁) X.xe s
/-- a comparison as a value, as a test -/
def tB (t : TE) : TT := fun σ H Q => t σ H fun x H1 => ∃ c, x = .bl c ∧ Q c H1
theorem pt_cmp {op : CmpOp} {t : TE} (h : PC X op a b t) (h1 : behindInMarks op b = false := by first | exact nobehind _ (by decide) (by decide) | rfl) : PT X (.Compare a [op] [b] pos) (tB t) := by
  intro pins s σ H Q I hw
  refine wpAny_isTrue_Compare1 (thn (h pins s σ H _ I hw) fun v s1 h1 => thn h1 fun u s2 h2 => thn h2 fun c s3 ⟨x, H1, I1, r1, q1⟩ => ?_) h1
  obtain ⟨d, rfl, q⟩ := q1
  cases r1
  exact wpAny_truthy_bool ⟨H1, I1, q⟩
/-- an expression whose value is a bool, as a test -/
theorem pt_val {e : Expr} {t : TE} (h : PE X e t) (he : ∀ whole, isTrue e X.env whole = (do let v ← whole; standAt e.pos; holding [v] (truthy v)) := by intro _; rfl) : PT X e (tB t) := by
  intro pins s σ H Q I hw
  refine isTrue_plain (thn (h pins s σ H _ I hw) fun v s1 ⟨x, H1, I1, r1, q1⟩ => ?_) (he _)
  obtain ⟨d, rfl, q⟩ := q1
  cases r1
  exact wpAny_truthy_bool ⟨H1, I1, q⟩

/-! ### and, or, not -/
variable {tA tB' : TT} {rest : List Expr}
def tAnd (t u : TT) : TT := fun σ H Q => t σ H fun c H1 => if c = true then u σ H1 Q else Q false H1
def tOr (t u : TT) : TT := fun σ H Q => t σ H fun c H1 => if c = true then Q true H1 else u σ H1 Q
def tNot (t : TT) : TT := fun σ H Q => t σ H fun c H1 => Q (!c) H1
theorem pw_and1 (ha : PT X a tA) : PW X (.BoolOp .And [a] pos) tA := by
  intro wh pins s σ H Q I h
  refine isTrue_and (thn (ha pins s σ H Q I h) fun c s1 e => ?_)
  cases c with
  | true => exact isTrue_and_nil e
  | false => exact e
theorem pw_or1 (ha : PT X a tA) : PW X (.BoolOp .Or [a] pos) tA := by
  intro wh pins s σ H Q I h
  refine isTrue_or (thn (ha pins s σ H Q I h) fun c s1 e => ?_)
  cases c with
  | false => exact isTrue_or_nil e
  | true => exact e
theorem pw_and (ha : PT X a tA) (hb : PW X (.BoolOp .And (b :: rest) pos) tB') : PW X (.BoolOp .And (a :: b :: rest) pos) (tAnd tA tB') := by
  intro wh pins s σ H Q I h
  refine isTrue_and (thn (ha pins s σ H _ I h) fun c s1 ⟨H1, I1, q1⟩ => ?_)
  cases c with
  | true => exact hb wh pins s1 σ H1 Q I1 q1
  | false => exact ⟨H1, I1, q1⟩
theorem pw_or (ha : PT X a tA) (hb : PW X (.BoolOp .Or (b :: rest) pos) tB') : PW X (.BoolOp .Or (a :: b :: rest) pos) (tOr tA tB') := by
  intro wh pins s σ H Q I h
  refine isTrue_or (thn (ha pins s σ H _ I h) fun c s1 ⟨H1, I1, q1⟩ => ?_)
  cases c with
  | true => exact ⟨H1, I1, q1⟩
  | false => exact hb wh pins s1 σ H1 Q I1 q1
theorem pt_not (ha : PT X a tA) : PT X (.UnaryOp .Not a pos) (tNot tA) := by
  intro pins s σ H Q I h
  exact isTrue_not (ha pins s σ H (fun c H1 => Q (!c) H1) I h)
/-- .. as values (bools) -/
def tAndV (ta tb : TE) : TE := fun σ H Q => ta σ H fun x H1 => ∃ c, x = .bl c ∧ if c = true then tb σ H1 Q else Q (.bl false) H1
theorem pe_one {op} {t : TE} (h : PE X a t) : PE X (.BoolOp op [a] pos) t := fun pins s σ H Q I hw => BoolOp_one (h pins s σ H Q I hw)
theorem pe_and (ha : PE X a ta) (hb : PE X (.BoolOp .And (b :: rest) pos) tb) : PE X (.BoolOp .And (a :: b :: rest) pos) (tAndV ta tb) := by
  intro pins s σ H Q I h
  refine BoolOp_and (thn (ha pins s σ H _ I h) fun v s1 ⟨x, H1, I1, r1, q1⟩ => ?_)
  obtain ⟨c, rfl, q1⟩ := q1
  cases r1
  refine wpAny_truthy_bool ?_
  cases c with
  | true => exact hb pins s1 σ H1 Q I1 q1
  | false => exact ⟨.bl false, H1, I1, rfl, q1⟩
end
end L2

namespace L2
open PySem PySem.Spec PyProof.Rows

/-! ### a list, a tuple that is read: tracked, frozen, or an object of the module -/
def SqL (K : PySem.W.Frag) (H : Hp) (a : Addr) (xs : List V) : Prop :=
  Rd H a (.lst xs) ∨
    ∃ (o : Obj) (its : Array Value) (n : Nat), K.lookup a = some o ∧ o.cls = .type "list" ∧ o.dict = none ∧ o.data = .seq its n ∧ its.size ≤ sizeLine ∧ Vals xs its.toList
def SqT (K : PySem.W.Frag) (H : Hp) (a : Addr) (xs : List V) : Prop :=
  Rd H a (.tup xs) ∨
    ∃ (o : Obj) (its : Array Value) (n : Nat), K.lookup a = some o ∧ o.cls = .type "tuple" ∧ o.data = .seq its n ∧ its.size ≤ sizeLine ∧ Vals xs its.toList
def absV : Value → Option V
  | .none => some .non
  | .bool b => some (.bl b)
  | .int i _ => some (.int i)
  | .str x _ => some (.str x)
  | .bytes b _ => some (.byt b)
  | .float b _ => some (.flt b)
  | .ref a => some (.ref a)
  | .type n => some (.ty n)
  | _ => none
theorem RelV.abs {x : V} {u : Value} (r : RelV x u) : absV u = some x := by
  cases x with
  | non => cases r; rfl
  | bl _ => cases r; rfl
  | int _ => obtain ⟨t, rfl⟩ := r; rfl
  | str _ => obtain ⟨t, rfl⟩ := r; rfl
  | byt _ => obtain ⟨t, rfl⟩ := r; rfl
  | flt _ => obtain ⟨t, rfl⟩ := r; rfl
  | ref _ => cases r; rfl
  | ty _ => cases r; rfl
theorem RelV.inj {x y : V} {u : Value} (r : RelV x u) (q : RelV y u) : x = y := Option.some.inj (r.abs.symm.trans q.abs)
theorem Vals.inj : ∀ {xs ys : List V} {us : List Value}, Vals xs us → Vals ys us → xs = ys
  | _, _, _, .nil, .nil => rfl
  | _, _, _, .cons r t, .cons r' t' => by rw [r.inj r', Vals.inj t t']
section
variable {X : Cx} {pins : List (Addr × Obj)} {σ : St} {H : Hp} {s : Shared} {a : Addr} {xs ys : List V}
theorem SqL.of {K : PySem.W.Frag} (h : H a = some (.lst xs)) : SqL K H a xs := .inl (.inl h)
theorem SqT.of {K : PySem.W.Frag} (h : H a = some (.tup xs)) : SqT K H a xs := .inl (.inl h)
theorem Inv.list (I : Inv X pins σ H s) (h : SqL X.K H a xs) : ∃ its : List Value, Vals xs its ∧ PlainL s.heap a its.toArray ∧ xs.length ≤ sizeLine := by
  rcases h with h | ⟨o, its, n, hk, hc, hd, hs, hz, r⟩
  · obtain ⟨z, its, n, r, e⟩ := h.ok I.hok
    exact ⟨its, r, ⟨_, n, e, rfl, rfl, rfl⟩, z⟩
  · refine ⟨its.toList, r, ⟨o, n, I.kIn a o hk, hc, hd, by simpa using hs⟩, ?_⟩
    have e := r.length
    simp only [Array.length_toList] at e
    omega
theorem Inv.tuple (I : Inv X pins σ H s) (h : SqT X.K H a xs) : ∃ its : List Value, Vals xs its ∧ IsTup s.heap a its.toArray ∧ xs.length ≤ sizeLine := by
  rcases h with h | ⟨o, its, n, hk, hc, hs, hz, r⟩
  · obtain ⟨z, its, r, p⟩ := h.ok I.hok
    exact ⟨its, r, p, z⟩
  · refine ⟨its.toList, r, ⟨o, I.kIn a o hk, hc, n, by simpa using hs⟩, ?_⟩
    have e := r.length
    simp only [Array.length_toList] at e
    omega
theorem Inv.list_inj (I : Inv X pins σ H s) (h : SqL X.K H a xs) (h' : SqL X.K H a ys) : xs = ys := by
  obtain ⟨its, r, ⟨o, n, e, _, _, d⟩, _⟩ := I.list h
  obtain ⟨its', r', ⟨o', n', e', _, _, d'⟩, _⟩ := I.list h'
  rw [e] at e'; cases e'
  rw [d] at d'
  injection d' with d1 _
  have : its = its' := by simpa using congrArg Array.toList d1
  subst this
  exact r.inj r'
theorem Inv.tuple_inj (I : Inv X pins σ H s) (h : SqT X.K H a xs) (h' : SqT X.K H a ys) : xs = ys := by
  obtain ⟨its, r, ⟨o, e, _, n, d⟩, _⟩ := I.tuple h
  obtain ⟨its', r', ⟨o', e', _, n', d'⟩, _⟩ := I.tuple h'
  rw [e] at e'; cases e'
  rw [d] at d'
  injection d' with d1 _
  have : its = its' := by simpa using congrArg Array.toList d1
  subst this
  exact r.inj r'
end

/-! ### another wish about exceptions -/
abbrev Cx.wish (X : Cx) (E : Value → Shared → Prop) : Cx := { X with xe := E }
/-- no exception leaves -/
abbrev Cx.nox (X : Cx) : Cx := X.wish fun _ _ => False
theorem Cx.Ok.wish {X : Cx} (ok : X.Ok) (E : Value → Shared → Prop) : (X.wish E).Ok :=
  ⟨ok.mod, ok.kind, ok.glob, ok.blt, ok.above, ok.inj, ok.has, ok.cab, ok.hd, ok.frames, ok.stk, ok.exf, ok.bs, ok.bsz, ok.noex, ok.exfs, ok.funs, ok.frf⟩
theorem Cx.Ok.unwish {X : Cx} {E : Value → Shared → Prop} (ok : (X.wish E).Ok) : X.Ok :=
  ⟨ok.mod, ok.kind, ok.glob, ok.blt, ok.above, ok.inj, ok.has, ok.cab, ok.hd, ok.frames, ok.stk, ok.exf, ok.bs, ok.bsz, ok.noex, ok.exfs, ok.funs, ok.frf⟩
section
variable {X : Cx} {pins : List (Addr × Obj)} {σ : St} {H : Hp} {s : Shared} {E : Value → Shared → Prop}
theorem Inv.wish (I : Inv X pins σ H s) (E : Value → Shared → Prop) : Inv (X.wish E) pins σ H s := ⟨I.ok.wish E, I.os, I.bare, I.base, I.loc, I.cell, I.free, I.freeC, I.pin, I.hok, I.len⟩
theorem Inv.unwish (I : Inv (X.wish E) pins σ H s) : Inv X pins σ H s := ⟨I.ok.unwish, I.os, I.bare, I.base, I.loc, I.cell, I.free, I.freeC, I.pin, I.hok, I.len⟩
theorem SP.unwish {D : Ends} {f : Flow} {s' : Shared} (h : SP (X.wish E) pins D f s') : SP X pins D f s' := by
  cases f with
  | next => obtain ⟨σ', H', I, q⟩ := h; exact ⟨σ', H', I.unwish, q⟩
  | brk => obtain ⟨σ', H', I, q⟩ := h; exact ⟨σ', H', I.unwish, q⟩
  | cont => obtain ⟨σ', H', I, q⟩ := h; exact ⟨σ', H', I.unwish, q⟩
  | ret u => obtain ⟨v, σ', H', I, r, q⟩ := h; exact ⟨v, σ', H', I.unwish, r, q⟩
theorem PSs.nox {st : List Stmt} {t : TS} (h : PSs X.nox st t) : PSs X st t := fun pins s σ H D I hw =>
  wpAny_mono (h pins s σ H D (I.wish _) hw) (fun _ _ q => q.unwish) fun _ _ z => False.elim z
end

/-! ### blocks and small statements -/
section
variable {X : Cx} {st : Stmt} {rest : List Stmt} {t u : TS} {e : Expr} {te : TE} {pos : Pos}
def tNext : TS := fun D σ H => D.nx σ H
def tSeq (t u : TS) : TS := fun D σ H => t { D with nx := u D } σ H
theorem pss_nil : PSs X [] tNext := fun _ _ σ H _ I h => wpAny_execs_nil ⟨σ, H, I, h⟩
theorem pss_cons (h1 : PS X st t) (h2 : PSs X rest u) : PSs X (st :: rest) (tSeq t u) := by
  intro pins s σ H D I h
  refine wpAny_execs_cons (thn (h1 pins s σ H { D with nx := u D } I h) fun f s1 q => ?_)
  cases f with
  | next =>
    obtain ⟨σ', H', I', q⟩ := q
    exact h2 pins s1 σ' H' D I' q
  | ret v => exact q
  | brk => exact q
  | cont => exact q
theorem pss_one (h1 : PS X st t) : PSs X [st] t := by
  intro pins s σ H D I h
  refine wpAny_execs_cons (thn (h1 pins s σ H D I h) fun f s1 q => ?_)
  cases f with
  | next => exact wpAny_execs_nil q
  | ret v => exact q
  | brk => exact q
  | cont => exact q
/-- in a def's body nothing is shown -/
theorem Inv.quiet {pins : List (Addr × Obj)} {σ : St} {H : Hp} {s : Shared} (I : Inv X pins σ H s) : interactive X.env = false := by simp [interactive, I.ok.kind]
/-- an expression whose value is dropped -/
def tDrop (te : TE) : TS := fun D σ H => te σ H fun _ H1 => D.nx σ H1
theorem ps_expr (he : PE X e te) (hs : swapsWith e none pos.line X.env = pure false := by rfl) : PS X (.Expr e pos) (tDrop te) := by
  intro pins s σ H D I h
  exact wpAny_Expr_any (thn (he pins s σ H _ I h) fun v s1 ⟨x, H1, I1, r1, q1⟩ => ⟨σ, H1, I1, q1⟩) I.quiet hs
def tRet (te : TE) : TS := fun D σ H => te σ H D.rt
theorem ps_ret (he : PE X e te) : PS X (.Return (some e) pos) (tRet te) := by
  intro pins s σ H D I h
  exact wpAny_Return_some (thn (he pins s σ H _ I h) fun v s1 ⟨x, H1, I1, r1, q1⟩ => ⟨x, σ, H1, I1, r1, q1⟩)
def tIfS (c : TT) (t u : TS) : TS := fun D σ H => c σ H fun b H1 => if b = true then t D σ H1 else u D σ H1
theorem ps_if {c : Expr} {a b : List Stmt} {tc : TT} (hc : PT X c tc) (ha : PSs X a t) (hb : PSs X b u) : PS X (.If c a b pos) (tIfS tc t u) := by
  intro pins s σ H D I h
  refine wpAny_If (thn (hc pins s σ H _ I h) fun d s1 ⟨H1, I1, q1⟩ => ?_)
  cases d with
  | true => exact ha pins s1 σ H1 D I1 q1
  | false => exact hb pins s1 σ H1 D I1 q1
/-- code that the proof never comes to -/
def tNever : TS := fun _ _ _ => False
theorem pss_never {sts : List Stmt} : PSs X sts tNever := fun _ _ _ _ _ _ h => h.elim
end

/-! ### targets -/
abbrev TG := V → St → Hp → (St → Hp → Prop) → Prop
abbrev TGs := List V → St → Hp → (St → Hp → Prop) → Prop
def PG (X : Cx) (target : Expr) (t : TG) : Prop :=
  ∀ (pins : List (Addr × Obj)) (s : Shared) (σ : St) (H : Hp) (v : V) (u : Value) (Q : St → Hp → Prop), Inv X pins σ H s → RelV v u → t v σ H Q →
    wpAny (model X.prog X.w) X.A (assign target X.env u) (fun _ s' => ∃ σ' H', Inv X pins σ' H' s' ∧ Q σ' H') X.xe s
/-- several targets, one after another -/
def PGs (X : Cx) (ts : List Expr) (t : TGs) : Prop :=
  ∀ (pins : List (Addr × Obj)) (s : Shared) (σ : St) (H : Hp) (vs : List V) (us : List Value) (Q : St → Hp → Prop), Inv X pins σ H s → Vals vs us → t vs σ H Q →
    wpAny (model X.prog X.w) X.A (assignInOrder ((assignEach ts X.env).map (·.2)) us) (fun _ s' => ∃ σ' H', Inv X pins σ' H' s' ∧ Q σ' H') X.xe s
section
variable {X : Cx} {pos : Pos}
def gName (i : Nat) : TG := fun v σ H Q => Q (σ.set i (some v)) H
theorem pg_name {i : Nat} {x : Str} (hN : X.N.Nodup) (hi : X.N[i]? = some x) (hx : Loc X.env.scope x) (hf : X.fn x = true ∨ X.env.scope.names.lookup x = some .local := by first | exact .inl rfl | exact .inr rfl | assumption) : PG X (.Name x pos) (gName i) := by
  intro pins s σ H v u Q I r h
  exact wpAny_assign_Name (store_ok I hN hi hx r (fun s' I' => ⟨_, H, I', h⟩) hf)
def gNil : TGs := fun vs σ H Q => vs = [] ∧ Q σ H
def gCons (t : TG) (u : TGs) : TGs := fun vs σ H Q => ∃ v r, vs = v :: r ∧ t v σ H fun σ' H' => u r σ' H' Q
theorem pgs_nil : PGs X [] gNil := by
  intro pins s σ H vs us Q I r h
  obtain ⟨e, h⟩ := h
  subst e
  cases r
  exact assignInOrder_nil ⟨σ, H, I, h⟩
theorem pgs_cons {e : Expr} {es : List Expr} {t : TG} {u : TGs} (h1 : PG X e t) (h2 : PGs X es u)
    (hs : (assignEach (e :: es) X.env).map (·.2) = assign e X.env :: (assignEach es X.env).map (·.2) := by rfl) : PGs X (e :: es) (gCons t u) := by
  intro pins s σ H vs us Q I r h
  obtain ⟨v, vr, e1, h⟩ := h
  subst e1
  cases r with
  | cons r rr =>
    rw [hs]
    refine assignInOrder_cons (thn (h1 pins s σ H _ _ _ I r h) fun _ s1 ⟨σ1, H1, I1, q1⟩ => ?_)
    exact h2 pins s1 σ1 H1 _ _ Q I1 rr q1
/-- (a, b, ..) = a tuple of that length -/
def gTup (K : PySem.W.Frag) (n : Nat) (t : TGs) : TG := fun v σ H Q => ∃ a xs, v = .ref a ∧ SqT K H a xs ∧ xs.length = n ∧ t xs σ H Q
theorem pg_tup {es : List Expr} {k : Nat} {t : TGs} {n : Nat} (hc : X.calm = true) (h : PGs X es t)
    (hn : (assignEach es X.env).length = n := by rfl) (hst : (assignEach es X.env).findIdx? (·.1) = none := by rfl) : PG X (.Tuple es k pos) (gTup X.K n t) := by
  intro pins s σ H v u Q I r hw
  obtain ⟨a, xs, e1, hq, hl, hw⟩ := hw
  subst e1
  cases r
  obtain ⟨its, rv, ht, hz⟩ := I.tuple hq
  refine assign_Tuple_tuple (I.ok.hd hc) ht (by simp [hn, ← hl, rv.length]) hst fun h' hx => ?_
  have I1 : Inv X pins σ H { s with heap := h' } := I.kept (t' := s.toks) fun b o e => hx b o (Nat.ne_of_lt (Heap.lt_size e)) e
  exact h pins _ σ H xs _ Q I1 (by simpa using rv) hw
/-- target = value -/
def tAsg (te : TE) (g : TG) : TS := fun D σ H => te σ H fun x H1 => g x σ H1 D.nx
/-- name = value -/
theorem ps_set {i : Nat} {x : Str} {e : Expr} {te : TE} {pos' : Pos} (hN : X.N.Nodup) (hi : X.N[i]? = some x) (hx : Loc X.env.scope x) (he : PE X e te) (hs : swapsWith e (some (.Name x pos')) pos.line X.env = pure false := by rfl) (hf : X.fn x = true ∨ X.env.scope.names.lookup x = some .local := by first | exact .inl rfl | exact .inr rfl | assumption) :
    PS X (.Assign [.Name x pos'] e pos) (tAsg te (gName i)) := by
  intro pins s σ H D I h
  refine wpAny_Assign_Name (thn (he pins s σ H _ I h) fun v s1 ⟨y, H1, I1, r1, q1⟩ => ?_) hs
  exact store_ok I1 hN hi hx r1 (fun s2 I2 => ⟨_, H1, I2, q1⟩) hf
end

/-! ### while -/
section
variable {X : Cx} {pos : Pos}
end

/-! ### what a loop or a comprehension walks -/
/-- at turn i: it yields x (the heap may grow), or it stops -/
structure It where
  go : Nat → Hp → Prop
  yld : Nat → Hp → V → Hp → Prop
  stop : Nat → Hp → Prop
/-- the iterator's own objects may turn: they are not the frame's, not pinned, younger than the entry (or a comprehension's own) -/
def FpOk (X : Cx) (pins : List (Addr × Obj)) (H : Hp) (b : Addr) : Prop :=
  H b = none ∧ b ≠ X.env.locals ∧ b ∉ X.fs ∧ (b ∈ X.ex ∨ X.s₀.heap.objs.size ≤ b) ∧ (∀ x c, X.env.cells.lookup x = some c → c ≠ b) ∧ ∀ p ∈ X.pn ++ pins, p.1 ≠ b
theorem Inv.fpOk {X : Cx} {pins : List (Addr × Obj)} {σ : St} {H H' : Hp} {s : Shared} {b : Addr} (I : Inv X pins σ H s) (hb : s.heap.objs.size ≤ b) (hn : H' b = none) : FpOk X pins H' b := by
  refine ⟨hn, Nat.ne_of_gt (Nat.lt_of_lt_of_le I.lt hb), I.nofs hb, .inr (Nat.le_trans I.sz hb), fun x c e z => ?_, fun p hp z => ?_⟩
  · obtain ⟨v, q⟩ := I.cell x c e
    exact absurd (Nat.lt_of_lt_of_le q.lt (by rw [z]; exact hb)) (Nat.lt_irrefl _)
  · exact absurd (Nat.lt_of_lt_of_le (Heap.lt_size (I.pin p hp).1) (by rw [z]; exact hb)) (Nat.lt_irrefl _)
structure Turn (P : Program) (w : World) (K : PySem.W.Frag) (tg : Expr) (J : It) (fp : List Addr) (it : Addr) (tn : Nat → Heap → Prop) : Prop where
  mem : it ∈ fp
  obj : ∀ i h, tn i h → ∀ b ∈ fp, ∃ o, h.get? b = some o ∧ ∀ v, o.data ≠ .cell v
  keep : ∀ i h h', tn i h → (∀ b ∈ fp, ∀ o, h.get? b = some o → h'.get? b = some o) → tn i h'
  item : ∀ (X : Cx), X.prog = P → X.w = w → X.K = K → X.calm = true → ∀ (i : Nat) (pins : List (Addr × Obj)) (s : Shared) (σ : St) (H : Hp) (E : Value → Shared → Prop), Inv X pins σ H s → (∀ b ∈ fp, FpOk X pins H b) → tn i s.heap → J.go i H →
    wpAny (model P w) X.A (pyNext (.ref it)) (fun r s1 => ∃ u, r = some u ∧
      wpAny (model P w) X.A (letOwnedTupleGo tg (.ref it) u) (fun _ s2 => ∃ x H', Inv X pins σ H' s2 ∧ RelV x u ∧ J.yld i H x H' ∧ tn (i + 1) s2.heap ∧ ∀ b ∈ fp, H' b = none) E s1) E s
  done : ∀ (X : Cx), X.prog = P → X.w = w → X.K = K → X.calm = true → ∀ (i : Nat) (pins : List (Addr × Obj)) (s : Shared) (σ : St) (H : Hp) (E : Value → Shared → Prop), Inv X pins σ H s → (∀ b ∈ fp, FpOk X pins H b) → tn i s.heap → J.stop i H →
    wpAny (model P w) X.A (pyNext (.ref it)) (fun r s1 => r = none ∧ Inv X pins σ H s1) E s
  self : ∀ (A : Around) (i : Nat) (s : Shared) (Q : Value → Shared → Prop) (E : Value → Shared → Prop), tn i s.heap → Q (.ref it) s → wpAny (model P w) A (pyIter (.ref it)) Q E s
abbrev TI := St → Hp → (It → Hp → Prop) → Prop
/-- an iterator has come -/
def PIE (X : Cx) (pins : List (Addr × Obj)) (σ : St) (tg : Expr) (R : It → Hp → Prop) (itv : Value) (s2 : Shared) : Prop :=
  ∃ (it : Addr) (fp : List Addr) (tn : Nat → Heap → Prop) (J : It) (H' : Hp), itv = .ref it ∧ Inv X pins σ H' s2 ∧ Turn X.prog X.w X.K tg J fp it tn ∧ tn 0 s2.heap ∧ (∀ b ∈ fp, FpOk X pins H' b) ∧ R J H'
def PI (X : Cx) (tg iter : Expr) (wi : TI) : Prop :=
  ∀ (pins : List (Addr × Obj)) (s : Shared) (σ : St) (H : Hp) (R : It → Hp → Prop), Inv X pins σ H s → wi σ H R →
    wpAny (model X.prog X.w) X.A (eval iter X.env) (fun v s1 => wpAny (model X.prog X.w) X.A (pyIter v) (PIE X pins σ tg R) X.xe s1) X.xe s

/-- the step ahead of the store is nothing for an iterator that keeps no tuple -/
theorem go_of {M : Model} {A : Around} {E : Value → Shared → Prop} {s : Shared} {tg : Expr} {it : Addr} {u : Value} {o : Obj} {n : String} {vs : Array Value} {Q : Unit → Shared → Prop} (ho : s.heap.get? it = some o) (hc : o.cls = .type n) (hd : o.data = .fields vs)
    (hn : ["enumerate", "zip", "dict_itemiterator", "dict_reverseitemiterator", "odict_iterator", "itertools.zip_longest", "itertools.pairwise"].contains n = false) (hQ : Q () s) : wpAny M A (letOwnedTupleGo tg (.ref it) u) Q E s := by
  unfold letOwnedTupleGo
  cases tg <;> first
    | exact wpAny_pure hQ
    | (cases u <;> first
        | exact wpAny_pure hQ
        | (refine wpAny_bind (wpAny_load ho ?_)
           rw [hc, hd]
           show wpAny M A (if (["enumerate", "zip", "dict_itemiterator", "dict_reverseitemiterator", "odict_iterator", "itertools.zip_longest", "itertools.pairwise"].contains n && vs[0]? == some (rawInt _)) = true then _ else _) Q E s
           rw [if_neg (by intro h; rw [hn, Bool.false_and] at h; cases h)]
           exact wpAny_pure hQ))

/-- the list at a, as it stands at each turn (a loop may append to it) -/
def Itl (K : PySem.W.Frag) (a : Addr) : It :=
  ⟨fun i H => ∃ xs x, SqL K H a xs ∧ xs[i]? = some x, fun i H x H' => H' = H ∧ ∀ xs, SqL K H a xs → xs[i]? = some x, fun i H => ∃ xs, SqL K H a xs ∧ xs.length ≤ i⟩
def Itt (K : PySem.W.Frag) (a : Addr) : It :=
  ⟨fun i H => ∃ xs x, SqT K H a xs ∧ xs[i]? = some x, fun i H x H' => H' = H ∧ ∀ xs, SqT K H a xs → xs[i]? = some x, fun i H => ∃ xs, SqT K H a xs ∧ xs.length ≤ i⟩
/-- lo, lo + 1, .. (n of them) -/
def Itr (lo : Int) (n : Nat) : It := ⟨fun i _ => i < n, fun i H x H' => H' = H ∧ x = .int (lo + i), fun i _ => n ≤ i⟩
theorem turn_list {P : Program} {w : World} {K : PySem.W.Frag} {tg : Expr} (a it : Addr) : Turn P w K tg (Itl K a) [it] it (fun i h => h.IsListIter it a i) where
  mem := by simp
  obj := fun i h st b hb => by
    have e : b = it := by simpa using hb
    subst e
    obtain ⟨o, e, c, d⟩ := st
    exact ⟨o, e, fun v z => by rw [d] at z; cases z⟩
  keep := fun i h h' st k => st.at fun o e => k it (by simp) o e
  item := by
    intro X hP hw hK hc i pins s σ H E I hf st hg
    subst hP hw hK
    obtain ⟨xs, x, hq, hx⟩ := hg
    obtain ⟨its, rv, p, hz⟩ := I.list hq
    obtain ⟨u, hu, ru⟩ := rv.get hx
    obtain ⟨f0, f1, f2, f3, f4, f5⟩ := hf it (by simp)
    refine wpAny_pyNext_list_item st p.isList (x := u) (by simpa using hu) fun h' st' sb => ?_
    have I1 : Inv X pins σ H { s with heap := h' } := I.turned (t' := s.toks) (fun b o hb e => (sb.2 b hb).trans e) f0 f1 f3 f4 f5
    obtain ⟨o, e, c, d⟩ := id st'
    exact ⟨u, rfl, go_of (s := { s with heap := h' }) e c d (by decide) ⟨x, H, I1, ru, ⟨rfl, fun ys hy => by rw [I.list_inj hy hq]; exact hx⟩, st', fun b hb => (hf b hb).1⟩⟩
  done := by
    intro X hP hw hK hc i pins s σ H E I hf st hg
    subst hP hw hK
    obtain ⟨xs, hq, hx⟩ := hg
    obtain ⟨its, rv, p, hz⟩ := I.list hq
    obtain ⟨f0, f1, f2, f3, f4, f5⟩ := hf it (by simp)
    have hl := rv.length
    exact wpAny_pyNext_list_end (I.ok.hd hc) st p.isList (by simp; omega) fun h' eb => ⟨rfl, I.turned (t' := s.toks) (fun b o hb e => eb b o hb e) f0 f1 f3 f4 f5⟩
  self := fun _ _ _ _ _ st h => wpAny_pyIter_listiter st h
theorem turn_tuple {P : Program} {w : World} {K : PySem.W.Frag} {tg : Expr} (a it : Addr) : Turn P w K tg (Itt K a) [it] it (fun i h => h.IsTupleIter it a i) where
  mem := by simp
  obj := fun i h st b hb => by
    have e : b = it := by simpa using hb
    subst e
    obtain ⟨o, e, c, d⟩ := st
    exact ⟨o, e, fun v z => by rw [d] at z; cases z⟩
  keep := fun i h h' st k => st.at fun o e => k it (by simp) o e
  item := by
    intro X hP hw hK hc i pins s σ H E I hf st hg
    subst hP hw hK
    obtain ⟨xs, x, hq, hx⟩ := hg
    obtain ⟨its, rv, p, hz⟩ := I.tuple hq
    obtain ⟨u, hu, ru⟩ := rv.get hx
    obtain ⟨f0, f1, f2, f3, f4, f5⟩ := hf it (by simp)
    refine wpAny_pyNext_tuple_item st (show s.heap.IsTuple a its.toArray from p) (x := u) (by simpa using hu) fun h' st' sb => ?_
    have I1 : Inv X pins σ H { s with heap := h' } := I.turned (t' := s.toks) (fun b o hb e => (sb.2 b hb).trans e) f0 f1 f3 f4 f5
    obtain ⟨o, e, c, d⟩ := id st'
    exact ⟨u, rfl, go_of (s := { s with heap := h' }) e c d (by decide) ⟨x, H, I1, ru, ⟨rfl, fun ys hy => by rw [I.tuple_inj hy hq]; exact hx⟩, st', fun b hb => (hf b hb).1⟩⟩
  done := by
    intro X hP hw hK hc i pins s σ H E I hf st hg
    subst hP hw hK
    obtain ⟨xs, hq, hx⟩ := hg
    obtain ⟨its, rv, p, hz⟩ := I.tuple hq
    obtain ⟨f0, f1, f2, f3, f4, f5⟩ := hf it (by simp)
    have hl := rv.length
    exact wpAny_pyNext_tuple_end (I.ok.hd hc) st (show s.heap.IsTuple a its.toArray from p) (by simp; omega) fun h' eb => ⟨rfl, I.turned (t' := s.toks) (fun b o hb e => eb b o hb e) f0 f1 f3 f4 f5⟩
  self := fun _ _ _ _ _ st h => wpAny_pyIter_tupleiter st h
theorem turn_range {P : Program} {w : World} {K : PySem.W.Frag} {tg : Expr} (it : Addr) (lo : Int) (n : Nat) : Turn P w K tg (Itr lo n) [it] it (fun i h => IsRangeIter h it (lo + (i : Nat) * 1) ((n : Int) - (i : Nat)) 1) where
  mem := by simp
  obj := fun i h st b hb => by
    have e : b = it := by simpa using hb
    subst e
    exact ⟨_, st, fun v z => by
      have z' : Data.fields _ = Data.cell v := z
      cases z'⟩
  keep := fun i h h' st k => k it (by simp) _ st
  item := by
    intro X hP hw hK hc i pins s σ H E I hf st hg
    subst hP hw hK
    obtain ⟨f0, f1, f2, f3, f4, f5⟩ := hf it (by simp)
    have W := Walks.range (prog := X.prog) (w := X.w) (I.ok.hd hc) it lo 1 n
    refine W.item i s _ _ hg st fun v h' tk hv st' kk => ?_
    obtain ⟨t, rfl⟩ := hv
    have I1 : Inv X pins σ H { s with heap := h', toks := tk } := I.turned (fun b o hb e => kk b o (by simpa using hb) e) f0 f1 f3 f4 f5
    refine ⟨_, rfl, go_of (s := { s with heap := h', toks := tk }) (n := "range_iterator") st' rfl rfl (by decide) ⟨.int (lo + i), H, I1, ⟨t, ?_⟩, ⟨rfl, rfl⟩, st', fun b hb => (hf b hb).1⟩⟩
    rw [Int.mul_one]
  done := by
    intro X hP hw hK hc i pins s σ H E I hf st hg
    subst hP hw hK
    obtain ⟨f0, f1, f2, f3, f4, f5⟩ := hf it (by simp)
    exact wpAny_pyNext_range_end (I.ok.hd hc) st (by have : n ≤ i := hg; omega) fun h' eb => ⟨rfl, I.turned (t' := s.toks) (fun b o hb e => eb b o hb e) f0 f1 f3 f4 f5⟩
  self := fun _ _ _ _ _ st h => wpAny_pyIter_rangeiter st h
end L2

namespace L2
open PySem PySem.Spec PyProof.Rows
section
variable {X : Cx} {tg : Expr}
def iList (K : PySem.W.Frag) (tl : TE) : TI := fun σ H R => tl σ H fun x H1 => ∃ a, x = .ref a ∧ (∃ xs, SqL K H1 a xs) ∧ R (Itl K a) H1
def iTup (K : PySem.W.Frag) (tl : TE) : TI := fun σ H R => tl σ H fun x H1 => ∃ a, x = .ref a ∧ (∃ xs, SqT K H1 a xs) ∧ R (Itt K a) H1
theorem pi_list {l : Expr} {tl : TE} (hl : PE X l tl) : PI X tg l (iList X.K tl) := by
  intro pins s σ H R I h
  refine thn (hl pins s σ H _ I h) fun v s1 ⟨x, H1, I1, r1, q1⟩ => ?_
  obtain ⟨a, e, ⟨xs, hq⟩, q⟩ := q1
  subst e
  cases r1
  obtain ⟨its, rv, p, hz⟩ := I1.list hq
  refine wpAny_pyIter_list p.isList ?_
  refine ⟨s1.heap.objs.size, [s1.heap.objs.size], _, _, H1, rfl, I1.kept (t' := s1.toks) fun b o e => Heap.get?_push_of_some _ e, turn_list a _, ⟨_, Heap.get?_push_size _ rfl, rfl, rfl⟩, fun b hb => ?_, q⟩
  have e : b = s1.heap.objs.size := by simpa using hb
  subst e
  exact I1.fpOk (Nat.le_refl _) (I1.hok.fresh (Nat.le_refl _))
theorem pi_tup {l : Expr} {tl : TE} (hl : PE X l tl) : PI X tg l (iTup X.K tl) := by
  intro pins s σ H R I h
  refine thn (hl pins s σ H _ I h) fun v s1 ⟨x, H1, I1, r1, q1⟩ => ?_
  obtain ⟨a, e, ⟨xs, hq⟩, q⟩ := q1
  subst e
  cases r1
  obtain ⟨its, rv, p, hz⟩ := I1.tuple hq
  refine wpAny_pyIter_tuple (show s1.heap.IsTuple a its.toArray from p) ?_
  refine ⟨s1.heap.objs.size, [s1.heap.objs.size], _, _, H1, rfl, I1.kept (t' := s1.toks) fun b o e => Heap.get?_push_of_some _ e, turn_tuple a _, ⟨_, Heap.get?_push_size _ rfl, rfl, rfl⟩, fun b hb => ?_, q⟩
  have e : b = s1.heap.objs.size := by simpa using hb
  subst e
  exact I1.fpOk (Nat.le_refl _) (I1.hok.fresh (Nat.le_refl _))
/-- a range object just made, walked -/
theorem range_it {pins : List (Addr × Obj)} {σ : St} {H : Hp} {s : Shared} {R : It → Hp → Prop} {E : Value → Shared → Prop} {lo hi : Int} {t u v : Tok} {tk : Nat} (I : Inv X pins σ H s) (h1 : -(2 ^ 62) ≤ lo) (h2 : lo < 2 ^ 62) (h3 : -(2 ^ 62) ≤ hi) (h4 : hi < 2 ^ 62)
    (q : R (Itr lo (hi - lo).toNat) H) : wpAny (model X.prog X.w) X.A (pyIter (.ref s.heap.objs.size)) (PIE X pins σ tg R) E { s with heap := s.heap.push { cls := .type "range", data := .fields #[.int lo t, .int hi u, .int 1 v] }, toks := tk } := by
  refine wpAny_pyIter_range (IsRange.new ..) (small_one h1 h2 h3 h4) ?_
  have I1 : Inv X pins σ H { s with heap := s.heap.push { cls := .type "range", data := .fields #[.int lo t, .int hi u, .int 1 v] }, toks := tk } := I.kept fun b o e => Heap.get?_push_of_some _ e
  refine ⟨(s.heap.push { cls := .type "range", data := .fields #[.int lo t, .int hi u, .int 1 v] }).objs.size, [(s.heap.push { cls := .type "range", data := .fields #[.int lo t, .int hi u, .int 1 v] }).objs.size], _, _, H, rfl,
    I1.kept (t' := tk) fun b o e => Heap.get?_push_of_some _ e, turn_range _ lo (hi - lo).toNat, ?_, fun b hb => ?_, q⟩
  · have e1 : lo + ((0 : Nat) : Int) * 1 = lo := by simp
    have e2 : (((hi - lo).toNat : Nat) : Int) - ((0 : Nat) : Int) = Builtin.Range.rangeSize lo hi 1 := by rw [rangeSize_one]; split <;> omega
    show IsRangeIter _ _ (lo + ((0 : Nat) : Int) * 1) ((((hi - lo).toNat : Nat) : Int) - ((0 : Nat) : Int)) 1
    rw [e1, e2]
    exact Heap.get?_push_size _ rfl
  · have e : b = (s.heap.push { cls := .type "range", data := .fields #[.int lo t, .int hi u, .int 1 v] }).objs.size := by simpa using hb
    subst e
    exact I1.fpOk (Nat.le_refl _) (I1.hok.fresh (Nat.le_refl _))
def iRng1 (ta : TA) : TI := fun σ H R => ta σ H fun vs H1 => ∃ j : Int, vs = [.int j] ∧ -(2 ^ 62) ≤ j ∧ j < 2 ^ 62 ∧ R (Itr 0 j.toNat) H1
theorem pi_range1 {a : Expr} {ta : TA} {p pos : Pos} (hg : Gl X "range") (hm : X.mg "range" = none) (ha : PA X [a] ta) (hs : starEach [a] X.env = [(false, eval a X.env)] := by rfl) : PI X tg (.Call (.Name "range" p) [a] [] pos) (iRng1 ta) := by
  intro pins s σ H R I h
  refine Call_ (ld_blt I hg hm boot_range (PyProof.Rows.callWith_type1 (thn (ha pos pins s σ H _ I h) fun us s1 ⟨vs, H1, I1, r1, q1⟩ => ?_) hs rfl))
  obtain ⟨j, e, q1, q2, q⟩ := q1
  subst e
  cases r1 with
  | cons r rr =>
    cases rr
    obtain ⟨t, rfl⟩ := r
    exact call_range_1 (range_it I1 (by omega) (by omega) q1 q2 (by simpa using q))
/-! ### for -/
/-- W: the invariant by the turn and a measure; N: what the body is to reach -/
def tFor (wi : TI) (g : TG) (tb : TS) : TS := fun D σ H => wi σ H fun J H1 => ∃ W : Nat → Nat → St → Hp → Prop, (∃ m, W 0 m σ H1) ∧ ∀ i m σ H, W i m σ H →
  (J.stop i H ∧ D.nx σ H) ∨ (J.go i H ∧ ∃ N : St → Hp → Prop, (∀ σ' H', N σ' H' → ∃ m', m' < m ∧ W (i + 1) m' σ' H') ∧ ∀ x H', J.yld i H x H' → g x σ H' fun σ2 H2 => tb { D with nx := N, ct := N, bk := D.nx } σ2 H2)
/-- the records at fp as they stand -/
def pinsAt (fp : List Addr) (h : Heap) : List (Addr × Obj) := fp.filterMap fun b => (h.get? b).map fun o => (b, o)
theorem mem_pinsAt {fp : List Addr} {h : Heap} {b : Addr} {o : Obj} (hb : b ∈ fp) (e : h.get? b = some o) : (b, o) ∈ pinsAt fp h := List.mem_filterMap.mpr ⟨b, hb, by rw [e]; rfl⟩
theorem of_pinsAt {fp : List Addr} {h : Heap} {p : Addr × Obj} (hp : p ∈ pinsAt fp h) : p.1 ∈ fp ∧ h.get? p.1 = some p.2 := by
  obtain ⟨b, hb, e⟩ := List.mem_filterMap.mp hp
  cases q : h.get? b with
  | none => rw [q] at e; cases e
  | some o =>
    rw [q] at e
    have e' : (b, o) = p := Option.some.inj e
    subst e'
    exact ⟨hb, q⟩
theorem Inv.pinned {pins : List (Addr × Obj)} {σ : St} {H : Hp} {s : Shared} {fp : List Addr} (I : Inv X pins σ H s) (hf : ∀ b ∈ fp, FpOk X pins H b) (ho : ∀ b ∈ fp, ∃ o, s.heap.get? b = some o ∧ ∀ v, o.data ≠ .cell v) : Inv X (pins ++ pinsAt fp s.heap) σ H s :=
  I.pins_of fun p hp => (List.mem_append.mp hp).elim (fun z => I.pin p (List.mem_append_right _ z)) fun z => by
    obtain ⟨hb, e⟩ := of_pinsAt z
    obtain ⟨f0, f1, f2, _⟩ := hf p.1 hb
    obtain ⟨o, e', d⟩ := ho p.1 hb
    rw [e] at e'; cases e'
    exact ⟨e, f0, f1, f2, d⟩
theorem Inv.unpinned {pins pl : List (Addr × Obj)} {σ : St} {H : Hp} {s : Shared} (I : Inv X (pins ++ pl) σ H s) : Inv X pins σ H s := I.pins_of fun p hp => I.pin p (List.mem_append_right _ (List.mem_append_left _ hp))
theorem ps_for {iter : Expr} {body : List Stmt} {wi : TI} {g : TG} {tb : TS} {pos : Pos} (hp : PassesOwn (model X.prog X.w) X.A X.env X.xe) (hc : X.calm = true) (hi : PI X tg iter wi) (hg : PG X tg g) (hb : PSs X body tb)
    (hs : ∀ x, foldedSetIterable iter X.env x = pure x := by intro _; rfl) : PS X (.For tg iter body [] pos) (tFor wi g tb) := by
  intro pins s σ H D I h
  refine wpAny_For (thn (hi pins s σ H _ I h) fun v s1 h1 => thn h1 fun itv s2 h2 => ?_) hs
  obtain ⟨it, fp, tn, J, H2, e, I2, T, st2, f2, W, ⟨m0, w0⟩, turn⟩ := h2
  subst e
  -- what stays true of the iterator's objects through the loop
  have stat : ∀ {H' : Hp}, (∀ b ∈ fp, H' b = none) → ∀ b ∈ fp, FpOk X pins H' b := fun hn b hb => ⟨hn b hb, (f2 b hb).2⟩
  refine codeAny_forLoop_any (fun n s' => ∃ i σ' H', Inv X pins σ' H' s' ∧ tn i s'.heap ∧ (∀ b ∈ fp, H' b = none) ∧ W i n σ' H') ?_ m0 ⟨0, σ, H2, I2, st2, fun b hb => (f2 b hb).1, w0⟩
  rintro n s3 ⟨i, σ3, H3, I3, st3, fr3, w3⟩
  rcases turn i n σ3 H3 w3 with ⟨stop, qn⟩ | ⟨go, N, hN, step⟩
  · refine wpAny_passesOwn hp (thn (T.done X rfl rfl rfl hc i pins s3 σ3 H3 X.xe I3 (stat fr3) st3 stop) fun r s4 ⟨hr, I4⟩ => ?_)
    subst hr
    exact wpAny_execs_nil ⟨σ3, H3, I4, qn⟩
  · refine wpAny_passesOwn hp (thn (T.item X rfl rfl rfl hc i pins s3 σ3 H3 X.xe I3 (stat fr3) st3 go) fun r s4 ⟨u, hr, h4⟩ => ?_)
    subst hr
    refine wpAny_passesOwn hp (thn h4 fun _ s5 ⟨x, H5, I5, r5, y5, st5, fr5⟩ => ?_)
    have I5' := I5.pinned (stat fr5) (T.obj _ _ st5)
    refine wpAny_passesOwn hp (thn (hg _ s5 σ3 H5 x u _ I5' r5 (step x H5 y5)) fun _ s6 ⟨σ6, H6, I6, q6⟩ => ?_)
    refine wpAny_passesOwn hp (thn (hb _ s6 σ6 H6 _ I6 q6) fun f s7 q7 => ?_)
    have again : ∀ {σ7 : St} {H7 : Hp}, Inv X (pins ++ pinsAt fp s5.heap) σ7 H7 s7 → N σ7 H7 → ∃ m, m < n ∧ ∃ i σ' H', Inv X pins σ' H' s7 ∧ tn i s7.heap ∧ (∀ b ∈ fp, H' b = none) ∧ W i m σ' H' := fun {σ7 H7} I7 n7 => by
      obtain ⟨m', hm, w7⟩ := hN σ7 H7 n7
      refine ⟨m', hm, i + 1, σ7, H7, I7.unpinned, T.keep _ _ _ st5 fun b hb o e => (I7.pin (b, o) (List.mem_append_right _ (List.mem_append_right _ (mem_pinsAt hb e)))).1, fun b hb => ?_, w7⟩
      obtain ⟨o, e, d⟩ := T.obj _ _ st5 b hb
      exact (I7.pin (b, o) (List.mem_append_right _ (List.mem_append_right _ (mem_pinsAt hb e)))).2.1
    cases f with
    | next => obtain ⟨σ7, H7, I7, n7⟩ := q7; exact again I7 n7
    | cont => obtain ⟨σ7, H7, I7, n7⟩ := q7; exact again I7 n7
    | brk => obtain ⟨σ7, H7, I7, q7⟩ := q7; exact ⟨σ7, H7, I7.unpinned, q7⟩
    | ret v => obtain ⟨x7, σ7, H7, I7, r7, q7⟩ := q7; exact ⟨x7, σ7, H7, I7.unpinned, r7, q7⟩
end

/-! ### the forms one uses -/
/-- over a list that the body leaves as it is -/
theorem for_list {K : PySem.W.Frag} {a : Addr} {xs : List V} {g : TG} {tb : TS} {D : Ends} {σ : St} {H : Hp} (Pv : Nat → St → Hp → Prop) (h0 : Pv 0 σ H) (hl : ∀ i σ H, i ≤ xs.length → Pv i σ H → SqL K H a xs)
    (hs : ∀ i x σ H, xs[i]? = some x → Pv i σ H → g x σ H fun σ2 H2 => tb { D with nx := Pv (i + 1), ct := Pv (i + 1), bk := D.nx } σ2 H2) (hd : ∀ σ H, Pv xs.length σ H → D.nx σ H) :
    ∃ W : Nat → Nat → St → Hp → Prop, (∃ m, W 0 m σ H) ∧ ∀ i m σ H, W i m σ H →
      ((Itl K a).stop i H ∧ D.nx σ H) ∨ ((Itl K a).go i H ∧ ∃ N : St → Hp → Prop, (∀ σ' H', N σ' H' → ∃ m', m' < m ∧ W (i + 1) m' σ' H') ∧ ∀ x H', (Itl K a).yld i H x H' → g x σ H' fun σ2 H2 => tb { D with nx := N, ct := N, bk := D.nx } σ2 H2) := by
  refine ⟨fun i m σ H => m = xs.length - i ∧ i ≤ xs.length ∧ Pv i σ H, ⟨xs.length, by simp, Nat.zero_le _, h0⟩, ?_⟩
  rintro i m σ H ⟨rfl, hi, p⟩
  have q := hl i σ H hi p
  by_cases hlt : i < xs.length
  · refine .inr ⟨⟨xs, xs[i], q, by simp [hlt]⟩, Pv (i + 1), fun σ' H' p' => ⟨xs.length - (i + 1), by omega, rfl, hlt, p'⟩, fun x H' y => ?_⟩
    obtain ⟨e, y⟩ := y
    subst e
    exact hs i x σ _ (y xs q) p
  · have e : i = xs.length := by omega
    subst e
    exact .inl ⟨⟨xs, q, Nat.le_refl _⟩, hd σ H p⟩
theorem for_tup {K : PySem.W.Frag} {a : Addr} {xs : List V} {g : TG} {tb : TS} {D : Ends} {σ : St} {H : Hp} (Pv : Nat → St → Hp → Prop) (h0 : Pv 0 σ H) (hl : ∀ i σ H, i ≤ xs.length → Pv i σ H → SqT K H a xs)
    (hs : ∀ i x σ H, xs[i]? = some x → Pv i σ H → g x σ H fun σ2 H2 => tb { D with nx := Pv (i + 1), ct := Pv (i + 1), bk := D.nx } σ2 H2) (hd : ∀ σ H, Pv xs.length σ H → D.nx σ H) :
    ∃ W : Nat → Nat → St → Hp → Prop, (∃ m, W 0 m σ H) ∧ ∀ i m σ H, W i m σ H →
      ((Itt K a).stop i H ∧ D.nx σ H) ∨ ((Itt K a).go i H ∧ ∃ N : St → Hp → Prop, (∀ σ' H', N σ' H' → ∃ m', m' < m ∧ W (i + 1) m' σ' H') ∧ ∀ x H', (Itt K a).yld i H x H' → g x σ H' fun σ2 H2 => tb { D with nx := N, ct := N, bk := D.nx } σ2 H2) := by
  refine ⟨fun i m σ H => m = xs.length - i ∧ i ≤ xs.length ∧ Pv i σ H, ⟨xs.length, by simp, Nat.zero_le _, h0⟩, ?_⟩
  rintro i m σ H ⟨rfl, hi, p⟩
  have q := hl i σ H hi p
  by_cases hlt : i < xs.length
  · refine .inr ⟨⟨xs, xs[i], q, by simp [hlt]⟩, Pv (i + 1), fun σ' H' p' => ⟨xs.length - (i + 1), by omega, rfl, hlt, p'⟩, fun x H' y => ?_⟩
    obtain ⟨e, y⟩ := y
    subst e
    exact hs i x σ _ (y xs q) p
  · have e : i = xs.length := by omega
    subst e
    exact .inl ⟨⟨xs, q, Nat.le_refl _⟩, hd σ H p⟩
theorem for_range {lo : Int} {n : Nat} {g : TG} {tb : TS} {D : Ends} {σ : St} {H : Hp} (Pv : Nat → St → Hp → Prop) (h0 : Pv 0 σ H)
    (hs : ∀ i σ H, i < n → Pv i σ H → g (.int (lo + i)) σ H fun σ2 H2 => tb { D with nx := Pv (i + 1), ct := Pv (i + 1), bk := D.nx } σ2 H2) (hd : ∀ σ H, Pv n σ H → D.nx σ H) :
    ∃ W : Nat → Nat → St → Hp → Prop, (∃ m, W 0 m σ H) ∧ ∀ i m σ H, W i m σ H →
      ((Itr lo n).stop i H ∧ D.nx σ H) ∨ ((Itr lo n).go i H ∧ ∃ N : St → Hp → Prop, (∀ σ' H', N σ' H' → ∃ m', m' < m ∧ W (i + 1) m' σ' H') ∧ ∀ x H', (Itr lo n).yld i H x H' → g x σ H' fun σ2 H2 => tb { D with nx := N, ct := N, bk := D.nx } σ2 H2) := by
  refine ⟨fun i m σ H => m = n - i ∧ i ≤ n ∧ Pv i σ H, ⟨n, by simp, Nat.zero_le _, h0⟩, ?_⟩
  rintro i m σ H ⟨rfl, hi, p⟩
  by_cases hlt : i < n
  · refine .inr ⟨hlt, Pv (i + 1), fun σ' H' p' => ⟨n - (i + 1), by omega, rfl, hlt, p'⟩, fun x H' y => ?_⟩
    obtain ⟨e, y⟩ := y
    subst e y
    exact hs i σ _ hlt p
  · have e : i = n := by omega
    subst e
    exact .inl ⟨Nat.le_refl _, hd σ H p⟩
end L2

namespace L2
open PySem PySem.Spec PyProof.Rows

abbrev R2 := V → V → Hp → VK → Prop
/-- a two-place operation on values: f is binaryOp op, inplaceOp op or compareOp op -/
def OpR (X : Cx) (f : Value → Value → Sem Value) (r : R2) : Prop :=
  ∀ (pins : List (Addr × Obj)) (s : Shared) (σ : St) (H : Hp) (x y : V) (v u : Value) (Q : VK), Inv X pins σ H s → RelV x v → RelV y u → r x y H Q →
    wpAny (model X.prog X.w) X.A (f v u) (EP X pins σ Q) X.xe s
/-- a call of a value that is known (a builtin, a type) with values -/
def CallR (X : Cx) (f : Value) (r : List V → Hp → VK → Prop) : Prop :=
  ∀ (pins : List (Addr × Obj)) (s : Shared) (σ : St) (H : Hp) (xs : List V) (us : List Value) (Q : VK), Inv X pins σ H s → Vals xs us → r xs H Q →
    wpAny (model X.prog X.w) X.A (call f us) (EP X pins σ Q) X.xe s
def tOp (r : R2) (ta tb : TE) : TE := fun σ H Q => ta σ H fun x H1 => tb σ H1 fun y H2 => r x y H2 Q
/-- ints in, under C, and a value out -/
def rI (C : Int → Int → Prop) (g : Int → Int → V) : R2 := fun x y H Q => ∃ i j, x = .int i ∧ y = .int j ∧ C i j ∧ Q (g i j) H
def rI0 (g : Int → Int → V) : R2 := fun x y H Q => ∃ i j, x = .int i ∧ y = .int j ∧ Q (g i j) H
section
variable {X : Cx} {a b c : Expr} {ta tb tc : TE} {pos : Pos}

theorem binT (ha : PE X a ta) (hb : PE X b tb) {pins : List (Addr × Obj)} {s : Shared} {σ : St} {H : Hp} {R : V → V → Hp → Prop} (I : Inv X pins σ H s)
    (h : ta σ H fun x H1 => tb σ H1 fun y H2 => R x y H2) {Q : Value → Shared → Prop} {f : Value → Value → Sem Value}
    (hf : ∀ v u s2 x y H2, Inv X pins σ H2 s2 → RelV x v → RelV y u → R x y H2 → wpAny (model X.prog X.w) X.A (f v u) Q X.xe s2) :
    wpAny (model X.prog X.w) X.A (eval a X.env) (fun v s₁ => wpAny (model X.prog X.w) X.A (eval b X.env) (fun u s₂ => wpAny (model X.prog X.w) X.A (f v u) Q X.xe s₂) X.xe s₁) X.xe s := by
  refine thn (ha pins s σ H _ I h) fun v s1 ⟨x, H1, I1, r1, q1⟩ => ?_
  refine thn (hb pins s1 σ H1 _ I1 q1) fun u s2 ⟨y, H2, I2, r2, q2⟩ => ?_
  exact hf v u s2 x y H2 I2 r1 r2 q2

theorem pe_op {op : Operator} {r : R2} (ho : OpR X (binaryOp op) r) (ha : PE X a ta) (hb : PE X b tb) : PE X (.BinOp a op b pos) (tOp r ta tb) := by
  intro pins s σ H Q I h
  exact wpAny_BinOp (binT ha hb I h fun v u s2 x y H2 I2 rx ry q => ho pins s2 σ H2 x y v u Q I2 rx ry q)
/-! ### ints -/
theorem opI {f : Value → Value → Sem Value} {C : Int → Int → Prop} {g : Int → Int → Int}
    (rule : ∀ (i j : Int) (t u : Tok) (s : Shared) (Q : Value → Shared → Prop) (E : Value → Shared → Prop), C i j → Q (.int (g i j) s.toks) { s with toks := s.toks + 1 } → wpAny (model X.prog X.w) X.A (f (.int i t) (.int j u)) Q E s) :
    OpR X f (rI C fun i j => .int (g i j)) := by
  intro pins s σ H x y v u Q I rx ry h
  obtain ⟨i, j, rfl, rfl, hc, q⟩ := h
  obtain ⟨t, rfl⟩ := rx
  obtain ⟨t', rfl⟩ := ry
  exact rule i j t t' s _ _ hc ⟨.int (g i j), H, I.tok _, ⟨_, rfl⟩, q⟩
theorem opI0 {f : Value → Value → Sem Value} {g : Int → Int → Int}
    (rule : ∀ (i j : Int) (t u : Tok) (s : Shared) (Q : Value → Shared → Prop) (E : Value → Shared → Prop), Q (.int (g i j) s.toks) { s with toks := s.toks + 1 } → wpAny (model X.prog X.w) X.A (f (.int i t) (.int j u)) Q E s) :
    OpR X f (rI0 fun i j => .int (g i j)) := by
  intro pins s σ H x y v u Q I rx ry h
  obtain ⟨i, j, rfl, rfl, q⟩ := h
  obtain ⟨t, rfl⟩ := rx
  obtain ⟨t', rfl⟩ := ry
  exact rule i j t t' s _ _ ⟨.int (g i j), H, I.tok _, ⟨_, rfl⟩, q⟩
theorem opB0 {f : Value → Value → Sem Value} {g : Int → Int → Bool}
    (rule : ∀ (i j : Int) (t u : Tok) (s : Shared) (Q : Value → Shared → Prop) (E : Value → Shared → Prop), Q (.bool (g i j)) s → wpAny (model X.prog X.w) X.A (f (.int i t) (.int j u)) Q E s) :
    OpR X f (rI0 fun i j => .bl (g i j)) := by
  intro pins s σ H x y v u Q I rx ry h
  obtain ⟨i, j, rfl, rfl, q⟩ := h
  obtain ⟨t, rfl⟩ := rx
  obtain ⟨t', rfl⟩ := ry
  exact rule i j t t' s _ _ ⟨.bl (g i j), H, I, rfl, q⟩

def CDiv (i j : Int) : Prop := 0 < j ∧ j < 1073741824
def CPow (i j : Int) : Prop := 0 ≤ j ∧ j ≤ 1000000 ∧ i.natAbs < 2 ^ 64
def CMul (i j : Int) : Prop := (-(2 ^ 64) < i ∧ i < 2 ^ 64) ∨ (-(2 ^ 64) < j ∧ j < 2 ^ 64)
theorem CMul.ok {i j : Int} (h : CMul i j) : IntMulOk i j := by
  rcases h with ⟨h1, h2⟩ | ⟨h1, h2⟩
  · exact .of_left (intBits_le_64 h1 h2)
  · exact .of_right (intBits_le_64 h1 h2)
theorem two_pow_nn (k : Nat) : (0 : Int) ≤ 2 ^ k := by
  rw [two_pow_cast]
  exact Int.natCast_nonneg _

theorem op_add : OpR X (binaryOp .Add) (rI0 fun i j => .int (i + j)) := opI0 fun _ _ _ _ _ _ _ q => add_int q
theorem op_sub : OpR X (binaryOp .Sub) (rI0 fun i j => .int (i - j)) := opI0 fun _ _ _ _ _ _ _ q => sub_int q
theorem op_mul : OpR X (binaryOp .Mult) (rI CMul fun i j => .int (i * j)) := opI fun _ _ _ _ _ _ _ hc q => mul_int q hc.ok
/-- // by a positive divisor -/
theorem op_fdiv : OpR X (binaryOp .FloorDiv) (rI CDiv fun i j => .int (i / j)) := opI fun i j _ _ _ _ _ hc q => by
  have h1 : (0 : Int) < j := hc.1
  have h2 : j < 1073741824 := hc.2
  exact floordiv_int (by omega) (by rw [Int.fdiv_eq_ediv_of_nonneg i (by omega)]; exact q) (.inl (PyProof.noPylong_small (by omega)))
/-- % by a positive divisor of any size -/
theorem op_mod : OpR X (binaryOp .Mod) (rI (fun _ j => 0 < j) fun i j => .int (i % j)) := opI fun i j _ _ _ _ _ hc q => by
  have h1 : (0 : Int) < j := hc
  exact mod_int' (by omega) (by rw [Int.fmod_eq_emod_of_nonneg i (by omega)]; exact q)
theorem op_pow : OpR X (binaryOp .Pow) (rI CPow fun i j => .int (i ^ j.toNat)) := opI fun _ _ _ _ _ _ _ hc q => pow_int_small hc.1 hc.2.1 hc.2.2 q
/-! ### bools among ints: n += (a < b) -/
end

/-! ### comparisons -/
/-- the scalars that == tells apart as data does -/
def scal : V → V → Bool
  | .non, .non => true | .non, .int _ => true | .int _, .non => true | .non, .bl _ => true | .bl _, .non => true | .non, .str _ => true | .str _, .non => true
  | .int _, .int _ => true | .bl _, .bl _ => true | .str _, .str _ => true | .byt _, .byt _ => true
  | .int _, .str _ => true | .str _, .int _ => true | .bl _, .str _ => true | .str _, .bl _ => true
  | _, _ => false
def rEq : R2 := fun x y H Q => scal x y = true ∧ Q (.bl (decide (x = y))) H
def rNe : R2 := fun x y H Q => scal x y = true ∧ Q (.bl (!decide (x = y))) H

theorem dec_int {i j : Int} : decide (V.int i = V.int j) = (i == j) := by
  rw [Bool.eq_iff_iff]
  simp
theorem dec_bl {i j : Bool} : decide (V.bl i = V.bl j) = (i == j) := by
  rw [Bool.eq_iff_iff]
  simp
theorem dec_str {i j : Str} : decide (V.str i = V.str j) = (i == j) := by
  rw [Bool.eq_iff_iff]
  simp
theorem dec_byt {i j : Array UInt8} : decide (V.byt i = V.byt j) = (i.toList == j.toList) := by
  rw [Bool.eq_iff_iff]
  cases i
  cases j
  simp

section
variable {X : Cx} {a b c : Expr} {ta tb tc : TE} {pos : Pos}
theorem fin_bl {pins : List (Addr × Obj)} {σ : St} {H : Hp} {s : Shared} {Q : VK} {k k' : Bool} (I : Inv X pins σ H s) (q : Q (.bl k) H) (e : k = k') : EP X pins σ Q (.bool k') s := by
  subst e
  exact ⟨.bl k, H, I, rfl, q⟩
theorem op_eq : OpR X (compareOp .Eq) rEq := by
  intro pins s σ H x y v u Q I rx ry h
  obtain ⟨hs, q⟩ := h
  cases x with
  | non =>
    cases rx
    cases y with
    | non => cases ry; exact PySem.EqNone.eq_none_none (fin_bl I q (by simp))
    | bl j => cases ry; exact PySem.EqNone.eq_none_bool (fin_bl I q (by simp))
    | int j => obtain ⟨t', rfl⟩ := ry; exact PySem.EqNone.eq_none_int (fin_bl I q (by simp))
    | str j => obtain ⟨t', rfl⟩ := ry; exact PySem.EqNone.eq_none_str (fin_bl I q (by simp))
    | _ => exact absurd (show false = true from hs) Bool.false_ne_true
  | bl i =>
    cases rx
    cases y with
    | non => cases ry; exact PySem.EqNone.eq_bool_none (fin_bl I q (by simp))
    | bl j => cases ry; exact eq_bool (fin_bl I q dec_bl)
    | str j => obtain ⟨t', rfl⟩ := ry; exact PySem.EqMixed.eq_bool_str (fin_bl I q (by simp))
    | _ => exact absurd (show false = true from hs) Bool.false_ne_true
  | int i =>
    obtain ⟨t, rfl⟩ := rx
    cases y with
    | non => cases ry; exact PySem.EqNone.eq_int_none (fin_bl I q (by simp))
    | int j => obtain ⟨t', rfl⟩ := ry; exact eq_int (fin_bl I q dec_int)
    | str j => obtain ⟨t', rfl⟩ := ry; exact PySem.EqMixed.eq_int_str (fin_bl I q (by simp))
    | _ => exact absurd (show false = true from hs) Bool.false_ne_true
  | str i =>
    obtain ⟨t, rfl⟩ := rx
    cases y with
    | non => cases ry; exact PySem.EqNone.eq_str_none (fin_bl I q (by simp))
    | bl j => cases ry; exact PySem.EqMixed.eq_str_bool (fin_bl I q (by simp))
    | int j => obtain ⟨t', rfl⟩ := ry; exact PySem.EqMixed.eq_str_int (fin_bl I q (by simp))
    | str j => obtain ⟨t', rfl⟩ := ry; exact eq_str (fin_bl I q dec_str)
    | _ => exact absurd (show false = true from hs) Bool.false_ne_true
  | byt i =>
    obtain ⟨t, rfl⟩ := rx
    cases y with
    | byt j => obtain ⟨t', rfl⟩ := ry; exact PySem.W.eq_bytes (fin_bl I q dec_byt)
    | _ => exact absurd (show false = true from hs) Bool.false_ne_true
  | _ => cases y <;> exact absurd (show false = true from hs) Bool.false_ne_true
theorem op_ne : OpR X (compareOp .NotEq) rNe := by
  intro pins s σ H x y v u Q I rx ry h
  obtain ⟨hs, q⟩ := h
  cases x with
  | non =>
    cases rx
    cases y with
    | non => cases ry; exact PySem.EqNone.ne_none_none (fin_bl I q (by simp))
    | bl j => cases ry; exact PySem.EqNone.ne_none_bool (fin_bl I q (by simp))
    | int j => obtain ⟨t', rfl⟩ := ry; exact PySem.EqNone.ne_none_int (fin_bl I q (by simp))
    | str j => obtain ⟨t', rfl⟩ := ry; exact PySem.EqNone.ne_none_str (fin_bl I q (by simp))
    | _ => exact absurd (show false = true from hs) Bool.false_ne_true
  | bl i =>
    cases rx
    cases y with
    | non => cases ry; exact PySem.EqNone.ne_bool_none (fin_bl I q (by simp))
    | bl j => cases ry; exact ne_bool (fin_bl I q (congrArg not dec_bl))
    | str j => obtain ⟨t', rfl⟩ := ry; exact PySem.EqMixed.ne_bool_str (fin_bl I q (by simp))
    | _ => exact absurd (show false = true from hs) Bool.false_ne_true
  | int i =>
    obtain ⟨t, rfl⟩ := rx
    cases y with
    | non => cases ry; exact PySem.EqNone.ne_int_none (fin_bl I q (by simp))
    | int j => obtain ⟨t', rfl⟩ := ry; exact ne_int (fin_bl I q (congrArg not dec_int))
    | str j => obtain ⟨t', rfl⟩ := ry; exact PySem.EqMixed.ne_int_str (fin_bl I q (by simp))
    | _ => exact absurd (show false = true from hs) Bool.false_ne_true
  | str i =>
    obtain ⟨t, rfl⟩ := rx
    cases y with
    | non => cases ry; exact PySem.EqNone.ne_str_none (fin_bl I q (by simp))
    | bl j => cases ry; exact PySem.EqMixed.ne_str_bool (fin_bl I q (by simp))
    | int j => obtain ⟨t', rfl⟩ := ry; exact PySem.EqMixed.ne_str_int (fin_bl I q (by simp))
    | str j => obtain ⟨t', rfl⟩ := ry; exact ne_str (fin_bl I q (congrArg not dec_str))
    | _ => exact absurd (show false = true from hs) Bool.false_ne_true
  | byt i =>
    obtain ⟨t, rfl⟩ := rx
    cases y with
    | byt j => obtain ⟨t', rfl⟩ := ry; exact PySem.W.ne_bytes (fin_bl I q (congrArg not dec_byt))
    | _ => exact absurd (show false = true from hs) Bool.false_ne_true
  | _ => cases y <;> exact absurd (show false = true from hs) Bool.false_ne_true

theorem op_lt : OpR X (compareOp .Lt) (rI0 fun i j => .bl (decide (i < j))) := opB0 fun _ _ _ _ _ _ _ q => lt_int q
theorem op_ge : OpR X (compareOp .GtE) (rI0 fun i j => .bl (decide (j ≤ i))) := opB0 fun _ _ _ _ _ _ _ q => ge_int q
/-- is None, is not None: the right side a value none -/
theorem op_isN : OpR X (compareOp .Is) (fun x y H Q => y = .non ∧ Q (.bl (decide (x = .non))) H) := by
  intro pins s σ H x y v u Q I rx ry h
  obtain ⟨rfl, q⟩ := h
  cases ry
  refine is_none_gen (fin_bl I q ?_)
  cases x <;> first
    | (cases rx; rfl)
    | (obtain ⟨t, rfl⟩ := rx; rfl)
theorem nomark (b : Expr) {op : CmpOp} (h : op ≠ .In := by decide) (h2 : op ≠ .NotIn := by decide) : behindInMarks op b = false := by
  have e1 : (op == CmpOp.In) = false := by cases op <;> first | rfl | exact absurd rfl h
  have e2 : (op == CmpOp.NotIn) = false := by cases op <;> first | rfl | exact absurd rfl h2
  cases b <;> simp [behindInMarks, e1, e2]
/-- a comparison as a value; hm: nomark b, or (for in, not in) by with_unfolding_all rfl -/
theorem pe_cmpR {op : CmpOp} {r : R2} (ho : OpR X (compareOp op) r) (ha : PE X a ta) (hb : PE X b tb) (hm : behindInMarks op b = false) : PE X (.Compare a [op] [b] pos) (tOp r ta tb) := by
  intro pins s σ H Q I h
  exact wpAny_Compare1 (binT ha hb I h fun v u s2 x y H2 I2 rx ry q => ho pins s2 σ H2 x y v u Q I2 rx ry q) hm
/-- a reading of a value as a test -/
def tTest (t : TE) : TT := fun σ H Q => t σ H fun x H' => ∃ k, x = .bl k ∧ Q k H'
theorem pt_cmpR {op : CmpOp} {r : R2} (ho : OpR X (compareOp op) r) (ha : PE X a ta) (hb : PE X b tb) (hm : behindInMarks op b = false) : PT X (.Compare a [op] [b] pos) (tTest (tOp r ta tb)) := by
  intro pins s σ H Q I h
  refine wpAny_isTrue_Compare1 (thn (ha pins s σ H _ I h) fun v s1 ⟨x, H1, I1, r1, q1⟩ => thn (hb pins s1 σ H1 _ I1 q1) fun u s2 ⟨y, H2, I2, r2, q2⟩ =>
    thn (ho pins s2 σ H2 x y v u _ I2 r1 r2 q2) fun c s3 ⟨z, H3, I3, r3, k, e, q3⟩ => ?_) hm
  subst e
  cases r3
  exact wpAny_truthy_bool ⟨H3, I3, q3⟩
/-! ### truth -/
theorem line63 : (sizeLine : Nat) < 2 ^ 63 := by rw [sizeLine_eq]; decide
/-! ### strs and bytes -/
theorem op_add_str : OpR X (binaryOp .Add) (fun x y H Q => ∃ i j, x = .str i ∧ y = .str j ∧ i.length + j.length ≤ sizeLine ∧ Q (.str (i ++ j)) H) := by
  intro pins s σ H x y v u Q I rx ry h
  obtain ⟨i, j, rfl, rfl, hz, q⟩ := h
  obtain ⟨t, rfl⟩ := rx
  obtain ⟨t', rfl⟩ := ry
  exact add_str (fun t' tk => ⟨.str (i ++ j), H, I.tok _, ⟨_, rfl⟩, q⟩) hz
/-! ### scalar builtins, by CallR -/
theorem vals1 {x : V} {us : List Value} (r : Vals [x] us) : ∃ u, us = [u] ∧ RelV x u := by
  cases r with
  | cons r1 r2 => cases r2; exact ⟨_, rfl, r1⟩
theorem vals2 {x y : V} {us : List Value} (r : Vals [x, y] us) : ∃ u w', us = [u, w'] ∧ RelV x u ∧ RelV y w' := by
  cases r with
  | cons r1 r2 =>
    cases r2 with
    | cons r3 r4 => cases r4; exact ⟨_, _, rfl, r1, r3⟩
theorem call_abs : CallR X (.builtin "abs") (fun xs H Q => ∃ i, xs = [.int i] ∧ Q (.int (if i < 0 then -i else i)) H) := by
  intro pins s σ H xs us Q I r h
  obtain ⟨i, rfl, q⟩ := h
  obtain ⟨u, rfl, t, rfl⟩ := vals1 r
  exact call_abs_int fun u tk => ⟨.int (if i < 0 then -i else i), H, I.tok _, ⟨_, rfl⟩, q⟩
theorem call_min2 (hc : X.calm = true) : CallR X (.builtin "min") (fun xs H Q => ∃ i j, xs = [.int i, .int j] ∧ Q (.int (if j < i then j else i)) H) := by
  intro pins s σ H xs us Q I r h
  obtain ⟨i, j, rfl, q⟩ := h
  obtain ⟨u, w', rfl, ⟨t, rfl⟩, ⟨t', rfl⟩⟩ := vals2 r
  refine min_two_ints (I.ok.hd hc) fun h' tk k => ⟨_, H, I.kept k, ?_, q⟩
  by_cases hj : j < i
  · rw [if_pos hj, if_pos hj]; exact ⟨_, rfl⟩
  · rw [if_neg hj, if_neg hj]; exact ⟨_, rfl⟩
theorem call_int1 : CallR X (.type "int") (fun xs H Q => (∃ i, xs = [.int i] ∧ Q (.int i) H) ∨ ∃ k, xs = [.bl k] ∧ Q (.int (if k then 1 else 0)) H) := by
  intro pins s σ H xs us Q I r h
  rcases h with ⟨i, rfl, q⟩ | ⟨k, rfl, q⟩
  · obtain ⟨u, rfl, t, rfl⟩ := vals1 r
    exact call_int_int ⟨.int i, H, I, ⟨_, rfl⟩, q⟩
  · obtain ⟨u, rfl, r1⟩ := vals1 r
    cases r1
    exact call_int_bool ⟨.int (if k then 1 else 0), H, I.tok _, ⟨_, rfl⟩, q⟩
end
end L2

namespace L2
open PySem PySem.Spec PyProof.Rows

/-! ### an instance, its attributes a map -/
structure ObjM (h : Heap) (x dx C : Addr) (mA : Str → Option Value) : Prop where
  obj : h.get? x = some (PySem.W.instObj C dx)
  ns : h.Ns1 dx mA
  ne : dx ≠ x

theorem lookIn_ns {h : Heap} {dx : Addr} {mA : Str → Option Value} (n : h.Ns1 dx mA) : ∃ od, h.get? dx = some od ∧ ∀ name, PySem.W.lookIn name od = some (mA name) := by
  obtain ⟨o, es, ep, ho, hd, hk, _, hm⟩ := n
  refine ⟨o, ho, fun name => ?_⟩
  have e := hm name
  unfold nsFind findBy at e
  rw [← Array.find?_toList] at e
  unfold PySem.W.lookIn
  rw [hd]
  dsimp only
  split
  · rename_i y q
    rw [q] at e
    exact congrArg some e
  · rename_i q
    rw [q] at e
    have a : es.toList.any (·.refKey) = false := by
      rw [List.any_eq_false]
      intro y hy
      obtain ⟨z, t, hkey⟩ := hk y (Array.mem_toList_iff.mp hy)
      simp [DictEntry.refKey, hkey]
    have a' : ¬ es.toList.any (·.refKey) = true := by rw [a]; exact Bool.false_ne_true
    rw [if_neg a']
    exact congrArg some e

theorem ObjM.look {h : Heap} {x dx C : Addr} {mA : Str → Option Value} (I : ObjM h x dx C mA) : ∃ od, PySem.W.InstAt h x (PySem.W.instObj C dx) C (some od) ∧ ∀ name, PySem.W.lookIn name od = some (mA name) :=
  let ⟨od, ho, hl⟩ := lookIn_ns I.ns
  ⟨od, ⟨I.obj, rfl, rfl, ho⟩, hl⟩

section
variable {prog : Program} {w : World} {A : Around} {E : Value → Shared → Prop} {s : Shared} {K : PySem.W.Frag} {x dx C f : Addr} {mA : Str → Option Value} {name : Str} {v : Value}

theorem get_map {expr : Bool} {Q : Value → Shared → Prop} (X : K.In s.heap) (I : ObjM s.heap x dx C mA) (hg : PySem.W.plainGet K C name = true) (hh : PySem.W.hasDictIn K C = true)
    (ha : PySem.W.findIn K (.ref C) name = some none) (hv : mA name = some v) (hv' : PySem.W.handedIn v = true) (h : Q v { s with toks := s.toks + 1 }) :
    wpAny (model prog w) A (getAttr (.ref x) name expr) Q E s := by
  obtain ⟨od, J, hl⟩ := I.look
  exact PySem.W.get_value X J (PySem.W.plainGet_of hg).1 (PySem.W.findObj_own hh ha rfl (by rw [hl, hv])) hv' h

theorem get_meth {pl : Sem Bool} {Q : Value × List Value → Shared → Prop} (X : K.In s.heap) (I : ObjM s.heap x dx C mA) (hg : PySem.W.plainGet K C name = true)
    (hf : PySem.W.findIn K (.ref C) name = some (some (.ref f))) (ht : PySem.W.isFn K (.ref f) = true) (hv : mA name = none) (h : Q (.ref f, [.ref x]) s) :
    wpAny (model prog w) A (getMethod (.ref x) name pl) Q E s := by
  obtain ⟨od, J, hl⟩ := I.look
  exact PySem.W.method_fn X J (PySem.W.plainGet_of hg).1 (PySem.W.plainGet_of hg).2 hf (beq_iff_eq.mp ht) (by show (PySem.W.lookIn name od).map (·.isSome) = some false; rw [hl, hv]; rfl) h

theorem set_map {ns : List Str} {Q : Unit → Shared → Prop} (X : K.In s.heap) (I : ObjM s.heap x dx C mA)
    (hs : PySem.W.findIn K (.ref C) "__setattr__" = some (some (.builtin "object.__setattr__"))) (hp : PySem.W.plainOver K C = true) (ht : PySem.W.takerIn K C name = some none) (hh : PySem.W.hasDictIn K C = true)
    (hw : PySem.Within mA ns) (hsz : ns.length ≤ sizeLine)
    (h : ∀ h', ObjM h' x dx C (fun y => if y = name then some v else mA y) → Heap.SameBut dx s.heap h' → Q () { s with heap := h', toks := s.toks + 2 }) :
    wpAny (model prog w) A (setAttr (.ref x) name v) Q E s := by
  obtain ⟨od, J, hl⟩ := I.look
  refine PySem.W.set_plain X J hs (PySem.W.osa_open (s := { s with toks := s.toks + 1 }) (r := none) X J hp ht fun b => ?_)
  obtain ⟨cd, hc, hd'⟩ := PySem.W.any_some hh
  have hx : s.heap.get? x = some ⟨.ref C, some dx, .plain, #[]⟩ := I.obj
  refine wpAny_bind (wpAny_pure (wpAny_bind (wpAny_bind (wpAny_loadPart hx (wpAny_bind (PySem.W.Looks.here (s := { s with toks := s.toks + 1 }) (PySem.W.looks_clsIn X hc) ?_))))))
  rw [hd']
  refine wpAny_pure (a := some dx) (wpAny_bind (wpAny_pure (wpAny_bind ?_)))
  refine wpAny_nsSet1 (s := { s with toks := s.toks + 1 }) I.ns fun h' hn2 hs2 => ?_
  obtain ⟨oD, esD, epD, hoD, hdD, hcD⟩ := hn2.count (PySem.Within.cons name v hw)
  refine wpAny_bind (wpAny_lookBehind hoD (by rw [hdD]; exact pastItsLine_dict (Nat.le_trans hcD (by rw [List.length_cons]; omega))) ?_)
  exact wpAny_pure (h _ ⟨(hs2.2 _ (Ne.symm I.ne)).trans I.obj, hn2, I.ne⟩ hs2)

/-- C(..): the dict at the heap's end, the instance behind it; then its __init__ -/
theorem make_map {R : Result → Shared → Prop} {vs : List Value} {kw : List (Str × Value)} (X : K.In s.heap) (hm : PySem.W.makesIn K C = true)
    (hi : PySem.W.findIn K (.ref C) "__init__" = some (some (.ref f))) (hf : PySem.W.typeIn K (.ref f) = some (.type "function"))
    (h : codeAny (model prog w) (A.under (.builtin "type.__call__" ⟨.ref C :: vs, kw⟩)) (.call (.ref f) ⟨.ref (s.heap.objs.size + 1) :: vs, kw⟩) (PySem.W.InitBack (s.heap.objs.size + 1) R)
      { s with heap := (s.heap.push PySem.W.emptyDict).push (PySem.W.instObj C s.heap.objs.size) }) :
    codeAny (model prog w) A (.call (.ref C) ⟨vs, kw⟩) R s := by
  obtain ⟨hh, g, d, t, os⟩ := s
  exact PySem.W.make_core (PySem.W.makes_of X hm) (PySem.W.looks_findIn X hi) (fun self => PySem.W.bind_fn X self hf) (.inl rfl) h
end

/-! ### the attributes as a list of pairs -/
def putF (f : Str) (v : V) : List (Str × V) → List (Str × V)
  | [] => [(f, v)]
  | (g, x) :: r => if g = f then (g, v) :: r else (g, x) :: putF f v r
theorem lookup_putF (f g : Str) (v : V) : ∀ fs : List (Str × V), (putF f v fs).lookup g = if g = f then some v else fs.lookup g
  | [] => by
    show List.lookup g [(f, v)] = _
    by_cases h : g = f
    · have hb : (g == f) = true := beq_iff_eq.mpr h
      simp only [List.lookup, hb, if_pos h]
    · have hb : (g == f) = false := beq_eq_false_iff_ne.mpr h
      simp only [List.lookup, hb, if_neg h]
  | (k, x) :: r => by
    have ih := lookup_putF f g v r
    rw [show putF f v ((k, x) :: r) = (if k = f then (k, v) :: r else (k, x) :: putF f v r) from rfl]
    by_cases hk : k = f
    · rw [if_pos hk]
      by_cases h : g = k
      · have hb : (g == k) = true := beq_iff_eq.mpr h
        simp only [List.lookup, hb, if_pos (h.trans hk)]
      · have hb : (g == k) = false := beq_eq_false_iff_ne.mpr h
        simp only [List.lookup, hb, if_neg (fun e : g = f => h (e.trans hk.symm))]
    · rw [if_neg hk]
      by_cases h : g = k
      · have hb : (g == k) = true := beq_iff_eq.mpr h
        simp only [List.lookup, hb, if_neg (fun e : g = f => hk (h.symm.trans e))]
      · have hb : (g == k) = false := beq_eq_false_iff_ne.mpr h
        simp only [List.lookup, hb]
        exact ih
theorem keys_putF (f : Str) (v : V) : ∀ fs : List (Str × V), f ∈ (putF f v fs).map (·.1) ∧ ∀ g, g ∈ fs.map (·.1) → g ∈ (putF f v fs).map (·.1)
  | [] => ⟨by simp [putF], fun g h => by simp at h⟩
  | (k, x) :: r => by
    obtain ⟨i1, i2⟩ := keys_putF f v r
    rw [show putF f v ((k, x) :: r) = (if k = f then (k, v) :: r else (k, x) :: putF f v r) from rfl]
    by_cases hk : k = f
    · rw [if_pos hk]
      subst hk
      exact ⟨by simp, fun g h => by simpa using h⟩
    · rw [if_neg hk]
      refine ⟨?_, fun g h => ?_⟩
      · rw [List.map_cons]
        exact List.mem_cons_of_mem _ i1
      · rw [List.map_cons] at h ⊢
        rcases List.mem_cons.mp h with e | e
        · exact List.mem_cons.mpr (.inl e)
        · exact List.mem_cons_of_mem _ (i2 g e)
theorem length_putF (f : Str) (v : V) : ∀ fs : List (Str × V), (putF f v fs).length ≤ fs.length + 1
  | [] => by simp [putF]
  | (k, x) :: r => by
    have ih := length_putF f v r
    rw [show putF f v ((k, x) :: r) = (if k = f then (k, v) :: r else (k, x) :: putF f v r) from rfl]
    by_cases hk : k = f
    · rw [if_pos hk, List.length_cons, List.length_cons]; omega
    · rw [if_neg hk, List.length_cons, List.length_cons]; omega

theorem RelO.some_of {v : V} {o : Option Value} (r : RelO (some v) o) : ∃ u, o = some u ∧ RelV v u := by
  cases o with
  | none => exact (show False from r).elim
  | some u => exact ⟨u, rfl, r⟩
theorem RelO.none_of {o : Option Value} (r : RelO none o) : o = none := by
  cases o with
  | none => rfl
  | some u => exact (show False from r).elim
theorem handed_of {v : V} {u : Value} (r : RelV v u) : PySem.W.handedIn u = true := by
  cases v with
  | non => cases (show u = Value.none from r); rfl
  | bl b => cases (show u = Value.bool b from r); rfl
  | int i => obtain ⟨t, e⟩ := (show ∃ t, u = Value.int i t from r); cases e; rfl
  | str x => obtain ⟨t, e⟩ := (show ∃ t, u = Value.str x t from r); cases e; rfl
  | byt b => obtain ⟨t, e⟩ := (show ∃ t, u = Value.bytes b t from r); cases e; rfl
  | flt b => obtain ⟨t, e⟩ := (show ∃ t, u = Value.float b t from r); cases e; rfl
  | ref a => cases (show u = Value.ref a from r); rfl
  | ty n => cases (show u = Value.type n from r); rfl

section
variable {P : Program} {w : World} {H H' : Hp} {h h' : Heap} {a C dx : Addr} {fs fs' : List (Str × V)}
theorem ins_get (hok : HOk P w H h) (e : H a = some (.ins C dx fs)) : ∃ mA, ObjM h a dx C mA ∧ (∀ f, RelO (fs.lookup f) (mA f)) ∧ PySem.Within mA (fs.map (·.1)) ∧ fs.length ≤ 1000 ∧ H dx = some (.own a) := by
  obtain ⟨d, z, ne, ob, mA, n, r, q⟩ := (show ObjOk P w H h a (.ins C dx fs) from hok a _ e)
  exact ⟨mA, ⟨ob, n, ne⟩, r, q, z, d⟩
end

/-! ### what of the text a class must have -/
structure Cls (K : PySem.W.Frag) (C : Addr) : Prop where
  pg : PySem.W.plainGet K C Str.empty = true
  hd : PySem.W.hasDictIn K C = true
  po : PySem.W.plainOver K C = true
  sa : PySem.W.findIn K (.ref C) "__setattr__" = some (some (.builtin "object.__setattr__"))
theorem Cls.get {K : PySem.W.Frag} {C : Addr} (c : Cls K C) (f : Str) : PySem.W.plainGet K C f = true := c.pg
/-- no class of it has the name -/
def NoAttr (K : PySem.W.Frag) (C : Addr) (f : Str) : Prop := PySem.W.findIn K (.ref C) f = some none
theorem NoAttr.taker {K : PySem.W.Frag} {C : Addr} {f : Str} (n : NoAttr K C f) : PySem.W.takerIn K C f = some none := by
  unfold PySem.W.takerIn
  rw [show PySem.W.findIn K (.ref C) f = some none from n]
  rfl
/-- a method: a plain def of the class or of one above it -/
structure Meth (K : PySem.W.Frag) (C : Addr) (m : Str) (f : Addr) : Prop where
  at_ : PySem.W.findIn K (.ref C) m = some (some (.ref f))
  fn : PySem.W.isFn K (.ref f) = true
  kp : PySem.W.keepIn K (.ref f) = true

section
variable {X : Cx} {pins : List (Addr × Obj)} {σ : St} {H : Hp} {s : Shared} {a C dx : Addr} {fs : List (Str × V)} {f : Str} {v : V} {A : Around} {E : Value → Shared → Prop}

theorem getattr_ok {b : Bool} {Q : Value → Shared → Prop} (I : Inv X pins σ H s) (e : H a = some (.ins C dx fs)) (c : Cls X.K C) (n : NoAttr X.K C f) (l : fs.lookup f = some v)
    (h : ∀ u s', Inv X pins σ H s' → RelV v u → Q u s') : wpAny (model X.prog X.w) A (getAttr (.ref a) f b) Q E s := by
  obtain ⟨mA, O, r, _, _, _⟩ := ins_get I.hok e
  obtain ⟨u, hu, ru⟩ := RelO.some_of (v := v) (o := mA f) (by rw [← l]; exact r f)
  exact get_map I.kIn O (c.get f) c.hd n hu (handed_of ru) (h u _ (I.tok _) ru)

theorem getmeth_ok {m : Str} {g : Addr} {pl : Sem Bool} {Q : Value × List Value → Shared → Prop} (I : Inv X pins σ H s) (e : H a = some (.ins C dx fs)) (c : Cls X.K C) (k : Meth X.K C m g) (l : fs.lookup m = none)
    (h : Q (.ref g, [.ref a]) s) : wpAny (model X.prog X.w) A (getMethod (.ref a) m pl) Q E s := by
  obtain ⟨mA, O, r, _, _, _⟩ := ins_get I.hok e
  have hn : mA m = none := RelO.none_of (by rw [← l]; exact r m)
  exact get_meth I.kIn O (c.get m) k.at_ k.fn hn h

theorem setattr_ok {y : V} {u : Value} {Q : Unit → Shared → Prop} (I : Inv X pins σ H s) (e : H a = some (.ins C dx fs)) (c : Cls X.K C) (n : NoAttr X.K C f) (hl : fs.length < 1000) (ry : RelV y u)
    (h : ∀ s', Inv X pins σ (upd H a (.ins C dx (putF f y fs))) s' → Q () s') : wpAny (model X.prog X.w) A (setAttr (.ref a) f u) Q E s := by
  obtain ⟨mA, O, r, wi, _, ho⟩ := ins_get I.hok e
  have hz : (fs.map (·.1)).length ≤ sizeLine := by rw [List.length_map, sizeLine_eq]; omega
  refine set_map I.kIn O c.sa c.po n.taker c.hd wi hz fun h' O' sb => h _ ?_
  have hd : ∃ o, h'.get? dx = some o := let ⟨o, _, _, e', _⟩ := O'.ns; ⟨o, e'⟩
  refine I.write (x := a) (e := dx) (by rw [e]; exact True.intro) (.inr ho) (fun b q hb z => (sb.2 b hb).trans z) hd ?_
  refine ⟨by rw [upd_ne O.ne]; exact ho, ?_, O.ne, O'.obj, _, O'.ns, fun g => ?_, fun g hg => ?_⟩
  · have := length_putF f y fs; omega
  · show RelO ((putF f y fs).lookup g) (if g = f then some u else mA g)
    rw [lookup_putF]
    by_cases q : g = f
    · rw [if_pos q, if_pos q]; exact ry
    · rw [if_neg q, if_neg q]; exact r g
  · by_cases q : g = f
    · rw [q]; exact (keys_putF f y fs).1
    · refine (keys_putF f y fs).2 g (wi g fun z => hg ?_)
      show (if g = f then some u else mA g) = none
      rw [if_neg q]; exact z

/-- a new instance, tracked, without attributes -/
theorem Inv.made (I : Inv X pins σ H s) : Inv X pins σ (upd (upd H s.heap.objs.size (.own (s.heap.objs.size + 1))) (s.heap.objs.size + 1) (.ins C s.heap.objs.size []))
    { s with heap := (s.heap.push PySem.W.emptyDict).push (PySem.W.instObj C s.heap.objs.size) } := by
  have e1 : (s.heap.push PySem.W.emptyDict).get? s.heap.objs.size = some PySem.W.emptyDict := Heap.get?_push_size s.heap rfl
  have e2 : ((s.heap.push PySem.W.emptyDict).push (PySem.W.instObj C s.heap.objs.size)).get? (s.heap.objs.size + 1) = some (PySem.W.instObj C s.heap.objs.size) := by
    have := Heap.get?_push_size (s.heap.push PySem.W.emptyDict) (o := PySem.W.instObj C s.heap.objs.size) rfl
    rwa [Heap.size_push] at this
  have e3 : (s.heap.push PySem.W.emptyDict).Ns s.heap.objs.size (fun _ => none) := ⟨PySem.W.emptyDict, #[], _, e1, rfl, (fun e he => absurd he (by simp)), fun _ => rfl⟩
  have I1 := I.laid (a := s.heap.objs.size) (o := .own (s.heap.objs.size + 1)) (h' := s.heap.push PySem.W.emptyDict) (t' := s.toks) (fun b u q => Heap.get?_push_of_some _ q) (Nat.le_refl _) ⟨_, e1⟩
  refine I1.laid (a := s.heap.objs.size + 1) (o := .ins C s.heap.objs.size []) (t' := s.toks) (fun b u q => Heap.get?_push_of_some _ q) (Nat.le_of_eq (Heap.size_push _ _)) ?_
  have ne : s.heap.objs.size ≠ s.heap.objs.size + 1 := Nat.ne_of_lt (Nat.lt_succ_self _)
  refine ⟨by rw [upd_ne ne, upd_same], Nat.zero_le _, ne, e2, fun _ => none, (Heap.Ns1.of_empty e3).at fun o q => Heap.get?_push_of_some _ q, fun _ => True.intro, fun y hy => absurd rfl hy⟩

/-- e.f where nothing but the object is asked: through attributeBase (super) and the last hold -/
theorem attr_of {prog : Program} {w : World} {env : Env} {e : Expr} {f : Str} {pos : Pos} {s : Shared} {Q : Value → Shared → Prop} (hb : attributeBase e f env (eval e env) = eval e env)
    (h : wpAny (model prog w) A (eval e env) (fun o s₁ => wpAny (model prog w) A (getAttr o f true) Q E s₁) E s) : wpAny (model prog w) A (eval (.Attribute e f pos) env) Q E s :=
  Attribute_any_ h (by rw [arm_eval_Attribute, hb])
end

/-! ### readings and rules -/
/-- e.f, an attribute of the instance -/
def tFld (K : PySem.W.Frag) (ta : TE) (f : Str) : TE := fun σ H Q => ta σ H fun x H1 => ∃ a C dx fs v, x = .ref a ∧ H1 a = some (.ins C dx fs) ∧ Cls K C ∧ NoAttr K C f ∧ fs.lookup f = some v ∧ Q v H1
/-- e.f = value -/
def sFld (K : PySem.W.Frag) (ta tv : TE) (f : Str) : TS := fun D σ H => tv σ H fun y H1 => ta σ H1 fun x H2 => ∃ a C dx fs, x = .ref a ∧ H2 a = some (.ins C dx fs) ∧ Cls K C ∧ NoAttr K C f ∧ fs.length < 1000 ∧
  D.nx σ (upd H2 a (.ins C dx (putF f y fs)))
section
variable {X : Cx} {o e value : Expr} {f : Str} {pos pos' tpos : Pos} {ta tv : TE}
theorem pe_fld (he : PE X e ta) (hb : attributeBase e f X.env (eval e X.env) = eval e X.env) : PE X (.Attribute e f pos) (tFld X.K ta f) := by
  intro pins s σ H Q I h
  refine attr_of hb (thn (he pins s σ H _ I h) fun u s1 ⟨x, H1, I1, rx, a, C, dx, fs, v, ex, ea, c, n, l, q⟩ => ?_)
  subst ex
  obtain rfl : u = Value.ref a := rx
  exact getattr_ok I1 ea c n l fun u' s2 I2 ru => ⟨v, H1, I2, ru, q⟩
theorem ps_fld (ha : PE X o ta) (hv : PE X value tv) (hs : swapsWith value (some (.Attribute o f pos')) pos.line X.env = pure false) : PS X (.Assign [.Attribute o f pos'] value pos) (sFld X.K ta tv f) := by
  intro pins s σ H D I h
  refine plainObj_wpAny_Assign_Attribute (thn (hv pins s σ H _ I h) fun u s1 ⟨y, H1, I1, ry, q⟩ => thn (ha pins s1 σ H1 _ I1 q) fun ov s2 ⟨x, H2, I2, rx, a, C, dx, fs, ex, ea, c, n, l, q2⟩ => ?_) hs
  subst ex
  obtain rfl : ov = Value.ref a := rx
  exact setattr_ok I2 ea c n l ry fun s3 I3 => ⟨σ, _, I3, q2⟩
/-- what is between an instance and its method: the tree of a method call -/
theorem methcall_of {pl : Sem Bool} {m : Str} {apos : Pos} {args : List Expr} {pins : List (Addr × Obj)} {s : Shared} {σ : St} {H : Hp} {Q : Value → Shared → Prop} {te : TE} (he : PE X e te) (I : Inv X pins σ H s)
    (h : te σ H fun x H1 => ∃ a C dx fs g, x = .ref a ∧ H1 a = some (.ins C dx fs) ∧ Cls X.K C ∧ Meth X.K C m g ∧ fs.lookup m = none ∧
      ∀ s1, Inv X pins σ H1 s1 → wpAny (model X.prog X.w) X.A (callWith pos (.ref g) [.ref a] (backTo pos (starEach args X.env)) (backToKw pos (keywordEach [] X.env))) Q X.xe s1)
    (ht : eval (.Call (.Attribute e m apos) args [] pos) X.env = (do
      let ov ← eval e X.env
      standAt apos.atName
      let (f, first) ← holding [ov] (getMethod ov m pl)
      callWith pos f first (backTo pos (starEach args X.env)) (backToKw pos (keywordEach [] X.env)))) :
    wpAny (model X.prog X.w) X.A (eval (.Call (.Attribute e m apos) args [] pos) X.env) Q X.xe s := by
  refine PySem.W.methodCall_KW (pl := pl) (thn (he pins s σ H _ I h) fun u s1 ⟨x, H1, I1, rx, a, C, dx, fs, g, ex, ea, c, k, l, q⟩ => ?_) ht
  subst ex
  obtain rfl : u = Value.ref a := rx
  exact getmeth_ok I1 ea c k l (q s1 I1)
end

/-! ### isinstance -/
section
variable {X : Cx} {pins : List (Addr × Obj)} {σ : St} {H : Hp} {s : Shared} {A : Around} {E : Value → Shared → Prop} {Q : Value → Shared → Prop} {c : Value} {b : Bool}
/-- the type of a value, as the fragment's deciders take it; for an instance its class -/
inductive TyOf (K : PySem.W.Frag) (H : Hp) : V → Value → Prop where
  | non : TyOf K H .non (.type "NoneType")
  | bl (x : Bool) : TyOf K H (.bl x) (.type "bool")
  | int (i : Int) : TyOf K H (.int i) (.type "int")
  | str (x : Str) : TyOf K H (.str x) (.type "str")
  | flt (x : UInt64) : TyOf K H (.flt x) (.type "float")
  | lst {a : Addr} {xs : List V} (e : H a = some (.lst xs)) : TyOf K H (.ref a) (.type "list")
  | frz {a : Addr} {o : Obj} {xs : List V} (e : H a = some (.frz o (.lst xs))) : TyOf K H (.ref a) (.type "list")
  | tup {a : Addr} {xs : List V} (e : H a = some (.tup xs)) : TyOf K H (.ref a) (.type "tuple")
  | dK {a : Addr} {kvs : List (Key × V)} (e : H a = some (.dK kvs)) : TyOf K H (.ref a) (.type "dict")
  | dT {a : Addr} {kvs : List (List Key × V)} (e : H a = some (.dT kvs)) : TyOf K H (.ref a) (.type "dict")
  | ins {a C dx : Addr} {fs : List (Str × V)} (e : H a = some (.ins C dx fs)) (cl : Cls K C) (ha : PySem.W.findIn K (.ref C) "__class__" = some (some (.builtin "object.__class__")))
      (hn : PySem.W.specialIn K (.builtin "object.__class__") "__get__" = some (some (.builtin "getset_descriptor.__get__"))) (htk : PySem.W.takesIn K (.builtin "object.__class__") = some true)
      (hm : PySem.W.mroIn K C (.type "object") = some true) : TyOf K H (.ref a) (.ref C)
/-- isinstance(x, c) for one class c, a built-in or an own one: kitOne's answer -/
theorem isinst_ok {x : V} {u t : Value} (I : Inv X pins σ H s) (rx : RelV x u) (ty : TyOf X.K H x t) (e : PySem.W.kitOne X.K t c = some b) (h : ∀ tk, Q (.bool b) { s with toks := tk }) :
    wpAny (model X.prog X.w) A (call (.builtin "isinstance") [u, c]) Q E s := by
  cases ty with
  | non => cases (show u = Value.none from rx); exact PySem.W.kia_one PySem.W.kitx_none I.kIn True.intro e (fun z => nomatch z) h
  | bl y => cases (show u = Value.bool y from rx); exact PySem.W.kia_one PySem.W.kitx_bool I.kIn True.intro e (fun z => nomatch z) h
  | int i => obtain ⟨t, q⟩ := (show ∃ t, u = Value.int i t from rx); cases q; exact PySem.W.kia_one PySem.W.kitx_int I.kIn True.intro e (fun z => nomatch z) h
  | str y => obtain ⟨t, q⟩ := (show ∃ t, u = Value.str y t from rx); cases q; exact PySem.W.kia_one PySem.W.kitx_str I.kIn True.intro e (fun z => nomatch z) h
  | flt y => obtain ⟨t, q⟩ := (show ∃ t, u = Value.float y t from rx); cases q; exact PySem.W.kia_one PySem.W.kitx_float I.kIn True.intro e (fun z => nomatch z) h
  | @lst a xs ea =>
    cases (show u = Value.ref a from rx)
    obtain ⟨_, _, n, _, h1⟩ := (show ObjOk X.prog X.w H s.heap a (.lst xs) from I.hok a _ ea)
    exact PySem.W.kia_one PySem.W.kitx_list I.kIn ⟨_, h1, rfl⟩ e (fun z => nomatch z) h
  | @frz a ob xs ea =>
    cases (show u = Value.ref a from rx)
    obtain ⟨_, _, _, n, _, h1⟩ := (show ObjOk X.prog X.w H s.heap a (.frz ob (.lst xs)) from I.hok a _ ea)
    exact PySem.W.kia_one PySem.W.kitx_list I.kIn ⟨_, h1, rfl⟩ e (fun z => nomatch z) h
  | @tup a xs ea =>
    cases (show u = Value.ref a from rx)
    obtain ⟨_, _, _, p⟩ := (show ObjOk X.prog X.w H s.heap a (.tup xs) from I.hok a _ ea)
    obtain ⟨o, h1, h2, _⟩ := p
    exact PySem.W.kia_one PySem.W.kitx_tuple I.kIn ⟨o, h1, h2⟩ e (fun z => nomatch z) h
  | @dK a kvs ea =>
    cases (show u = Value.ref a from rx)
    obtain ⟨_, _, vs, _, p⟩ := (show ObjOk X.prog X.w H s.heap a (.dK kvs) from I.hok a _ ea)
    obtain ⟨o, es, ep, h1, h2, _⟩ := p
    exact PySem.W.kia_one PySem.W.kitx_dict I.kIn ⟨o, h1, h2.1⟩ e (fun z => nomatch z) h
  | @dT a kvs ea =>
    cases (show u = Value.ref a from rx)
    obtain ⟨_, _, xs, _, o, es, ep, h1, h2, _⟩ := (show ObjOk X.prog X.w H s.heap a (.dT kvs) from I.hok a _ ea)
    exact PySem.W.kia_one PySem.W.kitx_dict I.kIn ⟨o, h1, h2.1⟩ e (fun z => nomatch z) h
  | @ins a C dx fs ea cl ha hn htk hm =>
    cases (show u = Value.ref a from rx)
    obtain ⟨mA, O, _⟩ := ins_get I.hok ea
    obtain ⟨od, J, _⟩ := O.look
    exact PySem.W.kia_one (PySem.W.kitx_own (cl.get _) cl.hd ha hn htk hm) I.kIn J e (fun z => nomatch z) h
end
end L2

namespace L2
open PySem PySem.Spec PyProof.Rows

/-! ### room -/
structure Room (k : Nat) (A : Around) : Prop where
  hd : A.handled = none
  dp : A.depth + 3 * k + 5 < recursionLimit
  un : A.units + 16 * k + 200 < cLine
theorem Room.mono {j k : Nat} {A : Around} (r : Room k A) (h : j ≤ k) : Room j A := ⟨r.hd, by have := r.dp; omega, by have := r.un; omega⟩
theorem Room.deeper {k : Nat} {A : Around} (r : Room (k + 1) A) (env : Env) : Room k (A.deeper env) :=
  ⟨r.hd, by have := r.dp; show A.depth + 1 + 3 * k + 5 < _; omega, by have := r.un; show A.units + 3 + 16 * k + 200 < _; omega⟩
theorem make_depth {A : Around} {C : Addr} {us : List Value} {kw : List (Str × Value)} : (A.under (.builtin "type.__call__" ⟨.ref C :: us, kw⟩)).depth = A.depth + 1 := by
  first | rfl | simp [Around.under, Code.weight, Code.isCreation, Code.isGuard, Code.isCaller, Code.frames, Code.isFrame, guardIds]
theorem make_units {A : Around} {C : Addr} {us : List Value} {kw : List (Str × Value)} : (A.under (.builtin "type.__call__" ⟨.ref C :: us, kw⟩)).units = A.units + 1 := by
  first | rfl | simp [Around.under, Code.cUnits, Code.frames, Code.isFrame]
theorem Room.make {k : Nat} {A : Around} (r : Room (k + 1) A) (C : Addr) (us : List Value) (kw : List (Str × Value)) : Room k (A.under (.builtin "type.__call__" ⟨.ref C :: us, kw⟩)) :=
  ⟨r.hd, by have := r.dp; rw [make_depth]; omega, by have := r.un; rw [make_units]; omega⟩
theorem Room.depth {k : Nat} {A : Around} (r : Room k A) : A.depth < recursionLimit := by have := r.dp; omega
theorem Room.units {k : Nat} {A : Around} (r : Room k A) : A.units + 64 < cLine := by have := r.un; omega
/-! ### argument lists and displays -/
def tNil : TA := fun _ H Q => Q [] H
def tCons (ta : TE) (tr : TA) : TA := fun σ H Q => ta σ H fun x H1 => tr σ H1 fun xs H2 => Q (x :: xs) H2
section
variable {X : Cx} {e : Expr} {es : List Expr} {te : TE} {t : TA} {pos : Pos}
theorem pa_nil : PA X [] tNil := fun _ _ _ _ H Q I h => Calls.spliced_nil ⟨[], H, I, .nil, h⟩
theorem pa_cons (ha : PE X e te) (hr : PA X es t) (hs : starEach (e :: es) X.env = (false, eval e X.env) :: starEach es X.env := by rfl) : PA X (e :: es) (tCons te t) := by
  intro pos pins s σ H Q I h
  rw [hs]
  show wpAny _ _ (spliced ((false, eval e X.env) :: backTo pos (starEach es X.env))) _ _ s
  refine Calls.spliced_cons (thn (ha pins s σ H _ I h) fun u s1 ⟨x, H1, I1, r1, q1⟩ => ?_)
  exact thn (hr pos pins s1 σ H1 _ I1 q1) fun us s2 ⟨xs, H2, I2, r2, q2⟩ => ⟨x :: xs, H2, I2, .cons r1 r2, q2⟩

/-- a tuple, a list of written items -/
def tTup (t : TA) : TE := fun σ H Q => t σ H fun xs H1 => xs.length ≤ sizeLine ∧ ∀ p, H1 p = none → Q (.ref p) (upd H1 p (.tup xs))
def tLst (t : TA) : TE := fun σ H Q => t σ H fun xs H1 => xs.length ≤ sizeLine ∧ ∀ p, H1 p = none → Q (.ref p) (upd H1 p (.lst xs))
theorem pe_tup {x1} (h : PA X es t) : PE X (.Tuple es x1 pos) (tTup t) := by
  intro pins s σ H Q I hq
  refine wpAny_Tuple_spliced (thn (h pos pins s σ H _ I hq) fun us s1 ⟨xs, H1, I1, r, z, q⟩ => ⟨by rw [← r.length]; exact z, ?_⟩)
  have hf : H1 s1.heap.objs.size = none := I1.hok.fresh (Nat.le_refl _)
  refine ⟨.ref s1.heap.objs.size, upd H1 s1.heap.objs.size (.tup xs), I1.laid (t' := s1.toks) (fun b u e => Heap.get?_push_of_some _ e) (Nat.le_refl _) ?_, rfl, q _ hf⟩
  exact ⟨z, us, r, ⟨_, Heap.get?_push_size _ rfl, rfl, _, rfl⟩⟩
theorem pe_lst (h : PA X es t) : PE X (.List es pos) (tLst t) := by
  intro pins s σ H Q I hq
  refine wpAny_List_spliced (thn (h pos pins s σ H _ I hq) fun us s1 ⟨xs, H1, I1, r, z, q⟩ => ⟨by rw [← r.length]; exact z, ?_⟩)
  have hf : H1 s1.heap.objs.size = none := I1.hok.fresh (Nat.le_refl _)
  refine ⟨.ref s1.heap.objs.size, upd H1 s1.heap.objs.size (.lst xs), I1.laid (t' := s1.toks) (fun b u e => Heap.get?_push_of_some _ e) (Nat.le_refl _) ?_, rfl, q _ hf⟩
  exact ⟨z, us, 0, r, Heap.get?_push_size _ rfl⟩
end

/-! ### what a def promises -/
/-- a def's promise: the bound arguments in the parameters' order, the heap, the wanted end, the wanted exception -/
abbrev Sp := List V → Hp → VK → XK → Prop
/-- how an exception lies behind a call (file 08 gives it): the callers' frames, abstract heap and state ahead of the call, the wish, the exception, the state -/
abbrev CXT := List Env → Hp → Shared → XK → Value → Shared → Prop

/-- the state at a call -/
structure Env0 (P : Program) (w : World) (K : PySem.W.Frag) (mg : Str → Option Value) (base : Heap) (A : Around) (outer : List Env) (s : Shared) (H : Hp) : Prop where
  frames : A.frames = some outer
  mod : Mod K mg base
  bs : ∀ b o, base.get? b = some o → s.heap.get? b = some o ∧ H b = none
  bsz : base.objs.size ≤ s.heap.objs.size
  funs : s.heap.FunFrames base outer
  frf : ∀ b ∈ frs outer, H b = none
  hok : HOk P w H s.heap
  bare : AllBare s.gens
/-- a call's end -/
def CE (outer : List Env) (P : Program) (w : World) (H : Hp) (s : Shared) (Q : VK) (u : Value) (s' : Shared) : Prop :=
  ∃ v H', s'.os = s.os ∧ AllBare s'.gens ∧ Un (frs outer) [] H H' s.heap s'.heap ∧ HOk P w H' s'.heap ∧ RelV v u ∧ Q v H'
def CR (CX : CXT) (outer : List Env) (P : Program) (w : World) (H : Hp) (s : Shared) (Q : VK) (E : XK) (r : Result) (s' : Shared) : Prop :=
  match r with
  | .ok (.ret u) => CE outer P w H s Q u s'
  | .ok _ => False
  | .error e => CX outer H s E e s'
structure FnOk (P : Program) (w : World) (K : PySem.W.Frag) (mg : Str → Option Value) (base : Heap) (CX : CXT) (k : Nat) (f : Addr) (fd : FuncData) (ps : List Str) (sp : Sp) : Prop where
  len : ∀ vs H Q E, sp vs H Q E → vs.length = ps.length
  run : ∀ (A : Around) (outer : List Env) (s : Shared) (H : Hp) (args : Args) (us : List Value) (vs : List V) (Q : VK) (E : XK), Room k A → Env0 P w K mg base A outer s H → BindsTo s fd args (ps.zip us) → Vals vs us → sp vs H Q E →
    codeAny (model P w) A (.call (.ref f) args) (CR CX outer P w H s Q E) s
theorem FnOk.mono {P : Program} {w : World} {K : PySem.W.Frag} {mg : Str → Option Value} {base : Heap} {CX : CXT} {j k : Nat} {f : Addr} {fd : FuncData} {ps : List Str} {sp : Sp} (F : FnOk P w K mg base CX j f fd ps sp) (h : j ≤ k) :
    FnOk P w K mg base CX k f fd ps sp := ⟨F.len, fun A outer s H args us vs Q E hr => F.run A outer s H args us vs Q E (hr.mono h)⟩
theorem Env0.make {P : Program} {w : World} {K : PySem.W.Frag} {mg : Str → Option Value} {base : Heap} {A : Around} {outer : List Env} {s : Shared} {H : Hp} (e : Env0 P w K mg base A outer s H) (C : Addr) (us : List Value) (kw : List (Str × Value)) :
    Env0 P w K mg base (A.under (.builtin "type.__call__" ⟨.ref C :: us, kw⟩)) outer s H := ⟨by first | exact e.frames | (simpa [Around.under, Code.envs, Code.isFrame, pushEnvs] using e.frames), e.mod, e.bs, e.bsz, e.funs, e.frf, e.hok, e.bare⟩
section
variable {X : Cx} {pins : List (Addr × Obj)} {σ : St} {H : Hp} {s s' : Shared}
/-- from a body: what a callee wants -/
theorem Inv.env0 (I : Inv X pins σ H s) : Env0 X.prog X.w X.K X.mg X.base X.A X.stack s H :=
  ⟨I.ok.frames, I.ok.mod, I.bs, Nat.le_trans I.ok.bsz I.sz, I.stack, I.stkFree, I.hok, I.bare⟩
/-- behind a call -/
theorem Inv.after {Q : VK} {u : Value} (I : Inv X pins σ H s) (h : CE X.stack X.prog X.w H s Q u s') : EP X pins σ Q u s' := by
  obtain ⟨v, H', os, bare, un, hok, r, q⟩ := h
  obtain ⟨hh, g, d, t, os'⟩ := s'
  obtain rfl : os' = s.os := os
  exact ⟨v, H', I.call (h' := hh) (g' := g) (d' := d) (t' := t) (ch := []) un hok bare (fun b z => absurd z (by simp)), r, q⟩
end

/-! ### calls -/
/-- f(..): the written arguments, then the defaults dvs; E: what is wanted of an exception -/
def tCall (sp : Sp) (dvs : List V) (E : XK) (t : TA) : TE := fun σ H Q => t σ H fun vs H1 => sp (vs ++ dvs) H1 Q E
/-- o.m(..) of an instance of the class at C -/
def tMeth (C : Addr) (m : Str) (sp : Sp) (dvs : List V) (E : XK) (ta : TE) (t : TA) : TE := fun σ H Q => ta σ H fun x H1 => ∃ a dx fs, x = .ref a ∧ H1 a = some (.ins C dx fs) ∧ fs.lookup m = none ∧
  t σ H1 fun vs H2 => sp (x :: (vs ++ dvs)) H2 Q E
/-- C(..): a new instance and its dict, then __init__ -/
def tMake (C : Addr) (sp : Sp) (dvs : List V) (E : XK) (t : TA) : TE := fun σ H Q => t σ H fun vs H1 => ∀ x dx, H1 x = none → H1 dx = none → dx ≠ x →
  sp (.ref x :: (vs ++ dvs)) (upd (upd H1 dx (.own x)) x (.ins C dx [])) (fun v H2 => v = .non ∧ Q (.ref x) H2) E

/-- how the parameters are bound: us the positional arguments, kw the keywords' values by name, ds the defaults that fill up -/
def Binds (K : PySem.W.Frag) (fd : FuncData) (ps : List Str) (ds : List Value) : Prop :=
  ∀ (s : Shared) (us : List Value), K.In s.heap → (us ++ ds).length = ps.length → BindsTo s fd ⟨us, []⟩ (ps.zip (us ++ ds))
/-- every parameter is given -/
theorem Binds.all {K : PySem.W.Frag} {fd : FuncData} {ps : List Str} (h : ∀ us : List Value, us.length = ps.length → bindArgs fd ⟨us, []⟩ = pure (ps.zip us)) : Binds K fd ps [] := fun s us _ hl => by
  rw [List.append_nil] at hl ⊢
  exact .of_eq (h us hl)

/-- an exception of a callee reaches what this body wants of exceptions -/
def Passes (CX : CXT) (X : Cx) (E : XK) : Prop := ∀ (pins : List (Addr × Obj)) (σ : St) (H : Hp) (s : Shared) (e : Value) (s' : Shared), Inv X pins σ H s → CX X.stack H s E e s' → X.xe e s'

section
variable {X : Cx} {CX : CXT} {k : Nat} {f C : Addr} {fd : FuncData} {ps : List Str} {sp : Sp} {dvs : List V} {ds : List Value} {E : XK} {x m : Str} {p pos apos : Pos} {e o : Expr} {es : List Expr} {ta : TE} {t : TA}

/-- the callee runs -/
theorem run_fn {pins : List (Addr × Obj)} {σ : St} {H : Hp} {s : Shared} {Q : VK} {us : List Value} {vs : List V} (F : FnOk X.prog X.w X.K X.mg X.base CX k f fd ps sp) (hr : Room k X.A) (hb : Binds X.K fd ps ds) (hd : Vals dvs ds) (hx : Passes CX X E)
    (I : Inv X pins σ H s) (r : Vals vs us) (h : sp (vs ++ dvs) H Q E) : wpAny (model X.prog X.w) X.A (call (.ref f) us) (EP X pins σ Q) X.xe s := by
  have r2 : Vals (vs ++ dvs) (us ++ ds) := r.append hd
  have hl : (us ++ ds).length = ps.length := by rw [← r2.length]; exact F.len _ _ _ _ h
  refine wpAny_call (codeAny_mono (F.run X.A X.stack s H ⟨us, []⟩ (us ++ ds) (vs ++ dvs) Q E hr I.env0 (hb s us I.kIn hl) r2 h) fun r s' hq => ?_)
  cases r with
  | error e => exact hx pins σ H s e s' I hq
  | ok fl =>
    cases fl with
    | ret u => exact I.after hq
    | next => exact False.elim hq
    | brk => exact False.elim hq
    | cont => exact False.elim hq

theorem pe_call (F : FnOk X.prog X.w X.K X.mg X.base CX k f fd ps sp) (hr : Room k X.A) (hg : Gl X x) (hm : X.mg x = some (.ref f)) (hk : PySem.W.keepIn X.K (.ref f) = true) (hb : Binds X.K fd ps ds) (hd : Vals dvs ds) (hx : Passes CX X E)
    (ha : PA X (e :: es) t) (hdb : (x == ("__debug__" : Str)) = false := by decide) (he : starEach (e :: es) X.env = (false, eval e X.env) :: starEach es X.env := by rfl) (hpl : (backTo pos (starEach es X.env)).any (·.1) = false := by rfl) :
    PE X (.Call (.Name x p) (e :: es) [] pos) (tCall sp dvs E t) := by
  intro pins s σ H Q I h
  refine wpAny_Call_Name_kw (ld_glob I hg hm ?_ hdb)
  refine PySem.W.callWith_K (h₀ := X.base) I.ok.mod.kin hk (thn (ha pos pins s σ H _ I h) fun us s1 ⟨vs, H1, I1, r, q⟩ => ⟨I1.kIn, ?_⟩) he hpl
  exact run_fn F hr hb hd hx I1 r q
/-- o.m(e, ..) -/
theorem pe_meth {pl : Sem Bool} (he : PE X o ta) (c : Cls X.K C) (hm : Meth X.K C m f) (F : FnOk X.prog X.w X.K X.mg X.base CX k f fd ps sp) (hr : Room k X.A) (hb : Binds X.K fd ps ds) (hd : Vals dvs ds) (hx : Passes CX X E) (ha : PA X (e :: es) t)
    (hst : starEach (e :: es) X.env = (false, eval e X.env) :: starEach es X.env := by rfl) (hpl : (backTo pos (starEach es X.env)).any (·.1) = false := by rfl)
    (ht : eval (.Call (.Attribute o m apos) (e :: es) [] pos) X.env = (do
      let ov ← eval o X.env
      standAt apos.atName
      let (f, first) ← holding [ov] (getMethod ov m pl)
      callWith pos f first (backTo pos (starEach (e :: es) X.env)) (backToKw pos (keywordEach [] X.env))) := by rfl) :
    PE X (.Call (.Attribute o m apos) (e :: es) [] pos) (tMeth C m sp dvs E ta t) := by
  intro pins s σ H Q I h
  refine PySem.W.methodCall_KW (pl := pl) (thn (he pins s σ H _ I h) fun u s1 ⟨x, H1, I1, rx, a, dx, fs, ex, ea, l, q⟩ => ?_) ht
  subst ex
  obtain rfl : u = Value.ref a := rx
  refine getmeth_ok I1 ea c hm l ?_
  refine PySem.W.callWith_K (first := [.ref a]) (h₀ := X.base) I.ok.mod.kin hm.kp (thn (ha pos pins s1 σ H1 _ I1 q) fun us s2 ⟨vs, H2, I2, r, q2⟩ => ⟨I2.kIn, ?_⟩) hst hpl
  exact run_fn (us := .ref a :: us) (vs := .ref a :: vs) F hr hb hd hx I2 (.cons rfl r) q2
/-- what a class must have to be made -/
structure Mk (K : PySem.W.Frag) (C f : Addr) : Prop where
  makes : PySem.W.makesIn K C = true
  init : PySem.W.findIn K (.ref C) "__init__" = some (some (.ref f))
  fn : PySem.W.isFn K (.ref f) = true
  kp : PySem.W.keepIn K (.ref C) = true

theorem run_make {pins : List (Addr × Obj)} {σ : St} {H : Hp} {s : Shared} {Q : VK} {us : List Value} {vs : List V} (M : Mk X.K C f) (F : FnOk X.prog X.w X.K X.mg X.base CX k f fd ps sp) (hr : Room (k + 1) X.A) (hb : Binds X.K fd ps ds) (hd : Vals dvs ds)
    (hx : Passes CX X E) (I : Inv X pins σ H s) (r : Vals vs us)
    (h : ∀ x dx, H x = none → H dx = none → dx ≠ x → sp (.ref x :: (vs ++ dvs)) (upd (upd H dx (.own x)) x (.ins C dx [])) (fun v H2 => v = .non ∧ Q (.ref x) H2) E) :
    wpAny (model X.prog X.w) X.A (call (.ref C) us) (EP X pins σ Q) X.xe s := by
  have hq := h (s.heap.objs.size + 1) s.heap.objs.size (I.hok.fresh (Nat.le_succ _)) (I.hok.fresh (Nat.le_refl _)) (Nat.ne_of_lt (Nat.lt_succ_self _))
  have I2 := Inv.made (C := C) I
  have r2 : Vals (V.ref (s.heap.objs.size + 1) :: (vs ++ dvs)) (Value.ref (s.heap.objs.size + 1) :: (us ++ ds)) := .cons rfl (r.append hd)
  have hl : (Value.ref (s.heap.objs.size + 1) :: us ++ ds).length = ps.length := by
    have e := r2.length
    rw [F.len _ _ _ _ hq] at e
    exact e.symm
  refine wpAny_call (make_map (f := f) I.kIn M.makes M.init (beq_iff_eq.mp M.fn) (codeAny_mono (F.run _ X.stack _ _ ⟨Value.ref (s.heap.objs.size + 1) :: us, []⟩ (Value.ref (s.heap.objs.size + 1) :: (us ++ ds)) _ _ E (hr.make C us [])
    (I2.env0.make C us []) (hb _ (Value.ref (s.heap.objs.size + 1) :: us) I2.kIn hl) r2 hq) fun r s' hq' => ?_))
  cases r with
  | error e => exact hx pins σ _ _ e s' I2 hq'
  | ok fl =>
    cases fl with
    | ret u =>
      obtain ⟨v, H', I3, rv, ev, q3⟩ := I2.after hq'
      subst ev
      exact ⟨rv, ⟨V.ref (s.heap.objs.size + 1), H', I3, rfl, q3⟩⟩
    | next => exact False.elim hq'
    | brk => exact False.elim hq'
    | cont => exact False.elim hq'
theorem pe_make (M : Mk X.K C f) (F : FnOk X.prog X.w X.K X.mg X.base CX k f fd ps sp) (hr : Room (k + 1) X.A) (hg : Gl X x) (hm : X.mg x = some (.ref C)) (hb : Binds X.K fd ps ds) (hd : Vals dvs ds) (hx : Passes CX X E)
    (ha : PA X (e :: es) t) (hdb : (x == ("__debug__" : Str)) = false := by decide) (he : starEach (e :: es) X.env = (false, eval e X.env) :: starEach es X.env := by rfl) (hpl : (backTo pos (starEach es X.env)).any (·.1) = false := by rfl) :
    PE X (.Call (.Name x p) (e :: es) [] pos) (tMake C sp dvs E t) := by
  intro pins s σ H Q I h
  refine wpAny_Call_Name_kw (ld_glob I hg hm ?_ hdb)
  refine PySem.W.callWith_K (h₀ := X.base) I.ok.mod.kin M.kp (thn (ha pos pins s σ H _ I h) fun us s1 ⟨vs, H1, I1, r, q⟩ => ⟨I1.kIn, ?_⟩) he hpl
  exact run_make M F hr hb hd hx I1 r q
end

/-! ### keywords -/
section
variable {X : Cx} {CX : CXT} {k : Nat} {f C : Addr} {fd : FuncData} {ps ks : List Str} {sp : Sp} {E : XK} {x m : Str} {p pos apos kpos : Pos} {e o : Expr} {es : List Expr} {kws : List Keyword} {te ta : TE} {t tk : TA} {nm : Option Str}
variable {g : List Value → List Value → List Value} {gV : List V → List V → List V}
end

/-! ### a def's body keeps its promise -/
/-- names: the parameters first -/
structure FnScope (N P : List Str) (sc : Scope) : Prop where
  kind : sc.kind = .function
  co : sc.isCoroutine = false
  gen : sc.isGenerator = false
  nd : N.Nodup
  pre : N.take P.length = P
  par : ∀ x ∈ P, sc.names.lookup x = some .local ∨ sc.names.lookup x = some .cell
  nofree : ∀ y ∈ sc.names, y.2 ≠ .free

theorem bindL_out {kindOf : Str → Option NameKind} {x : Str} : ∀ {binds : List (Str × Value)} {m : Str → Option Value}, (∀ v, (x, v) ∉ binds) → bindL kindOf binds m x = m x
  | [], _, _ => rfl
  | (n, v) :: r, m, h => by
    unfold bindL
    rw [bindL_out fun w hw => h w (List.mem_cons_of_mem _ hw)]
    split
    · have : x ≠ n := by rintro rfl; exact h v List.mem_cons_self
      simp [this]
    · rfl
theorem bindC_out {kindOf : Str → Option NameKind} {x : Str} : ∀ {binds : List (Str × Value)} {m : Str → Option Value}, (∀ v, (x, v) ∉ binds) → bindC kindOf binds m x = m x
  | [], _, _ => rfl
  | (n, v) :: r, m, h => by
    unfold bindC
    rw [bindC_out fun w hw => h w (List.mem_cons_of_mem _ hw)]
    split
    · rfl
    · have : x ≠ n := by rintro rfl; exact h v List.mem_cons_self
      simp [this]
theorem bindL_get {kindOf : Str → Option NameKind} {x : Str} {v : Value} : ∀ {P : List Str} {vs : List Value} {i : Nat} {m : Str → Option Value}, P.Nodup → P[i]? = some x → vs[i]? = some v → kindOf x = some .local →
    bindL kindOf (P.zip vs) m x = some v
  | [], _, _, _, _, h, _, _ => by simp at h
  | _ :: _, [], _, _, _, _, h, _ => by simp at h
  | p :: P, w :: vs, 0, m, nd, h1, h2, hk => by
    simp at h1 h2; subst h1; subst h2
    show bindL kindOf ((p, w) :: P.zip vs) m p = _
    unfold bindL
    rw [bindL_out fun v hv => (List.nodup_cons.mp nd).1 (List.of_mem_zip hv).1, if_pos hk]
    simp
  | p :: P, w :: vs, i + 1, m, nd, h1, h2, hk => by
    show bindL kindOf ((p, w) :: P.zip vs) m x = _
    unfold bindL
    exact bindL_get (i := i) (List.nodup_cons.mp nd).2 (by simpa using h1) (by simpa using h2) hk
theorem bindC_get {kindOf : Str → Option NameKind} {x : Str} {v : Value} : ∀ {P : List Str} {vs : List Value} {i : Nat} {m : Str → Option Value}, P.Nodup → P[i]? = some x → vs[i]? = some v → kindOf x ≠ some .local →
    bindC kindOf (P.zip vs) m x = some v
  | [], _, _, _, _, h, _, _ => by simp at h
  | _ :: _, [], _, _, _, _, h, _ => by simp at h
  | p :: P, w :: vs, 0, m, nd, h1, h2, hk => by
    simp at h1 h2; subst h1; subst h2
    show bindC kindOf ((p, w) :: P.zip vs) m p = _
    unfold bindC
    rw [bindC_out fun v hv => (List.nodup_cons.mp nd).1 (List.of_mem_zip hv).1, if_neg hk]
    simp
  | p :: P, w :: vs, i + 1, m, nd, h1, h2, hk => by
    show bindC kindOf ((p, w) :: P.zip vs) m x = _
    unfold bindC
    exact bindC_get (i := i) (List.nodup_cons.mp nd).2 (by simpa using h1) (by simpa using h2) hk

/-- the names' values at the entry -/
def start (N : List Str) (vs : List V) : St := vs.map some ++ List.replicate (N.length - vs.length) none

/-- the context of a def's body, at its entry; an exception leaves the frame, then lies as CX says -/
def cxOf (CX : CXT) (P : Program) (w : World) (K : PySem.W.Frag) (mg : Str → Option Value) (base : Heap) (N : List Str) (qual : Str) (scope : Scope) (f : Addr) (cd : Value) (A : Around) (outer : List Env) (s : Shared) (H : Hp) (E : XK) : Cx where
  prog := P
  w := w
  K := K
  mg := mg
  base := base
  A := A.deeper (envOfC qual scope s.heap.objs.size f cd)
  N := N
  s₀ := s
  H₀ := H
  env := envOfC qual scope s.heap.objs.size f cd
  outer := outer
  stack := envOfC qual scope s.heap.objs.size f cd :: outer
  ex := []
  calm := true
  fn := fun _ => true
  pn := []
  xe := fun e s' => wpAny (model P w) (A.deeper (envOfC qual scope s.heap.objs.size f cd)) (leaving (envOfC qual scope s.heap.objs.size f cd) e) (fun _ s'' => CX outer H s E e s'') (fun e' s'' => CX outer H s E e' s'') s'

theorem cell_has {sc : Scope} {n : Nat} {x : Str} (h : sc.names.lookup x = some .cell) : ∃ c, (cellsFrom n sc.names []).lookup x = some c := by
  have q := PySem.W.cellsFrom_some sc.names n [] (.inl h)
  exact Option.isSome_iff_exists.mp q

theorem inv_start {CX : CXT} {P : Program} {w : World} {K : PySem.W.Frag} {mg : Str → Option Value} {base : Heap} {N ps : List Str} {qual : Str} {scope : Scope} {f : Addr} {cd : Value} {A : Around} {outer : List Env} {s s1 : Shared} {H : Hp} {E : XK} {us : List Value} {vs : List V}
    (S : FnScope N ps scope) (hd : A.handled = none) (e0 : Env0 P w K mg base A outer s H) (hl : vs.length = ps.length) (r : Vals vs us)
    (x : InCallC s s.heap.objs.size (bindL (envOfC qual scope s.heap.objs.size f cd).kindOf (ps.zip us) fun _ => none) (cellsFrom (s.heap.objs.size + 1) scope.names []) (bindC (envOfC qual scope s.heap.objs.size f cd).kindOf (ps.zip us) fun _ => none) s1) :
    Inv (cxOf CX P w K mg base N qual scope f cd A outer s H E) [] (start N vs) H s1 := by
  have hpl : ps.length ≤ N.length := by have := congrArg List.length S.pre; rw [List.length_take] at this; omega
  obtain ⟨h1, tk, rfl, hk⟩ := x.done
  have noA : ∀ b : Addr, b ∉ (cxOf CX P w K mg base N qual scope f cd A outer s H E).ex := fun b z => absurd (show b ∈ ([] : List Addr) from z) (by simp)
  refine ⟨⟨e0.mod, S.kind, rfl, rfl, Nat.le_refl _, fun y z c h1 h2 => ?_, fun y hy => ?_, fun y c _ h => ?_, fun _ => hd, Around.frames_deeper e0.frames, .inr ⟨rfl, rfl⟩, fun b z => absurd z (noA b), e0.bs, e0.bsz, fun b _ _ => noA b, fun b z => absurd z (noA b), e0.funs, e0.frf⟩,
    rfl, e0.bare, Un.kept hk, ⟨_, x.toInCall.ns, fun i y v h1 h2 h3 => ?_⟩, fun y c h => ⟨_, x.cell y c h⟩, e0.hok.fresh (Nat.le_refl _), fun y c h => ?_, fun p hp => absurd (show p ∈ ([] : List (Addr × Obj)) from hp) (by simp), e0.hok.kept hk, ?_⟩
  · exact name_of_addr x.apart (PySem.mem_of_lookup h1) (PySem.mem_of_lookup h2)
  · have hy : scope.names.lookup y = some .cell ∨ scope.names.lookup y = some .free := hy
    rcases hy with hy | hy
    · exact cell_has hy
    · exact absurd rfl (S.nofree _ (PySem.mem_of_lookup hy))
  · exact Nat.le_of_lt (x.above y c (PySem.mem_of_lookup h))
  · have hi : i < vs.length := by
      unfold start at h2
      by_cases hi : i < vs.length
      · exact hi
      · rw [List.getElem?_append_right (by simpa using hi)] at h2
        rw [List.getElem?_replicate] at h2
        split at h2 <;> cases h2
    have ha : vs[i]? = some v := by
      unfold start at h2
      rw [List.getElem?_append_left (by simpa using hi), List.getElem?_map] at h2
      cases e : vs[i]? with
      | none => rw [e] at h2; cases h2
      | some a => rw [e] at h2; cases h2; rfl
    obtain ⟨u, hu, rv⟩ := r.get ha
    have hp : ps[i]? = some y := by
      rw [← S.pre, List.getElem?_take_of_lt (by omega)]; exact h1
    have ndP : ps.Nodup := by rw [← S.pre]; exact S.nd.sublist (List.take_sublist _ _)
    refine ⟨u, rv, ?_⟩
    rcases S.par y (List.mem_of_getElem? hp) with k | k
    · exact .inl ⟨k, bindL_get ndP hp hu k⟩
    · obtain ⟨c, e⟩ := cell_has (n := s.heap.objs.size + 1) k
      refine .inr ⟨.inl k, c, e, ?_⟩
      have q := x.cell y c e
      rw [bindC_get ndP hp hu (by show scope.names.lookup y ≠ _; rw [k]; decide)] at q
      exact q
  · exact e0.hok.fresh (Nat.le_of_lt (x.above y c (PySem.mem_of_lookup h)))
  · unfold start
    show _ = N.length
    rw [List.length_append, List.length_map, List.length_replicate]
    omega

/-- THE RULE: a def (or a method) of the text, by its body. The body's reading t is chosen for each entry; it is run at the parameters' values -/
theorem fn_of {CX : CXT} {P : Program} {w : World} {K : PySem.W.Frag} {mg : Str → Option Value} {base : Heap} {k : Nat} {f : Addr} {name qual : Str} {params : Arguments} {body : List Stmt} {scope : Scope} {dV kV doc pm cdv ct oc : Value} {an od : Option Addr}
    {osl : Array (Option Value)} {N ps : List Str} {sp : Sp} (lk : K.lookup f = some ⟨oc, od, .func (PySem.W.fnOf name qual params body scope dV kV doc pm an cdv ct), osl⟩) (hcd : PySem.W.codeIn K cdv qual = true) (S : FnScope N ps scope)
    (len : ∀ vs H Q E, sp vs H Q E → vs.length = ps.length)
    (hbody : ∀ (A : Around) (outer : List Env) (s : Shared) (H : Hp) (vs : List V) (Q : VK) (E : XK), Room k (A.deeper (envOfC qual scope s.heap.objs.size f cdv)) → sp vs H Q E →
      ∃ t, PSs (cxOf CX P w K mg base N qual scope f cdv A outer s H E) body t ∧ t { nx := fun _ H' => Q .non H', rt := Q } (start N vs) H) :
    FnOk P w K mg base CX (k + 1) f (PySem.W.fnOf name qual params body scope dV kV doc pm an cdv ct) ps sp := by
  refine ⟨len, fun A outer s H args us vs Q E hr e0 hb r hsp => ?_⟩
  have hl := len _ _ _ _ hsp
  have KX : K.In s.heap := e0.mod.kin.keeps fun b o e => (e0.bs b o e).1
  have lim : s.heap.NoLimit := e0.mod.nolimit.keeps fun b o e => (e0.bs b o e).1
  have hkind : ∀ y ∈ ps.zip us, scope.names.lookup y.1 = some .local ∨ (scope.names.lookup y.1 = some .cell ∧ ((cellsFrom (s.heap.objs.size + 1) scope.names []).lookup y.1).isSome = true) := fun ⟨n, v⟩ hy => by
    rcases S.par n (List.of_mem_zip hy).1 with q | q
    · exact .inl q
    · exact .inr ⟨q, PySem.W.cellsFrom_some _ _ _ (.inl q)⟩
  refine codeAny_call_function hr.depth (KX _ _ lk) rfl S.co S.gen rfl (PySem.W.codeRec_of KX hcd) (hb _ _ _ _ ?_)
  refine wpAny_newFunctionEnv_cells S.kind hkind fun env he s1 x => ?_
  subst he
  refine ⟨lim.keeps x.toInCall.keep, codeAny_func ?_⟩
  obtain ⟨t, ht, hq⟩ := hbody A outer s H vs Q E (hr.deeper _) hsp
  have I : Inv (cxOf CX P w K mg base N qual scope f cdv A outer s H E) [] (start N vs) H s1 := inv_start S hr.hd e0 hl r x
  refine wpAny_mono (ht [] s1 (start N vs) H _ I hq) (fun fl s' hs => ?_) fun e s' hs => hs
  have fin : ∀ {σ' : St} {H' : Hp} {v : V} {u : Value}, Inv (cxOf CX P w K mg base N qual scope f cdv A outer s H E) [] σ' H' s' → RelV v u → Q v H' → CE outer P w H s Q u s' :=
    fun {σ' H' v u} J rv q => ⟨v, H', J.os, J.bare, J.base, J.hok, rv, q⟩
  cases fl with
  | ret u =>
    obtain ⟨v, σ', H', J, rv, q⟩ := hs
    exact fin J rv q
  | next =>
    obtain ⟨σ', H', J, q⟩ := hs
    exact fin (v := V.non) (u := Value.none) J rfl q
  | brk =>
    obtain ⟨_, _, _, q⟩ := hs
    exact False.elim q
  | cont =>
    obtain ⟨_, _, _, q⟩ := hs
    exact False.elim q
end L2

namespace L2
open PySem PySem.Spec PyProof.Rows
section
variable {X : Cx} {x : Str} {p pos : Pos} {e : Expr} {es : List Expr} {t : TA} {id T : String} {r : List V → Hp → VK → Prop}

def tCB (r : List V → Hp → VK → Prop) (t : TA) : TE := fun σ H Q => t σ H fun vs H1 => r vs H1 Q
/-- f(e, ..), f a built-in function -/
theorem pe_callB (hc : CallR X (.builtin id) r) (hg : Gl X x) (hm : X.mg x = none) (hv : bootBuiltins x = some (.builtin id)) (ha : PA X (e :: es) t) (hn : x ≠ "__name__" := by decide) (hdb : (x == ("__debug__" : Str)) = false := by decide)
    (he : starEach (e :: es) X.env = (false, eval e X.env) :: starEach es X.env := by rfl) (hpl : (backTo pos (starEach es X.env)).any (·.1) = false := by rfl) : PE X (.Call (.Name x p) (e :: es) [] pos) (tCB r t) := by
  intro pins s σ H Q I h
  refine wpAny_Call_Name_kw (ld_blt I hg hm hv ?_ hn hdb)
  exact PyProof.Rows.callWith_builtin1 (thn (ha pos pins s σ H _ I h) fun us s1 ⟨vs, H1, I1, r1, q1⟩ => hc pins s1 σ H1 vs us Q I1 r1 q1) he hpl
/-- T(e, ..), T a built-in type -/
theorem pe_callTy (hc : CallR X (.type T) r) (hg : Gl X x) (hm : X.mg x = none) (hv : bootBuiltins x = some (.type T)) (ha : PA X (e :: es) t) (hn : x ≠ "__name__" := by decide) (hdb : (x == ("__debug__" : Str)) = false := by decide)
    (he : starEach (e :: es) X.env = (false, eval e X.env) :: starEach es X.env := by rfl) (hpl : (backTo pos (starEach es X.env)).any (·.1) = false := by rfl) : PE X (.Call (.Name x p) (e :: es) [] pos) (tCB r t) := by
  intro pins s σ H Q I h
  refine wpAny_Call_Name_kw (ld_blt I hg hm hv ?_ hn hdb)
  exact PyProof.Rows.callWith_type1 (thn (ha pos pins s σ H _ I h) fun us s1 ⟨vs, H1, I1, r1, q1⟩ => hc pins s1 σ H1 vs us Q I1 r1 q1) he hpl
end
end L2

namespace HT
open PySem PyProof.Rows

section
open PySem.SeqAt
open PySem.AutoSeq1 (wpAny_loadPart')
open PySem.MeetsSeq PySem.MeetsSeq2 PySem.MeetsSeq3

end

section
variable {prog : Program} {w : World} {A : Around} {E : Value → Shared → Prop} {s : Shared}

/-! ### t[a:b], not the whole -/
/-- a slice's bound as a place among n (d where it is left out) -/
def sIx (n d : Nat) : Option Int → Nat
  | none => d
  | some v => if v < 0 then (v + (n : Int)).toNat else min v.toNat n
theorem sIx_none (n d : Nat) : sIx n d none = d := rfl
theorem clip_eq (v : Int) (n d : Nat) : (if v < 0 then max (v + (n : Int)) 0 else min v (n : Int)) = ((sIx n d (some v) : Nat) : Int) := by
  show (if v < 0 then max (v + (n : Int)) 0 else min v (n : Int)) = (((if v < 0 then (v + (n : Int)).toNat else min v.toNat n) : Nat) : Int)
  by_cases hv : v < 0
  · simp only [if_pos hv]; omega
  · simp only [if_neg hv]; omega
end
end HT

namespace L2
open PySem PySem.Spec PyProof.Rows

/-! ### the parts of a slice -/
abbrev TO := St → Hp → (Option Int → Hp → Prop) → Prop
/-- a slice's part (left out, or an int) -/
def PO (X : Cx) (e : Option Expr) (t : TO) : Prop :=
  ∀ (pins : List (Addr × Obj)) (s : Shared) (σ : St) (H : Hp) (Q : Option Int → Hp → Prop), Inv X pins σ H s → t σ H Q →
    wpAny (model X.prog X.w) X.A (evalPart e X.env) (fun u s' => ∃ o H', Inv X pins σ H' s' ∧ IsPart u o ∧ Q o H') X.xe s
def tNoPart : TO := fun _ H Q => Q none H
def tPart (t : TE) : TO := fun σ H Q => t σ H fun x H1 => ∃ i, x = .int i ∧ Q (some i) H1

section
variable {X : Cx} {e : Expr} {te : TE} {lo hi : Option Expr} {tl th : TO} {pos p2 : Pos}

theorem po_none : PO X none tNoPart := by
  intro pins s σ H Q I h
  rw [evalPart_none]
  exact wpAny_pure ⟨none, H, I, .none, h⟩
theorem po_some (h : PE X e te) : PO X (some e) (tPart te) := by
  intro pins s σ H Q I hw
  rw [evalPart_some]
  refine thn (h pins s σ H _ I hw) fun u s1 ⟨x, H1, I1, r1, q1⟩ => ?_
  obtain ⟨i, rfl, q⟩ := q1
  obtain ⟨t, rfl⟩ := r1
  exact ⟨some i, H1, I1, .int i t, q⟩

/-- what a slice of a value is, by values: the slice object stands at sl -/
def SlR (X : Cx) (r : V → Option Int → Option Int → Hp → VK → Prop) : Prop :=
  ∀ (pins : List (Addr × Obj)) (s : Shared) (σ : St) (H : Hp) (x : V) (v vl vu : Value) (lo hi : Option Int) (sl : Addr) (Q : VK), Inv X pins σ H s → RelV x v → s.heap.IsSliceOf sl vl vu .none → IsPart vl lo → IsPart vu hi → r x lo hi H Q →
    ∃ T id, typeLookup (.type T) "__getitem__" = pure (some (.builtin id)) ∧ s.TypeIs v T ∧ wpAny (model X.prog X.w) X.A (getItem v (.ref sl)) (EP X pins σ Q) X.xe s
def tSl (r : V → Option Int → Option Int → Hp → VK → Prop) (te : TE) (tl th : TO) : TE := fun σ H Q => te σ H fun x H1 => tl σ H1 fun l H2 => th σ H2 fun u H3 => r x l u H3 Q
/-- a[lo:hi], any a -/
theorem pe_slice {r : V → Option Int → Option Int → Hp → VK → Prop} (hr : SlR X r) (he : PE X e te) (hl : PO X lo tl) (hu : PO X hi th) : PE X (.Subscript e (.Slice lo hi none p2) pos) (tSl r te tl th) := by
  intro pins s σ H Q I h
  refine Subscript_ (thn (he pins s σ H _ I h) fun v s1 ⟨x, H1, I1, r1, q1⟩ => ?_)
  refine wpAny_Slice (thn (hl pins s1 σ H1 _ I1 q1) fun vl s2 ⟨l, H2, I2, pl, q2⟩ => thn (hu pins s2 σ H2 _ I2 q2) fun vu s3 ⟨u, H3, I3, pu, q3⟩ => ?_)
  rw [evalPart_none]
  refine wpAny_pure ?_
  have I4 : Inv X pins σ H3 { s3 with heap := s3.heap.push { cls := .type "slice", data := .fields #[vl, vu, .none] } } := I3.kept (t' := s3.toks) fun b ob q => Heap.get?_push_of_some _ q
  obtain ⟨T, id, hT, ht, hg⟩ := hr pins { s3 with heap := s3.heap.push { cls := .type "slice", data := .fields #[vl, vu, .none] } } σ H3 x v vl vu l u s3.heap.objs.size Q I4 r1 (Heap.IsSliceOf.new ..) pl pu q3
  show wpAny (model X.prog X.w) X.A (subscriptTail e (.Slice lo hi none p2) v (.ref s3.heap.objs.size)) (EP X pins σ Q) X.xe { s3 with heap := s3.heap.push { cls := .type "slice", data := .fields #[vl, vu, .none] } }
  exact tail_any (ops := [.ref s3.heap.objs.size, v]) ht hT hg (by with_unfolding_all rfl)

/-- the items of xs[lo:hi] -/
def cutV (xs : List V) (lo hi : Option Int) : List V := (xs.drop (HT.sIx xs.length 0 lo)).take (HT.sIx xs.length xs.length hi - HT.sIx xs.length 0 lo)
theorem cutV_length (xs : List V) (lo hi : Option Int) : (cutV xs lo hi).length ≤ xs.length := by
  unfold cutV
  rw [List.length_take, List.length_drop]
  omega
/-! ### t < u, t + u -/
end
end L2

namespace L2
open PySem PySem.Spec PyProof.Rows

/-! ### places -/
/-- the place that an index of any sign means -/
def ixN (n : Nat) (i : Int) : Option Nat := if 0 ≤ i then (if i < n then some i.toNat else none) else if -(n : Int) ≤ i then some (i + n).toNat else none
def atI {α : Type} (xs : List α) (i : Int) : Option α := (ixN xs.length i).bind fun j => xs[j]?
theorem ixN_seq {n : Nat} {i : Int} {j : Nat} (h : ixN n i = some j) : seqIndex? i n = some j ∧ j < n ∧ -(n : Int) ≤ i ∧ i < n := by
  unfold ixN at h
  by_cases h0 : 0 ≤ i
  · rw [if_pos h0] at h
    by_cases h1 : i < n
    · rw [if_pos h1] at h
      have e : i.toNat = j := Option.some.inj h
      exact ⟨by rw [seqIndex_of h0 h1, e], by omega, by omega, h1⟩
    · rw [if_neg h1] at h; cases h
  · rw [if_neg h0] at h
    by_cases h1 : -(n : Int) ≤ i
    · rw [if_pos h1] at h
      have e : (i + n).toNat = j := Option.some.inj h
      exact ⟨by rw [seqIndex_neg (by omega) h1, e], by omega, h1, by omega⟩
    · rw [if_neg h1] at h; cases h
theorem atI_get {α : Type} {xs : List α} {i : Int} {v : α} (h : atI xs i = some v) : ∃ j, seqIndex? i xs.length = some j ∧ xs[j]? = some v ∧ j < xs.length ∧ -(xs.length : Int) ≤ i ∧ i < xs.length := by
  unfold atI at h
  cases e : ixN xs.length i with
  | none => rw [e] at h; cases h
  | some j =>
    rw [e] at h
    obtain ⟨h1, h2, h3, h4⟩ := ixN_seq e
    exact ⟨j, h1, h, h2, h3, h4⟩
theorem atI_nat {α : Type} {xs : List α} {j : Nat} {v : α} (h : xs[j]? = some v) : atI xs (j : Int) = some v := by
  have hj : j < xs.length := (List.getElem?_eq_some_iff.mp h).1
  have e : ixN xs.length (j : Int) = some j := by
    unfold ixN
    rw [if_pos (by omega), if_pos (by omega)]; simp
  unfold atI; rw [e]; exact h
/-! ### what may be subscripted -/
/-- what stands as an index of a plain subscript -/
def PlainIx (b : Expr) : Prop := ∀ o i, subscripted b false o i = operate [o, i] (getItem o i)
/-- a subscript by values -/
def IxR (X : Cx) (r : R2) : Prop :=
  ∀ (value slice : Expr) (pins : List (Addr × Obj)) (s : Shared) (σ : St) (H : Hp) (x y : V) (v u : Value) (Q : VK), Inv X pins σ H s → RelV x v → RelV y u → r x y H Q →
    subscripted slice false v u = operate [v, u] (getItem v u) → wpAny (model X.prog X.w) X.A (subscriptTail value slice v u) (EP X pins σ Q) X.xe s
/-- a call of a builtin's method by values: the receiver, the arguments -/
def MtR (X : Cx) (id : String) (r : V → List V → Hp → VK → Prop) : Prop :=
  ∀ (pins : List (Addr × Obj)) (s : Shared) (σ : St) (H : Hp) (x : V) (xs : List V) (v : Value) (us : List Value) (Q : VK), Inv X pins σ H s → RelV x v → Vals xs us → r x xs H Q →
    wpAny (model X.prog X.w) X.A (call (.builtin id) (v :: us)) (EP X pins σ Q) X.xe s
section
variable {X : Cx} {a b : Expr} {ta tb : TE} {pos : Pos}
/-- a[b] -/
theorem pe_ix {r : R2} (hr : IxR X r) (ha : PE X a ta) (hb : PE X b tb) (hs : PlainIx b) : PE X (.Subscript a b pos) (tOp r ta tb) := by
  intro pins s σ H Q I h
  exact Subscript_ (binT ha hb I h fun v u s2 x y H2 I2 rx ry q => hr a b pins s2 σ H2 x y v u Q I2 rx ry q (hs _ _))

def rIxL (K : PySem.W.Frag) : R2 := fun x y H Q => ∃ p xs i v, x = .ref p ∧ y = .int i ∧ SqL K H p xs ∧ atI xs i = some v ∧ Q v H
def rIxT (K : PySem.W.Frag) : R2 := fun x y H Q => ∃ p xs i v, x = .ref p ∧ y = .int i ∧ SqT K H p xs ∧ atI xs i = some v ∧ Q v H
def rIxS : R2 := fun x y H Q => ∃ z i c, x = .str z ∧ y = .int i ∧ z.length ≤ sizeLine ∧ atI z.cps.toList i = some c ∧ Q (.str ⟨#[c]⟩) H
theorem ix_list : IxR X (rIxL X.K) := by
  intro value slice pins s σ H x y v u Q I rx ry h hs
  obtain ⟨p, xs, i, z, rfl, rfl, hq, he, q⟩ := h
  cases rx
  obtain ⟨t, rfl⟩ := ry
  obtain ⟨its, r, pl, hz⟩ := I.list hq
  obtain ⟨j, h1, h2, h3, h4, h5⟩ := atI_get he
  obtain ⟨w, ew, rw'⟩ := r.get h2
  have hl := r.length
  have hn := line63
  have fin : EP X pins σ Q w s := ⟨z, H, I, rw', q⟩
  by_cases h0 : 0 ≤ i
  · have hj : i.toNat = j := by
      rw [seqIndex_of h0 h5] at h1
      exact Option.some.inj h1
    exact item_listR pl.isList h0 (by omega) (by rw [hj]; simpa using ew) fin hs
  · have hj : (i + (its.toArray.size : Int)).toNat = j := by
      rw [seqIndex_neg (by omega) h4] at h1
      rw [List.size_toArray, ← hl]
      exact Option.some.inj h1
    exact subscriptTail_builtinR (x := w) pl.isList.typeIs slot_list_getitem.lookup
      (wpAny_getItem_list_neg (Q := fun r s' => r = w ∧ EP X pins σ Q r s') pl.isList (by omega) (by rw [List.size_toArray] <;> omega) (by omega) (by rw [hj]; simpa using ew) ⟨rfl, fin⟩) hs
theorem ix_tup : IxR X (rIxT X.K) := by
  intro value slice pins s σ H x y v u Q I rx ry h hs
  obtain ⟨p, xs, i, z, rfl, rfl, hq, he, q⟩ := h
  cases rx
  obtain ⟨t, rfl⟩ := ry
  obtain ⟨its, r, pl, hz⟩ := I.tuple hq
  obtain ⟨j, h1, h2, h3, h4, h5⟩ := atI_get he
  obtain ⟨w, ew, rw'⟩ := r.get h2
  have hl := r.length
  have hn := line63
  have fin : EP X pins σ Q w s := ⟨z, H, I, rw', q⟩
  exact subscriptTail_builtinR (x := w) pl.typeIs slot_tuple_getitem.lookup
    (getItem_tuple (j := j) (Q := fun r s' => r = w ∧ EP X pins σ Q r s') pl (by omega) (by omega) (by rw [List.size_toArray, ← hl]; exact h1) (by simpa using ew) ⟨rfl, fin⟩) hs
theorem ix_str : IxR X rIxS := by
  intro value slice pins s σ H x y v u Q I rx ry h hs
  obtain ⟨z, i, c, rfl, rfl, hz, he, q⟩ := h
  obtain ⟨t, rfl⟩ := rx
  obtain ⟨t', rfl⟩ := ry
  obtain ⟨j, h1, h2, h3, h4, h5⟩ := atI_get he
  have hl : z.cps.toList.length = z.length := by simp [Str.length]
  rw [hl] at h1 h4 h5
  have hn := line63
  exact tail_any (typeIs_str s z t) slot_str_getitem.lookup (getItem_str (c := c) (by
    have e1 : decide (i < -(2 ^ 63 : Int)) = false := decide_eq_false (by omega)
    have e2 : decide (i ≥ 2 ^ 63) = false := decide_eq_false (by omega)
    rw [e1, e2, Bool.or_false]) (by rw [h1]; simpa using h2) ⟨.str ⟨#[c]⟩, H, I.tok _, ⟨_, rfl⟩, q⟩) hs
/-! ### xs[i] = v, any sign -/
/-! ### slices -/
theorem slice_bounds (lo hi : Option Int) (n : Nat) : (sliceBounds lo hi none n).1 = ((HT.sIx n 0 lo : Nat) : Int) ∧ (sliceBounds lo hi none n).2.1 = ((HT.sIx n n hi : Nat) : Int) ∧ (sliceBounds lo hi none n).2.2 = 1 := by
  refine ⟨?_, ?_, rfl⟩
  · cases lo with
    | none => simp [sliceBounds, HT.sIx]
    | some i =>
      simp only [sliceBounds, HT.sIx, Option.getD_none, show (1 : Int) > 0 by decide, if_true]
      by_cases h : i < 0
      · simp only [h, if_true] <;> omega
      · simp only [h, if_false] <;> omega
  · cases hi with
    | none => simp [sliceBounds, HT.sIx]
    | some i =>
      simp only [sliceBounds, HT.sIx, Option.getD_none, show (1 : Int) > 0 by decide, if_true]
      by_cases h : i < 0
      · simp only [h, if_true] <;> omega
      · simp only [h, if_false] <;> omega
theorem slicePick_cut (its : List Value) (lo hi : Option Int) : slicePick its.toArray lo hi none = ((its.drop (HT.sIx its.length 0 lo)).take (HT.sIx its.length its.length hi - HT.sIx its.length 0 lo)).toArray := by
  obtain ⟨h1, h2, h3⟩ := slice_bounds lo hi its.toArray.size
  unfold slicePick
  rw [h1, h2, h3]
  simp only [sliceRange_one, pick_run, List.size_toArray] <;> rfl
/-- xs[lo:hi] of a list: a new list -/
def rSlL (K : PySem.W.Frag) : V → Option Int → Option Int → Hp → VK → Prop := fun x lo hi H Q => ∃ a xs, x = .ref a ∧ SqL K H a xs ∧ ∀ p, H p = none → Q (.ref p) (upd H p (.lst (cutV xs lo hi)))
theorem sl_list : SlR X (rSlL X.K) := by
  intro pins s σ H x v vl vu lo hi sl Q I rx hs pl pu h
  obtain ⟨a, xs, rfl, hx, q⟩ := h
  cases rx
  obtain ⟨its, r, ht, hz⟩ := I.list hx
  have hlen := r.length
  refine ⟨"list", _, slot_list_getitem.lookup, ht.isList.typeIs, ?_⟩
  refine wpAny_getItem_list_slice ht.isList hs pl pu .none (by simp) ?_ (by rw [List.size_toArray] <;> omega)
  rw [slicePick_cut, ← hlen]
  refine ⟨.ref s.heap.objs.size, _, I.laid (t' := s.toks) (o := .lst (cutV xs lo hi)) (fun b ob q => Heap.get?_push_of_some _ q) (Nat.le_refl _) ?_, rfl, q _ (I.hok.fresh (Nat.le_refl _))⟩
  exact ⟨Nat.le_trans (cutV_length xs lo hi) hz, _, 0, (r.drop (HT.sIx xs.length 0 lo)).take (HT.sIx xs.length xs.length hi - HT.sIx xs.length 0 lo), Heap.get?_push_size _ rfl⟩

/-! ### in, not in: flat items -/
/-! ### len, list(x), tuple(x) of any list or tuple that is read -/
theorem call_len_seq : CallR X (.builtin "len") (fun xs H Q => ∃ p ys, xs = [.ref p] ∧ (SqL X.K H p ys ∨ SqT X.K H p ys) ∧ Q (.int ys.length) H) := by
  intro pins s σ H xs us Q I r h
  obtain ⟨p, ys, rfl, hq, q⟩ := h
  obtain ⟨u, rfl, rx⟩ := vals1 r
  cases rx
  have hn := line63
  rcases hq with hq | hq
  · obtain ⟨its, r', pl, hz⟩ := I.list hq
    have hlen := r'.length
    exact Calls.call_len_list pl.isList (by simp only [List.size_toArray] <;> omega) ⟨.int ys.length, H, I.tok _, ⟨s.toks + 1, by rw [List.size_toArray, hlen]⟩, q⟩
  · obtain ⟨its, r', pl, hz⟩ := I.tuple hq
    have hlen := r'.length
    exact len_tuple pl (by simp only [List.size_toArray] <;> omega) ⟨.int ys.length, H, I.tok _, ⟨s.toks + 1, by rw [List.size_toArray, hlen]⟩, q⟩
theorem call_list_of : CallR X (.type "list") (fun xs H Q => ∃ p ys, xs = [.ref p] ∧ (SqL X.K H p ys ∨ SqT X.K H p ys) ∧ ∀ l, H l = none → Q (.ref l) (upd H l (.lst ys))) := by
  intro pins s σ H xs us Q I r h
  obtain ⟨p, ys, rfl, hq, q⟩ := h
  obtain ⟨u, rfl, rx⟩ := vals1 r
  cases rx
  have fin : ∀ (its : List Value), Vals ys its → ys.length ≤ sizeLine → ∀ (h' : Heap) (c' : Nat), (∀ b o', s.heap.get? b = some o' → h'.get? b = some o') →
      h'.get? s.heap.objs.size = some { cls := .type "list", dict := none, data := .seq its.toArray c', slots := #[] } → EP X pins σ Q (.ref s.heap.objs.size) { s with heap := h' } := fun its r' hz h' c' kp e =>
    ⟨.ref s.heap.objs.size, _, I.laid (t' := s.toks) kp (Nat.le_refl _) (show ObjOk X.prog X.w _ h' _ (.lst ys) from ⟨hz, its, c', r', e⟩), rfl, q _ (I.hok.fresh (Nat.le_refl _))⟩
  rcases hq with hq | hq
  · obtain ⟨its, r', pl, hz⟩ := I.list hq
    have hlen := r'.length
    obtain ⟨o, ho, hc, n, hd⟩ := pl.isList
    exact call_list_seq p (.inl rfl) ho hc hd (fun h' c' kp e => fin its r' hz h' c' kp e) (by simp only [List.size_toArray] <;> omega)
  · obtain ⟨its, r', pl, hz⟩ := I.tuple hq
    have hlen := r'.length
    obtain ⟨o, ho, hc, n, hd⟩ := pl
    exact call_list_seq p (.inr rfl) ho hc hd (fun h' c' kp e => fin its r' hz h' c' kp e) (by simp only [List.size_toArray] <;> omega)
theorem call_tuple_of : CallR X (.type "tuple") (fun xs H Q => ∃ p ys, xs = [.ref p] ∧ ((SqL X.K H p ys ∧ ∀ l, H l = none → Q (.ref l) (upd H l (.tup ys))) ∨ (SqT X.K H p ys ∧ Q (.ref p) H))) := by
  intro pins s σ H xs us Q I r h
  obtain ⟨p, ys, rfl, h⟩ := h
  obtain ⟨u, rfl, rx⟩ := vals1 r
  cases rx
  rcases h with ⟨hq, q⟩ | ⟨hq, q⟩
  · obtain ⟨its, r', pl, hz⟩ := I.list hq
    have hlen := r'.length
    refine call_tuple_list pl.isList (fun h' kp => ?_) (by simp only [List.size_toArray] <;> omega)
    have I1 : Inv X pins σ H { s with heap := h' } := I.kept (t' := s.toks) kp
    have I2 : Inv X pins σ (upd H h'.objs.size (.tup ys)) { s with heap := h'.push { cls := .type "tuple", data := .seq its.toArray } } :=
      I1.laid (t' := s.toks) (fun b o e => Heap.get?_push_of_some _ e) (Nat.le_refl _) (show ObjOk X.prog X.w _ _ _ (.tup ys) from ⟨hz, its, r', IsTup.new _ _⟩)
    exact ⟨.ref h'.objs.size, _, I2, rfl, q _ (I1.hok.fresh (Nat.le_refl _))⟩
  · obtain ⟨its, r', pl, hz⟩ := I.tuple hq
    exact call_tuple_same pl ⟨.ref p, H, I, rfl, q⟩

/-! ### the call of a builtin's method: o.m(..) -/
/-- the value is of that builtin type -/
def tyV (K : PySem.W.Frag) (T : String) (x : V) (H : Hp) : Prop := match x with
  | .str _ => T = "str"
  | .int _ => T = "int"
  | .ref p => (T = "list" ∧ ∃ xs, SqL K H p xs) ∨ (T = "tuple" ∧ ∃ o, K.lookup p = some o ∧ o.cls = .type "tuple" ∧ o.dict = none) ∨
      (T = "dict" ∧ ((∃ kvs, H p = some (.dK kvs)) ∨ ∃ kvs, H p = some (.dT kvs))) ∨ (T = "set" ∧ ∃ S n, H p = some (.set S n))
  | _ => False
theorem tyV_is {pins : List (Addr × Obj)} {σ : St} {H : Hp} {s : Shared} {T : String} {x : V} {v : Value} (I : Inv X pins σ H s) (r : RelV x v) (ty : tyV X.K T x H) :
    s.TypeIs v T ∧ ∀ a, v = .ref a → ∃ ob, s.heap.get? a = some ob ∧ ob.dict = none := by
  cases x with
  | str z =>
    obtain ⟨t, rfl⟩ := r
    cases (show T = "str" from ty)
    exact ⟨typeIs_str s z t, fun _ e => nomatch e⟩
  | int i =>
    obtain ⟨t, rfl⟩ := r
    cases (show T = "int" from ty)
    exact ⟨typeIs_int s i t, fun _ e => nomatch e⟩
  | ref p =>
    cases r
    rcases ty with ⟨rfl, xs, hq⟩ | ⟨rfl, o, hk, hc, hd⟩ | ⟨rfl, hk⟩ | ⟨rfl, S, n, hk⟩
    · obtain ⟨its, _, pl, _⟩ := I.list hq
      refine ⟨pl.isList.typeIs, fun a e => ?_⟩
      cases e
      obtain ⟨o, n, e, c, hd, _⟩ := pl
      exact ⟨o, e, hd⟩
    · refine ⟨⟨o, I.kIn p o hk, hc⟩, fun a e => ?_⟩
      cases e
      exact ⟨o, I.kIn _ o hk, hd⟩
    · have z : ∃ o, s.heap.get? p = some o ∧ o.ExactDict := by
        rcases hk with ⟨kvs, hk⟩ | ⟨kvs, hk⟩
        · obtain ⟨_, _, _, _, o, _, _, e, ex, _⟩ := I.hok p _ hk
          exact ⟨o, e, ex⟩
        · obtain ⟨_, _, _, _, o, _, _, e, ex, _⟩ := I.hok p _ hk
          exact ⟨o, e, ex⟩
      obtain ⟨o, e, ex⟩ := z
      refine ⟨⟨o, e, ex.1⟩, fun a e2 => ?_⟩
      cases e2
      exact ⟨o, e, ex.2.1⟩
    · obtain ⟨o, _, _, _, e, ex, _⟩ := I.hok p _ hk
      refine ⟨⟨o, e, ex.1⟩, fun a e2 => ?_⟩
      cases e2
      exact ⟨o, e, ex.2.1⟩
  | _ => exact False.elim ty
def tBM0 (K : PySem.W.Frag) (T : String) (r : V → List V → Hp → VK → Prop) (to : TE) : TE := fun σ H Q => to σ H fun x H1 => tyV K T x H1 ∧ r x [] H1 Q
def tBM (K : PySem.W.Frag) (T : String) (r : V → List V → Hp → VK → Prop) (to : TE) (t : TA) : TE := fun σ H Q => to σ H fun x H1 => tyV K T x H1 ∧ t σ H1 fun xs H2 => r x xs H2 Q
variable {o e : Expr} {es : List Expr} {to : TE} {t : TA} {name : Str} {apos cpos : Pos} {T id : String} {r : V → List V → Hp → VK → Prop}
theorem pe_bm0 (pa : PlainAttrs T) (slot : Slot T name id) (hty : typeOf (.builtin id) = pure (.type "method_descriptor")) (hm : MtR X id r) (ho : PE X o to)
    (hbase : attributeBase o name X.env (eval o X.env) = eval o X.env := by rfl) (hline : (apos.endLine == cpos.line) = true := by rfl) : PE X (.Call (.Attribute o name apos) [] [] cpos) (tBM0 X.K T r to) := by
  intro pins s σ H Q I h
  refine wpAny_Call_method0_late hbase hline (thn (ho pins s σ H _ I h) fun v s1 ⟨x, H1, I1, r1, ty, q1⟩ => ?_)
  obtain ⟨h1, h2⟩ := tyV_is I1 r1 ty
  exact ⟨T, id, pa, slot, hty, h1, h2, Calls.callWith_builtin rfl (PySem.evalArgs_none (hm pins s1 σ H1 x [] v [] Q I1 r1 .nil q1))⟩
theorem pe_bm (pa : PlainAttrs T) (slot : Slot T name id) (hty : typeOf (.builtin id) = pure (.type "method_descriptor")) (hm : MtR X id r) (ho : PE X o to) (ha : PA X (e :: es) t)
    (hbase : attributeBase o name X.env (eval o X.env) = eval o X.env := by rfl)
    (hfew : ((backTo cpos (starEach (e :: es) X.env)).all (fun x => !x.1) && (backToKw cpos (keywordEach [] X.env)).all (fun x => x.1.isSome)
      && decide ((e :: es).length + ([] : List Keyword).length + (if ([] : List Keyword).isEmpty then 0 else 1) < 30)) = true := by rfl)
    (hline : (apos.endLine == cpos.line) = true := by rfl) (hs : starEach (e :: es) X.env = (false, eval e X.env) :: starEach es X.env := by rfl) (hplain : (backTo cpos (starEach es X.env)).any (·.1) = false := by rfl) :
    PE X (.Call (.Attribute o name apos) (e :: es) [] cpos) (tBM X.K T r to t) := by
  intro pins s σ H Q I h
  refine wpAny_Call_method_late hbase hfew hline rfl (thn (ho pins s σ H _ I h) fun v s1 ⟨x, H1, I1, r1, ty, q1⟩ => ?_)
  obtain ⟨h1, h2⟩ := tyV_is I1 r1 ty
  refine ⟨T, id, pa, slot, hty, h1, h2, ?_⟩
  have hA := ha cpos pins s1 σ H1 _ I1 q1
  rw [hs] at hA ⊢
  refine Calls.callWith_builtin (by show (false || (backTo cpos (starEach es X.env)).any (·.1)) = false; rw [hplain] <;> rfl) (Calls.evalArgs_plain ?_)
  exact thn hA fun us s2 ⟨vs, H2, I2, r2, q2⟩ => hm pins s2 σ H2 x vs v us Q I2 r1 r2 q2
/- xs.append(e), list.index on a module's tuple .. are MtR facts of 06m -/
end
end L2

namespace L2
open PySem PySem.Spec PyProof.Rows

def MtM (X : Cx) (id : String) (r : V → List V → Hp → VK → Prop) : Prop :=
  ∀ (pins : List (Addr × Obj)) (s : Shared) (σ : St) (H : Hp) (x : V) (xs : List V) (v : Value) (us : List Value) (Q : VK), Inv X pins σ H s → RelV x v → Vals xs us → r x xs H Q →
    wpAny (model X.prog X.w) X.A (call (.builtin id) (v :: us)) (EP X pins σ Q) X.xe s

/-! ### lists of values -/
theorem Vals.one : ∀ {x : V} {us : List Value}, Vals [x] us → ∃ u, us = [u] ∧ RelV x u
  | _, _, .cons r .nil => ⟨_, rfl, r⟩
theorem Vals.zero : ∀ {us : List Value}, Vals [] us → us = []
  | _, .nil => rfl
theorem Vals.dropLast {xs : List V} {us : List Value} (h : Vals xs us) : Vals xs.dropLast us.dropLast := by
  induction h with
  | nil => exact .nil
  | cons r t ih =>
    cases t with
    | nil => exact .nil
    | cons q t' => exact .cons r ih
theorem Vals.rep {xs : List V} {us : List Value} (h : Vals xs us) : ∀ k : Nat, Vals (List.replicate k xs).flatten (List.replicate k us).flatten
  | 0 => .nil
  | k + 1 => by
    rw [List.replicate_succ, List.replicate_succ, List.flatten_cons, List.flatten_cons]
    exact Vals.append h (Vals.rep h k)
theorem erase_last {α : Type} (l : List α) : l.eraseIdx (l.length - 1) = l.dropLast := by
  induction l with
  | nil => rfl
  | cons a r ih =>
    cases r with
    | nil => rfl
    | cons b r =>
      have e : (a :: b :: r).length - 1 = ((b :: r).length - 1) + 1 := by
        have h1 : (a :: b :: r).length = r.length + 2 := rfl
        have h2 : (b :: r).length = r.length + 1 := rfl
        omega
      rw [e, List.eraseIdx_cons_succ, ih]
      all_goals rfl
theorem foldl_rep (its : List Value) : ∀ (k : Nat) (acc : List Value),
    List.foldl (fun x1 x2 => x1 ++ x2) acc.toArray (List.replicate k its.toArray) = (acc ++ (List.replicate k its).flatten).toArray
  | 0, acc => by simp
  | k + 1, acc => by
    have e : acc.toArray ++ its.toArray = (acc ++ its).toArray := by simp
    have e2 : (acc ++ its) ++ (List.replicate k its).flatten = acc ++ (List.replicate (k + 1) its).flatten := by
      rw [List.replicate_succ, List.flatten_cons, List.append_assoc]
    rw [← e2, ← foldl_rep its k (acc ++ its), ← e, List.replicate_succ, List.foldl_cons]

section
variable {X : Cx} {pins : List (Addr × Obj)} {σ : St} {H : Hp} {s : Shared} {l b : Addr} {xs ys zs : List V}

/-! ### the two steps: a tracked list is rewritten, a new list is laid -/
theorem Inv.lset {its its' : List Value} {n : Nat} {f : Array Value → Array Value} {t' : Nat} (I : Inv X pins σ H s) (hH : H l = some (.lst xs))
    (e : s.heap.get? l = some { cls := .type "list", data := .seq its.toArray n }) (hf : f its.toArray = its'.toArray) (hv : Vals ys its') (hz : ys.length ≤ sizeLine) :
    Inv X pins σ (upd H l (.lst ys)) { s with heap := s.heap.update l (Obj.mapSeq f), toks := t' } := by
  have q := PySem.IsL.update e f
  rw [hf] at q
  refine I.write (x := l) (e := l) (by rw [hH]; exact trivial) (.inl rfl) (fun b' u hb hu => (Heap.get?_update_other s.heap (Obj.mapSeq f) (Ne.symm hb)).trans hu) ⟨_, q⟩ ?_
  exact ⟨hz, its', _, hv, q⟩
theorem Inv.lnew {its : List Value} {t' : Nat} (I : Inv X pins σ H s) (hv : Vals ys its) (hz : ys.length ≤ sizeLine) :
    Inv X pins σ (upd H s.heap.objs.size (.lst ys)) { s with heap := s.heap.push { cls := .type "list", data := .seq its.toArray }, toks := t' } :=
  I.laid (fun _ _ q => Heap.get?_push_of_some _ q) (Nat.le_refl _) ⟨hz, its, 0, hv, Heap.get?_push_size _ rfl⟩
theorem Inv.fresh (I : Inv X pins σ H s) : H s.heap.objs.size = none := I.hok.fresh (Nat.le_refl _)
theorem Inv.lstM (I : Inv X pins σ H s) (hH : H l = some (.lst xs)) : xs.length ≤ sizeLine ∧ ∃ (its : List Value) (n : Nat), Vals xs its ∧ xs.length = its.length ∧ s.heap.get? l = some { cls := .type "list", data := .seq its.toArray n } := by
  obtain ⟨z, its, n, r, e⟩ := I.hok l _ hH
  exact ⟨z, its, n, r, r.length, e⟩

theorem notLongL {n : Nat} (h : n ≤ sizeLine) : Builtin.List.listTooLong n = false := by
  unfold Builtin.List.listTooLong
  exact decide_eq_false (by omega)
end

section
variable {X : Cx}

/-! ### methods -/
def rAppend : V → List V → Hp → VK → Prop := fun x vs H Q => ∃ l xs y, x = .ref l ∧ vs = [y] ∧ H l = some (.lst xs) ∧ xs.length < sizeLine ∧ Q .non (upd H l (.lst (xs ++ [y])))
theorem mt_append : MtM X "list.append" rAppend := by
  intro pins s σ H x vs v us Q I rx rv h
  obtain ⟨l, xs, y, rfl, rfl, hH, hz, q⟩ := h
  cases rx
  obtain ⟨u, rfl, ru⟩ := rv.one
  obtain ⟨z, its, n, r, hl, e⟩ := I.lstM hH
  refine call_meets F.slot_list_append ⟨_, e, rfl⟩ F.entry_list_append (F.args_list_append_2 _ _) (PySem.list_append l its.toArray n u (by rw [List.size_toArray]; omega)) ⟨e, ?_⟩
  refine ⟨.non, _, I.lset (its' := its ++ [u]) hH e (by simp) (r.append (.cons ru .nil)) ?_, rfl, q⟩
  rw [List.length_append, List.length_singleton]
  omega

def rExtend : V → List V → Hp → VK → Prop := fun x vs H Q => ∃ l b xs zs, x = .ref l ∧ vs = [.ref b] ∧ H l = some (.lst xs) ∧ H b = some (.lst zs) ∧ xs.length + zs.length ≤ sizeLine ∧ Q .non (upd H l (.lst (xs ++ zs)))
theorem mt_extend : MtM X "list.extend" rExtend := by
  intro pins s σ H x vs v us Q I rx rv h
  obtain ⟨l, b, xs, zs, rfl, rfl, hH, hB, hz, q⟩ := h
  cases rx
  obtain ⟨u, rfl, ru⟩ := rv.one
  cases ru
  obtain ⟨z, its, n, r, hl, e⟩ := I.lstM hH
  obtain ⟨z2, its2, n2, r2, hl2, e2⟩ := I.lstM hB
  have hsz : its.toArray.size + its2.toArray.size ≤ sizeLine := by rw [List.size_toArray, List.size_toArray]; omega
  have hlong : ¬ (!its.toArray.isEmpty && Builtin.List.listTooLong (its.toArray.size + its2.toArray.size)) = true := by
    rw [notLongL hsz, Bool.and_false]
    exact Bool.false_ne_true
  refine call_meets F.slot_list_extend ⟨_, e, rfl⟩ F.entry_list_extend (F.args_list_extend_2 _ _)
    (AutoSeq1.list_extend_list_list_0 l its.toArray n b its2.toArray n2 hlong (by rw [List.size_toArray]; omega) (by omega)) ⟨e, e2, ?_⟩
  refine ⟨.non, _, I.lset (its' := its ++ its2) hH e (by simp) (r.append r2) ?_, rfl, q⟩
  rw [List.length_append]
  omega

def rPop : V → List V → Hp → VK → Prop := fun x vs H Q => ∃ l xs y, x = .ref l ∧ vs = [] ∧ H l = some (.lst xs) ∧ xs[xs.length - 1]? = some y ∧ Q y (upd H l (.lst xs.dropLast))
theorem mt_pop : MtM X "list.pop" rPop := by
  intro pins s σ H x vs v us Q I rx rv h
  obtain ⟨l, xs, y, rfl, rfl, hH, hy, q⟩ := h
  cases rx
  have hus := rv.zero
  subst hus
  obtain ⟨z, its, n, r, hl, e⟩ := I.lstM hH
  obtain ⟨u, hu, ru⟩ := r.get hy
  have hy' : its.toArray[its.toArray.size - 1]? = some u := by
    show its.toArray[its.length - 1]? = some u
    rw [← Array.getElem?_toList, ← hl]
    exact hu
  refine call_meets F.slot_list_pop ⟨_, e, rfl⟩ F.entry_list_pop (F.args_list_pop_1 _) (MeetsSeq.list_pop_last l its.toArray n u hy' (by rw [List.size_toArray]; omega)) ⟨e, ?_⟩
  refine ⟨y, _, I.lset (its' := its.dropLast) hH e ?_ r.dropLast ?_, ru, q⟩
  · show its.toArray.eraseIdxIfInBounds (its.toArray.size - 1) = its.dropLast.toArray
    rw [List.size_toArray, List.eraseIdxIfInBounds_toArray, erase_last]
  · rw [List.length_dropLast]
    omega

def rClear : V → List V → Hp → VK → Prop := fun x vs H Q => ∃ l xs, x = .ref l ∧ vs = [] ∧ H l = some (.lst xs) ∧ Q .non (upd H l (.lst []))
theorem mt_clear : MtM X "list.clear" rClear := by
  intro pins s σ H x vs v us Q I rx rv h
  obtain ⟨l, xs, rfl, rfl, hH, q⟩ := h
  cases rx
  have hus := rv.zero
  subst hus
  obtain ⟨z, its, n, r, hl, e⟩ := I.lstM hH
  refine call_meets F.slot_list_clear ⟨_, e, rfl⟩ F.entry_list_clear (F.args_list_clear_1 _) (AutoSeq1.list_clear_list_0 l its.toArray n (by rw [List.size_toArray]; omega)) ⟨e, ?_⟩
  exact ⟨.non, _, I.lset (its' := []) (ys := []) hH e rfl .nil (Nat.zero_le _), rfl, q⟩

/-! ### list + list, list += list, list * int -/
def rCat : R2 := fun x y H Q => ∃ l b xs zs, x = .ref l ∧ y = .ref b ∧ H l = some (.lst xs) ∧ H b = some (.lst zs) ∧ xs.length + zs.length ≤ sizeLine ∧ ∀ p, H p = none → Q (.ref p) (upd H p (.lst (xs ++ zs)))
theorem op_cat : OpR X (binaryOp .Add) rCat := by
  intro pins s σ H x y v u Q I rx ry h
  obtain ⟨l, b, xs, zs, rfl, rfl, hH, hB, hz, q⟩ := h
  cases rx
  cases ry
  obtain ⟨z, its, n, r, hl, e⟩ := I.lstM hH
  obtain ⟨z2, its2, n2, r2, hl2, e2⟩ := I.lstM hB
  refine PySem.P.add_list e e2 ?_ (by rw [List.size_toArray, List.size_toArray]; omega)
  have ea : its.toArray ++ its2.toArray = (its ++ its2).toArray := by simp
  rw [ea]
  exact ⟨.ref _, _, I.lnew (t' := s.toks) (r.append r2) (by rw [List.length_append]; omega), rfl, q _ I.fresh⟩
/-- a list times an int (a negative one is nothing) -/
def rRep : R2 := fun x y H Q => ∃ l k xs, x = .ref l ∧ y = .int k ∧ H l = some (.lst xs) ∧ -(2 ^ 63) ≤ k ∧ k < 2 ^ 63 ∧ xs.length * k.toNat ≤ sizeLine ∧
  ∀ p, H p = none → Q (.ref p) (upd H p (.lst (List.replicate k.toNat xs).flatten))
theorem len_rep {α : Type} (xs : List α) (k : Nat) : (List.replicate k xs).flatten.length = k * xs.length := by
  induction k with
  | zero => simp
  | succ k ih => rw [List.replicate_succ, List.flatten_cons, List.length_append, ih, Nat.succ_mul, Nat.add_comm]
theorem op_rep : OpR X (binaryOp .Mult) rRep := by
  intro pins s σ H x y v u Q I rx ry h
  obtain ⟨l, k, xs, rfl, rfl, hH, h1, h2, hz, q⟩ := h
  cases rx
  obtain ⟨t, rfl⟩ := ry
  obtain ⟨z, its, n, r, hl, e⟩ := I.lstM hH
  have hlen : its.toArray.size * k.toNat ≤ sizeLine := by rw [List.size_toArray, ← hl]; exact hz
  have hcap : ¬ its.toArray.size * k.toNat > (2 ^ 63 - 1) / 8 := by
    have : (sizeLine : Nat) ≤ (2 ^ 63 - 1) / 8 := by decide
    omega
  have hfit : ¬ (!Builtin.List.listFitsIndex k) = true := by
    rw [fitsIndex_both h1 h2]
    exact Bool.false_ne_true
  have hlong : ¬ Builtin.List.listTooLong (its.toArray.size * k.toNat) = true := by
    rw [notLongL hlen]
    exact Bool.false_ne_true
  have hnew : List.foldl (fun x1 x2 => x1 ++ x2) #[] (List.replicate (if its.toArray.isEmpty = true then 0 else k.toNat) its.toArray) = (List.replicate k.toNat its).flatten.toArray := by
    have f0 : ∀ m : Nat, List.foldl (fun x1 x2 => x1 ++ x2) #[] (List.replicate m its.toArray) = (List.replicate m its).flatten.toArray := fun m => by
      have := foldl_rep its m []
      rw [List.nil_append] at this
      exact this
    rw [f0]
    cases its with
    | nil => simp
    | cons a r' => rw [if_neg (by simp)]
  refine wpAny_binaryOp_repeat_ref (T := "list") (U := "int") (by decide) ⟨_, e, rfl⟩ (fun s' => typeIs_int s' k t) noFill_list_mul F.fills_int_mul F.slot_int_rmul repeat_list F.slot_int_index.lookup
    (call_meets F.slot_int_rmul (typeIs_int s k t) F.entry_int_rmul (F.args_int_rmul_2 _ _) (int___rmul___int_list k t l its.toArray n)
      ⟨e, rfl, ⟨_, e, rfl⟩, call_meets F.slot_list_mul ⟨_, e, rfl⟩ F.entry_list_mul (F.args_list_mul_2 _ _) (AutoListH.list___mul___list_int_3 l its.toArray n k t hfit hcap hlong) ⟨e, ?_⟩⟩)
  rw [hnew]
  exact ⟨.ref _, _, I.lnew (t' := s.toks) (r.rep k.toNat) (by rw [len_rep, Nat.mul_comm]; exact hz), rfl, q _ I.fresh⟩

/-! ### del xs[i] -/
end

/-! ### xs[a:b] = ys -/
section
variable {prog : Program} {w : World} {A : Around} {E : Value → Shared → Prop} {s : Shared}
set_option maxRecDepth 100000 in
end

section
variable {X : Cx}
end
end L2

namespace L2
open PySem PySem.Spec PyProof.Rows

/-! ### lists of pairs as tables -/
section
variable {κ : Type} [DecidableEq κ]
def valV (kvs : List (κ × V)) (k : κ) : Option V := (kvs.find? fun kv => decide (kv.1 = k)).map (·.2)
/-- in its place, or at the end -/
def putK (kvs : List (κ × V)) (k : κ) (v : V) : List (κ × V) :=
  if (kvs.any fun kv => decide (kv.1 = k)) = true then kvs.map (fun kv => if kv.1 = k then (kv.1, v) else kv) else kvs ++ [(k, v)]
def dropK (kvs : List (κ × V)) (k : κ) : List (κ × V) := kvs.filter fun kv => decide (kv.1 ≠ k)

theorem valV_pos {p : κ × V} {r : List (κ × V)} {k : κ} (e : p.1 = k) : valV (p :: r) k = some p.2 := by simp [valV, List.find?_cons, e]
theorem valV_neg {p : κ × V} {r : List (κ × V)} {k : κ} (e : ¬ p.1 = k) : valV (p :: r) k = valV r k := by simp [valV, List.find?_cons, e]
theorem valV_any (k : κ) : ∀ kvs : List (κ × V), (kvs.any fun kv => decide (kv.1 = k)) = (valV kvs k).isSome
  | [] => rfl
  | p :: r => by
    rw [List.any_cons]
    by_cases e : p.1 = k
    · simp only [valV_pos e, decide_eq_true e, Bool.true_or, Option.isSome_some]
    · rw [valV_neg e, decide_eq_false e, Bool.false_or]; exact valV_any k r
theorem valV_map (k j : κ) (y : V) : ∀ kvs : List (κ × V), valV (kvs.map fun kv => if kv.1 = k then (kv.1, y) else kv) j = (valV kvs j).map fun x => if j = k then y else x
  | [] => rfl
  | p :: r => by
    have ih := valV_map k j y r
    rw [List.map_cons]
    by_cases h : p.1 = k
    · rw [if_pos h]
      by_cases e : p.1 = j
      · rw [valV_pos (p := (p.1, y)) e, valV_pos e, Option.map_some, if_pos (e.symm.trans h)]
      · rw [valV_neg (p := (p.1, y)) e, valV_neg e, ih]
    · rw [if_neg h]
      by_cases e : p.1 = j
      · rw [valV_pos (p := p) e, valV_pos e, Option.map_some, if_neg (fun z => h (e.trans z))]
      · rw [valV_neg (p := p) e, valV_neg e, ih]
theorem valV_snoc (k j : κ) (y : V) : ∀ kvs : List (κ × V), valV kvs k = none → valV (kvs ++ [(k, y)]) j = if j = k then some y else valV kvs j
  | [], _ => by
    by_cases e : k = j
    · rw [if_pos e.symm]; exact valV_pos (p := (k, y)) e
    · rw [if_neg (fun z => e z.symm)]; exact valV_neg (p := (k, y)) e
  | p :: r, hn => by
    rw [List.cons_append]
    have hk : ¬ p.1 = k := fun z => by rw [valV_pos z] at hn; cases hn
    rw [valV_neg hk] at hn
    have ih := valV_snoc k j y r hn
    by_cases e : p.1 = j
    · rw [valV_pos e, valV_pos e, if_neg (fun z => hk (e.trans z))]
    · rw [valV_neg e, valV_neg e, ih]
theorem valV_put (kvs : List (κ × V)) (k j : κ) (y : V) : valV (putK kvs k y) j = if j = k then some y else valV kvs j := by
  unfold putK
  by_cases a : (kvs.any fun kv => decide (kv.1 = k)) = true
  · rw [if_pos a, valV_map]
    rw [valV_any] at a
    by_cases e : j = k
    · obtain ⟨x, hx⟩ := Option.isSome_iff_exists.mp a
      rw [if_pos e, e, hx, Option.map_some, if_pos rfl]
    · rw [if_neg e]
      cases valV kvs j with
      | none => rfl
      | some x => rw [Option.map_some, if_neg e]
  · rw [if_neg a]
    refine valV_snoc k j y kvs ?_
    rw [valV_any] at a
    cases q : valV kvs k with
    | none => rfl
    | some x => rw [q] at a; exact (a rfl).elim
theorem length_putK (kvs : List (κ × V)) (k : κ) (v : V) : (putK kvs k v).length ≤ kvs.length + 1 := by
  unfold putK
  split
  · rw [List.length_map]; omega
  · rw [List.length_append, List.length_cons, List.length_nil]; omega
theorem putK_new {kvs : List (κ × V)} {k : κ} (v : V) (h : valV kvs k = none) : putK kvs k v = kvs ++ [(k, v)] := by
  unfold putK
  rw [valV_any, h]
  exact if_neg (by decide)

theorem RelO.isSome_eq {o : Option V} {u : Option Value} (r : RelO o u) : o.isSome = u.isSome := by
  cases o with
  | none => cases u with
    | none => rfl
    | some _ => exact (show False from r).elim
  | some _ => cases u with
    | none => exact (show False from r).elim
    | some _ => rfl
/-- raw tables of the same keys -/
theorem KV.val {kvs : List (κ × V)} {vs : List (κ × Value)} (r : KV kvs vs) (k : κ) : RelO (valV kvs k) (valueAt vs k) := by
  unfold KV at r
  induction r with
  | nil => exact True.intro
  | @cons p q ps qs h t ih =>
    obtain ⟨h1, h2⟩ := h
    by_cases e : p.1 = k
    · have e' : q.1 = k := h1.symm.trans e
      have b : valueAt (q :: qs) k = some q.2 := by simp [valueAt, List.find?_cons, e']
      rw [valV_pos e, b]; exact h2
    · have e' : ¬ q.1 = k := fun z => e (h1.trans z)
      have b : valueAt (q :: qs) k = valueAt qs k := by simp [valueAt, List.find?_cons, e']
      rw [valV_neg e, b]; exact ih
theorem KV.any {kvs : List (κ × V)} {vs : List (κ × Value)} (r : KV kvs vs) (k : κ) : (kvs.any fun kv => decide (kv.1 = k)) = vs.any fun kv => decide (kv.1 = k) := by
  unfold KV at r
  induction r with
  | nil => rfl
  | cons h t ih => rw [List.any_cons, List.any_cons, ih, h.1]
theorem KV.repl {kvs : List (κ × V)} {vs : List (κ × Value)} (r : KV kvs vs) (k : κ) {y : V} {u : Value} (ry : RelV y u) :
    KV (kvs.map fun kv => if kv.1 = k then (kv.1, y) else kv) (vs.map fun kv => if kv.1 = k then (kv.1, u) else kv) := by
  unfold KV at r ⊢
  induction r with
  | nil => exact .nil
  | @cons p q ps qs h t ih =>
    rw [List.map_cons, List.map_cons]
    refine .cons ?_ ih
    obtain ⟨h1, h2⟩ := h
    by_cases e : p.1 = k
    · rw [if_pos e, if_pos (h1.symm.trans e)]; exact ⟨h1, ry⟩
    · rw [if_neg e, if_neg (fun z => e (h1.trans z))]; exact ⟨h1, h2⟩
theorem KV.put {kvs : List (κ × V)} {vs : List (κ × Value)} (r : KV kvs vs) (k : κ) {y : V} {u : Value} (ry : RelV y u) : KV (putK kvs k y) (stored vs k u) := by
  unfold putK stored
  rw [r.any k]
  by_cases e : (vs.any fun kv => decide (kv.1 = k)) = true
  · rw [if_pos e, if_pos e]; exact r.repl k ry
  · rw [if_neg e, if_neg e]; exact Paired.snoc r ⟨rfl, ry⟩
theorem KV.drop {kvs : List (κ × V)} {vs : List (κ × Value)} (r : KV kvs vs) (k : κ) : KV (dropK kvs k) (without vs k) := by
  unfold KV at r ⊢
  unfold dropK without
  induction r with
  | nil => exact .nil
  | @cons p q ps qs h t ih =>
    obtain ⟨h1, h2⟩ := h
    rw [List.filter_cons, List.filter_cons]
    by_cases e : p.1 = k
    · have a : ¬ decide (p.1 ≠ k) = true := by simp [e]
      have b : ¬ decide (q.1 ≠ k) = true := by simp [h1.symm.trans e]
      rw [if_neg a, if_neg b]; exact ih
    · have e' : ¬ q.1 = k := fun z => e (h1.trans z)
      have a : decide (p.1 ≠ k) = true := by simp [e]
      have b : decide (q.1 ≠ k) = true := by simp [e']
      rw [if_pos a, if_pos b]; exact .cons ⟨h1, h2⟩ ih
theorem KV.length {kvs : List (κ × V)} {vs : List (κ × Value)} (r : KV kvs vs) : kvs.length = vs.length := Paired.length r
theorem dropK_le (kvs : List (κ × V)) (k : κ) : (dropK kvs k).length ≤ kvs.length := List.length_filter_le _ _
end

/-! ### a tracked dict, its keys ints and texts or tuples of these -/
theorem kV_is {P : Program} {w : World} {k : Key} {u : Value} (r : RelV (kV k) u) : (mixKind P w).is k u = true := by
  cases k with
  | inl i => obtain ⟨t, e⟩ := (show ∃ t, u = Value.int i t from r); subst e; exact mixKind_int P w i t
  | inr x => obtain ⟨t, e⟩ := (show ∃ t, u = Value.str x t from r); subst e; exact mixKind_str P w x t
theorem items_are {P : Program} {w : World} : ∀ {ks : List Key} {us : List Value}, Vals (ks.map kV) us → ItemsAre (mixKind P w) ks us
  | [], _, r => by rw [List.map_nil] at r; cases r; exact .nil
  | k :: ks, _, r => by
    rw [List.map_cons] at r
    cases r with
    | cons h t => exact .cons (kV_is h) (items_are t)

/-- raw entries of a dict with tuple keys -/
abbrev KT (H : Hp) : List (List Key × V) → List (List Key × Addr × Value) → Prop := Paired fun p q => p.1 = q.1 ∧ H q.2.1 = some (.tup (p.1.map kV)) ∧ RelV p.2 q.2.2
theorem KT.val {H : Hp} {kvs : List (List Key × V)} {xs : List (List Key × Addr × Value)} (r : KT H kvs xs) (k : List Key) : RelO (valV kvs k) ((atKey xs k).map (·.2)) := by
  induction r with
  | nil => exact True.intro
  | @cons p q ps qs h t ih =>
    obtain ⟨h1, _, h2⟩ := h
    by_cases e : p.1 = k
    · have e' : q.1 = k := h1.symm.trans e
      have b : atKey (q :: qs) k = some q.2 := by simp [atKey, List.find?_cons, e']
      rw [valV_pos e, b]; exact h2
    · have e' : ¬ q.1 = k := fun z => e (h1.trans z)
      have b : atKey (q :: qs) k = atKey qs k := by simp [atKey, List.find?_cons, e']
      rw [valV_neg e, b]; exact ih
theorem KT.repl {H : Hp} {kvs : List (List Key × V)} {xs : List (List Key × Addr × Value)} (r : KT H kvs xs) (k : List Key) {y : V} {u : Value} (ry : RelV y u) :
    KT H (kvs.map fun kv => if kv.1 = k then (kv.1, y) else kv) (xs.map (putAt k u)) := by
  induction r with
  | nil => exact .nil
  | @cons p q ps qs h t ih =>
    rw [List.map_cons, List.map_cons]
    refine .cons ?_ ih
    obtain ⟨h1, h2, h3⟩ := h
    unfold putAt
    by_cases e : p.1 = k
    · rw [if_pos e, if_pos (h1.symm.trans e)]; exact ⟨h1, h2, ry⟩
    · rw [if_neg e, if_neg (fun z => e (h1.trans z))]; exact ⟨h1, h2, h3⟩
theorem KT.put {H : Hp} {kvs : List (List Key × V)} {xs : List (List Key × Addr × Value)} (r : KT H kvs xs) (k : List Key) {b : Addr} {y : V} {u : Value} (hb : H b = some (.tup (k.map kV))) (ry : RelV y u) :
    KT H (putK kvs k y) (storedH xs k b u) := by
  have e : (kvs.any fun kv => decide (kv.1 = k)) = (atKey xs k).isSome := by
    rw [valV_any, (r.val k).isSome_eq, Option.isSome_map]
  unfold putK storedH
  rw [e]
  by_cases q : (atKey xs k).isSome = true
  · rw [if_pos q, if_pos q]; exact r.repl k ry
  · rw [if_neg q, if_neg q]; exact Paired.snoc r ⟨rfl, hb, ry⟩
theorem KT.keeps {H H' : Hp} {kvs : List (List Key × V)} {xs : List (List Key × Addr × Value)} (r : KT H kvs xs) (ht : ∀ b ys, H b = some (.tup ys) → H' b = some (.tup ys)) : KT H' kvs xs :=
  Paired.mapP r fun _ _ z => ⟨z.1, ht _ _ z.2.1, z.2.2⟩

section
variable {P : Program} {w : World} {H : Hp} {h : Heap} {a : Addr}
theorem rd_of {u : HO} (ok : HOk P w H h) (e : Rd H a u) : ObjOk P w H h a u := e.ok ok
theorem dk_rd {kvs : List (Key × V)} (ok : HOk P w H h) (e : Rd H a (.dK kvs)) : kvs.length ≤ sizeLine ∧ (a == sysModules) = false ∧ ∃ vs, KV kvs vs ∧ h.DictOf (mixKind P w) a vs :=
  show ObjOk P w H h a (.dK kvs) from rd_of ok e
theorem dk_of {kvs : List (Key × V)} (ok : HOk P w H h) (e : H a = some (.dK kvs)) : kvs.length ≤ sizeLine ∧ (a == sysModules) = false ∧ ∃ vs, KV kvs vs ∧ h.DictOf (mixKind P w) a vs := dk_rd ok (.inl e)
/-- a tracked tuple of ints and texts is a key -/
theorem key_of {ks : List Key} (ok : HOk P w H h) (e : H a = some (.tup (ks.map kV))) : (tupleKind (mixKind P w)).is h ks a := by
  obtain ⟨_, its, r, o, h1, h2, n, h3⟩ := (show ObjOk P w H h a (.tup (ks.map kV)) from ok a _ e)
  exact ⟨o, its.toArray, n, h1, h2, h3, by simpa using items_are r⟩
theorem dt_rd {kvs : List (List Key × V)} (ok : HOk P w H h) (e : Rd H a (.dT kvs)) : kvs.length ≤ sizeLine ∧ (a == sysModules) = false ∧
    ∃ xs, KT H kvs xs ∧ h.DictOfH (tupleKind (mixKind P w)) a xs := by
  obtain ⟨z, y, xs, r, o, es, ep, h1, h2, h3, h4, h5⟩ := (show ObjOk P w H h a (.dT kvs) from rd_of ok e)
  refine ⟨z, y, xs, r, o, es, ep, h1, h2, h3, h4, fun x hx => ?_, h5⟩
  have all : ∀ {l : List (List Key × V)} {m : List (List Key × Addr × Value)}, KT H l m → ∀ x ∈ m, (tupleKind (mixKind P w)).is h x.1 x.2.1 := by
    intro l m q
    induction q with
    | nil => intro x hx; exact nomatch hx
    | @cons p q ps qs hq t ih =>
      intro x hx
      rcases List.mem_cons.mp hx with e | hx
      · subst e
        exact key_of ok (by rw [← hq.1]; exact hq.2.1)
      · exact ih x hx
  exact all r x hx
theorem dt_of {kvs : List (List Key × V)} (ok : HOk P w H h) (e : H a = some (.dT kvs)) : kvs.length ≤ sizeLine ∧ (a == sysModules) = false ∧
    ∃ xs, KT H kvs xs ∧ h.DictOfH (tupleKind (mixKind P w)) a xs := dt_rd ok (.inl e)
end

/-- what the dict at a holds at the key y -/
def DGet (H : Hp) (a : Addr) (y : V) (r : Option V) : Prop :=
  (∃ kvs k, Rd H a (.dK kvs) ∧ y = kV k ∧ r = valV kvs k) ∨ ∃ kvs k b, Rd H a (.dT kvs) ∧ y = .ref b ∧ H b = some (.tup (k.map kV)) ∧ r = valV kvs k
/-- the heap behind a[y] = v -/
def DPut (H : Hp) (a : Addr) (y v : V) (H' : Hp) : Prop :=
  (∃ kvs k, H a = some (.dK kvs) ∧ y = kV k ∧ kvs.length < sizeLine ∧ H' = upd H a (.dK (putK kvs k v))) ∨
  ∃ kvs k b, H a = some (.dT kvs) ∧ y = .ref b ∧ H b = some (.tup (k.map kV)) ∧ kvs.length < sizeLine ∧ H' = upd H a (.dT (putK kvs k v))
theorem DPut.k {H : Hp} {a : Addr} {kvs : List (Key × V)} {k : Key} {v : V} (e : H a = some (.dK kvs)) (hl : kvs.length < sizeLine) : DPut H a (kV k) v (upd H a (.dK (putK kvs k v))) := .inl ⟨kvs, k, e, rfl, hl, rfl⟩
section
variable {X : Cx} {pins : List (Addr × Obj)} {σ : St} {H : Hp} {s : Shared} {a : Addr} {y v : V} {u r : Value} {o : Option V} {A : Around} {E : Value → Shared → Prop}

theorem Inv.big (I : Inv X pins σ H s) : sysModules < s.heap.objs.size := by
  have h : mainGlobals < s.heap.objs.size := (I.mod.glob.keeps I.bk).lt
  exact Nat.lt_trans (by decide) h

/-- d[y], there -/
theorem d_getItem {Q : Value → Shared → Prop} (hu : A.units + 1 < cLine) (I : Inv X pins σ H s) (g : DGet H a y (some v)) (ry : RelV y u) (h : ∀ w' s', Inv X pins σ H s' → RelV v w' → Q w' s') :
    wpAny (model X.prog X.w) A (getItem (.ref a) u) Q E s := by
  rcases g with ⟨kvs, k, e, ey, l⟩ | ⟨kvs, k, b, e, ey, eb, l⟩
  · subst ey
    obtain ⟨z, hd, vs, rel, dd⟩ := dk_rd I.hok e
    obtain ⟨w', hw, rw'⟩ := RelO.some_of (v := v) (o := valueAt vs k) (by rw [l]; exact rel.val k)
    exact wpAny_getItem_of (kV_is ry) dd.mapOf hw (h w' _ (I.tok _) rw')
  · subst ey
    cases (show u = Value.ref b from ry)
    obtain ⟨z, hd, xs, rel, dd⟩ := dt_rd I.hok e
    obtain ⟨w', hw, rw'⟩ := RelO.some_of (v := v) (o := (atKey xs k).map (·.2)) (by rw [l]; exact rel.val k)
    obtain ⟨p, hp, hp2⟩ := Option.map_eq_some_iff.mp hw
    refine wpAny_getItem_heap (tupleKind_room_in1 hu) (key_of I.hok eb) dd hp ?_
    rw [hp2]
    exact h w' _ (I.tok _) rw'
theorem d_notIn {Q : Value → Shared → Prop} (hu : A.units + 1 < cLine) (I : Inv X pins σ H s) (g : DGet H a y o) (ry : RelV y u) (h : ∀ s', Inv X pins σ H s' → Q (.bool (!o.isSome)) s') :
    wpAny (model X.prog X.w) A (compareOp .NotIn u (.ref a)) Q E s := by
  rcases g with ⟨kvs, k, e, ey, l⟩ | ⟨kvs, k, b, e, ey, eb, l⟩
  · subst ey
    obtain ⟨z, hd, vs, rel, dd⟩ := dk_rd I.hok e
    refine wpAny_notIn_of (kV_is ry) hd dd.mapOf ?_
    rw [← (rel.val k).isSome_eq, ← l]
    exact h _ (I.tok _)
  · subst ey
    cases (show u = Value.ref b from ry)
    obtain ⟨z, hd, xs, rel, dd⟩ := dt_rd I.hok e
    refine wpAny_notIn_heap (tupleKind_room_in1 hu) (key_of I.hok eb) hd dd ?_
    have q := (rel.val k).isSome_eq
    rw [Option.isSome_map] at q
    rw [← q, ← l]
    exact h _ (I.tok _)
/-- a dict's object is replaced -/
theorem d_write {h' : Heap} {t' : Nat} {ob : HO} (I : Inv X pins σ H s) (mu : Mut (H a)) (hs : Heap.SameBut a s.heap h') (he : ∃ q, h'.get? a = some q) (new : ObjOk X.prog X.w (upd H a ob) h' a ob) :
    Inv X pins σ (upd H a ob) { s with heap := h', toks := t' } :=
  I.write (x := a) (e := a) mu (.inl rfl) (fun b q hb z => (hs.2 b hb).trans z) he new
theorem dk_new {P : Program} {w : World} {H' : Hp} {h' : Heap} {kvs : List (Key × V)} {vs : List (Key × Value)} (z : kvs.length ≤ sizeLine) (hd : (a == sysModules) = false) (rel : KV kvs vs) (dd : h'.DictOf (mixKind P w) a vs) :
    ObjOk P w H' h' a (.dK kvs) := ⟨z, hd, vs, rel, dd⟩
/-- d[y] = v -/
theorem d_setItem {H' : Hp} {Q : Unit → Shared → Prop} (hu : A.units + 1 < cLine) (I : Inv X pins σ H s) (g : DPut H a y v H') (ry : RelV y u) (rv : RelV v r) (h : ∀ s', Inv X pins σ H' s' → Q () s') :
    wpAny (model X.prog X.w) A (setItem (.ref a) u r) Q E s := by
  rcases g with ⟨kvs, k, e, ey, l, eH⟩ | ⟨kvs, k, b, e, ey, eb, l, eH⟩
  · subst ey eH
    obtain ⟨z, hd, vs, rel, dd⟩ := dk_of I.hok e
    have hz : vs.length ≤ sizeLine := by rw [← rel.length]; exact z
    have hl : (putK kvs k v).length ≤ sizeLine := by have := length_putK kvs k v; omega
    refine wpAny_setItem_pairs (hsz := hz) (kV_is ry) dd fun h' dd' hs => h _ ?_
    have he : ∃ q, h'.get? a = some q := let ⟨q, _, _, hq, _⟩ := dd'; ⟨q, hq⟩
    exact d_write I (by rw [e]; exact True.intro) hs he (dk_new hl hd (rel.put k rv) dd')
  · subst ey eH
    cases (show u = Value.ref b from ry)
    obtain ⟨z, hd, xs, rel, dd⟩ := dt_of I.hok e
    have hz : xs.length ≤ sizeLine := by rw [← Paired.length rel]; exact z
    have hl : (putK kvs k v).length ≤ sizeLine := by have := length_putK kvs k v; omega
    refine wpAny_setItem_heap (hsz := hz) (tupleKind_room_in1 hu) (key_of I.hok eb) dd fun h' dd' hs => h _ ?_
    obtain ⟨q, es, ep, hq, h2, h3, h4, _, h5⟩ := dd'
    refine d_write I (by rw [e]; exact True.intro) hs ⟨q, hq⟩ ⟨hl, hd, _, (rel.put k eb rv).keeps fun c ys ec => ?_, q, es, ep, hq, h2, h3, h4, h5⟩
    rw [upd_ne (ne_of ec e (fun z => nomatch z))]
    exact ec
end

section
variable {X : Cx} {pins : List (Addr × Obj)} {σ : St} {H : Hp} {s : Shared} {a : Addr} {kvs : List (Key × V)} {k : Key} {u : Value} {A : Around} {E : Value → Shared → Prop}
/-- del d[k] -/
theorem d_delItem {Q : Unit → Shared → Prop} (I : Inv X pins σ H s) (e : H a = some (.dK kvs)) (ry : RelV (kV k) u) (l : (valV kvs k).isSome = true) (h : ∀ s', Inv X pins σ (upd H a (.dK (dropK kvs k))) s' → Q () s') :
    wpAny (model X.prog X.w) A (delItem (.ref a) u) Q E s := by
  obtain ⟨z, hd, vs, rel, dd⟩ := dk_of I.hok e
  refine wpAny_delItem_slot dd.typeIs (by decide) PySem.F.slot_dict_delitem
    (call_meetsIn PySem.F.slot_dict_delitem dd.typeIs PySem.F.entry_dict_delitem (PySem.F.args_dict_delitem_2 _ _) (meets_dict_delitem_pairs (mixKind X.prog X.w) a (kV_is ry)) ⟨vs, dd, by rw [← rel.length]; exact z, by rw [← (rel.val k).isSome_eq]; exact l, fun h' dd' hs => h _ ?_⟩)
  have he : ∃ q, h'.get? a = some q := let ⟨q, _, _, hq, _⟩ := dd'; ⟨q, hq⟩
  exact d_write I (by rw [e]; exact True.intro) hs he (dk_new (Nat.le_trans (dropK_le kvs k) z) hd (rel.drop k) dd')
/-- d.pop(k[, x]), there -/
theorem d_pop {v : V} {more : List Value} {Q : Value → Shared → Prop} (I : Inv X pins σ H s) (e : H a = some (.dK kvs)) (ry : RelV (kV k) u) (l : valV kvs k = some v) (hm : more = [] ∨ ∃ x, more = [x])
    (h : ∀ w' s', Inv X pins σ (upd H a (.dK (dropK kvs k))) s' → RelV v w' → Q w' s') : wpAny (model X.prog X.w) A (call (.builtin "dict.pop") (.ref a :: u :: more)) Q E s := by
  obtain ⟨z, hd, vs, rel, dd⟩ := dk_of I.hok e
  obtain ⟨w', hw, rw'⟩ := RelO.some_of (v := v) (o := valueAt vs k) (by rw [← l]; exact rel.val k)
  have hp : (keyPart u).isSome = true := by
    cases k with
    | inl i => obtain ⟨t, q⟩ := (show ∃ t, u = Value.int i t from ry); subst q; rfl
    | inr x => obtain ⟨t, q⟩ := (show ∃ t, u = Value.str x t from ry); subst q; rfl
  have ha : argsOk "dict.pop" ⟨.ref a :: u :: more, []⟩ := by
    rcases hm with q | ⟨x, q⟩
    · subst q; exact PySem.F.args_dict_pop_2 _ _
    · subst q; exact PySem.F.args_dict_pop_3 _ _ _
  refine call_meetsIn PySem.F.slot_dict_pop dd.typeIs PySem.F.entry_dict_pop ha (meets_dict_pop_there (mixKind X.prog X.w) a (kV_is ry) more hm hp)
    ⟨vs, w', dd, by rw [← rel.length]; exact z, hw, fun h' dd' hs => h w' _ ?_ rw'⟩
  have he : ∃ q, h'.get? a = some q := let ⟨q, _, _, hq, _⟩ := dd'; ⟨q, hq⟩
  exact d_write I (by rw [e]; exact True.intro) hs he (dk_new (Nat.le_trans (dropK_le kvs k) z) hd (rel.drop k) dd')
/-- d.clear() -/
theorem d_clear {Q : Value → Shared → Prop} (I : Inv X pins σ H s) (e : H a = some (.dK kvs)) (h : ∀ s', Inv X pins σ (upd H a (.dK [])) s' → Q .none s') : wpAny (model X.prog X.w) A (call (.builtin "dict.clear") [.ref a]) Q E s := by
  obtain ⟨z, hd, vs, rel, dd⟩ := dk_of I.hok e
  refine call_meetsIn PySem.F.slot_dict_clear dd.typeIs PySem.F.entry_dict_clear (PySem.F.args_dict_clear_1 _) (meets_dict_clear (mixKind X.prog X.w) a) ⟨vs, dd, by rw [← rel.length]; exact z, fun h' dd' hs => h _ ?_⟩
  have he : ∃ q, h'.get? a = some q := let ⟨q, _, _, hq, _⟩ := dd'; ⟨q, hq⟩
  exact d_write (t' := s.toks) I (by rw [e]; exact True.intro) hs he (dk_new (Nat.zero_le _) hd .nil dd')
/-- len(d) -/
theorem d_len {Q : Value → Shared → Prop} (I : Inv X pins σ H s) (e : Rd H a (.dK kvs)) (h : ∀ t s', Inv X pins σ H s' → Q (.int kvs.length t) s') : wpAny (model X.prog X.w) A (call (.builtin "len") [.ref a]) Q E s := by
  obtain ⟨z, hd, vs, rel, dd⟩ := dk_rd I.hok e
  refine call_len_dict hd dd (by rw [← rel.length]; rw [sizeLine_eq] at z; omega) ?_
  rw [← rel.length]
  exact h _ _ (I.tok _)
end

/-! ### readings and rules -/
/-- the element of a subscription, not a slice -/
def NoSl (i : Expr) : Prop := ∀ ov iv, subscripted i false ov iv = operate [ov, iv] (getItem ov iv)
theorem subD_of {prog : Program} {w : World} {A : Around} {E : Value → Shared → Prop} {s : Shared} {env : Env} {value slice : Expr} {pos : Pos} {T id : String} {Q : Value → Shared → Prop}
    (hl : typeLookup (.type T) "__getitem__" = pure (some (.builtin id))) (hs : NoSl slice)
    (h : wpAny (model prog w) A (eval value env) (fun o s₁ => wpAny (model prog w) A (eval slice env) (fun i s₂ => s₂.TypeIs o T ∧ wpAny (model prog w) A (getItem o i) Q E s₂) E s₁) E s) :
    wpAny (model prog w) A (eval (.Subscript value slice pos) env) Q E s := by
  refine Subscript_ (wpAny_mono h (fun o s₁ h₁ => wpAny_mono h₁ (fun i s₂ h₂ => ?_) fun _ _ x => x) fun _ _ x => x)
  obtain ⟨hT, h₂⟩ := h₂
  unfold subscriptTail
  refine wpAny_bind ?_
  rw [getitemInPython_of_ne hT.not_modules]
  refine wpAny_bind (wpAny_specialOf hT hl ?_)
  have fin : wpAny (model prog w) A (subscripted slice false o i) (fun r s₃ => wpAny (model prog w) A (letTemporaryGo value o r >>= fun _ => pure r) Q E s₃) E s₂ := by
    rw [hs o i]
    exact wpAny_operating (wpAny_mono h₂ (fun r s₃ h₃ => wpAny_bind (wpAny_letTemporaryGo (wpAny_pure h₃))) fun _ _ x => x)
  first
    | exact wpAny_pure (wpAny_bind fin)
    | exact wpAny_bind (wpAny_pure (wpAny_bind fin))
    | exact wpAny_bind fin

theorem dict_typeIs {X : Cx} {pins : List (Addr × Obj)} {σ : St} {H : Hp} {s : Shared} {a : Addr} {y : V} {o : Option V} (I : Inv X pins σ H s) (g : DGet H a y o) : s.TypeIs (.ref a) "dict" := by
  rcases g with ⟨kvs, k, e, _, _⟩ | ⟨kvs, k, b, e, _, _, _⟩
  · obtain ⟨_, _, vs, _, dd⟩ := dk_rd I.hok e
    exact dd.typeIs
  · obtain ⟨_, _, xs, _, dd⟩ := dt_rd I.hok e
    exact dd.typeIs
/-- d[y] -/
def tDGet (td ty : TE) : TE := fun σ H Q => td σ H fun x H1 => ty σ H1 fun y H2 => ∃ a v, x = .ref a ∧ DGet H2 a y (some v) ∧ Q v H2
def tDNotIn (ty td : TE) : TE := fun σ H Q => ty σ H fun y H1 => td σ H1 fun x H2 => ∃ a o, x = .ref a ∧ DGet H2 a y o ∧ Q (.bl (!o.isSome)) H2
/-- d[y] = v -/
def sDPut (td ty tv : TE) : TS := fun D σ H => tv σ H fun v H1 => td σ H1 fun x H2 => ty σ H2 fun y H3 => ∃ a H4, x = .ref a ∧ DPut H3 a y v H4 ∧ D.nx σ H4
section
variable {X : Cx} {o i e value : Expr} {pos pos' tpos : Pos} {td ty tv : TE}
theorem pe_dget (hu : X.A.units + 1 < cLine) (ho : PE X o td) (hi : PE X i ty) (hs : NoSl i) : PE X (.Subscript o i pos) (tDGet td ty) := by
  intro pins s σ H Q I h
  refine subD_of PySem.F.slot_dict_getitem.lookup hs (thn (ho pins s σ H _ I h) fun u s1 ⟨x, H1, I1, rx, q1⟩ => thn (hi pins s1 σ H1 _ I1 q1) fun iv s2 ⟨y, H2, I2, ry, a, v, ex, g, q2⟩ => ?_)
  subst ex
  obtain rfl : u = Value.ref a := rx
  exact ⟨dict_typeIs I2 g, d_getItem hu I2 g ry fun w' s3 I3 rw' => ⟨v, H2, I3, rw', q2⟩⟩
theorem pc_dnotin (hu : X.A.units + 1 < cLine) (hi : PE X i ty) (ho : PE X o td) : PC X .NotIn i o (tDNotIn ty td) := by
  intro pins s σ H Q I h
  refine thn (hi pins s σ H _ I h) fun iv s1 ⟨y, H1, I1, ry, q1⟩ => thn (ho pins s1 σ H1 _ I1 q1) fun u s2 ⟨x, H2, I2, rx, a, ov, ex, g, q2⟩ => ?_
  subst ex
  obtain rfl : u = Value.ref a := rx
  exact d_notIn hu I2 g ry fun s3 I3 => ⟨.bl (!ov.isSome), H2, I3, rfl, q2⟩
theorem ps_dput (hu : X.A.units + 1 < cLine) (ho : PE X o td) (hi : PE X i ty) (hv : PE X value tv) (hs : swapsWith value (some (.Subscript o i pos')) pos.line X.env = pure false) :
    PS X (.Assign [.Subscript o i pos'] value pos) (sDPut td ty tv) := by
  intro pins s σ H D I h
  refine wpAny_Assign_Subscript (thn (hv pins s σ H _ I h) fun r s1 ⟨v, H1, I1, rv, q1⟩ => thn (ho pins s1 σ H1 _ I1 q1) fun u s2 ⟨x, H2, I2, rx, q2⟩ => thn (hi pins s2 σ H2 _ I2 q2) fun iv s3 ⟨y, H3, I3, ry, a, H4, ex, g, q3⟩ => ?_) hs
  subst ex
  obtain rfl : u = Value.ref a := rx
  exact d_setItem hu I3 g ry rv fun s4 I4 => ⟨σ, H4, I4, q3⟩
end

/-! ### displays -/
theorem dk_empty {P : Program} {w : World} {H : Hp} (h : Heap) (hb : sysModules < h.objs.size) : ObjOk P w H (h.push { cls := .type "dict", data := .dict #[] }) h.objs.size (.dK []) :=
  ⟨Nat.zero_le _, beq_eq_false_iff_ne.mpr (Ne.symm (Nat.ne_of_lt hb)), [], .nil, Heap.DictOf.new h⟩
/-- {}, to be a dict of the kind that is wanted -/
def tDNewK : TE := fun _ H Q => ∀ p, H p = none → Q (.ref p) (upd H p (.dK []))
section
variable {X : Cx} {pos : Pos}
theorem pe_dnewK : PE X (.Dict [] [] pos) tDNewK := fun pins s σ H Q I h =>
  wpAny_Dict_empty ⟨.ref s.heap.objs.size, _, I.laid (a := s.heap.objs.size) (o := .dK []) (t' := s.toks) (fun _ _ q => Heap.get?_push_of_some _ q) (Nat.le_refl _) (dk_empty s.heap I.big), rfl, h _ (I.hok.fresh (Nat.le_refl _))⟩
end

/-- the pairs of a display, from the left -/
def tPairs : List (TE × TE) → St → Hp → (List (V × V) → Hp → Prop) → Prop
  | [], _, H, Q => Q [] H
  | (tk, tv) :: r, σ, H, Q => tk σ H fun x H1 => tv σ H1 fun y H2 => tPairs r σ H2 fun ps H3 => Q ((x, y) :: ps) H3
abbrev VV : List (V × V) → List (Value × Value) → Prop := Paired fun p q => RelV p.1 q.1 ∧ RelV p.2 q.2
def PPs (X : Cx) (pos : Pos) (keys : List (Option Expr)) (values : List Expr) (trs : List (TE × TE)) : Prop :=
  ∀ (pins : List (Addr × Obj)) (s : Shared) (σ : St) (H : Hp) (Q : List (V × V) → Hp → Prop), Inv X pins σ H s → tPairs trs σ H Q →
    wpAny (model X.prog X.w) X.A (evalPairs (pairTrees keys values X.env pos)) (fun vs s' => ∃ ps H', Inv X pins σ H' s' ∧ VV ps vs ∧ Q ps H') X.xe s
theorem pps_nil {X : Cx} {pos : Pos} : PPs X pos [] [] [] := fun pins s σ H Q I h => pairTrees_nil_walk ⟨[], H, I, .nil, h⟩
theorem pps_cons {X : Cx} {pos : Pos} {k v : Expr} {ks : List (Option Expr)} {vs : List Expr} {tk tv : TE} {trs : List (TE × TE)} (hk : PE X k tk) (hv : PE X v tv) (hr : PPs X pos ks vs trs) :
    PPs X pos (some k :: ks) (v :: vs) ((tk, tv) :: trs) := fun pins s σ H Q I h =>
  pairTrees_cons_walk (thn (hk pins s σ H _ I h) fun u s1 ⟨x, H1, I1, rx, q1⟩ => thn (hv pins s1 σ H1 _ I1 q1) fun w2 s2 ⟨y, H2, I2, ry, q2⟩ =>
    thn (hr pins s2 σ H2 _ I2 q2) fun ws s3 ⟨ps, H3, I3, rel, q3⟩ => ⟨(x, y) :: ps, H3, I3, .cons ⟨rx, ry⟩ rel, q3⟩)

def mergeK (kvs more : List (Key × V)) : List (Key × V) := more.foldl (fun acc kv => putK acc kv.1 kv.2) kvs
theorem KV.merge : ∀ {more : List (Key × V)} {rs : List (Key × Value)} {kvs : List (Key × V)} {vs : List (Key × Value)}, KV more rs → KV kvs vs → KV (mergeK kvs more) (merged vs rs) := by
  intro more rs kvs vs r
  unfold KV at r
  induction r generalizing kvs vs with
  | nil => intro q; exact q
  | @cons p q ps qs h t ih =>
    intro r0
    have e : KV (putK kvs p.1 p.2) (stored vs q.1 q.2) := by
      have := r0.put p.1 h.2
      rw [← h.1]; exact this
    exact ih e
theorem length_mergeK : ∀ (more kvs : List (Key × V)), (mergeK kvs more).length ≤ kvs.length + more.length
  | [], kvs => by show kvs.length ≤ kvs.length + 0; omega
  | p :: r, kvs => by
    have h1 := length_mergeK r (putK kvs p.1 p.2)
    have h2 := length_putK kvs p.1 p.2
    show (mergeK (putK kvs p.1 p.2) r).length ≤ _
    rw [List.length_cons]; omega
theorem carries_of {P : Program} {w : World} : ∀ {kvs : List (Key × V)} {ws : List (Value × Value)}, VV (kvs.map fun kv => (kV kv.1, kv.2)) ws → ∃ rs, Carries (mixKind P w) ws rs ∧ KV kvs rs
  | [], _, r => by rw [List.map_nil] at r; cases r; exact ⟨[], True.intro, .nil⟩
  | p :: kvs, _, r => by
    rw [List.map_cons] at r
    cases r with
    | @cons a b as bs h t =>
      obtain ⟨rs, c, q⟩ := carries_of (P := P) (w := w) t
      obtain ⟨b1, b2⟩ := b
      exact ⟨(p.1, b2) :: rs, ⟨kV_is h.1, rfl, c⟩, .cons ⟨rfl, h.2⟩ q⟩
/-- {k: v, ..} with keys ints and texts; the new dict stands empty while the pairs are made -/
def tDisp (trs : List (TE × TE)) : TE := fun σ H Q => ∀ p, H p = none → tPairs trs σ (upd H p (.dK [])) fun ps H2 => H2 p = some (.dK []) ∧ ∃ kvs : List (Key × V), ps = kvs.map (fun kv => (kV kv.1, kv.2)) ∧ kvs.length ≤ 15 ∧ Q (.ref p) (upd H2 p (.dK (mergeK [] kvs)))
theorem pe_disp {X : Cx} {pos : Pos} {keys : List (Option Expr)} {values : List Expr} {trs : List (TE × TE)} (h : PPs X pos keys values trs) (hall : keys.all (·.isSome) = true) (hl : keys.length = values.length) (h0 : keys ≠ [])
    (h15 : keys.length ≤ 15) : PE X (.Dict keys values pos) (tDisp trs) := by
  intro pins s σ H Q I q
  have hn := I.hok.fresh (Nat.le_refl s.heap.objs.size)
  have I1 := I.laid (a := s.heap.objs.size) (o := .dK []) (h' := s.heap.push { cls := .type "dict", data := .dict #[] }) (t' := s.toks) (fun _ _ q => Heap.get?_push_of_some _ q) (Nat.le_refl _) (dk_empty s.heap I.big)
  refine wpAny_Dict_walk (knd := mixKind X.prog X.w) hall hl h0 h15 (thn (h pins _ σ _ _ I1 (q _ hn)) fun ws s2 ⟨ps, H2, I2, rel, e, kvs, ep, lk, q2⟩ => ?_)
  subst ep
  obtain ⟨rs, c, rk⟩ := carries_of (P := X.prog) (w := X.w) rel
  obtain ⟨z, hd, vs0, r0, dd⟩ := dk_of I2.hok e
  cases r0
  refine ⟨rs, c, dd, fun h' dd' hs => ⟨.ref s.heap.objs.size, _, ?_, rfl, q2⟩⟩
  have hz : (mergeK [] kvs).length ≤ sizeLine := by
    have h1 := length_mergeK kvs []
    rw [List.length_nil] at h1
    rw [sizeLine_eq]; omega
  have he : ∃ q, h'.get? s.heap.objs.size = some q := let ⟨q, _, _, hq, _⟩ := dd'; ⟨q, hq⟩
  exact d_write I2 (by rw [e]; exact True.intro) hs he (dk_new hz hd (rk.merge .nil) dd')

/-! ### methods -/
/-- a method call o.m(e) of a built-in, with one argument: what must be seen of the text -/
structure M1 (X : Cx) (o : Expr) (m : Str) (apos : Pos) (e : Expr) (cpos : Pos) : Prop where
  base : attributeBase o m X.env (eval o X.env) = eval o X.env
  few : ((backTo cpos (starEach [e] X.env)).all (fun x => !x.1) && (backToKw cpos (keywordEach [] X.env)).all (fun x => x.1.isSome)
    && decide (([e] : List Expr).length + ([] : List Keyword).length + (if ([] : List Keyword).isEmpty then 0 else 1) < 30)) = true
  line : (apos.endLine == cpos.line) = true
  trees : backTo cpos (starEach [e] X.env) = [(false, eval e X.env)]
/-- a is a dict, whatever its keys -/
def IsD (H : Hp) (a : Addr) : Prop := (∃ kvs, Rd H a (.dK kvs)) ∨ ∃ kvs, Rd H a (.dT kvs)
theorem isD_at {X : Cx} {pins : List (Addr × Obj)} {σ : St} {H : Hp} {s : Shared} {a : Addr} (I : Inv X pins σ H s) (d : IsD H a) :
    s.TypeIs (.ref a) "dict" ∧ (∀ b, Value.ref a = .ref b → ∃ ob, s.heap.get? b = some ob ∧ ob.dict = none) ∧ (a == sysModules) = false := by
  rcases d with ⟨kvs, e⟩ | ⟨kvs, e⟩
  · obtain ⟨_, hd, vs, _, dd⟩ := dk_rd I.hok e
    refine ⟨dd.typeIs, fun b q => ?_, hd⟩
    cases q
    obtain ⟨ob, _, _, h1, h2, _⟩ := dd
    exact ⟨ob, h1, h2.2.1⟩
  · obtain ⟨_, hd, xs, _, dd⟩ := dt_rd I.hok e
    refine ⟨dd.typeIs, fun b q => ?_, hd⟩
    cases q
    obtain ⟨ob, _, _, h1, h2, _⟩ := dd
    exact ⟨ob, h1, h2.2.1⟩

section
variable {X : Cx} {pins : List (Addr × Obj)} {σ : St} {H : Hp} {s : Shared} {a : Addr} {y d : V} {u r : Value} {o : Option V} {A : Around} {E : Value → Shared → Prop}
end

/-- d.pop(k): there; d.pop(k, x): there or not -/
def tDPop1 (td ty : TE) : TE := fun σ H Q => td σ H fun x H1 => ∃ a, x = .ref a ∧ IsD H1 a ∧ ty σ H1 fun y H2 => ∃ kvs k v, H2 a = some (.dK kvs) ∧ y = kV k ∧ valV kvs k = some v ∧ Q v (upd H2 a (.dK (dropK kvs k)))
section
variable {X : Cx} {o e f : Expr} {apos cpos : Pos} {td ty tx : TE}
theorem pe_dpop1 (ho : PE X o td) (he : PE X e ty) (m : M1 X o "pop" apos e cpos) : PE X (.Call (.Attribute o "pop" apos) [e] [] cpos) (tDPop1 td ty) := by
  intro pins s σ H Q I h
  refine wpAny_Call_method m.base m.few m.line PySem.F.plainAttrs_dict PySem.F.slot_dict_pop PySem.F.type_dict_pop (thn (ho pins s σ H _ I h) fun u s1 ⟨x, H1, I1, rx, a, ex, d, q1⟩ => ?_)
  subst ex
  obtain rfl : u = Value.ref a := rx
  obtain ⟨t1, t2, _⟩ := isD_at I1 d
  refine ⟨t1, t2, ?_⟩
  rw [m.trees]
  refine Calls.callWith_builtin rfl (Calls.evalArgs_plain (Calls.spliced_cons (thn (he pins s1 σ H1 _ I1 q1) fun iv s2 ⟨y, H2, I2, ry, kvs, k, v, ea, ey, l, q2⟩ => Calls.spliced_nil ?_)))
  subst ey
  exact d_pop I2 ea ry l (.inl rfl) fun w' s3 I3 rw' => ⟨v, _, I3, rw', q2⟩
end

/-! ### dict(d): a copy -/
section
variable {X : Cx} {pins : List (Addr × Obj)} {σ : St} {H : Hp} {s : Shared} {a : Addr} {kvs : List (Key × V)} {A : Around} {E : Value → Shared → Prop}
theorem d_copyOf {Q : Value → Shared → Prop} (I : Inv X pins σ H s) (e : Rd H a (.dK kvs)) (h : ∀ p s', H p = none → Inv X pins σ (upd H p (.dK kvs)) s' → Q (.ref p) s') : wpAny (model X.prog X.w) A (call (.type "dict") [.ref a]) Q E s := by
  obtain ⟨z, hd, vs, rel, dd⟩ := dk_rd I.hok e
  refine kt_call_dict hd dd (by rw [← rel.length]; exact z) fun h' dd' hs => ?_
  refine h _ _ (I.hok.fresh (Nat.le_refl _)) (I.laid (a := s.heap.objs.size) (o := .dK kvs) (t' := s.toks) (fun b q hq => ?_) (Nat.le_refl _) (dk_new z (beq_eq_false_iff_ne.mpr (Ne.symm (Nat.ne_of_lt I.big))) rel dd'))
  exact (hs.2 b (Nat.ne_of_lt (Heap.lt_size hq))).trans (Heap.get?_push_of_some _ hq)
end

section
variable {X : Cx} {pins : List (Addr × Obj)} {σ : St} {H : Hp} {s : Shared} {a : Addr} {y : V} {u : Value} {A : Around} {E : Value → Shared → Prop}
end
end L2

namespace Att
open PySem PySem.W PySem.Calls PyProof.Rows

/-! ### the script -/
theorem ints_of_wellAll {P : Params} {h : Heap} : ∀ (ns : List Int) (vs : List Value), WellAll P h vs (ns.map WData.int) → IntsAre vs ns := by
  intro ns
  induction ns with
  | nil =>
    intro vs w
    rw [List.map_nil] at w
    cases w
    exact .nil
  | cons n ns ih =>
    intro vs w
    rw [List.map_cons] at w
    cases w with
    | cons a b =>
      cases a
      exact .cons _ _ (ih _ b)

theorem script_of {l : OpenLaw} {n : Nat} (hn : l.most = some n) {P : Params} {h : Heap} {args : List WData} {vals : List Value}
    (hpre : l.row.toRowW.claim.pre args = true) (hwl : WellAll P h vals args) :
    ∃ a vs ns, vals = [Value.ref a] ∧ args = [WData.list (ns.map WData.int)] ∧ h.get? a = some { cls := .type "list", data := .seq vs.toArray } ∧ IntsAre vs ns ∧ ns.length ≤ n := by
  have hsh : WShape.hasAll [] args [.list .int] = true := (pre_splitW hpre).1
  have hc : l.pre.holds [] { args := args } = true := (pre_splitW hpre).2
  obtain ⟨d, r, rfl, h1, h2⟩ := hasAllW_cons hsh
  obtain rfl := hasAllW_nil h2
  obtain ⟨xs, rfl, h3⟩ := hasW_list h1
  obtain ⟨ns, rfl⟩ := items_int h3
  have hlen : ns.length ≤ n := by
    unfold OpenLaw.pre at hc
    have h4 : (WTm.not (.lt (.lit (.int (n : Int))) (.len (.arg 0)))).holds [] { args := [.list (ns.map .int)] } = true := by
      have h4 := (holds_andW hc).1
      rw [hn] at h4
      exact h4
    have h5 := condW_of h4 (w_not (w_lt w_lit (w_len_list (w_arg rfl))))
    rw [List.length_map] at h5
    refine Nat.le_of_not_lt fun q => ?_
    have q' : (n : Int) < ((ns.length : Nat) : Int) := by omega
    first
      | (rw [decide_eq_true q'] at h5; exact absurd h5 (by decide))
      | (simp at h5; omega)
  cases hwl with
  | cons w1 w2 =>
    cases w2
    cases w1 with
    | list ho hall => exact ⟨_, _, ns, rfl, rfl, ho, ints_of_wellAll ns _ hall, hlen⟩

theorem post_true (l : OpenLaw) (args : List WData) : l.row.toRowW.claim.post args (.bool true) args = true :=
  postW_of (r := l.row.toRowW) (X := (true == true))
    (show WShape.has [] (.bool true) .bool = true by first | rfl | decide | simp [WShape.has, WShape.arms, WShape.armsAll])
    (show (WTm.eq .res (.lit (.bool true))).value [] { args := args, res := some (.bool true), after := args } = some (.bool (true == true)) from w_eq_bool (w_res rfl) w_lit) rfl

/-! ### the attachment: holds_open's last premise (the goal 'hc' behind k_head) from a wpAny of the law's body -/
/-- the same from a codeAny of the CALL (for a layer whose function contracts speak of calls) -/
theorem attach_call {l : OpenLaw} {n : Nat} {q : Program} {loose : List Str} {XP : (Str → Option Value) → Heap → Prop} {YP : World → Heap → Prop} {d : DefRec}
    (hn : l.most = some n) (hdf : d.params.defaults = [])
    (call : ∀ (w : World) (s₀ s₁ : Shared) (mg mb : Str → Option Value) (fa : Addr) (o : Obj) (pm cd doc : Value) (a : Addr) (vs : List Value) (ns : List Int),
      Ground q loose [] XP w s₀ mg mb s₁.heap → YP w s₁.heap →
      s₁.heap.get? fa = some o → o.data = .func (docDef d.name d.params d.body d.scope pm cd doc) → s₁.heap.CodeRec cd d.name → mg d.name = some (.ref fa) →
      s₁.heap.get? a = some { cls := .type "list", data := .seq vs.toArray } → IntsAre vs ns → ns.length ≤ n → s₁.gens = #[] →
      codeAny (model l.prog w) callerA (.call (.ref fa) ⟨[.ref a], []⟩) (fun r s' => r = .ok (.ret (.bool true)) ∧ OldK s₁.heap s'.heap ∧ s'.os = s₁.os ∧ AllBare s'.gens) s₁) :
    WalkO q loose XP YP l.row.toRowW d [] (fun f vs => PySem.call f vs) := by
  intro w s₀ s₁ mg mb G Y fa o pm cd doc dV kV ho hd hcd hD hmg hg args vals as hpre hlay hrd hwl hlo
  obtain rfl : dV = .none := Dflts.none hD hdf
  obtain rfl : kV = .none := Dflts.noKw hD
  obtain ⟨a, vs, ns, rfl, rfl, hobj, hints, hlen⟩ := script_of hn hpre hwl
  refine enter_call (codeAny_mono (call w s₀ s₁ mg mb fa o pm cd doc a vs ns G Y ho (fd_plain hd) hcd hmg hobj hints hlen hg) fun r s' hq => ?_)
  obtain ⟨rfl, h2, h3, h4⟩ := hq
  exact ⟨.inl ⟨.bool true, .bool true, [], rfl, fun _ => rfl, .bool true, post_true l _, fun _ => ⟨List.Pairwise.nil, fun _ hm => (nomatch hm)⟩⟩, h2, h3, h4⟩

/-! ### rules over ANY heap (no ledger) from facts about the written part K: the library's own take a ledger (News) for what they write -/
section
variable {prog : Program} {w : World} {A : Around} {E : Value → Shared → Prop} {s : Shared} {K : Frag}

/-! the whole heap as the ledger: makes every rule that writes through a ledger a rule over any heap -/
end
end Att

namespace L2
open PySem PySem.Spec PyProof.Rows

theorem vals_ints : ∀ {vs : List Value} {ns : List Int}, IntsAre vs ns → Vals (ns.map V.int) vs
  | _, _, .nil => .nil
  | _, _, .cons n t h => .cons ⟨t, rfl⟩ (vals_ints h)

/-- nothing is tracked but the script, known to the object (or it is an object of the module) -/
def Only (H : Hp) : Prop := ∀ b, H b = none ∨ ∃ o xs, H b = some (.frz o (.lst xs))

/-- THE HEAD: the law's promise, at the heap behind the top. F, the promise of the law's def, may use that base is part of the heap (so K.In base, base.Ns mainGlobals mg stand in Mod) -/
theorem law_call {P : Program} {w : World} {K : PySem.W.Frag} {mg mb : Str → Option Value} {CX : CXT} {k : Nat} {fa a : Addr} {fd : FuncData} {x : Str} {sp : Sp} {s₁ : Shared} {vs : List Value} {ns : List Int}
    (KX : K.In s₁.heap) (hns : s₁.heap.Ns mainGlobals mg) (hb : s₁.heap.Ns builtinsNs mb) (hbb : ∀ x : Str, x ≠ "__name__" → mb x = bootBuiltins x) (hlim : s₁.heap.NoLimit) (hg : s₁.gens = #[])
    (ha : s₁.heap.get? a = some { cls := .type "list", data := .seq vs.toArray }) (hi : IntsAre vs ns) (hl : ns.length ≤ sizeLine) (hr : Room k callerA)
    (F : ∀ base : Heap, K.In base → base.Ns mainGlobals mg → FnOk P w K mg base CX k fa fd [x] sp) (hbind : ∀ (s : Shared) (u : Value), BindsTo s fd ⟨[u], []⟩ [(x, u)])
    (hsp : ∀ H : Hp, Only H → SqL K H a (ns.map V.int) → sp [.ref a] H (fun v _ => v = .bl true) fun _ _ _ => False)
    (hCX : ∀ H e s', CX [] H s₁ (fun _ _ _ => False) e s' → False) :
    codeAny (model P w) callerA (.call (.ref fa) ⟨[.ref a], []⟩) (fun r s' => r = .ok (.ret (.bool true)) ∧ OldK s₁.heap s'.heap ∧ s'.os = s₁.os ∧ AllBare s'.gens) s₁ := by
  have rv := vals_ints hi
  have lenV := hi.length
  -- from an abstract heap in which nothing but the script may be tracked
  have core : ∀ H : Hp, Only H → SqL K H a (ns.map V.int) → HOk P w H s₁.heap → (∀ b, H b ≠ none → b = a) → (H a ≠ none → K.lookup a = none) →
      codeAny (model P w) callerA (.call (.ref fa) ⟨[.ref a], []⟩) (fun r s' => r = .ok (.ret (.bool true)) ∧ OldK s₁.heap s'.heap ∧ s'.os = s₁.os ∧ AllBare s'.gens) s₁ := by
    intro H hO hS hok hA hK
    have base_of : ∀ {b : Addr} {o : Obj}, s₁.heap.get? b = some o → H b = none → (hidT s₁.heap H).get? b = some o := fun e n => hidT_get e n
    have noA : ∀ {b : Addr} {o : Obj} {es : Array DictEntry} {ep : Nat}, s₁.heap.get? b = some o → o.data = .dict es ep → H b = none := fun {b o es ep} e d => by
      cases q : H b with
      | none => rfl
      | some u =>
        have e' : b = a := hA b (by rw [q]; simp)
        subst e'
        rw [ha] at e; cases e
        have d' : Data.seq vs.toArray _ = Data.dict es ep := d
        cases d'
    have nsK : ∀ {b : Addr} {m : Str → Option Value}, s₁.heap.Ns b m → (hidT s₁.heap H).Ns b m := fun {b m} ⟨o, es, ep, e, d, r⟩ => ⟨o, es, ep, base_of e (noA e d), d, r⟩
    have hKb : K.In (hidT s₁.heap H) := fun b o e => base_of (KX b o e) (by
      cases q : H b with
      | none => rfl
      | some u =>
        have e' : b = a := hA b (by rw [q]; simp)
        subst e'
        rw [hK (by rw [q]; simp)] at e; cases e)
    have hM : Mod K mg (hidT s₁.heap H) := ⟨hKb, nsK hns, ⟨mb, nsK hb, hbb⟩, let ⟨mc, h1, h2⟩ := hlim; ⟨mc, nsK h1, h2⟩⟩
    have e0 : Env0 P w K mg (hidT s₁.heap H) callerA [] s₁ H := ⟨rfl, hM, fun b o e => of_hidT e, Nat.le_of_eq (hidT_size _ _), trivial, fun b hb => absurd (show b ∈ ([] : List Addr) from hb) (by simp), hok, .of_eq hg⟩
    refine codeAny_mono ((F _ hKb (nsK hns)).run callerA [] s₁ H ⟨[.ref a], []⟩ [.ref a] [.ref a] _ _ hr e0 (hbind s₁ (.ref a)) (.cons rfl .nil) (hsp H hO hS)) fun r s' h => ?_
    cases r with
    | error e => exact (hCX H e s' h).elim
    | ok fl =>
      cases fl with
      | next => exact False.elim h
      | brk => exact False.elim h
      | cont => exact False.elim h
      | ret u =>
        obtain ⟨v, H', os, bare, un, hok', r', q⟩ := h
        have q' : v = .bl true := q
        subst q'
        obtain rfl : u = Value.bool true := r'
        refine ⟨rfl, OldK.of_keep fun b o e => ?_, os, bare⟩
        cases q : H b with
        | none => exact un.keep b o e q (by intro z; exact absurd (show b ∈ ([] : List Addr) from z) (by simp)) (by simp)
        | some u =>
          rcases hO b with z | ⟨ob, xs, z⟩
          · rw [q] at z; cases z
          · have z2 := un.frzs b ob _ z
            obtain ⟨e1, _⟩ := hok b _ z
            obtain ⟨e2, _⟩ := hok' b _ z2
            rw [e] at e1; cases e1
            exact e2
  cases hk : K.lookup a with
  | some o =>
    -- the script is one of the module's own objects
    have e := KX a o hk
    rw [ha] at e
    cases e
    refine core (fun _ => none) (fun _ => .inl rfl) (.inr ⟨_, vs.toArray, _, hk, rfl, rfl, rfl, by rw [List.size_toArray, lenV]; exact hl, by simpa using rv⟩) (fun b u z => by have z' : (none : Option HO) = some u := z; cases z') (fun b z => absurd rfl z) fun z => absurd rfl z
  | none =>
    refine core (fun b => if b = a then some (.frz { cls := .type "list", data := .seq vs.toArray } (.lst (ns.map V.int))) else none) (fun b => ?_) (.inl (.inr ⟨{ cls := .type "list", data := .seq vs.toArray }, if_pos rfl⟩)) (fun b u z => ?_) (fun b z => ?_) fun _ => hk
    · by_cases hb : b = a
      · exact .inr ⟨_, _, if_pos hb⟩
      · exact .inl (if_neg hb)
    · by_cases hb : b = a
      · have z' := (if_pos hb).symm.trans z
        cases z'
        subst hb
        exact ⟨ha, by rw [List.length_map]; exact hl, vs, _, rv, ha⟩
      · have z' := (if_neg hb).symm.trans z
        cases z'
    · by_cases hb : b = a
      · exact hb
      · exact absurd (if_neg hb) z
end L2

namespace L2
open PySem PySem.Spec PyProof.Rows

/-- the goal that k_head leaves (case hc), from the law's promise. F gives the function object fd (K's own) once, then the promise over every base -/
theorem walk_of {l : PySem.W.OpenLaw} {n k : Nat} {q : Program} {loose : List Str} {XP : (Str → Option Value) → Heap → Prop} {YP : World → Heap → Prop} {d : DefRec} {K : Params → PySem.W.Frag} {CX : World → CXT} {sp : World → Sp} {x : Str}
    (hn : l.most = some n) (hn2 : n ≤ sizeLine) (hdf : d.params.defaults = []) (hr : Room k callerA)
    (hY : ∀ (w : World) (h : Heap), YP w h → (K w.params).In h)
    (F : ∀ (w : World) (mg : Str → Option Value) (fa : Addr) (h : Heap), (K w.params).In h → h.Ns mainGlobals mg → mg d.name = some (.ref fa) →
      ∃ fd : FuncData, (∀ (s : Shared) (u : Value), BindsTo s fd ⟨[u], []⟩ [(x, u)]) ∧
        ∀ base : Heap, (K w.params).In base → base.Ns mainGlobals mg → FnOk l.prog w (K w.params) mg base (CX w) k fa fd [x] (sp w))
    (hsp : ∀ (w : World) (H : Hp) (a : Addr) (ns : List Int), ns.length ≤ n → Only H → SqL (K w.params) H a (ns.map V.int) → sp w [.ref a] H (fun v _ => v = .bl true) fun _ _ _ => False)
    (hCX : ∀ (w : World) (H : Hp) (s : Shared) (e : Value) (s' : Shared), CX w [] H s (fun _ _ _ => False) e s' → False) :
    PySem.W.WalkO q loose XP YP l.row.toRowW d [] (fun f vs => PySem.call f vs) := by
  refine Att.attach_call hn hdf fun w s₀ s₁ mg mb fa o pm cd doc a vs ns G Y ho hd hcd hmg hobj hints hlen hg => ?_
  have KX := hY w _ Y
  obtain ⟨fd, hb, hF⟩ := F w mg fa _ KX G.T.g hmg
  exact law_call KX G.T.g G.T.b G.T.builtins G.T.nolimit hg hobj hints (Nat.le_trans hlen hn2) hr hF hb (fun H hO hS => hsp w H a ns hlen hO hS) fun H e s' => hCX w H s₁ e s'
end L2

/- THE LAST THEOREM (shape; LID, My.* are yours):
   My.Adr: a structure of the addresses that your layer names (classes, functions); My.Txt K t: a structure (Prop) of the equations over K;
   My.txt_mk : {K} {implicit addresses ..} (e1 : nsIn K mainGlobals "law" = some (some (.ref f))) (e2 : K.lookup f = some ⟨oc, od, .func (fnOf "law" "law" params body scope dV kV doc pm an cdv ct), sl⟩) (e3 : codeIn K cdv "law" = true) .. : ∃ t, My.Txt K t

set_option maxRecDepth 100000 in
set_option maxHeartbeats 0 in
theorem PySem.Challenge.cw_LID_holds : PySem.Challenge.rw_LID.Holds := by
  w_on; o_law; k_head; (case hw => w_witness2)
  k_fill
  refine L2.walk_of (l := PySem.Challenge.rw_LID) (n := 63) (k := 40) (x := "script") (CX := fun w => ..) (sp := fun _ => My.sp_law) rfl (by decide) rfl ⟨rfl, by decide, by decide⟩ (fun w h Y => PySem.W.kIn_of Y) ?F ?S ?C
  case F =>
    intro w mg fa h KX G hmg
    have T : ∃ t, My.Txt (L2.KOf KX) t := by
      dsimp only [L2.KOf]                          -- K must stand as «<heap const> w.params» for k_is
      refine' My.txt_mk ?e1 ?e2 ?e3 ..
      (case e1 => PySem.W.k_is)                    -- in the order: a name -> its address -> its object -> its parts
      (case e2 => PySem.W.k_is)
      ..
    obtain ⟨t, T⟩ := T
    have e0 := hmg.symm.trans (PySem.W.mg_of KX G T.law)
    cases e0                                       -- fa is the law's own address
    exact ⟨_, fun s u => .of_eq rfl, fun base kb nb => My.law_fn T kb nb⟩     -- if «.of_eq rfl» comes too early: refine' ⟨_, ?b, fun base kb nb => My.law_fn T kb nb⟩; exact fun s u => .of_eq rfl
  case S => exact fun w H a ns hl hO hS => ..
  case C => exact ..
(the tactic k_is has no namespace: write k_is) -/

/-! SHORT WORDS over the layer: a def of the text, its body, what a loop and a test want. -/
namespace L2
open PySem PySem.Spec PyProof.Rows

/-! ### the text by places -/
/-- the j-th statement of a class's body -/
def inClass (s : Stmt) (j : Nat) : Stmt := match s with
  | .ClassDef _ _ _ body _ _ _ _ _ _ _ => body.getD j (.Pass ⟨0, 0, 0, 0⟩)
  | _ => .Pass ⟨0, 0, 0, 0⟩
def defArgs (s : Stmt) : Arguments := match s with
  | .FunctionDef _ a _ _ _ _ _ _ _ _ => a
  | _ => { posonlyargs := [], args := [], vararg := none, kwonlyargs := [], kw_defaults := [], kwarg := none, defaults := [] }
def defBody (s : Stmt) : List Stmt := match s with
  | .FunctionDef _ _ b _ _ _ _ _ _ _ => b
  | _ => []
def defScope (s : Stmt) : Scope := match s with
  | .FunctionDef _ _ _ _ _ _ sc _ _ _ => sc
  | _ => { kind := .function, names := [], isGenerator := false, isCoroutine := false }

/-! ### no exception leaves a def -/
abbrev CX0 : CXT := fun _ _ _ _ _ _ => False
abbrev E0 : XK := fun _ _ _ => False
theorem pass0 {X : Cx} : Passes CX0 X E0 := fun _ _ _ _ _ _ _ h => h.elim

/-! ### a def (or method) of the text as it stands behind the top -/
structure Fun (K : PySem.W.Frag) (x qual : Str) (st : Stmt) (f : Addr) (fd : FuncData) : Prop where
  ex : ∃ (oc : Value) (od : Option Addr) (kV doc pm : Value) (an : Option Addr) (cdv ct : Value) (osl : Array (Option Value)),
    fd = PySem.W.fnOf x qual (defArgs st) (defBody st) (defScope st) .none kV doc pm an cdv ct ∧ K.lookup f = some ⟨oc, od, .func fd, osl⟩ ∧ PySem.W.codeIn K cdv qual = true
  kp : PySem.W.keepIn K (.ref f) = true
section
variable {P : Program} {w : World} {K : PySem.W.Frag} {mg : Str → Option Value} {base : Heap}
/-- THE RULE for a def: its body as a term of rules, and the reading of that term -/
theorem Fun.ok {x qual : Str} {st : Stmt} {f : Addr} {fd : FuncData} {N ps : List Str} {k : Nat} {sp : Sp} (F : Fun K x qual st f fd) (S : FnScope N ps (defScope st)) (len : ∀ vs H Q E, sp vs H Q E → vs.length = ps.length)
    (hbody : ∀ (cdv : Value) (A : Around) (outer : List Env) (s : Shared) (H : Hp) (vs : List V) (Q : VK) (E : XK), Room k (A.deeper (envOfC qual (defScope st) s.heap.objs.size f cdv)) → sp vs H Q E →
      ∃ t, PSs (cxOf CX0 P w K mg base N qual (defScope st) f cdv A outer s H E).nox (defBody st) t ∧ t { nx := fun _ H' => Q .non H', rt := Q } (start N vs) H) : FnOk P w K mg base CX0 (k + 1) f fd ps sp := by
  obtain ⟨oc, od, kV, doc, pm, an, cdv, ct, osl, rfl, lk, hcd⟩ := F.ex
  refine fn_of lk hcd S len fun A outer s H vs Q E hr hsp => ?_
  obtain ⟨t, h, q⟩ := hbody cdv A outer s H vs Q E hr hsp
  exact ⟨t, h.nox, q⟩
/-- how its arguments bind (no defaults): h is «fun _ _ _ _ _ _ us hl => by obtain ⟨v0, v1, rfl⟩ := L2.ln2 hl; rfl», one _ a parameter -/
theorem Fun.binds {x qual : Str} {st : Stmt} {f : Addr} {fd : FuncData} {ps : List Str} (F : Fun K x qual st f fd)
    (h : ∀ (kV doc pm : Value) (an : Option Addr) (cdv ct : Value) (us : List Value), us.length = ps.length → bindArgs (PySem.W.fnOf x qual (defArgs st) (defBody st) (defScope st) .none kV doc pm an cdv ct) ⟨us, []⟩ = pure (ps.zip us)) : Binds K fd ps [] := by
  obtain ⟨oc, od, kV, doc, pm, an, cdv, ct, osl, rfl, lk, hcd⟩ := F.ex
  exact .all (h kV doc pm an cdv ct)
theorem fun_mk {x qual : Str} {st : Stmt} {f : Addr} {oc : Value} {od an : Option Addr} {osl : Array (Option Value)} {kV doc pm cdv ct : Value} (l : K.lookup f = some ⟨oc, od, .func (PySem.W.fnOf x qual (defArgs st) (defBody st) (defScope st) .none kV doc pm an cdv ct), osl⟩)
    (c : PySem.W.codeIn K cdv qual = true) (k : PySem.W.keepIn K (.ref f) = true) : Fun K x qual st f (PySem.W.fnOf x qual (defArgs st) (defBody st) (defScope st) .none kV doc pm an cdv ct) := ⟨⟨oc, od, kV, doc, pm, an, cdv, ct, osl, rfl, l, c⟩, k⟩
end
theorem hu_of {A : Around} {k : Nat} (hr : Room k A) : A.units + 1 < cLine := Nat.lt_of_le_of_lt (Nat.add_le_add_left (by decide : 1 ≤ 64) _) hr.units
/-! ### expressions in short: the name that stands in the i-th slot -/
section
variable {X : Cx}
theorem pv (i : Nat) {x : Str} {pos : Pos} (hN : X.N[i]? = some x := by rfl) (hv : Vis X.env.scope x := by first | exact Or.inl rfl | exact Or.inr (Or.inl rfl) | exact Or.inr (Or.inr rfl)) (hd : (x == ("__debug__" : Str)) = false := by decide)
    (hcd : (x == ("__classdict__" : Str)) = false := by decide) : PE X (.Name x pos) (tVar i) := pe_var hN hv hd hcd
end

/-! ### tests -/
theorem iteF {A B : Prop} (h : B) : if false = true then A else B := by
  rw [if_neg Bool.false_ne_true]
  exact h
theorem iteT {A B : Prop} (h : A) : if true = true then A else B := by
  rw [if_pos rfl]
  exact h
theorem ite2 {c A B : Prop} [Decidable c] (h1 : c → A) (h2 : ¬ c → B) : if c then A else B := by
  by_cases h : c
  · rw [if_pos h]
    exact h1 h
  · rw [if_neg h]
    exact h2 h
theorem iteNS {c A B : Prop} [Decidable c] (hc : c) (h : B) : if (!decide c) = true then A else B := by
  rw [decide_eq_true hc]
  exact iteF h

/-! ### heaps -/
/-- all that was tracked is as it was -/
def Same (H H' : Hp) : Prop := ∀ b o, H b = some o → H' b = some o
theorem Same.refl (H : Hp) : Same H H := fun _ _ h => h
theorem Same.trans {H H1 H2 : Hp} (a : Same H H1) (b : Same H1 H2) : Same H H2 := fun c o h => b c o (a c o h)
section
variable {X : Cx}
end
/-! ### a dict's pairs: keys that differ -/
section
variable {κ : Type} [DecidableEq κ]
end
end L2

/-! MORE OF THE HAND LAYER (own work): comprehensions, texts walked and sliced, all, any, isinstance. -/
namespace L2
open PySem PySem.Spec PyProof.Rows

/-! ### the cells that a comprehension's block takes over -/
def closF (env : Env) (cs : List (Str × Addr)) (y : Str × NameKind) : List (Str × Addr) :=
  if (y.2 == NameKind.free) = true then (y.1, (env.cells.lookup y.1).getD 0) :: cs else cs
def closL (env : Env) (names : List (Str × NameKind)) : List (Str × Addr) := names.foldl (closF env) []
theorem clos_from {env : Env} : ∀ (names : List (Str × NameKind)) (cs : List (Str × Addr)), (∀ y ∈ names, y.2 = .free → ∃ c, env.cells.lookup y.1 = some c) →
    (forIn names cs fun y r => (if (y.2 == NameKind.free) = true then do let a ← cellOf env y.1; pure (ForInStep.yield ((y.1, a) :: r)) else pure (ForInStep.yield r) : Sem (ForInStep (List (Str × Addr))))) = pure (names.foldl (closF env) cs)
  | [], cs, _ => rfl
  | y :: r, cs, h => by
    rw [List.forIn_cons, List.foldl_cons]
    by_cases hy : (y.2 == NameKind.free) = true
    · obtain ⟨c, hc⟩ := h y List.mem_cons_self (eq_of_beq hy)
      have e : cellOf env y.1 = pure c := by unfold cellOf; rw [hc]
      rw [if_pos hy, e, pure_bind, pure_bind]
      have e2 : closF env cs y = (y.1, c) :: cs := by unfold closF; rw [if_pos hy, hc]; rfl
      rw [e2]
      exact clos_from r _ fun z hz => h z (List.mem_cons_of_mem _ hz)
    · rw [if_neg hy, pure_bind]
      have e2 : closF env cs y = cs := by unfold closF; rw [if_neg hy]
      rw [e2]
      exact clos_from r _ fun z hz => h z (List.mem_cons_of_mem _ hz)
theorem clos_ok {env : Env} {scope : Scope} (h : ∀ y ∈ scope.names, y.2 = .free → ∃ c, env.cells.lookup y.1 = some c) : closureFor scope env = pure (closL env scope.names) := by
  have e := clos_from (env := env) scope.names [] h
  unfold closL
  rw [← e]
  simp only [closureFor, bind_pure_comp, map_pure, bind_pure]
theorem clos_sub {env : Env} : ∀ (names : List (Str × NameKind)) (cs : List (Str × Addr)), (∀ y ∈ names, y.2 = .free → ∃ c, env.cells.lookup y.1 = some c) → (∀ x c, cs.lookup x = some c → env.cells.lookup x = some c) →
    ∀ x c, (names.foldl (closF env) cs).lookup x = some c → env.cells.lookup x = some c
  | [], cs, _, hc, x, c, e => hc x c e
  | y :: r, cs, h, hc, x, c, e => by
    rw [List.foldl_cons] at e
    refine clos_sub r _ (fun z hz => h z (List.mem_cons_of_mem _ hz)) (fun z d q => ?_) x c e
    unfold closF at q
    by_cases hy : (y.2 == NameKind.free) = true
    · obtain ⟨c', hc'⟩ := h y List.mem_cons_self (eq_of_beq hy)
      rw [if_pos hy, List.lookup_cons, hc'] at q
      cases hz : z == y.1 with
      | true =>
        rw [hz] at q
        have q' : c' = d := Option.some.inj q
        rw [eq_of_beq hz, hc', q']
      | false =>
        rw [hz] at q
        exact hc z d q
    · rw [if_neg hy] at q
      exact hc z d q
theorem clos_has {env : Env} : ∀ (names : List (Str × NameKind)) (cs : List (Str × Addr)) (x : Str), ((x, NameKind.free) ∈ names ∨ ∃ c, cs.lookup x = some c) → ∃ c, (names.foldl (closF env) cs).lookup x = some c
  | [], cs, x, h => by
    rcases h with h | h
    · cases h
    · exact h
  | y :: r, cs, x, h => by
    rw [List.foldl_cons]
    refine clos_has r _ x ?_
    rcases h with h | ⟨c, h⟩
    · rcases List.mem_cons.mp h with e | e
      · subst e
        refine .inr ⟨(env.cells.lookup x).getD 0, ?_⟩
        unfold closF
        rw [if_pos (show ((x, NameKind.free).2 == NameKind.free) = true from rfl), List.lookup_cons, beq_self_eq_true]
      · exact .inl e
    · refine .inr ?_
      unfold closF
      by_cases hy : (y.2 == NameKind.free) = true
      · rw [if_pos hy, List.lookup_cons]
        cases hz : x == y.1 with
        | true => exact ⟨_, rfl⟩
        | false => exact ⟨c, h⟩
      · rw [if_neg hy]
        exact ⟨c, h⟩

/-! ### a comprehension's block -/
/-- the context in which its element and its tests run -/
abbrev cxComp (X : Cx) (scope : Scope) (N : List Str) (s : Shared) (H : Hp) (fp : List Addr) : Cx where
  prog := X.prog
  w := X.w
  K := X.K
  mg := X.mg
  base := X.base
  A := X.A
  N := N
  s₀ := s
  H₀ := H
  env := compEnvC scope (closL X.env scope.names) s.heap.objs.size X.env
  outer := X.stack
  stack := X.stack
  ex := fp
  fn := fun _ => false
  calm := X.calm
  pn := []
  xe := fun _ _ => False

/-- what of the text of a comprehension must be seen: xs its own names, fr the places of the names that it reads from around -/
structure CompTx (osc scope : Scope) (N0 : List Str) (xs : List Str) (fr : List Nat) : Prop where
  kind : scope.kind = .function
  nocell : ∀ y ∈ scope.names, y.2 ≠ .cell
  names : ∀ y ∈ scope.names, y.2 = .local → scope.names.lookup y.1 = some .local
  free : ∀ y ∈ scope.names, y.2 = .free → osc.names.lookup y.1 = some .cell ∨ osc.names.lookup y.1 = some .free
  fro : ∀ j ∈ fr, ∃ x, N0[j]? = some x ∧ scope.names.lookup x = some .free
  nd : (xs ++ fr.map fun j => N0.getD j "").Nodup

def compN (N0 : List Str) (xs : List Str) (fr : List Nat) : List Str := xs ++ fr.map fun j => N0.getD j ""
def compSt (xs : List Str) (fr : List Nat) (σ : St) : St := xs.map (fun _ => none) ++ fr.map fun j => (σ[j]?).join

theorem mem_of_lookup' {κ : Type} : ∀ {l : List (Str × κ)} {x : Str} {k : κ}, l.lookup x = some k → (x, k) ∈ l
  | [], _, _, h => by cases h
  | (n, k') :: r, x, k, h => by
    rw [List.lookup_cons] at h
    cases hx : x == n with
    | true =>
      rw [hx] at h
      have h' : k' = k := Option.some.inj h
      rw [eq_of_beq hx, h']
      exact List.mem_cons_self
    | false =>
      rw [hx] at h
      exact List.mem_cons_of_mem _ (mem_of_lookup' h)
/-- what a name of the block is -/
theorem relabel_look {env : Env} : ∀ {names : List (Str × NameKind)} {x : Str} {k : NameKind},
    (names.map fun (n, k) => if (k == NameKind.free && env.scope.kind == .function && env.kindOf n == some .cell) then (n, NameKind.cell) else (n, k)).lookup x = some k →
    names.lookup x = some k ∨ (k = .cell ∧ names.lookup x = some .free)
  | [], _, _, h => by cases h
  | (n, k') :: r, x, k, h => by
    have ih := @relabel_look env r x k
    rw [List.map_cons] at h
    rw [List.lookup_cons]
    by_cases hc : (k' == NameKind.free && env.scope.kind == .function && env.kindOf n == some .cell) = true
    · have h' : List.lookup x ((n, NameKind.cell) :: (r.map fun (n, k) => if (k == NameKind.free && env.scope.kind == .function && env.kindOf n == some .cell) then (n, NameKind.cell) else (n, k))) = some k := by
        rw [← h]; simp only [hc, if_true]
      rw [List.lookup_cons] at h'
      cases hx : x == n with
      | true =>
        rw [hx] at h'
        have h2 : NameKind.cell = k := Option.some.inj h'
        rw [Bool.and_eq_true, Bool.and_eq_true] at hc
        exact .inr ⟨h2.symm, congrArg some (eq_of_beq hc.1.1)⟩
      | false =>
        rw [hx] at h'
        exact ih h'
    · have h' : List.lookup x ((n, k') :: (r.map fun (n, k) => if (k == NameKind.free && env.scope.kind == .function && env.kindOf n == some .cell) then (n, NameKind.cell) else (n, k))) = some k := by
        rw [← h]; simp only [hc]; rfl
      rw [List.lookup_cons] at h'
      cases hx : x == n with
      | true =>
        rw [hx] at h'
        exact .inl h'
      | false =>
        rw [hx] at h'
        exact ih h'
theorem relabel_free {env : Env} : ∀ {names : List (Str × NameKind)} {x : Str}, names.lookup x = some .free →
    (names.map fun (n, k) => if (k == NameKind.free && env.scope.kind == .function && env.kindOf n == some .cell) then (n, NameKind.cell) else (n, k)).lookup x = some .cell ∨
    (names.map fun (n, k) => if (k == NameKind.free && env.scope.kind == .function && env.kindOf n == some .cell) then (n, NameKind.cell) else (n, k)).lookup x = some .free
  | [], _, h => by cases h
  | (n, k') :: r, x, h => by
    have ih := @relabel_free env r x
    rw [List.lookup_cons] at h
    rw [List.map_cons]
    by_cases hc : (k' == NameKind.free && env.scope.kind == .function && env.kindOf n == some .cell) = true
    · have e : (match (n, k') with | (n, k) => if (k == NameKind.free && env.scope.kind == .function && env.kindOf n == some .cell) then (n, NameKind.cell) else (n, k)) = (n, NameKind.cell) := by
        simp only [hc, if_true]
      rw [e, List.lookup_cons]
      cases hx : x == n with
      | true => exact .inl rfl
      | false => rw [hx] at h; exact ih h
    · have e : (match (n, k') with | (n, k) => if (k == NameKind.free && env.scope.kind == .function && env.kindOf n == some .cell) then (n, NameKind.cell) else (n, k)) = (n, k') := by
        simp only [hc]; rfl
      rw [e, List.lookup_cons]
      cases hx : x == n with
      | true =>
        rw [hx] at h
        exact .inr h
      | false => rw [hx] at h; exact ih h

section
variable {X : Cx}
theorem comp_free {osc scope : Scope} {N0 xs : List Str} {fr : List Nat} {pins : List (Addr × Obj)} {σ : St} {H : Hp} {s : Shared} (C : CompTx osc scope N0 xs fr) (ho : X.env.scope = osc) (I : Inv X pins σ H s) :
    ∀ y ∈ scope.names, y.2 = .free → ∃ c, X.env.cells.lookup y.1 = some c := fun y hy e => by
  refine I.ok.has y.1 ?_
  rw [← ho] at C
  exact C.free y hy e

/-- the block's entry -/
theorem comp_start {osc scope : Scope} {N0 xs : List Str} {fr : List Nat} {pins : List (Addr × Obj)} {σ : St} {H : Hp} {s : Shared} {fp : List Addr} {h₁ : Heap} {tk : Nat} (C : CompTx osc scope N0 xs fr) (ho : X.env.scope = osc) (hN0 : X.N = N0) (I : Inv X pins σ H s)
    (hf : ∀ b ∈ fp, FpOk X pins H b) (hlt : ∀ b ∈ fp, b < s.heap.objs.size) (hn : h₁.Ns s.heap.objs.size fun _ => none) (hk : ∀ b o, s.heap.get? b = some o → h₁.get? b = some o) :
    Inv (cxComp X scope (compN N0 xs fr) s H fp) [] (compSt xs fr σ) H { s with heap := h₁, toks := tk } := by
  subst hN0
  have hfree := comp_free C ho I
  have sub := clos_sub (env := X.env) scope.names [] hfree (fun x c e => by cases e)
  have nC : ∀ x c, X.env.cells.lookup x = some c → c ≠ s.heap.objs.size := fun x c e z => by
    obtain ⟨v, q⟩ := I.cell x c e
    exact absurd q.lt (by rw [z]; exact Nat.lt_irrefl _)
  refine ⟨⟨I.ok.mod, C.kind, I.ok.glob, I.ok.blt, Nat.le_refl _, fun x y c h1 h2 => I.ok.inj x y c (sub x c h1) (sub y c h2), fun x hx => ?_, fun x c h _ => (Bool.false_ne_true h).elim, I.ok.hd, I.ok.frames, .inl rfl, fun b hb => ?_, I.bs, Nat.le_trans I.ok.bsz I.sz, fun b o e hb => ?_, fun b hb hz => ?_, I.stack, I.stkFree⟩,
    rfl, I.bare, Un.kept hk, ⟨_, hn, fun i x v h1 h2 h3 => ?_⟩, fun x c h => ?_, I.hok.fresh (Nat.le_refl _), fun x c h => I.freeC x c (sub x c h), fun p hp => absurd (show p ∈ ([] : List (Addr × Obj)) from hp) (by simp), I.hok.kept hk, ?_⟩
  · have hx' : (relabel scope X.env).names.lookup x = some .cell ∨ (relabel scope X.env).names.lookup x = some .free := hx
    refine clos_has (env := X.env) scope.names [] x (.inl ?_)
    rcases hx' with q | q
    · rcases relabel_look q with z | ⟨_, z⟩
      · exact absurd rfl (C.nocell _ (mem_of_lookup' z))
      · exact mem_of_lookup' z
    · rcases relabel_look q with z | ⟨z, _⟩
      · exact mem_of_lookup' z
      · cases z
  · exact ⟨Nat.ne_of_lt (hlt b hb), fun x c h => (hf b hb).2.2.2.2.1 x c (sub x c h)⟩
  · rcases (hf b hb).2.2.2.1 with z | z
    · exact I.ok.noex b o e z
    · exact absurd (Nat.lt_of_lt_of_le (Heap.lt_size e) (Nat.le_trans I.ok.bsz z)) (Nat.lt_irrefl _)
  · rcases List.mem_cons.mp (I.stkSub b hz) with z | z
    · exact (hf b hb).2.1 z
    · exact (hf b hb).2.2.1 z
  · -- a name that is set stands behind the block's own ones
    have hi : ¬ i < xs.length := fun hi => by
      unfold compSt at h2
      rw [List.getElem?_append_left (by rw [List.length_map]; exact hi), List.getElem?_map] at h2
      cases q : xs[i]? with
      | none => rw [q] at h2; cases h2
      | some y => rw [q] at h2; cases h2
    have hi' : xs.length ≤ i := Nat.le_of_not_lt hi
    have e2 : (fr.map fun j => (σ[j]?).join)[i - xs.length]? = some (some v) := by
      have := h2
      unfold compSt at this
      rw [List.getElem?_append_right (by rw [List.length_map]; exact hi'), List.length_map] at this
      exact this
    rw [List.getElem?_map] at e2
    cases q : fr[i - xs.length]? with
    | none => rw [q] at e2; cases e2
    | some j =>
      rw [q] at e2
      have e3 : (σ[j]?).join = some v := Option.some.inj e2
      have e4 : σ[j]? = some (some v) := by
        cases z : σ[j]? with
        | none => rw [z] at e3; cases e3
        | some u => rw [z] at e3; rw [show u = some v from e3]
      obtain ⟨y, hy, hyf⟩ := C.fro j (List.mem_of_getElem? q)
      have ex : x = y := by
        have h1' : (compN X.N xs fr)[i]? = some x := h1
        unfold compN at h1'
        rw [List.getElem?_append_right hi', List.getElem?_map, q] at h1'
        have h5 : X.N.getD j "" = x := Option.some.inj h1'
        rw [← h5, List.getD_eq_getElem?_getD, hy]
        rfl
      subst ex
      obtain ⟨m, _, hl⟩ := I.loc
      have kf := C.free _ (mem_of_lookup' hyf) rfl
      rw [← ho] at kf
      have vis : Vis X.env.scope x := by
        rcases kf with z | z
        · exact .inr (.inl z)
        · exact .inr (.inr z)
      obtain ⟨u, r, l⟩ := hl j x v hy e4 vis
      refine ⟨u, r, .inr ⟨relabel_free hyf, ?_⟩⟩
      rcases l with ⟨z, _⟩ | ⟨_, c, hc, hcell⟩
      · have z' : X.env.scope.names.lookup x = some .local := z
        rcases kf with w | w
        · rw [z'] at w; cases w
        · rw [z'] at w; cases w
      · obtain ⟨c', hc'⟩ := clos_has (env := X.env) scope.names [] x (.inl (mem_of_lookup' hyf))
        have e5 := sub x c' hc'
        rw [hc] at e5
        cases e5
        refine ⟨c, hc', ?_⟩
        obtain ⟨o, ho', hd⟩ := hcell
        exact ⟨o, hk _ _ ho', hd⟩
  · obtain ⟨v, o, ho', hd⟩ := I.cell x c (sub x c h)
    exact ⟨v, o, hk _ _ ho', hd⟩
  · show (compSt xs fr σ).length = (compN X.N xs fr).length
    unfold compSt compN
    simp
end
end L2

namespace L2
open PySem PySem.Spec PyProof.Rows

/-! ### the tests of a comprehension: none, or one -/
def PIf (X : Cx) (ifs : List Expr) (t : TT) : Prop :=
  ∀ (pins : List (Addr × Obj)) (s : Shared) (σ : St) (H : Hp) (Q : Bool → Hp → Prop), Inv X pins σ H s → t σ H Q →
    wpAny (model X.prog X.w) X.A (forIn ifs true fun c r => if r = true then do let ok ← isTrue c X.env (eval c X.env); pure (ForInStep.yield ok) else pure (ForInStep.yield r)) (TP X pins σ Q) X.xe s
def tYes : TT := fun _ H Q => Q true H
theorem pif_nil {X : Cx} : PIf X [] tYes := fun _ _ σ H Q I h => wpAny_tests_nil ⟨H, I, h⟩
/-- what is wanted of a comprehension's walk over J: W by the turn, a measure, the block's names, the heap; D the list; N behind an element that is kept, M behind one that is left out -/
def CompW (J : It) (g : TG) (tt : TT) (te : TE) (R : Addr → Hp → Prop) (D : Addr) (σ0 : St) (H0 : Hp) : Prop :=
  ∃ W : Nat → Nat → St → Hp → Prop, (∃ m, W 0 m σ0 H0) ∧ ∀ i m σ H, W i m σ H →
    (J.stop i H ∧ R D H) ∨
    (J.go i H ∧ ∃ (N : St → V → Hp → Prop) (M : St → Hp → Prop), (∀ σ2 y H4, N σ2 y H4 → ∃ ys, H4 D = some (.lst ys) ∧ ys.length < sizeLine ∧ ∃ m', m' < m ∧ W (i + 1) m' σ2 (upd H4 D (.lst (ys ++ [y])))) ∧
      (∀ σ2 H3, M σ2 H3 → ∃ m', m' < m ∧ W (i + 1) m' σ2 H3) ∧
      ∀ x H', J.yld i H x H' → g x σ H' fun σ2 H2 => tt σ2 H2 fun b H3 => if b = true then te σ2 H3 (N σ2) else M σ2 H3)
/-- [elt for tg in iter if ..] -/
def tComp (xs : List Str) (fr : List Nat) (wi : TI) (g : TG) (tt : TT) (te : TE) : TE := fun σ H Q => wi σ H fun J H1 => ∀ D, H1 D = none → CompW J g tt te (fun D H2 => Q (.ref D) H2) D (compSt xs fr σ) (upd H1 D (.lst []))
/-- x = [elt for tg in iter if ..], x in the i-th slot -/
def sComp (i : Nat) (xs : List Str) (fr : List Nat) (wi : TI) (g : TG) (tt : TT) (te : TE) : TS := fun E σ H => wi σ H fun J H1 => ∀ D, H1 D = none → CompW J g tt te (fun D H2 => E.nx (σ.set i (some (.ref D))) H2) D (compSt xs fr σ) (upd H1 D (.lst []))

section
variable {X : Cx}
theorem comp_block {osc scope : Scope} {N0 xs : List Str} {fr : List Nat} {pins : List (Addr × Obj)} {σ : St} {H2 : Hp} {s2 : Shared} {fp : List Addr} {it : Addr} {tn : Nat → Heap → Prop} {J : It} {elt tg iter : Expr} {ifs : List Expr} {pos : Pos}
    {g : TG} {tt : TT} {te : TE} {E : Value → Shared → Prop} {R : Addr → Hp → Prop} {RR : Value → Addr → Result → Shared → Prop} (C : CompTx osc scope N0 xs fr) (ho : X.env.scope = osc) (hN0 : X.N = N0) (hc : X.calm = true)
    (hg : ∀ s H fp, PG (cxComp X scope (compN N0 xs fr) s H fp) tg g) (ht : ∀ s H fp, PIf (cxComp X scope (compN N0 xs fr) s H fp) ifs tt) (he : ∀ s H fp, PE (cxComp X scope (compN N0 xs fr) s H fp) elt te)
    (I2 : Inv X pins σ H2 s2) (T : Turn X.prog X.w X.K tg J fp it tn) (st2 : tn 0 s2.heap) (f2 : ∀ b ∈ fp, FpOk X pins H2 b)
    (hR : ∀ D, H2 D = none → CompW J g tt te R D (compSt xs fr σ) (upd H2 D (.lst [])))
    (hRR : ∀ (D C : Addr) (s' : Shared) (H' : Hp) (m : Str → Option Value), Inv X pins σ H' s' → s'.heap.Ns C m → FpOk X pins H' C → R D H' → RR (.ref D) C (.ok .next) s') :
    wpAny (model X.prog X.w) X.A (newList []) (fun acc s₃ => wpAny (model X.prog X.w) X.A (newFunctionEnv scope X.env.globals (closL X.env scope.names) [] X.env.qual none .none (some X.env)) (fun cenv s₄ =>
      codeAny (model X.prog X.w) X.A (.compStart (.ListComp elt [⟨tg, iter, ifs, 0⟩] scope pos) 0 (.ref it) acc { cenv with scope := relabel scope X.env }) (RR acc cenv.locals) s₄) E s₃) E s2 := by
  refine wpAny_newObj_type (wpAny_newFunctionEnv C.nocell (by intro y hy; simp at hy) (fun h₁ hns₁ hsb₁ => ?_) C.kind)
  dsimp only at hns₁ hsb₁ ⊢
  have I3 : Inv X pins σ (upd H2 s2.heap.objs.size (.lst [])) { s2 with heap := s2.heap.push { cls := .type "list", data := .seq ([] : List Value).toArray } } := I2.lnew (its := []) (t' := s2.toks) .nil (by simp)
  have flt : ∀ b ∈ fp, b < s2.heap.objs.size := fun b hb => by
    obtain ⟨o, e, _⟩ := T.obj 0 _ st2 b hb
    exact Heap.lt_size e
  have f3 : ∀ b ∈ fp, FpOk X pins (upd H2 s2.heap.objs.size (.lst [])) b := fun b hb => ⟨by rw [upd_ne (Nat.ne_of_lt (flt b hb))]; exact (f2 b hb).1, (f2 b hb).2⟩
  have flt3 : ∀ b ∈ fp, b < (s2.heap.push { cls := .type "list", data := .seq ([] : List Value).toArray }).objs.size := fun b hb => by
    rw [Heap.size_push]
    exact Nat.lt_succ_of_lt (flt b hb)
  obtain ⟨W, ⟨m0, w0⟩, turn⟩ := hR s2.heap.objs.size I2.fresh
  generalize hD : s2.heap.objs.size = D at *
  generalize hs3 : s2.heap.push { cls := .type "list", data := .seq ([] : List Value).toArray } = h3 at *
  have up2 : ∀ b o, s2.heap.get? b = some o → h3.get? b = some o := fun b o e => by rw [← hs3]; exact Heap.get?_push_of_some _ e
  have old : ∀ b o, h3.get? b = some o → h₁.get? b = some o := fun b o e => hsb₁.extBut b o (Nat.ne_of_lt (Heap.lt_size e)) (Heap.get?_push_of_some _ e)
  have Ic := comp_start (tk := s2.toks + ([] : List (Str × Value)).length) C ho hN0 I3 f3 flt3 hns₁ old
  have st4 : tn 0 h₁ := T.keep 0 _ _ st2 fun b hb o e => old b o (up2 b o e)
  have stat : ∀ {H' : Hp}, (∀ b ∈ fp, H' b = none) → ∀ b ∈ fp, FpOk (cxComp X scope (compN N0 xs fr) { s2 with heap := h3 } (upd H2 D (.lst [])) fp) [] H' b := fun hn b hb =>
    ⟨hn b hb, Nat.ne_of_lt (flt3 b hb), fun z => by
      rcases List.mem_cons.mp (I3.stkSub b z) with q | q
      · exact (f3 b hb).2.1 q
      · exact (f3 b hb).2.2.1 q, .inl hb, fun x c h => (Ic.ok.exf b hb).2 x c h, fun p hp => absurd (show p ∈ ([] : List (Addr × Obj)) from hp) (by simp)⟩
  have fin : ∀ {σ' : St} {H' : Hp} {s' : Shared}, Inv (cxComp X scope (compN N0 xs fr) { s2 with heap := h3 } (upd H2 D (.lst [])) fp) [] σ' H' s' → R D H' → RR (.ref D) h3.objs.size (.ok .next) s' := fun {σ' H' s'} I' q => by
    obtain ⟨m, hm, _⟩ := I'.loc
    refine hRR D h3.objs.size s' H' m (I3.call' I'.os I'.base I'.hok I'.bare fun b hb => ?_) hm (I3.fpOk (Nat.le_refl _) I'.free) q
    exact ⟨(f3 b hb).2.2.2.1, (f3 b hb).2.1, (f3 b hb).2.2.2.2.1, (f3 b hb).2.2.2.2.2⟩
  have loop : codeAny (model X.prog X.w) X.A (.compLoop (.ListComp elt [⟨tg, iter, ifs, 0⟩] scope pos) 0 (.ref it) (.ref D) (compEnvC scope (closL X.env scope.names) h3.objs.size X.env)) (RR (.ref D) h3.objs.size) { s2 with heap := h₁, toks := s2.toks + ([] : List (Str × Value)).length } := by
    refine codeAny_loop rfl (fun n s' => ∃ i σ' H', Inv (cxComp X scope (compN N0 xs fr) { s2 with heap := h3 } (upd H2 D (.lst [])) fp) [] σ' H' s' ∧ tn i s'.heap ∧ (∀ b ∈ fp, H' b = none) ∧ W i n σ' H') (fun n s' hI => ?_) m0 ⟨0, _, _, Ic, st4, fun b hb => (f3 b hb).1, w0⟩
    show wpAny _ X.A ((compTurn (.ListComp elt [⟨tg, iter, ifs, 0⟩] scope pos) 0 (.ref it) (.ref D) (compEnvC scope (closL X.env scope.names) h3.objs.size X.env)).onRaise (fun x => do noteFrame x (compEnvC scope (closL X.env scope.names) h3.objs.size X.env); theTreesLotGoes x)) _ _ s'
    refine wpAny_noted ?_
    rw [compTurn_list]
    obtain ⟨i, σ', H', I', st', fr', w'⟩ := hI
    refine wpAny_bind (wpAny_standAt (wpAny_bind ?_))
    rcases turn i n σ' H' w' with ⟨stop, q⟩ | ⟨go, N, M, hN, hM, step⟩
    · refine thn (T.done (cxComp X scope (compN N0 xs fr) { s2 with heap := h3 } (upd H2 D (.lst [])) fp) rfl rfl rfl hc i [] s' σ' H' _ I' (stat fr') st' stop) fun r s4 ⟨hr, I4⟩ => ?_
      subst hr
      exact wpAny_pure (fin I4 q)
    · refine thn (T.item (cxComp X scope (compN N0 xs fr) { s2 with heap := h3 } (upd H2 D (.lst [])) fp) rfl rfl rfl hc i [] s' σ' H' _ I' (stat fr') st' go) fun r s4 ⟨u, hr, h4⟩ => ?_
      subst hr
      refine wpAny_bind (thn h4 fun _ s5 ⟨x, H5, I5, r5, y5, st5, fr5⟩ => ?_)
      have I5' := I5.pinned (stat fr5) (T.obj _ _ st5)
      have again : ∀ {σ7 : St} {H7 : Hp} {s7 : Shared}, Inv (cxComp X scope (compN N0 xs fr) { s2 with heap := h3 } (upd H2 D (.lst [])) fp) ([] ++ pinsAt fp s5.heap) σ7 H7 s7 → (∃ m', m' < n ∧ W (i + 1) m' σ7 H7) →
          ∃ m, m < n ∧ ∃ i σ' H', Inv (cxComp X scope (compN N0 xs fr) { s2 with heap := h3 } (upd H2 D (.lst [])) fp) [] σ' H' s7 ∧ tn i s7.heap ∧ (∀ b ∈ fp, H' b = none) ∧ W i m σ' H' := fun {σ7 H7 s7} I7 n7 => by
        obtain ⟨m', hm, w7⟩ := n7
        refine ⟨m', hm, i + 1, σ7, H7, I7.unpinned, T.keep _ _ _ st5 fun b hb o e => (I7.pin (b, o) (List.mem_append_right _ (List.mem_append_right _ (mem_pinsAt hb e)))).1, fun b hb => ?_, w7⟩
        obtain ⟨o, e, d⟩ := T.obj _ _ st5 b hb
        exact (I7.pin (b, o) (List.mem_append_right _ (List.mem_append_right _ (mem_pinsAt hb e)))).2.1
      refine wpAny_bind (wpAny_mono (hg _ _ _ _ s5 σ' H5 x u _ I5' r5 (step x H5 y5)) (fun _ s6 ⟨σ6, H6, I6, q6⟩ => ?_) fun _ _ z => False.elim z)
      refine wpAny_bind (wpAny_mono (ht _ _ _ _ s6 σ6 H6 _ I6 q6) (fun ok s7 ⟨H7, I7, q7⟩ => ?_) fun _ _ z => False.elim z)
      cases ok with
      | false =>
        rw [if_neg Bool.false_ne_true] at q7
        exact wpAny_pure ⟨rfl, again I7 (hM _ _ q7)⟩
      | true =>
        rw [if_pos rfl] at q7
        refine wpAny_bind (wpAny_bind (wpAny_mono (he _ _ _ _ s7 σ6 H7 _ I7 q7) (fun y s8 ⟨v, H8, I8, r8, q8⟩ => ?_) fun _ _ z => False.elim z))
        obtain ⟨ys, eD, hz, q8⟩ := hN _ _ _ q8
        refine wpAny_bind (wpAny_mono (mt_append (X := cxComp X scope (compN N0 xs fr) { s2 with heap := h3 } (upd H2 D (.lst [])) fp) _ s8 σ6 H8 (.ref D) [v] (.ref D) [y] (fun _ H9 => ∃ m', m' < n ∧ W (i + 1) m' σ6 H9) I8 rfl (.cons r8 .nil) ⟨D, ys, v, rfl, rfl, eD, hz, q8⟩) (fun _ s9 ⟨_, H9, I9, _, q9⟩ => ?_) fun _ _ z => False.elim z)
        exact wpAny_pure (wpAny_pure ⟨rfl, again I9 q9⟩)
  exact codeAny_compStart_list loop (T.self X.A 0 _ _ _ st4 loop)

variable {osc scope : Scope} {N0 xs : List Str} {fr : List Nat} {elt tg iter : Expr} {ifs : List Expr} {pos : Pos} {wi : TI} {g : TG} {tt : TT} {te : TE}
theorem pe_comp (C : CompTx osc scope N0 xs fr) (ho : X.env.scope = osc) (hN0 : X.N = N0) (hc : X.calm = true) (hi : PI X tg iter wi)
    (hg : ∀ s H fp, PG (cxComp X scope (compN N0 xs fr) s H fp) tg g) (ht : ∀ s H fp, PIf (cxComp X scope (compN N0 xs fr) s H fp) ifs tt) (he : ∀ s H fp, PE (cxComp X scope (compN N0 xs fr) s H fp) elt te)
    (hs : ∀ x, foldedSetIterable iter X.env x = pure x := by intro _; rfl) : PE X (.ListComp elt [⟨tg, iter, ifs, 0⟩] scope pos) (tComp xs fr wi g tt te) := by
  intro pins s σ H Q I h
  rw [eval_ListComp]
  refine wpAny_comprehension_free (use := none) rfl hs (clos_ok (comp_free C ho I)) C.kind C.names (thn (hi pins s σ H _ I h) fun v s1 h1 => thn h1 fun itv s2 h2 => ?_)
  obtain ⟨it, fp, tn, J, H2, e, I2, T, st2, f2, hR⟩ := h2
  subst e
  refine comp_block C ho hN0 hc hg ht he I2 T st2 f2 hR fun D C s' H' m I' hm fC q => ?_
  refine ⟨m, hm, fun h' sb => ⟨.ref D, H', ?_, rfl, q⟩⟩
  exact I'.turned (t' := s'.toks) (fun b o hb e => (sb.2 b hb).trans e) fC.1 fC.2.1 fC.2.2.2.1 fC.2.2.2.2.1 fC.2.2.2.2.2
theorem ps_comp {i : Nat} {y : Str} {py spos : Pos} (C : CompTx osc scope N0 xs fr) (ho : X.env.scope = osc) (hN0 : X.N = N0) (hc : X.calm = true) (hi : PI X tg iter wi)
    (hg : ∀ s H fp, PG (cxComp X scope (compN N0 xs fr) s H fp) tg g) (ht : ∀ s H fp, PIf (cxComp X scope (compN N0 xs fr) s H fp) ifs tt) (he : ∀ s H fp, PE (cxComp X scope (compN N0 xs fr) s H fp) elt te)
    (hN : X.N.Nodup) (hy : X.N[i]? = some y) (hx : Loc X.env.scope y)
    (hsw : swapsWith (.ListComp elt [⟨tg, iter, ifs, 0⟩] scope pos) (some (.Name y py)) spos.line X.env = pure true := by rfl)
    (hf : X.fn y = true ∨ X.env.scope.names.lookup y = some .local := by first | exact .inl rfl | exact .inr rfl | assumption)
    (hs : ∀ x, foldedSetIterable iter X.env x = pure x := by intro _; rfl) : PS X (.Assign [.Name y py] (.ListComp elt [⟨tg, iter, ifs, 0⟩] scope pos) spos) (sComp i xs fr wi g tt te) := by
  intro pins s σ H D I h
  rw [exec_Assign_Name_used _ _ _ _ hsw]
  refine wpAny_bind (wpAny_standAt (wpAny_bind ?_))
  show wpAny _ X.A (do let _ ← comprehension (.ListComp elt [⟨tg, iter, ifs, 0⟩] scope pos) scope X.env _ (newList []) false (eval iter X.env) (some (assign (.Name y py) X.env))) _ _ s
  refine wpAny_bind (wpAny_mono (wpAny_comprehension_free (use := some (assign (.Name y py) X.env)) (Q := fun _ s' => SP X pins D .next s') rfl hs (clos_ok (comp_free C ho I)) C.kind C.names
    (thn (hi pins s σ H _ I h) fun v s1 h1 => thn h1 fun itv s2 h2 => ?_)) (fun _ s' hq => wpAny_pure (wpAny_pure hq)) fun _ _ e => e)
  obtain ⟨it, fp, tn, J, H2, e, I2, T, st2, f2, hR⟩ := h2
  subst e
  refine comp_block C ho hN0 hc hg ht he I2 T st2 f2 hR fun Dl C s' H' m I' hm fC q => ?_
  refine wpAny_assign_Name (store_ok2 I' hN hy hx (show RelV (.ref Dl) (.ref Dl) from rfl) (fun s3 I3 hsb => ?_) hf)
  obtain ⟨a, sb, ha⟩ := hsb
  have hCa : C ≠ a := by
    rcases ha with z | z
    · rw [z]; exact fC.2.1
    · exact fun w => fC.2.2.2.2.1 y a z w.symm
  refine ⟨m, hm.sameBut sb hCa, fun h' sb' => ⟨_, H', ?_, q⟩⟩
  exact I3.turned (t' := s3.toks) (fun b o hb e => (sb'.2 b hb).trans e) fC.1 fC.2.1 fC.2.2.2.1 fC.2.2.2.2.1 fC.2.2.2.2.2
end

/-! ### a text, walked sign by sign -/
section
variable {X : Cx} {tg : Expr}
/-! ### all, any of a list of truths -/
/-! ### isinstance(x, T), T a built-in type -/
theorem call_isi : CallR X (.builtin "isinstance") (fun xs H Q => ∃ x n t b, xs = [x, .ty n] ∧ TyOf X.K H x t ∧ PySem.W.kitOne X.K t (.type n) = some b ∧ Q (.bl b) H) := by
  intro pins s σ H xs us Q I r h
  obtain ⟨x, n, t, b, rfl, ty, e, q⟩ := h
  obtain ⟨u, w', rfl, rx, rc⟩ := vals2 r
  cases (show w' = Value.type n from rc)
  exact isinst_ok I rx ty e fun tk => ⟨.bl b, H, I.tok tk, rfl, q⟩

/-! ### products of any two ints that the model multiplies -/
end

/-! ### slices of a text -/
section
variable {X : Cx}
end
/-! ### a comprehension without tests whose i-th item is ev i -/
/-! ### types under a grown heap -/
theorem Same.upd {H : Hp} {D : Addr} {o : HO} (h : H D = none) : Same H (L2.upd H D o) := fun b u e => by
  rw [upd_ne (ne_of_none e h)]
  exact e
/-! ### a block in two parts -/
theorem execs_app {env : Env} : ∀ (a b : List Stmt), execs (a ++ b) env = execs a env >>= fun f => match f with | .next => execs b env | f => pure f
  | [], b => by
    show execs b env = (pure Flow.next : Sem Flow) >>= _
    rw [pure_bind]
  | st :: r, b => by
    rw [List.cons_append, execs_cons, execs_cons, bind_assoc]
    congr
    funext f
    cases f with
    | next => exact execs_app r b
    | ret v => rw [pure_bind]
    | brk => rw [pure_bind]
    | cont => rw [pure_bind]
end L2

namespace L2
open PySem PySem.Spec PyProof.Rows
/-! ### isinstance by two built-in types -/
def kitTy (a b : String) : Option Bool := if (Value.type a == Value.type b) = true then some true else if PySem.W.kitMeta b = true then (fastBuiltinMro a).map (·.contains (.type b)) else none
theorem kit_eq {K : PySem.W.Frag} {a b : String} : PySem.W.kitOne K (.type a) (.type b) = kitTy a b := rfl
/-! ### a def of the top -/
def DefIn (K : PySem.W.Frag) (x : Str) (st : Stmt) : Prop := ∃ (f : Addr) (oc : Value) (od : Option Addr) (kV doc pm : Value) (an : Option Addr) (cdv ct : Value) (osl : Array (Option Value)),
  PySem.W.nsIn K mainGlobals x = some (some (.ref f)) ∧ K.lookup f = some ⟨oc, od, .func (PySem.W.fnOf x x (defArgs st) (defBody st) (defScope st) .none kV doc pm an cdv ct), osl⟩ ∧ PySem.W.codeIn K cdv x = true ∧ PySem.W.keepIn K (.ref f) = true
theorem defIn_mk {K : PySem.W.Frag} {x : Str} {st : Stmt} {f : Addr} {oc : Value} {od an : Option Addr} {osl : Array (Option Value)} {kV doc pm cdv ct : Value} (a : PySem.W.nsIn K mainGlobals x = some (some (.ref f)))
    (l : K.lookup f = some ⟨oc, od, .func (PySem.W.fnOf x x (defArgs st) (defBody st) (defScope st) .none kV doc pm an cdv ct), osl⟩) (c : PySem.W.codeIn K cdv x = true) (k : PySem.W.keepIn K (.ref f) = true) : DefIn K x st :=
  ⟨f, oc, od, kV, doc, pm, an, cdv, ct, osl, a, l, c, k⟩
/-- .. as a body that calls it sees it -/
structure Df (K : PySem.W.Frag) (mg : Str → Option Value) (x : Str) (st : Stmt) (f : Addr) (fd : FuncData) : Prop where
  fn : Fun K x x st f fd
  mg : mg x = some (.ref f)
theorem DefIn.df {K : PySem.W.Frag} {h : Heap} {mg : Str → Option Value} {x : Str} {st : Stmt} (d : DefIn K x st) (X : K.In h) (G : h.Ns mainGlobals mg) : ∃ f fd, Df K mg x st f fd := by
  obtain ⟨f, oc, od, kV, doc, pm, an, cdv, ct, osl, a, l, c, k⟩ := d
  exact ⟨f, _, fun_mk l c k, PySem.W.mg_of X G a⟩
end L2

namespace PySem.SeqAt
open MeetsSeq
open AutoSeq1 (wpAny_loadPart')
/-! ### a dict and a text are never equal -/
section
variable {A : Around} {s : Shared}
end
end PySem.SeqAt

namespace L2
open PySem PySem.Spec PyProof.Rows
/-! ### things, without the heap -/
section
variable {X : Cx} {pins : List (Addr × Obj)} {σ : St} {H : Hp} {s : Shared}
end
end L2

namespace My
open PySem L2 PyProof.Rows
theorem pos {j : Int} (h : decide ((0 : Int) < j) = true) : 0 < j := of_decide_eq_true h
/-! ### the law's cells -/
theorem boot_isi : bootBuiltins "isinstance" = some (.builtin "isinstance") := by decide +kernel
theorem boot_int : bootBuiltins "int" = some (.type "int") := by decide +kernel
theorem boot_bool : bootBuiltins "bool" = some (.type "bool") := by decide +kernel
theorem boot_str : bootBuiltins "str" = some (.type "str") := by decide +kernel
theorem boot_list : bootBuiltins "list" = some (.type "list") := by decide +kernel
theorem boot_tuple : bootBuiltins "tuple" = some (.type "tuple") := by decide +kernel
theorem boot_dict : bootBuiltins "dict" = some (.type "dict") := by decide +kernel
theorem boot_abs : bootBuiltins "abs" = some (.builtin "abs") := by decide +kernel
/-- the built-ins are not the text's own -/
structure Bl (mg : Str → Option Value) : Prop where
  len : mg "len" = none
  isi : mg "isinstance" = none
  int : mg "int" = none
  bool : mg "bool" = none
  str : mg "str" = none
  all : mg "all" = none
  range : mg "range" = none
  abs : mg "abs" = none
  ord : mg "ord" = none
  list : mg "list" = none
  tuple : mg "tuple" = none
  dict : mg "dict" = none
  any : mg "any" = none
  sorted : mg "sorted" = none
  set : mg "set" = none
  enum : mg "enumerate" = none

/-- .. as the top has left them -/
structure BlK (K : PySem.W.Frag) : Prop where
  len : PySem.W.nsIn K mainGlobals "len" = some none
  isi : PySem.W.nsIn K mainGlobals "isinstance" = some none
  int : PySem.W.nsIn K mainGlobals "int" = some none
  bool : PySem.W.nsIn K mainGlobals "bool" = some none
  str : PySem.W.nsIn K mainGlobals "str" = some none
  all : PySem.W.nsIn K mainGlobals "all" = some none
  range : PySem.W.nsIn K mainGlobals "range" = some none
  abs : PySem.W.nsIn K mainGlobals "abs" = some none
  ord : PySem.W.nsIn K mainGlobals "ord" = some none
  list : PySem.W.nsIn K mainGlobals "list" = some none
  tuple : PySem.W.nsIn K mainGlobals "tuple" = some none
  dict : PySem.W.nsIn K mainGlobals "dict" = some none
  any : PySem.W.nsIn K mainGlobals "any" = some none
  sorted : PySem.W.nsIn K mainGlobals "sorted" = some none
  set : PySem.W.nsIn K mainGlobals "set" = some none
  enum : PySem.W.nsIn K mainGlobals "enumerate" = some none

theorem BlK.bl {K : PySem.W.Frag} {h : Heap} {mg : Str → Option Value} (b : BlK K) (X : K.In h) (G : h.Ns mainGlobals mg) : Bl mg :=
  ⟨PySem.W.mg_none_of X G b.len, PySem.W.mg_none_of X G b.isi, PySem.W.mg_none_of X G b.int, PySem.W.mg_none_of X G b.bool, PySem.W.mg_none_of X G b.str, PySem.W.mg_none_of X G b.all, PySem.W.mg_none_of X G b.range, PySem.W.mg_none_of X G b.abs, PySem.W.mg_none_of X G b.ord, PySem.W.mg_none_of X G b.list, PySem.W.mg_none_of X G b.tuple, PySem.W.mg_none_of X G b.dict, PySem.W.mg_none_of X G b.any, PySem.W.mg_none_of X G b.sorted, PySem.W.mg_none_of X G b.set, PySem.W.mg_none_of X G b.enum⟩
/-- an item of a list at a place within it -/
theorem at_mem {l : List V} {i : Int} (h0 : 0 ≤ i) (h1 : i < l.length) : ∃ v, atI l i = some v ∧ v ∈ l := by
  obtain ⟨j, rfl⟩ := Int.eq_ofNat_of_zero_le h0
  have hj : j < l.length := by omega
  exact ⟨l[j], atI_nat (List.getElem?_eq_getElem hj), List.getElem_mem hj⟩
theorem atN_mem {l : List Nat} {i : Int} (h0 : 0 ≤ i) (h1 : i < l.length) : ∃ c, atI l i = some c ∧ c ∈ l := by
  obtain ⟨j, rfl⟩ := Int.eq_ofNat_of_zero_le h0
  have hj : j < l.length := by omega
  exact ⟨l[j], atI_nat (List.getElem?_eq_getElem hj), List.getElem_mem hj⟩
theorem iteB {b : Bool} {A B : Prop} (h : b = true) (a : A) : if b = true then A else B := by rw [if_pos h]; exact a
theorem iteC {b : Bool} {A B : Prop} (h : b = false) (a : B) : if b = true then A else B := by rw [h, if_neg Bool.false_ne_true]; exact a
def spLaw (K : PySem.W.Frag) : Sp := fun vs H Q _ => ∃ (a : Addr) (ns : List Int), vs = [.ref a] ∧ SqL K H a (ns.map V.int) ∧ ns.length ≤ 63 ∧ ∀ H', Q (.bl true) H'
theorem walk (k : Nat) {l : PySem.W.OpenLaw} {q : Program} {loose : List Str} {XP : (Str → Option Value) → Heap → Prop} {YP : World → Heap → Prop} {d : DefRec} {K : Params → PySem.W.Frag} (hk : Room k callerA) (hn : l.most = some 63) (hdf : d.params.defaults = [])
    (hY : ∀ (w : World) (h : Heap), YP w h → (K w.params).In h)
    (F : ∀ (w : World) (mg : Str → Option Value) (fa : Addr) (h : Heap), (K w.params).In h → h.Ns mainGlobals mg → mg d.name = some (.ref fa) →
      ∃ fd : FuncData, (∀ (s : Shared) (u : Value), BindsTo s fd ⟨[u], []⟩ [("_law_script", u)]) ∧ ∀ base : Heap, (K w.params).In base → base.Ns mainGlobals mg → FnOk l.prog w (K w.params) mg base CX0 k fa fd ["_law_script"] (spLaw (K w.params))) :
    PySem.W.WalkO q loose XP YP l.row.toRowW d [] (fun f vs => PySem.call f vs) :=
  L2.walk_of (n := 63) (k := k) (x := "_law_script") (CX := fun _ => CX0) (sp := fun w => spLaw (K w.params)) hn (by decide) hdf hk hY F (fun _ _ a ns hl _ hS => ⟨a, ns, rfl, hS, hl, fun _ => rfl⟩) fun _ _ _ _ _ z => z
end My

/-! DICTS WALKED (own work): a dict stands frozen while it is walked. -/
namespace L2
open PySem PySem.Spec PyProof.Rows
section
variable {X : Cx} {pins : List (Addr × Obj)} {σ : St} {H : Hp} {s : Shared} {a : Addr} {kvs : List (Key × V)} {o : Obj}
theorem Inv.freeze (I : Inv X pins σ H s) (e : H a = some (.dK kvs)) (ho : s.heap.get? a = some o) : Inv X pins σ (upd H a (.frz o (.dK kvs))) s := by
  have ne : ∀ b u, H b = some u → u ≠ .dK kvs → b ≠ a := fun b u q n z => by
    subst z
    rw [e] at q
    exact n (Option.some.inj q).symm
  have nn : ∀ b, H b = none → b ≠ a := fun b q z => by subst z; rw [e] at q; cases q
  refine ⟨I.ok, I.os, I.bare, ⟨I.base.keep, I.base.slot, fun b ob q n hx => ?_, I.base.there, fun b xs q => ?_, fun b ob u q => ?_, fun b ps q => ?_⟩, I.loc, I.cell, ?_, fun x c q => ?_, fun p hp => ?_, fun b u q => ?_, I.len⟩
  · have h := I.base.free b ob q n hx
    rw [upd_ne (nn b h)]
    exact h
  · have h := I.base.tups b xs q
    rw [upd_ne (ne b _ h (by simp))]
    exact h
  · have h := I.base.frzs b ob u q
    rw [upd_ne (ne b _ h (by simp))]
    exact h
  · obtain ⟨m, h⟩ := I.base.tbls b ps q
    exact ⟨m, by rw [upd_ne (ne b _ h (by simp))]; exact h⟩
  · rw [upd_ne (nn _ I.free)]
    exact I.free
  · rw [upd_ne (nn _ (I.freeC x c q))]
    exact I.freeC x c q
  · obtain ⟨h1, h2, h3⟩ := I.pin p hp
    exact ⟨h1, by rw [upd_ne (nn _ h2)]; exact h2, h3⟩
  · by_cases hb : b = a
    · subst hb
      rw [upd_same] at q
      cases q
      exact ⟨ho, I.hok b _ e⟩
    · rw [upd_ne hb] at q
      exact (I.hok b u q).stay (fun c v _ r => r) (fun c r => by rw [upd_ne (ne c _ r (by simp))]; exact r) fun c xs r => by rw [upd_ne (ne c _ r (by simp))]; exact r
theorem Inv.thaw (I : Inv X pins σ H s) (n0 : ∀ ob u, X.H₀ a ≠ some (.frz ob u)) (e : H a = some (.frz o (.dK kvs))) : Inv X pins σ (upd H a (.dK kvs)) s := by
  have ne : ∀ b u, H b = some u → u ≠ .frz o (.dK kvs) → b ≠ a := fun b u q n z => by
    subst z
    rw [e] at q
    exact n (Option.some.inj q).symm
  have nn : ∀ b, H b = none → b ≠ a := fun b q z => by subst z; rw [e] at q; cases q
  refine ⟨I.ok, I.os, I.bare, ⟨I.base.keep, I.base.slot, fun b ob q n hx => ?_, I.base.there, fun b xs q => ?_, fun b ob u q => ?_, fun b ps q => ?_⟩, I.loc, I.cell, ?_, fun x c q => ?_, fun p hp => ?_, fun b u q => ?_, I.len⟩
  · have h := I.base.free b ob q n hx
    rw [upd_ne (nn b h)]
    exact h
  · have h := I.base.tups b xs q
    rw [upd_ne (ne b _ h (by simp))]
    exact h
  · have h := I.base.frzs b ob u q
    rw [upd_ne (fun z => by subst z; exact n0 _ _ q)]
    exact h
  · obtain ⟨m, h⟩ := I.base.tbls b ps q
    exact ⟨m, by rw [upd_ne (ne b _ h (by simp))]; exact h⟩
  · rw [upd_ne (nn _ I.free)]
    exact I.free
  · rw [upd_ne (nn _ (I.freeC x c q))]
    exact I.freeC x c q
  · obtain ⟨h1, h2, h3⟩ := I.pin p hp
    exact ⟨h1, by rw [upd_ne (nn _ h2)]; exact h2, h3⟩
  · by_cases hb : b = a
    · subst hb
      rw [upd_same] at q
      cases q
      exact (I.hok b _ e).2
    · rw [upd_ne hb] at q
      exact (I.hok b u q).stay (fun c v _ r => r) (fun c r => by rw [upd_ne (ne c _ r (by simp))]; exact r) fun c xs r => by rw [upd_ne (ne c _ r (by simp))]; exact r
theorem Inv.dk_obj (I : Inv X pins σ H s) (e : H a = some (.dK kvs)) : ∃ o, s.heap.get? a = some o := by
  obtain ⟨_, _, _, _, o, _, _, g, _⟩ := I.hok a _ e
  exact ⟨o, g⟩
theorem Inv.not_frz (I : Inv X pins σ H s) (e : H a = some (.dK kvs)) : ∀ ob u, X.H₀ a ≠ some (.frz ob u) := fun ob u q => by
  have := I.base.frzs a ob u q
  rw [e] at this
  cases this
/-- a statement, an expression, while a dict stands frozen -/
def frzE (a : Addr) (o : Obj) (kvs : List (Key × V)) (D : Ends) : Ends where
  nx := fun σ' H' => H' a = some (.frz o (.dK kvs)) ∧ D.nx σ' (upd H' a (.dK kvs))
  rt := fun v H' => H' a = some (.frz o (.dK kvs)) ∧ D.rt v (upd H' a (.dK kvs))
  bk := fun σ' H' => H' a = some (.frz o (.dK kvs)) ∧ D.bk σ' (upd H' a (.dK kvs))
  ct := fun σ' H' => H' a = some (.frz o (.dK kvs)) ∧ D.ct σ' (upd H' a (.dK kvs))
def sFrz (t : TS) : TS := fun D σ H => ∃ a kvs, H a = some (.dK kvs) ∧ ∀ o, t (frzE a o kvs D) σ (upd H a (.frz o (.dK kvs)))
theorem ps_frz {st : Stmt} {t : TS} (h : PS X st t) : PS X st (sFrz t) := by
  intro pins s σ H D I hq
  obtain ⟨a, kvs, e, q⟩ := hq
  obtain ⟨o, ho⟩ := I.dk_obj e
  have n0 := I.not_frz e
  refine thn (h pins s σ _ _ (I.freeze e ho) (q o)) fun f s' hs => ?_
  cases f with
  | next => obtain ⟨σ', H', I', e', z⟩ := hs; exact ⟨σ', _, I'.thaw n0 e', z⟩
  | brk => obtain ⟨σ', H', I', e', z⟩ := hs; exact ⟨σ', _, I'.thaw n0 e', z⟩
  | cont => obtain ⟨σ', H', I', e', z⟩ := hs; exact ⟨σ', _, I'.thaw n0 e', z⟩
  | ret u => obtain ⟨v, σ', H', I', r, e', z⟩ := hs; exact ⟨v, σ', _, I'.thaw n0 e', r, z⟩
end

/-! ### the keys of a frozen dict, one by one -/
def epOf (o : Obj) : Nat := match o.data with
  | .dict _ ep => ep
  | _ => 0
theorem is_kV {P : Program} {w : World} : ∀ {k : Key} {u : Value}, (mixKind P w).is k u = true → RelV (kV k) u := by
  intro k u h
  rcases keyIs_shape (k := k) (v := u) h with ⟨i, t, rfl, rfl⟩ | ⟨x, t, rfl, rfl⟩
  · exact ⟨t, rfl⟩
  · exact ⟨t, rfl⟩
def Itd (a : Addr) (o : Obj) (kvs : List (Key × V)) : It :=
  ⟨fun i H => i < kvs.length ∧ H a = some (.frz o (.dK kvs)), fun i H x H' => H' = H ∧ ∃ k v, kvs[i]? = some (k, v) ∧ x = kV k, fun i H => kvs.length ≤ i ∧ H a = some (.frz o (.dK kvs))⟩
section
variable {X : Cx}
theorem kv_get : ∀ {kvs : List (Key × V)} {vs : List (Key × Value)} {i : Nat} {p : Key × V}, KV kvs vs → kvs[i]? = some p → ∃ u, vs[i]? = some (p.1, u) ∧ RelV p.2 u
  | _, _, _, _, .nil, e => by simp at e
  | _, _, 0, _, .cons (b := q) r _, e => by
    simp at e
    subst e
    obtain ⟨q1, q2⟩ := q
    obtain ⟨r1, r2⟩ := r
    exact ⟨q2, by rw [List.getElem?_cons_zero]; exact congrArg (fun z => some (z, q2)) r1.symm, r2⟩
  | _, _, i + 1, p, .cons _ t, e => by
    obtain ⟨u, h1, h2⟩ := kv_get (i := i) (p := p) t (by simpa using e)
    exact ⟨u, by simpa using h1, h2⟩
theorem Inv.dictAt {pins : List (Addr × Obj)} {σ : St} {H : Hp} {s : Shared} {a : Addr} {o : Obj} {kvs : List (Key × V)} (I : Inv X pins σ H s) (e : H a = some (.frz o (.dK kvs))) :
    ∃ vs, KV kvs vs ∧ s.heap.DictAt (mixKind X.prog X.w) a vs (epOf o) ∧ (a == sysModules) = false := by
  obtain ⟨g, _, hs, vs, kv, o', es, ep, g', ex, hd, hk, hp, hn⟩ := I.hok a _ e
  rw [g] at g'
  cases g'
  have he : epOf o = ep := by unfold epOf; rw [hd]
  exact ⟨vs, kv, ⟨o, es, g, ex, by rw [he]; exact hd, hk, hp, hn⟩, hs⟩
theorem KV.len {kvs : List (Key × V)} {vs : List (Key × Value)} (r : KV kvs vs) : kvs.length = vs.length := Paired.length r
theorem turn_dict {P : Program} {w : World} {K : PySem.W.Frag} {tg : Expr} (a it : Addr) (o : Obj) (kvs : List (Key × V)) : Turn P w K tg (Itd a o kvs) [it] it (fun i h => h.IsKeyIter it a i kvs.length (epOf o)) where
  mem := by simp
  obj := fun i h st b hb => by
    have e : b = it := by simpa using hb
    subst e
    obtain ⟨o, e, c, d⟩ := st
    exact ⟨o, e, fun v z => by rw [d] at z; cases z⟩
  keep := fun i h h' st k => st.at fun o e => k it (by simp) o e
  item := by
    intro X hP hw hK hc i pins s σ H E I hf st hg
    subst hP hw hK
    obtain ⟨hi, hq⟩ := hg
    obtain ⟨vs, kv, da, _⟩ := I.dictAt hq
    have hl := kv.len
    obtain ⟨u, hu, ru⟩ := kv_get kv (show kvs[i]? = some (kvs[i].1, kvs[i].2) by simp [hi])
    obtain ⟨f0, f1, f2, f3, f4, f5⟩ := hf it (by simp)
    rw [hl] at st
    refine wpAny_pyNext_dict_item st da hu fun key h' hkey st' sb => ?_
    rw [← hl] at st'
    have I1 : Inv X pins σ H { s with heap := h' } := I.turned (t' := s.toks) (fun b o hb e => (sb.2 b hb).trans e) f0 f1 f3 f4 f5
    obtain ⟨oi, e, c, d⟩ := id st'
    exact ⟨key, rfl, go_of (s := { s with heap := h' }) e c d (by decide) ⟨kV kvs[i].1, H, I1, is_kV hkey, ⟨rfl, kvs[i].1, kvs[i].2, by simp [hi], rfl⟩, st', fun b hb => (hf b hb).1⟩⟩
  done := by
    intro X hP hw hK hc i pins s σ H E I hf st hg
    subst hP hw hK
    obtain ⟨hi, hq⟩ := hg
    obtain ⟨vs, kv, da, _⟩ := I.dictAt hq
    have hl := kv.len
    obtain ⟨f0, f1, f2, f3, f4, f5⟩ := hf it (by simp)
    rw [hl] at st
    exact wpAny_pyNext_dict_end (I.ok.hd hc) st da (by simp; omega) fun h' eb => ⟨rfl, I.turned (t' := s.toks) (fun b o hb e => eb b o hb e) f0 f1 f3 f4 f5⟩
  self := fun _ _ _ _ _ st h => wpAny_pyIter_keyiter st h
def iDict (tl : TE) : TI := fun σ H R => tl σ H fun x H1 => ∃ a o kvs, x = .ref a ∧ H1 a = some (.frz o (.dK kvs)) ∧ R (Itd a o kvs) H1
theorem pi_dict {tg l : Expr} {tl : TE} (hl : PE X l tl) : PI X tg l (iDict tl) := by
  intro pins s σ H R I h
  refine thn (hl pins s σ H _ I h) fun v s1 ⟨x, H1, I1, r1, q1⟩ => ?_
  obtain ⟨a, o, kvs, e, hq, q⟩ := q1
  subst e
  cases r1
  obtain ⟨vs, kv, da, hs⟩ := I1.dictAt hq
  refine wpAny_pyIter_dict hs da ?_
  refine ⟨s1.heap.objs.size, [s1.heap.objs.size], _, _, H1, rfl, I1.kept (t' := s1.toks) fun b o e => Heap.get?_push_of_some _ e, turn_dict a _ o kvs, ⟨_, Heap.get?_push_size _ rfl, rfl, by rw [kv.len]; rfl⟩, fun b hb => ?_, q⟩
  have e : b = s1.heap.objs.size := by simpa using hb
  subst e
  exact I1.fpOk (Nat.le_refl _) (I1.hok.fresh (Nat.le_refl _))
/-- the loop over a frozen dict's keys -/
theorem for_dict {a : Addr} {o : Obj} {kvs : List (Key × V)} {g : TG} {tb : TS} {D : Ends} {σ : St} {H : Hp} (Pv : Nat → St → Hp → Prop) (h0 : Pv 0 σ H) (hl : ∀ i σ H, i ≤ kvs.length → Pv i σ H → H a = some (.frz o (.dK kvs)))
    (hs : ∀ i k v σ H, kvs[i]? = some (k, v) → Pv i σ H → g (kV k) σ H fun σ2 H2 => tb { D with nx := Pv (i + 1), ct := Pv (i + 1), bk := D.nx } σ2 H2) (hd : ∀ σ H, Pv kvs.length σ H → D.nx σ H) :
    ∃ W : Nat → Nat → St → Hp → Prop, (∃ m, W 0 m σ H) ∧ ∀ i m σ H, W i m σ H →
      ((Itd a o kvs).stop i H ∧ D.nx σ H) ∨ ((Itd a o kvs).go i H ∧ ∃ N : St → Hp → Prop, (∀ σ' H', N σ' H' → ∃ m', m' < m ∧ W (i + 1) m' σ' H') ∧ ∀ x H', (Itd a o kvs).yld i H x H' → g x σ H' fun σ2 H2 => tb { D with nx := N, ct := N, bk := D.nx } σ2 H2) := by
  refine ⟨fun i m σ H => m = kvs.length - i ∧ i ≤ kvs.length ∧ Pv i σ H, ⟨kvs.length, by simp, Nat.zero_le _, h0⟩, ?_⟩
  rintro i m σ H ⟨rfl, hi, p⟩
  have q := hl i σ H hi p
  by_cases hlt : i < kvs.length
  · refine .inr ⟨⟨hlt, q⟩, Pv (i + 1), fun σ' H' p' => ⟨kvs.length - (i + 1), by omega, rfl, hlt, p'⟩, fun x H' y => ?_⟩
    obtain ⟨e, k, v, hk, ex⟩ := y
    subst e ex
    exact hs i k v σ _ hk p
  · have e : i = kvs.length := by omega
    subst e
    exact .inl ⟨⟨Nat.le_refl _, q⟩, hd σ H p⟩
end
end L2

namespace L2
open PySem PySem.Spec PyProof.Rows
section
variable {X : Cx}
end
end L2

namespace L2
open PySem PySem.Spec PyProof.Rows
/-! ### for (k, v) in d.items(): a frozen dict's pairs, each as a new tuple -/
theorem entry_itemiter_iter : entryFor table "dict_itemiterator.__iter__" = some Builtin.«dict_keyiterator.__iter__» :=
  entryFor_alias (id' := "dict_keyiterator.__iter__") (by kernel_rfl) rfl (by decide +kernel) (by kernel_rfl)
theorem iter_itemiter {prog : Program} {w : World} {A : Around} {E : Value → Shared → Prop} {s : Shared} {it d : Addr} {i n ep : Nat} {ok ov : Value} {Q : Value → Shared → Prop} (hit : IsItemIter s.heap it d i n ep ok ov) (h : Q (.ref it) s) : wpAny (model prog w) A (pyIter (.ref it)) Q E s := by
  have hT : s.TypeIs (.ref it) "dict_itemiterator" := ⟨_, hit, rfl⟩
  refine wpAny_pyIter_slot hT F.slot_dict_itemiterator_iter (wpAny_call_entry F.slot_dict_itemiterator_iter hT entry_itemiter_iter ?_ (F.args_dict_itemiterator_iter_1 _))
  show wpAny _ _ (ret (.ref it)) _ _ s
  exact wpAny_pure ⟨_, rfl, "dict_itemiterator", _, hT, F.slot_dict_itemiterator_next.lookup, h⟩
def Itm (a : Addr) (o : Obj) (kvs : List (Key × V)) : It :=
  ⟨fun i H => i < kvs.length ∧ H a = some (.frz o (.dK kvs)), fun i H x H' => ∃ k v p, kvs[i]? = some (k, v) ∧ x = .ref p ∧ H p = none ∧ H' = upd H p (.tup [kV k, v]), fun i H => kvs.length ≤ i ∧ H a = some (.frz o (.dK kvs))⟩
section
variable {X : Cx}
theorem turn_items {P : Program} {w : World} {K : PySem.W.Frag} {es : List Expr} {x1 : Nat} {tp : Pos} (a it : Addr) (o : Obj) (kvs : List (Key × V)) : Turn P w K (.Tuple es x1 tp) (Itm a o kvs) [it] it (fun i h => ∃ ok ov, IsItemIter h it a i kvs.length (epOf o) ok ov) where
  mem := by simp
  obj := fun i h st b hb => by
    have e : b = it := by simpa using hb
    subst e
    obtain ⟨ok, ov, st⟩ := st
    exact ⟨_, st, fun v z => by cases z⟩
  keep := fun i h h' st k => by
    obtain ⟨ok, ov, st⟩ := st
    exact ⟨ok, ov, k it (by simp) _ st⟩
  item := by
    intro X hP hw hK hc i pins s σ H E I hf st hg
    subst hP hw hK
    obtain ⟨hi, hq⟩ := hg
    obtain ⟨ok, ov, st⟩ := st
    obtain ⟨vs, kv, da, _⟩ := I.dictAt hq
    have hl := kv.len
    obtain ⟨u, hu, ru⟩ := kv_get kv (show kvs[i]? = some (kvs[i].1, kvs[i].2) by simp [hi])
    obtain ⟨f0, f1, f2, f3, f4, f5⟩ := hf it (by simp)
    have hit : it < s.heap.objs.size := Heap.lt_size st
    rw [hl] at st
    refine wpAny_pyNext_items_item st da hu fun key h' hkey st' ht hsz kp => ?_
    refine ⟨_, rfl, ?_⟩
    refine wpAny_letOwnedTupleGo_items (s := { s with heap := h' }) st' fun h'' st'' sb => ?_
    rw [← hl] at st''
    have I0 : Inv X pins σ H { s with heap := s.heap.update it fun _ => { cls := .type "dict_itemiterator", dict := none, data := .fields #[.none, .bool false, .ref a, .int (i + 1 : Nat) 0, .int kvs.length 0, .int (epOf o) 0, key, u], slots := #[] } } :=
      I.turned (t' := s.toks) (fun b ob hb e => by rw [Heap.get?_update_ne _ _ _ _ hb]; exact e) f0 f1 f3 f4 f5
    have hp : H s.heap.objs.size = none := I.hok.fresh (Nat.le_refl _)
    refine ⟨.ref s.heap.objs.size, upd H s.heap.objs.size (.tup [kV kvs[i].1, kvs[i].2]), I0.laid (t' := s.toks) (h' := h'') (fun b ob e => ?_) (by rw [Heap.size_update]; exact Nat.le_refl _) ?_, rfl, ⟨_, _, _, by simp [hi], rfl, hp, rfl⟩, ⟨key, u, st''⟩, fun b hb => ?_⟩
    · by_cases hb : b = it
      · subst hb
        rw [Heap.get?_update_self _ st rfl] at e
        rw [← e]
        exact st''
      · rw [Heap.get?_update_ne _ _ _ _ hb] at e
        exact (sb.2 b hb).trans (kp b ob hb e)
    · refine ⟨(show 2 ≤ sizeLine by decide), [key, u], .cons (is_kV hkey) (.cons ru .nil), ⟨_, (sb.2 _ (Nat.ne_of_gt hit)).trans ht, rfl, _, rfl⟩⟩
    · have e : b = it := by simpa using hb
      subst e
      rw [upd_ne (Nat.ne_of_lt hit)]
      exact f0
  done := by
    intro X hP hw hK hc i pins s σ H E I hf st hg
    subst hP hw hK
    obtain ⟨hi, hq⟩ := hg
    obtain ⟨ok, ov, st⟩ := st
    obtain ⟨vs, kv, da, _⟩ := I.dictAt hq
    have hl := kv.len
    obtain ⟨f0, f1, f2, f3, f4, f5⟩ := hf it (by simp)
    rw [hl] at st
    exact wpAny_pyNext_items_end (I.ok.hd hc) st da (by simp; omega) fun h' eb => ⟨rfl, I.turned (t' := s.toks) (fun b o hb e => eb b o hb e) f0 f1 f3 f4 f5⟩
  self := fun A i s Q E st h => by
    obtain ⟨ok, ov, st⟩ := st
    exact iter_itemiter st h
/-- d.items(), d frozen -/
def iItems (tl : TE) : TI := fun σ H R => tl σ H fun x H1 => ∃ a o kvs, x = .ref a ∧ H1 a = some (.frz o (.dK kvs)) ∧ R (Itm a o kvs) H1
theorem pi_items {es : List Expr} {x1 : Nat} {tp : Pos} {l : Expr} {tl : TE} {apos cpos : Pos} (hl : PE X l tl) (hbase : attributeBase l "items" X.env (eval l X.env) = eval l X.env := by rfl) (hline : (apos.endLine == cpos.line) = true := by rfl) :
    PI X (.Tuple es x1 tp) (.Call (.Attribute l "items" apos) [] [] cpos) (iItems tl) := by
  intro pins s σ H R I h
  refine wpAny_Call_method0_late hbase hline (thn (hl pins s σ H _ I h) fun v s1 ⟨x, H1, I1, r1, q1⟩ => ?_)
  obtain ⟨a, o, kvs, e, hq, q⟩ := q1
  subst e
  cases r1
  obtain ⟨vs, kv, da, hs⟩ := I1.dictAt hq
  obtain ⟨g, _⟩ := I1.hok a _ hq
  have ex : o.ExactDict := by
    obtain ⟨o', es', g', x', _⟩ := id da
    rw [g] at g'
    cases g'
    exact x'
  refine ⟨"dict", "dict.items", F.plainAttrs_dict, F.slot_dict_items, F.type_dict_items, da.dictOf.typeIs, (fun b e => by cases e; exact ⟨o, g, ex.2.1⟩), Calls.callWith_builtin rfl (PySem.evalArgs_none ?_)⟩
  refine call_meetsIn F.slot_dict_items da.dictOf.typeIs F.entry_dict_items (F.args_dict_items_1 _) (meets_dict_items (mixKind X.prog X.w) a hs) ⟨⟨vs, da.dictOf⟩, ?_⟩
  have I2 : Inv X pins σ H1 { s1 with heap := s1.heap.push { cls := .type "dict_items", data := .fields #[.ref a] } } := I1.kept (t' := s1.toks) fun b o e => Heap.get?_push_of_some _ e
  refine wpAny_pyIter_items (s := { s1 with heap := s1.heap.push { cls := .type "dict_items", data := .fields #[.ref a] } }) (knd := mixKind X.prog X.w) (kvs := vs) (ep := epOf o) ⟨_, Heap.get?_push_size _ rfl, rfl, rfl⟩ (da.push _) ?_
  refine ⟨_, [_], _, _, H1, rfl, I2.kept (t' := s1.toks) fun b o e => Heap.get?_push_of_some _ e, turn_items a _ o kvs, ⟨.none, .none, by rw [kv.len]; exact Heap.get?_push_size _ rfl⟩, fun b hb => ?_, q⟩
  have e := List.mem_singleton.mp hb
  subst e
  exact I2.fpOk (Nat.le_refl _) (I2.hok.fresh (Nat.le_refl _))
/-- the loop -/
theorem for_items {a : Addr} {o : Obj} {kvs : List (Key × V)} {g : TG} {tb : TS} {D : Ends} {σ : St} {H : Hp} (Pv : Nat → St → Hp → Prop) (h0 : Pv 0 σ H) (hl : ∀ i σ H, i ≤ kvs.length → Pv i σ H → H a = some (.frz o (.dK kvs)))
    (hs : ∀ i k v p σ H, kvs[i]? = some (k, v) → Pv i σ H → H p = none → g (.ref p) σ (upd H p (.tup [kV k, v])) fun σ2 H2 => tb { D with nx := Pv (i + 1), ct := Pv (i + 1), bk := D.nx } σ2 H2) (hd : ∀ σ H, Pv kvs.length σ H → D.nx σ H) :
    ∃ W : Nat → Nat → St → Hp → Prop, (∃ m, W 0 m σ H) ∧ ∀ i m σ H, W i m σ H →
      ((Itm a o kvs).stop i H ∧ D.nx σ H) ∨ ((Itm a o kvs).go i H ∧ ∃ N : St → Hp → Prop, (∀ σ' H', N σ' H' → ∃ m', m' < m ∧ W (i + 1) m' σ' H') ∧ ∀ x H', (Itm a o kvs).yld i H x H' → g x σ H' fun σ2 H2 => tb { D with nx := N, ct := N, bk := D.nx } σ2 H2) := by
  refine ⟨fun i m σ H => m = kvs.length - i ∧ i ≤ kvs.length ∧ Pv i σ H, ⟨kvs.length, by simp, Nat.zero_le _, h0⟩, ?_⟩
  rintro i m σ H ⟨rfl, hi, p⟩
  have q := hl i σ H hi p
  by_cases hlt : i < kvs.length
  · refine .inr ⟨⟨hlt, q⟩, Pv (i + 1), fun σ' H' p' => ⟨kvs.length - (i + 1), by omega, rfl, hlt, p'⟩, fun x H' y => ?_⟩
    obtain ⟨k, v, pa, hk, ex, hn, e⟩ := y
    subst e ex
    exact hs i k v pa σ H hk p hn
  · have e : i = kvs.length := by omega
    subst e
    exact .inl ⟨⟨Nat.le_refl _, q⟩, hd σ H p⟩
/-- d.clear(), dict(d) -/
theorem mt_dclear : MtR X "dict.clear" (fun x xs H Q => ∃ a kvs, x = .ref a ∧ xs = [] ∧ H a = some (.dK kvs) ∧ Q .non (upd H a (.dK []))) := by
  intro pins s σ H x xs v us Q I rx r h
  obtain ⟨a, kvs, rfl, rfl, e, q⟩ := h
  cases rx
  cases r
  exact d_clear I e fun s' I' => ⟨.non, _, I', rfl, q⟩
theorem call_dict_of : CallR X (.type "dict") (fun xs H Q => ∃ a kvs, xs = [.ref a] ∧ Rd H a (.dK kvs) ∧ ∀ p, H p = none → Q (.ref p) (upd H p (.dK kvs))) := by
  intro pins s σ H xs us Q I r h
  obtain ⟨a, kvs, rfl, e, q⟩ := h
  obtain ⟨u, rfl, rx⟩ := vals1 r
  cases rx
  exact d_copyOf I e fun p s' hp I' => ⟨.ref p, _, I', rfl, q p hp⟩
end
end L2

namespace L2
open PySem PySem.Spec PyProof.Rows
theorem ObjOk.there {P : Program} {w : World} {H : Hp} {h : Heap} {a : Addr} {o : HO} (x : ObjOk P w H h a o) : ∃ ob, h.get? a = some ob := by
  cases o with
  | lst xs => obtain ⟨_, _, _, _, e⟩ := x; exact ⟨_, e⟩
  | tup xs => obtain ⟨_, _, _, o, e, _⟩ := x; exact ⟨_, e⟩
  | dK kvs => obtain ⟨_, _, _, _, o, _, _, e, _⟩ := x; exact ⟨_, e⟩
  | dT kvs => obtain ⟨_, _, _, _, o, _, _, e, _⟩ := x; exact ⟨_, e⟩
  | set S n => obtain ⟨o, _, _, _, e, _⟩ := x; exact ⟨_, e⟩
  | ins C dx fs => obtain ⟨_, _, _, e, _⟩ := x; exact ⟨_, e⟩
  | own y => exact x
  | xd fs => obtain ⟨_, ⟨_, _, _, e, _⟩, _⟩ := x; exact ⟨_, e⟩
  | met f y => exact ⟨_, x⟩
  | rng lo hi => obtain ⟨_, _, _, e⟩ := x; exact ⟨_, e⟩
  | frz ob u => exact ⟨_, x.1⟩
  | tbl ps => exact ⟨_, x⟩
  | ext φ => exact x.2.1
section
variable {X : Cx} {pins : List (Addr × Obj)} {σ : St} {H : Hp} {s : Shared} {h' : Heap} {a : Addr} {o : HO}
theorem Inv.none_at (I : Inv X pins σ H s) (hn : s.heap.get? a = none) : H a = none := by
  cases e : H a with
  | none => rfl
  | some u =>
    obtain ⟨ob, q⟩ := (I.hok a u e).there
    rw [hn] at q
    cases q
end
theorem kv_key : ∀ {kvs : List (Key × V)} {vs : List (Key × Value)} {i : Nat} {q : Key × Value}, KV kvs vs → vs[i]? = some q → (kvs.map (·.1))[i]? = some q.1
  | _, _, _, _, .nil, e => by simp at e
  | _, _, 0, _, .cons r _, e => by
    simp at e
    subst e
    simp [r.1]
  | _, _, i + 1, q, .cons _ t, e => by
    have h := kv_key (i := i) (q := q) t (by simpa using e)
    simpa using h
section
variable {X : Cx}
end
end L2

namespace L2
open PySem PySem.Spec PyProof.Rows
/-! ### for (i, x) in enumerate(a list) -/
section
variable {X : Cx}
theorem boot_enum : bootBuiltins "enumerate" = some (.type "enumerate") := by decide +kernel
end
end L2

namespace L2
open PySem PySem.Spec PyProof.Rows
section
variable {X : Cx}
end
end L2

/-! DICTS READ, FROZEN OR NOT (own work). -/
namespace L2
open PySem PySem.Spec PyProof.Rows
section
variable {X : Cx}
/-- len of a dict, frozen or not -/
theorem call_lenR : CallR X (.builtin "len") (fun xs H Q => ∃ a kvs, xs = [V.ref a] ∧ Rd H a (.dK kvs) ∧ Q (.int kvs.length) H) := by
  intro pins s σ H xs us Q I r h
  obtain ⟨a, kvs, rfl, ha, q⟩ := h
  obtain ⟨u, rfl, rx⟩ := vals1 r
  cases rx
  exact d_len I ha fun t s' J => ⟨.int kvs.length, H, J, ⟨t, rfl⟩, q⟩
/-- isinstance(d, T) of a dict, frozen or not -/
theorem call_isiD : CallR X (.builtin "isinstance") (fun xs H Q => ∃ a kvs n b, xs = [V.ref a, .ty n] ∧ Rd H a (.dK kvs) ∧ PySem.W.kitOne X.K (.type "dict") (.type n) = some b ∧ Q (.bl b) H) := by
  intro pins s σ H xs us Q I r h
  obtain ⟨a, kvs, n, b, rfl, ha, e, q⟩ := h
  obtain ⟨u, w', rfl, rx, rc⟩ := vals2 r
  cases rx
  cases (show w' = Value.type n from rc)
  obtain ⟨_, _, vs, _, o, es, ep, h1, h2, _⟩ := dk_rd I.hok ha
  exact PySem.W.kia_one PySem.W.kitx_dict I.kIn ⟨o, h1, h2.1⟩ e (fun z => nomatch z) fun tk => ⟨.bl b, H, I.tok tk, rfl, q⟩
/-- a statement while a dict stands frozen: it is frozen now, unless it is so already -/
def sFrzR (t : TS) : TS := fun D σ H => ∃ a kvs, Rd H a (.dK kvs) ∧ (∀ o, H a = some (.frz o (.dK kvs)) → t D σ H) ∧ (H a = some (.dK kvs) → ∀ o, t (frzE a o kvs D) σ (upd H a (.frz o (.dK kvs))))
theorem ps_frzR {st : Stmt} {t : TS} (h : PS X st t) : PS X st (sFrzR t) := by
  intro pins s σ H D I hq
  obtain ⟨a, kvs, rd, h1, h2⟩ := hq
  rcases rd with e | ⟨o, e⟩
  · exact ps_frz h pins s σ H D I ⟨a, kvs, e, h2 e⟩
  · exact h pins s σ H D I (h1 o e)
end
/-- alike all the way down: scalars, tuples, lists, dicts with text keys (for a law's own same or alike) -/
inductive Lq (H : Hp) : Nat → V → V → Prop
  | non {n : Nat} : Lq H n .non .non
  | bl {n : Nat} {b : Bool} : Lq H n (.bl b) (.bl b)
  | int {n : Nat} {i : Int} : Lq H n (.int i) (.int i)
  | str {n : Nat} {z : Str} : Lq H n (.str z) (.str z)
  | tup {n : Nat} {a b : Addr} {xs ys : List V} (ha : Rd H a (.tup xs)) (hb : Rd H b (.tup ys)) (hl : xs.length = ys.length) (h : ∀ (i : Nat) (x y : V), xs[i]? = some x → ys[i]? = some y → Lq H n x y) : Lq H (n + 1) (.ref a) (.ref b)
  | lst {n : Nat} {a b : Addr} {xs ys : List V} (ha : H a = some (.lst xs)) (hb : H b = some (.lst ys)) (hl : xs.length = ys.length) (h : ∀ (i : Nat) (x y : V), xs[i]? = some x → ys[i]? = some y → Lq H n x y) : Lq H (n + 1) (.ref a) (.ref b)
  | dct {n : Nat} {a b : Addr} {kvs kws : List (Key × V)} (f : Key → V) (ha : Rd H a (.dK kvs)) (hb : Rd H b (.dK kws)) (hl : kvs.length = kws.length)
      (hf : ∀ (k : Key) (v : V), (k, v) ∈ kws → valV kvs k = some (f k)) (hg : ∀ (k : Key) (v : V), (k, v) ∈ kws → valV kws k = some v) (h : ∀ (k : Key) (v : V), (k, v) ∈ kws → Lq H n (f k) v) : Lq H (n + 1) (.ref a) (.ref b)
theorem Rd.same {H H' : Hp} (s : Same H H') {a : Addr} {u : HO} (r : Rd H a u) : Rd H' a u := by
  rcases r with e | ⟨o, e⟩
  · exact .inl (s _ _ e)
  · exact .inr ⟨o, s _ _ e⟩
theorem Lq.same {H H' : Hp} (s : Same H H') {n : Nat} {x y : V} (h : Lq H n x y) : Lq H' n x y := by
  induction h with
  | non => exact .non
  | bl => exact .bl
  | int => exact .int
  | str => exact .str
  | tup ha hb hl _ ih => exact .tup (ha.same s) (hb.same s) hl ih
  | lst ha hb hl _ ih => exact .lst (s _ _ ha) (s _ _ hb) hl ih
  | dct f ha hb hl hf hg _ ih => exact .dct f (ha.same s) (hb.same s) hl hf hg ih
/-- the same while a dict stands frozen -/
theorem Rd.frz {H : Hp} {a c : Addr} {o : Obj} {kvs : List (Key × V)} (e : H a = some (.dK kvs)) {kws : List (Key × V)} (r : Rd H c (.dK kws)) : Rd (upd H a (.frz o (.dK kvs))) c (.dK kws) := by
  by_cases z : c = a
  · subst z
    rcases r with q | ⟨o', q⟩
    · rw [e] at q
      cases q
      exact .inr ⟨o, upd_same⟩
    · rw [e] at q
      cases q
  · rcases r with q | ⟨o', q⟩
    · exact .inl ((upd_ne z).trans q)
    · exact .inr ⟨o', (upd_ne z).trans q⟩
theorem Lq.frz {H : Hp} {a : Addr} {o : Obj} {kvs : List (Key × V)} (e : H a = some (.dK kvs)) {n : Nat} {x y : V} (h : Lq H n x y) : Lq (upd H a (.frz o (.dK kvs))) n x y := by
  have ne : ∀ b u, H b = some u → u ≠ .dK kvs → upd H a (.frz o (.dK kvs)) b = some u := fun b u q n => (upd_ne fun z => by rw [z, e] at q; cases q; exact n rfl).trans q
  have nr : ∀ b xs, Rd H b (.tup xs) → Rd (upd H a (.frz o (.dK kvs))) b (.tup xs) := fun b xs r => by
    rcases r with q | ⟨o', q⟩
    · exact .inl (ne b _ q (by simp))
    · exact .inr ⟨o', ne b _ q (by simp)⟩
  induction h with
  | non => exact .non
  | bl => exact .bl
  | int => exact .int
  | str => exact .str
  | tup ha hb hl _ ih => exact .tup (nr _ _ ha) (nr _ _ hb) hl ih
  | lst ha hb hl _ ih => exact .lst (ne _ _ ha (by simp)) (ne _ _ hb (by simp)) hl ih
  | dct f ha hb hl hf hg _ ih => exact .dct f (ha.frz e) (hb.frz e) hl hf hg ih
end L2

/-! EXCEPTIONS WITH A DICT OF THEIR OWN (own work): what a frame that is left writes. -/
namespace L2
open PySem
section
variable {M : Model} {A : Around} {E : Value → Shared → Prop} {s : Shared} {base : Heap} {env : Env} {outer : List Env} {L x : Addr} {P : Addr → Prop} {C : Value} {od : Option Addr}
end
end L2

/-! EXCEPTIONS IN THE LAYER (own work): how one lies behind a call, how it passes, raise, try. -/
namespace L2
open PySem PySem.Spec PyProof.Rows
/-- an address of ours: new since the entry, no name's, no pin's, untracked -/
structure Our (X : Cx) (pins : List (Addr × Obj)) (H : Hp) (b : Addr) : Prop where
  new : X.s₀.heap.objs.size ≤ b
  loc : b ≠ X.env.locals
  cel : ∀ y c, X.env.cells.lookup y = some c → c ≠ b
  pin : ∀ p ∈ X.pn ++ pins, p.1 ≠ b
  unt : H b = none
section
variable {X : Cx} {pins : List (Addr × Obj)} {σ : St} {H H' : Hp} {s s' : Shared} {x b : Addr} {C : Value} {od : Option Addr}
theorem Inv.our' (I : Inv X pins σ H s) (h : s.heap.objs.size ≤ b) (hn : H' b = none) : Our X pins H' b := by
  have lt : ∀ c o, s.heap.get? c = some o → c ≠ b := fun c o e z => by
    subst z
    exact absurd (Nat.lt_of_lt_of_le (Heap.lt_size e) h) (Nat.lt_irrefl _)
  refine ⟨Nat.le_trans I.sz h, fun z => ?_, fun y c e => ?_, fun p hp => ?_, hn⟩
  · obtain ⟨m, ⟨o, _, _, ho, _⟩, _⟩ := I.loc
    exact lt _ o ho z.symm
  · obtain ⟨v, o, ho, _⟩ := I.cell y c e
    exact lt c o ho
  · exact lt p.1 _ (I.pin p hp).1
theorem Inv.our (I : Inv X pins σ H s) (h : s.heap.objs.size ≤ b) : Our X pins H b := I.our' h (I.hok.fresh h)
end
section
variable {X : Cx} {k : Nat} {f C : Addr} {fd : FuncData} {ps : List Str} {sp : Sp} {dvs : List V} {ds : List Value} {E : XS} {x m : Str} {p pos apos : Pos} {e o : Expr} {es : List Expr} {ta : TE} {t : TA}
end
end L2

/-! OWN EXCEPTIONS OVER ValueError (own work): made with an __init__ of the text's, with fields. -/
namespace L2
open PySem PySem.Spec PyProof.Rows Builtin Builtin.ObjectAttr
abbrev bmV : List Value := [.type "ValueError", .type "Exception", .type "BaseException", .type "object"]
/-- own classes ahead of ValueError's line -/
def tailV : List Value → Bool
  | [] => false
  | v :: r => (v :: r) == bmV || match v with | .ref _ => tailV r | _ => false
/-- what of the text an exception's class must have -/
structure XCl (K : PySem.W.Frag) (C : Addr) : Prop where
  at_ : ∃ (nm q : Str) (N : Addr) (bs bm : List Value) (sn : List Str) (sub : List Value) (ab : Bool) (col : Option Bool) (dd : Option Addr) (k0 k1 k2 k3 k5 : Option Value), K.lookup C = some (excClassObj nm q C N bs bm true sn sub ab col dd k0 k1 k2 k3 k5 "ValueError.__new__") ∧ tailV bm = true
  ga : PySem.W.findIn K (.ref C) "__getattribute__" = some (some (.builtin "BaseException.__getattribute__"))
  gx : PySem.W.findIn K (.ref C) "__getattr__" = some none
  sa : PySem.W.findIn K (.ref C) "__setattr__" = some (some (.builtin "object.__setattr__"))
  kp : PySem.W.keepIn K (.ref C) = true
theorem xcl_mk {K : PySem.W.Frag} {C N : Addr} {nm q : Str} {bs bm : List Value} {sn : List Str} {sub : List Value} {ab : Bool} {col : Option Bool} {dd : Option Addr} {k0 k1 k2 k3 k5 : Option Value}
    (l : K.lookup C = some (excClassObj nm q C N bs bm true sn sub ab col dd k0 k1 k2 k3 k5 "ValueError.__new__")) (t : tailV bm = true) (ga : PySem.W.findIn K (.ref C) "__getattribute__" = some (some (.builtin "BaseException.__getattribute__")))
    (gx : PySem.W.findIn K (.ref C) "__getattr__" = some none) (sa : PySem.W.findIn K (.ref C) "__setattr__" = some (some (.builtin "object.__setattr__"))) (kp : PySem.W.keepIn K (.ref C) = true) : XCl K C :=
  ⟨⟨nm, q, N, bs, bm, sn, sub, ab, col, dd, k0, k1, k2, k3, k5, l, t⟩, ga, gx, sa, kp⟩
section
variable {prog : Program} {w : World} {A : Around} {E : Value → Shared → Prop} {h : Heap} {g : Array GenState} {d : Drawn} {t : Nat} {os : OsState}
variable {nm q : Str} {C N : Addr} {bs bm : List Value} {sn : List Str} {sub : List Value} {ab : Bool} {col : Option Bool} {dd : Option Addr} {k0 k1 k2 k3 k5 : Option Value}
end
section
variable {prog : Program} {w : World} {A : Around} {E : Value → Shared → Prop} {s : Shared} {K : PySem.W.Frag} {x C dx t0 : Addr} {name : Str} {v : Value}
end
end L2

/-! RAISE, TRY, FIELDS OF EXCEPTIONS (own work). -/
namespace L2
open PySem PySem.Spec PyProof.Rows Builtin Builtin.ObjectAttr
section
variable {P : Program} {w : World} {H : Hp} {h : Heap} {x C dx t : Addr} {od : Option Addr}
end
section
variable {X : Cx} {pins : List (Addr × Obj)} {σ : St} {H : Hp} {s : Shared} {x dx C : Addr} {φ : Heap → Prop} {od : Option Addr}
/-- something of ours is looked after from now on -/
theorem Inv.track {o : HO} (I : Inv X pins σ H s) (hx : Our X pins H x) (new : ObjOk X.prog X.w (upd H x o) s.heap x o) : Inv X pins σ (upd H x o) s := by
  have ne : ∀ b u, H b = some u → b ≠ x := fun b u q z => by rw [z, hx.unt] at q; cases q
  refine I.step (h' := s.heap) (g' := s.gens) (d' := s.drawn) (t' := s.toks) (ch := [x]) (fun b hb => ?_) (fun b o _ _ _ e _ => e) (fun b o _ _ _ e _ => ⟨o.slots, e⟩) (fun b o hc e n => ?_) (fun b o _ e => ⟨o, e⟩) (fun b xs e => ?_) (fun b u xs e => ?_) (fun b ps e => ⟨#[], ?_⟩) (fun m hm => hm) (fun b u q => ?_) I.bare
  · rw [List.mem_singleton.mp hb]
    exact ⟨.inr hx.new, hx.loc, hx.cel, hx.pin⟩
  · rw [upd_ne fun z => hc (by rw [z]; exact List.mem_singleton.mpr rfl)]
    exact n
  · rw [upd_ne (ne b _ e)]; exact e
  · rw [upd_ne (ne b _ e)]; exact e
  · rw [upd_ne (ne b _ e), e]; simp
  · by_cases hb : b = x
    · subst hb
      rw [upd_same] at q
      cases q
      exact new
    · rw [upd_ne hb] at q
      exact (I.hok b u q).stay (fun _ _ _ r => r) (fun c r => by rw [upd_ne (ne c _ r)]; exact r) fun c xs r => by rw [upd_ne (ne c _ r)]; exact r
end
section
variable {X : Cx} {k : Nat} {f C : Addr} {fd : FuncData} {ps : List Str} {sp : Sp} {dvs : List V} {ds : List Value} {E : XS} {x m : Str} {p pos apos : Pos} {e o : Expr} {es : List Expr} {ta te : TE} {t : TA}
end
end L2

/-! FIELDS OF EXCEPTIONS, THEIR BASE'S __init__, TRY (own work). -/
namespace L2
open PySem PySem.Spec PyProof.Rows Builtin Builtin.ObjectAttr
section
variable {X : Cx} {o e value : Expr} {f : Str} {pos pos' tpos : Pos} {ta tv : TE}
end
/-! ### B.__init__(self, ..), B an own class whose __init__ is ValueError's -/
section
variable {prog : Program} {w : World} {A : Around} {E : Value → Shared → Prop} {h : Heap} {g : Array GenState} {d : Drawn} {t : Nat} {os : OsState}
variable {nm q : Str} {C N x t0 : Addr} {bs bm : List Value} {sn : List Str} {sub : List Value} {ab : Bool} {col : Option Bool} {dd : Option Addr} {k0 k1 k2 k3 k5 : Option Value}
end
section
variable {X : Cx} {B : Addr} {y : Str} {p pos apos : Pos} {e : Expr} {es : List Expr} {t : TA}
end
/-! ### try .. except C as n -/
section
variable {X : Cx} {pins : List (Addr × Obj)} {σ : St} {H : Hp} {s : Shared} {x : Addr} {E : Value → Shared → Prop}
end
section
variable {X : Cx} {body : List Stmt} {cx n : Str} {b₀ : Stmt} {suite : List Stmt} {np hp pos : Pos} {CN : Addr} {i : Nat} {tb : Ends → TS} {ts : Addr → TS}
end
end L2

/-! zip OF TWO TUPLES (own work, on the pattern of the library's zip of two lists). -/
namespace L2
open PySem
section
variable {prog : Program} {w : World} {A : Around} {E : Value → Shared → Prop} {s : Shared}
theorem nextT_item {it t : Addr} {i : Nat} {xs : Array Value} {x : Value} {Q : Value → Shared → Prop} (hi : s.heap.IsTupleIter it t i) (ht : s.heap.IsTuple t xs) (hx : xs[i]? = some x)
    (hQ : ∀ h', h'.IsTupleIter it t (i + 1) → Heap.SameBut it s.heap h' → Q x { s with heap := h' }) : wpAny (model prog w) A (Builtin.SmallTypes.nextOf (.ref it)) Q E s := by
  obtain ⟨o, ho, hc, hd⟩ := id hi
  obtain ⟨ot, hot, _, nt, hdt⟩ := ht
  unfold Builtin.SmallTypes.nextOf
  refine wpAny_bind (wpAny_callSpecial?_slot (name := Str.ofString "__next__") hi.typeIs F.slot_tuple_iterator_next (wpAny_call_entry F.slot_tuple_iterator_next hi.typeIs F.entry_tuple_iterator_next ?_ (F.args_tuple_iterator_next_1 _)))
  show wpAny _ _ (field (.ref it) 0 >>= _) _ _ s
  refine wpAny_bind (wpAny_field ho hd (x := .ref t) rfl ?_)
  show wpAny _ _ (if (Value.ref t == Value.none) = true then _ else _) _ _ s
  rw [if_neg (show ¬ ((Value.ref t == Value.none) = true) from Bool.false_ne_true)]
  show wpAny _ _ (field (.ref it) 1 >>= _) _ _ s
  refine wpAny_bind (wpAny_field ho hd (x := .int i 0) rfl ?_)
  show wpAny _ _ (seqItems? (.ref t) >>= _) _ _ s
  refine wpAny_bind (wpAny_seqItems hot hdt ?_)
  simp only [Int.toNat_natCast, hx]
  refine wpAny_bind (wpAny_setField ho hd (by simp) (wpAny_pure ⟨x, rfl, wpAny_pure (hQ _ ⟨_, Heap.get?_update_self _ ho (Obj.isFreed_of_fields (Obj.data_mapFields hd _)), (Obj.cls_mapFields ..).trans hc, ?_⟩ (Heap.SameBut.update ..))⟩))
  rw [Obj.data_mapFields hd]
  simp [rawInt]
theorem nextT_end {it t : Addr} {i : Nat} {xs : Array Value} {Q : Value → Shared → Prop} (hh : A.handled = none) (hi : s.heap.IsTupleIter it t i) (ht : s.heap.IsTuple t xs) (hx : xs[i]? = none)
    (hE : ∀ h' e, Heap.ExtBut it s.heap h' → (∃ o, h'.get? e = some o ∧ o.cls = .type "StopIteration") → E (.ref e) { s with heap := h' }) : wpAny (model prog w) A (Builtin.SmallTypes.nextOf (.ref it)) Q E s := by
  obtain ⟨o, ho, hc, hd⟩ := id hi
  obtain ⟨ot, hot, _, nt, hdt⟩ := ht
  unfold Builtin.SmallTypes.nextOf
  refine wpAny_bind (wpAny_callSpecial?_slot (name := Str.ofString "__next__") hi.typeIs F.slot_tuple_iterator_next (wpAny_call_entry F.slot_tuple_iterator_next hi.typeIs F.entry_tuple_iterator_next ?_ (F.args_tuple_iterator_next_1 _)))
  show wpAny _ _ (field (.ref it) 0 >>= _) _ _ s
  refine wpAny_bind (wpAny_field ho hd (x := .ref t) rfl ?_)
  show wpAny _ _ (if (Value.ref t == Value.none) = true then _ else _) _ _ s
  rw [if_neg (show ¬ ((Value.ref t == Value.none) = true) from Bool.false_ne_true)]
  show wpAny _ _ (field (.ref it) 1 >>= _) _ _ s
  refine wpAny_bind (wpAny_field ho hd (x := .int i 0) rfl ?_)
  show wpAny _ _ (seqItems? (.ref t) >>= _) _ _ s
  refine wpAny_bind (wpAny_seqItems hot hdt ?_)
  simp only [Int.toNat_natCast, hx]
  refine wpAny_bind (wpAny_rule (wpAny_bind (wpAny_setField ho hd (by simp) ?_)))
  show wpAny _ _ (newExc (.type "StopIteration") [] >>= _) _ _ _
  refine wpAny_bind ?_
  simp only [newExc, newTuple]
  refine wpAny_bind (wpAny_newObj_type ?_ (by size_fits))
  refine wpAny_bind (m := firstArgMember _ _) (wpAny_of_eq (a := Value.none) (by first | rfl | (simp only [firstArgMember]; rfl)) ?_)
  refine wpAny_newObj_type ?_ (by size_fits)
  simp only [raiseNew]
  refine wpAny_bind (wpAny_handled ?_)
  first | rw [show A.in1.handled = none from hh] | rw [hh]
  refine wpAny_bind (wpAny_pure (wpAny_throw ?_))
  exact hE _ _ (((Heap.SameBut.update ..).extBut.push _).push _) ⟨_, Heap.get?_push_size _ rfl, rfl⟩
/-- the state of a zip of the tuples t1, t2 at place k -/
structure ZT (h : Heap) (z TI TO i1 i2 t1 t2 : Addr) (k : Nat) (xs ys : Array Value) (f0 : Value) : Prop where
  zp : IsZip h z TI TO f0
  ti : IsPair h TI (.ref i1) (.ref i2)
  to : ∃ a b, IsPair h TO a b
  j1 : h.IsTupleIter i1 t1 k
  j2 : h.IsTupleIter i2 t2 k
  l1 : h.IsTuple t1 xs
  l2 : h.IsTuple t2 ys
theorem zipT_item {z TI TO i1 i2 t1 t2 : Addr} {k : Nat} {xs ys : Array Value} {x y : Value} {Q : Value → Shared → Prop} (D : ZipApart z TI TO i1 i2 t1 t2) (Z : ZT s.heap z TI TO i1 i2 t1 t2 k xs ys .none) (hx : xs[k]? = some x) (hy : ys[k]? = some y)
    (hQ : ∀ h', ZT h' z TI TO i1 i2 t1 t2 (k + 1) xs ys (rawInt s.heap.objs.size) → IsPair h' s.heap.objs.size x y → h'.objs.size = s.heap.objs.size + 1 → (∀ c o, c ≠ z → c ≠ TO → c ≠ i1 → c ≠ i2 → s.heap.get? c = some o → h'.get? c = some o) → Q (.ref s.heap.objs.size) { s with heap := h' }) :
    wpAny (model prog w) A (Builtin.«zip.__next__» ⟨[.ref z], []⟩) (fun fin s' => ∃ v, fin = .done (.ret v) ∧ Q v s') E s := by
  obtain ⟨hz, hTI, ⟨a, b, hTO⟩, h1, h2, hl1, hl2⟩ := Z
  show wpAny _ _ (field (.ref z) 2 >>= _) _ _ _
  refine wpAny_bind (wpAny_field hz rfl (x := .bool false) rfl ?_)
  show wpAny _ _ (field (.ref z) 3 >>= _) _ _ _
  refine wpAny_bind (wpAny_field hz rfl (x := .ref TI) rfl ?_)
  refine wpAny_bind (wpAny_seqItems hTI rfl ?_)
  show wpAny _ _ (Builtin.SmallTypes.ownedTupleIsFree (.ref z) >>= _) _ _ _
  refine wpAny_bind ?_
  unfold Builtin.SmallTypes.ownedTupleIsFree
  refine wpAny_bind (wpAny_field hz rfl (x := .none) rfl (wpAny_pure ?_))
  simp only [if_true]
  refine wpAny_bind (wpAny_rule ?_)
  refine wpAny_bind (wpAny_field hz rfl (x := .ref TO) rfl ?_)
  refine wpAny_bind (wpAny_setField_rec hz (by simp) fun g1 z1 b1 => ?_)
  replace z1 : IsZip g1 z TI TO .ellipsis := z1
  refine wpAny_bind ?_
  simp only [List.zipIdx_cons, List.zipIdx_nil, List.forIn_cons, List.forIn_nil]
  refine wpAny_bind (wpAny_bind (wpAny_onRaise ?_))
  show wpAny _ _ (Builtin.SmallTypes.nextOf (.ref i1) >>= _) _ _ _
  refine wpAny_bind (nextT_item (s := { s with heap := g1 }) (h1.extBut b1.extBut D.i1z) (hl1.extBut b1.extBut D.l1z) hx fun g2 j2 b2 => wpAny_pure ?_)
  have o2 : IsPair g2 TO a b := b2.extBut _ _ D.TOi1 (b1.extBut _ _ D.TOz hTO)
  refine wpAny_bind (wpAny_seqItems o2 rfl ?_)
  refine wpAny_bind (wpAny_updateSeq_pair o2 fun g3 o3 b3 => ?_)
  replace o3 : IsPair g3 TO x b := o3
  refine wpAny_bind (wpAny_letGo (wpAny_pure ?_))
  refine wpAny_bind (wpAny_bind (wpAny_onRaise ?_))
  show wpAny _ _ (Builtin.SmallTypes.nextOf (.ref i2) >>= _) _ _ _
  refine wpAny_bind (nextT_item (s := { s with heap := g3 }) (((h2.extBut b1.extBut D.i2z).extBut b2.extBut D.i12.symm).extBut b3.extBut D.TOi2.symm) (((hl2.extBut b1.extBut D.l2z).extBut b2.extBut D.l2i1).extBut b3.extBut D.l2TO) hy fun g4 j4 b4 => wpAny_pure ?_)
  have o4 : IsPair g4 TO x b := b4.extBut _ _ D.TOi2 o3
  refine wpAny_bind (wpAny_seqItems o4 rfl ?_)
  refine wpAny_bind (wpAny_updateSeq_pair o4 fun g5 o5 b5 => ?_)
  replace o5 : IsPair g5 TO x y := o5
  refine wpAny_bind (wpAny_letGo (wpAny_pure (wpAny_pure ?_)))
  refine wpAny_bind (wpAny_seqItems o5 rfl ?_)
  refine wpAny_bind (wpAny_newTuple ?_)
  have sz : g5.objs.size = s.heap.objs.size := by rw [b5.1, b4.1, b3.1, b2.1, b1.1]
  have z5 : IsZip g5 z TI TO .ellipsis := b5.extBut _ _ D.TOz.symm (b4.extBut _ _ D.i2z.symm (b3.extBut _ _ D.TOz.symm (b2.extBut _ _ D.i1z.symm z1)))
  have k5 : ∀ c o, c ≠ z → c ≠ TO → c ≠ i1 → c ≠ i2 → s.heap.get? c = some o → g5.get? c = some o := fun c o c1 c2 c3 c4 e => b5.extBut _ _ c2 (b4.extBut _ _ c4 (b3.extBut _ _ c2 (b2.extBut _ _ c3 (b1.extBut _ _ c1 e))))
  have p1 : g5.IsTupleIter i1 t1 (k + 1) := ((j2.extBut b3.extBut D.TOi1.symm).extBut b4.extBut D.i12).extBut b5.extBut D.TOi1.symm
  have p2 : g5.IsTupleIter i2 t2 (k + 1) := j4.extBut b5.extBut D.TOi2.symm
  have zlt : z < g5.objs.size := Heap.lt_size z5
  show wpAny _ _ (Builtin.SmallTypes.ownedTupleHandOut (.ref z) (.ref g5.objs.size) >>= _) _ _ _
  refine wpAny_bind ?_
  unfold Builtin.SmallTypes.ownedTupleHandOut
  have z6 : IsZip (g5.push { cls := .type "tuple", data := .seq #[x, y] }) z TI TO .ellipsis := Heap.get?_push_of_some _ z5
  refine wpAny_bind (wpAny_setField_rec z6 (by simp) fun g7 z7 b7 => ?_)
  replace z7 : IsZip g7 z TI TO (rawInt g5.objs.size) := z7
  refine wpAny_setField_rec z7 (by simp) fun g8 z8 b8 => ?_
  replace z8 : IsZip g8 z TI TO (rawInt g5.objs.size) := z8
  have up : ∀ c o, c ≠ z → g5.get? c = some o → g8.get? c = some o := fun c o c1 e => b8.extBut _ _ c1 (b7.extBut _ _ c1 (Heap.get?_push_of_some _ e))
  have T8 : IsPair g8 g5.objs.size x y := b8.extBut _ _ (Nat.ne_of_gt zlt) (b7.extBut _ _ (Nat.ne_of_gt zlt) (Heap.get?_push_size _ rfl))
  have s8 : g8.objs.size = g5.objs.size + 1 := by rw [b8.1, b7.1, Heap.size_push]
  rw [sz] at z8 T8 s8
  refine wpAny_pure ⟨_, rfl, ?_⟩
  show Q (.ref g5.objs.size) _
  rw [sz]
  have kk : ∀ c o, c ≠ z → c ≠ TO → c ≠ i1 → c ≠ i2 → s.heap.get? c = some o → g8.get? c = some o := fun c o c1 c2 c3 c4 e => up c o c1 (k5 c o c1 c2 c3 c4 e)
  refine hQ g8 ⟨z8, kk _ _ D.TIz D.TITO D.TIi1 D.TIi2 hTI, ⟨x, y, up _ _ D.TOz o5⟩, ?_, ?_, ?_, ?_⟩ T8 s8 kk
  · obtain ⟨o, e, r⟩ := p1; exact ⟨o, up _ o D.i1z e, r⟩
  · obtain ⟨o, e, r⟩ := p2; exact ⟨o, up _ o D.i2z e, r⟩
  · obtain ⟨o, e, r⟩ := hl1; exact ⟨o, kk _ o D.l1z D.l1TO D.l1i1 D.l1i2 e, r⟩
  · obtain ⟨o, e, r⟩ := hl2; exact ⟨o, kk _ o D.l2z D.l2TO D.l2i1 D.l2i2 e, r⟩
theorem zipT_end {z TI TO i1 i2 t1 t2 : Addr} {k : Nat} {xs ys : Array Value} {Q : Fin → Shared → Prop} (hh : A.handled = none) (D : ZipApart z TI TO i1 i2 t1 t2) (Z : ZT s.heap z TI TO i1 i2 t1 t2 k xs ys .none) (hx : xs[k]? = none)
    (hE : ∀ h' e, (∀ c o, c ≠ z → c ≠ TO → c ≠ i1 → c ≠ i2 → s.heap.get? c = some o → h'.get? c = some o) → (∃ o, h'.get? e = some o ∧ o.cls = .type "StopIteration") → E (.ref e) { s with heap := h' }) :
    wpAny (model prog w) A (Builtin.«zip.__next__» ⟨[.ref z], []⟩) Q E s := by
  obtain ⟨hz, hTI, ⟨a, b, hTO⟩, h1, h2, hl1, hl2⟩ := Z
  show wpAny _ _ (field (.ref z) 2 >>= _) _ _ _
  refine wpAny_bind (wpAny_field hz rfl (x := .bool false) rfl ?_)
  show wpAny _ _ (field (.ref z) 3 >>= _) _ _ _
  refine wpAny_bind (wpAny_field hz rfl (x := .ref TI) rfl ?_)
  refine wpAny_bind (wpAny_seqItems hTI rfl ?_)
  show wpAny _ _ (Builtin.SmallTypes.ownedTupleIsFree (.ref z) >>= _) _ _ _
  refine wpAny_bind ?_
  unfold Builtin.SmallTypes.ownedTupleIsFree
  refine wpAny_bind (wpAny_field hz rfl (x := .none) rfl (wpAny_pure ?_))
  simp only [if_true]
  refine wpAny_bind (wpAny_rule ?_)
  refine wpAny_bind (wpAny_field hz rfl (x := .ref TO) rfl ?_)
  refine wpAny_bind (wpAny_setField_rec hz (by simp) fun g1 z1 b1 => ?_)
  replace z1 : IsZip g1 z TI TO .ellipsis := z1
  refine wpAny_bind ?_
  simp only [List.zipIdx_cons, List.zipIdx_nil, List.forIn_cons, List.forIn_nil]
  refine wpAny_bind (wpAny_bind (wpAny_onRaise ?_))
  show wpAny _ _ (Builtin.SmallTypes.nextOf (.ref i1) >>= _) _ _ _
  refine wpAny_bind (nextT_end (s := { s with heap := g1 }) hh (h1.extBut b1.extBut D.i1z) (hl1.extBut b1.extBut D.l1z) hx fun g2 e b2 he => ?_)
  obtain ⟨oe, hoe, hce⟩ := he
  have z2 : IsZip g2 z TI TO .ellipsis := b2 _ _ D.i1z.symm z1
  have hez : e ≠ z := fun q => by subst q; rw [z2] at hoe; cases hoe; simp at hce
  exact wpAny_setField_rec z2 (by simp) fun g3 _ b3 => hE g3 e (fun c o c1 _ c3 _ q => b3.extBut _ _ c1 (b2 _ _ c3 (b1.extBut _ _ c1 q))) ⟨oe, b3.extBut _ _ hez hoe, hce⟩
theorem zipT_next {z TI TO i1 i2 t1 t2 : Addr} {k : Nat} {xs ys : Array Value} {x y : Value} {Q : Option Value → Shared → Prop} (D : ZipApart z TI TO i1 i2 t1 t2) (Z : ZT s.heap z TI TO i1 i2 t1 t2 k xs ys .none) (hx : xs[k]? = some x) (hy : ys[k]? = some y)
    (hQ : ∀ h', ZT h' z TI TO i1 i2 t1 t2 (k + 1) xs ys (rawInt s.heap.objs.size) → IsPair h' s.heap.objs.size x y → h'.objs.size = s.heap.objs.size + 1 → (∀ c o, c ≠ z → c ≠ TO → c ≠ i1 → c ≠ i2 → s.heap.get? c = some o → h'.get? c = some o) → Q (some (.ref s.heap.objs.size)) { s with heap := h' }) :
    wpAny (model prog w) A (pyNext (.ref z)) Q E s := by
  have hT : s.TypeIs (.ref z) "zip" := ⟨_, Z.zp, rfl⟩
  unfold pyNext
  exact wpAny_bind (wpAny_attempt (wpAny_callSpecial?_slot (name := Str.ofString "__next__") hT F.slot_zip_next (wpAny_call_entry F.slot_zip_next hT F.entry_zip_next (zipT_item D Z hx hy fun h' a1 a2 a3 a4 => wpAny_pure (hQ h' a1 a2 a3 a4)) (F.args_zip_next_1 _))))
theorem zipT_stop {z TI TO i1 i2 t1 t2 : Addr} {k : Nat} {xs ys : Array Value} {Q : Option Value → Shared → Prop} (hh : A.handled = none) (D : ZipApart z TI TO i1 i2 t1 t2) (Z : ZT s.heap z TI TO i1 i2 t1 t2 k xs ys .none) (hx : xs[k]? = none)
    (hQ : ∀ h', (∀ c o, c ≠ z → c ≠ TO → c ≠ i1 → c ≠ i2 → s.heap.get? c = some o → h'.get? c = some o) → Q none { s with heap := h' }) : wpAny (model prog w) A (pyNext (.ref z)) Q E s := by
  have hT : s.TypeIs (.ref z) "zip" := ⟨_, Z.zp, rfl⟩
  unfold pyNext
  refine wpAny_bind (wpAny_attempt (wpAny_callSpecial?_slot (name := Str.ofString "__next__") hT F.slot_zip_next (wpAny_call_entry F.slot_zip_next hT F.entry_zip_next (zipT_end hh D Z hx fun h' e hk he => ?_) (F.args_zip_next_1 _))))
  obtain ⟨o, ho, hc⟩ := he
  refine wpAny_bind (wpAny_isInstance (T := "StopIteration") (b := true) ⟨o, ho, hc⟩ isSubtype_stop ?_)
  exact wpAny_pure (hQ _ hk)
end
abbrev zT1 (h : Heap) (l1 : Addr) : Heap := h.push { cls := .type "tuple_iterator", data := .fields #[.ref l1, .int 0 0] }
abbrev zT2 (h : Heap) (l1 l2 : Addr) : Heap := (zT1 h l1).push { cls := .type "tuple_iterator", data := .fields #[.ref l2, .int 0 0] }
abbrev zT3 (h : Heap) (l1 l2 : Addr) : Heap := (zT2 h l1 l2).push { cls := .type "tuple", data := .seq #[.ref h.objs.size, .ref (zT1 h l1).objs.size] }
abbrev zT4 (h : Heap) (l1 l2 : Addr) : Heap := (zT3 h l1 l2).push { cls := .type "tuple", data := .seq #[.none, .none] }
abbrev zT5 (h : Heap) (l1 l2 : Addr) : Heap := (zT4 h l1 l2).push { cls := .type "zip", data := .fields #[.none, .bool false, .bool false, .ref (zT2 h l1 l2).objs.size, .ref (zT3 h l1 l2).objs.size] }
theorem meets_zipT (l1 l2 : Addr) (xs ys : Array Value) :
    Meets (Builtin.«zip.__new__» ⟨[.type "zip", .ref l1, .ref l2], []⟩) (fun _ R s => s.heap.IsTuple l1 xs ∧ s.heap.IsTuple l2 ys ∧ R (.ok (.ret (.ref (zT4 s.heap l1 l2).objs.size))) { s with heap := zT5 s.heap l1 l2 }) :=
  .of_wp fun prog w A R s h => by
    obtain ⟨hp, g, d, tk, os⟩ := s; obtain ⟨hl1, hl2, h⟩ := h
    have hsub := sub_zip
    have m1 : Heap.IsTuple (Shared.heap ⟨hp, g, d, tk, os⟩) l1 xs := hl1
    have m2 : Heap.IsTuple (Shared.heap ⟨hp.push { cls := .type "tuple_iterator", data := .fields #[.ref l1, .int 0 0] }, g, d, tk, os⟩) l2 ys := Heap.IsTuple.push hl2 _
    wp_walk using wpAny_pyIter_tuple m1, wpAny_pyIter_tuple m2
    exact ⟨_, rfl, h⟩
theorem call_zipT {prog : Program} {w : World} {A : Around} {E : Value → Shared → Prop} {s : Shared} {l1 l2 : Addr} {xs ys : Array Value} {Q : Value → Shared → Prop} (hl1 : s.heap.IsTuple l1 xs) (hl2 : s.heap.IsTuple l2 ys)
    (h : ∀ h', ZT h' (s.heap.objs.size + 4) (s.heap.objs.size + 2) (s.heap.objs.size + 3) s.heap.objs.size (s.heap.objs.size + 1) l1 l2 0 xs ys .none → h'.objs.size = s.heap.objs.size + 5 → (∀ c o, s.heap.get? c = some o → h'.get? c = some o) → Q (.ref (s.heap.objs.size + 4)) { s with heap := h' }) :
    wpAny (model prog w) A (call (.type "zip") [.ref l1, .ref l2]) Q E s := by
  refine callType_new F.called_zip (by decide) (F.typeCall_zip_2 _ _) (F.newCall_zip_2 _ _) (fun obj => F.args_object_init_3 obj _ _) F.entry_zip_new (meets_zipT l1 l2 xs ys) ⟨hl1, hl2, ?_⟩
  have z1 : (zT1 s.heap l1).objs.size = s.heap.objs.size + 1 := Heap.size_push ..
  have z2 : (zT2 s.heap l1 l2).objs.size = s.heap.objs.size + 2 := by rw [Heap.size_push, z1]
  have z3 : (zT3 s.heap l1 l2).objs.size = s.heap.objs.size + 3 := by rw [Heap.size_push, z2]
  have z4 : (zT4 s.heap l1 l2).objs.size = s.heap.objs.size + 4 := by rw [Heap.size_push, z3]
  have z5 : (zT5 s.heap l1 l2).objs.size = s.heap.objs.size + 5 := by rw [Heap.size_push, z4]
  have kp : ∀ c o, s.heap.get? c = some o → (zT5 s.heap l1 l2).get? c = some o := fun c o x => Heap.get?_push_of_some _ (Heap.get?_push_of_some _ (Heap.get?_push_of_some _ (Heap.get?_push_of_some _ (Heap.get?_push_of_some _ x))))
  have g5 : (zT5 s.heap l1 l2).get? (zT4 s.heap l1 l2).objs.size = some _ := Heap.get?_push_size _ rfl
  have g4 : (zT5 s.heap l1 l2).get? (zT3 s.heap l1 l2).objs.size = some _ := Heap.get?_push_of_some _ (Heap.get?_push_size _ rfl)
  have g3 : (zT5 s.heap l1 l2).get? (zT2 s.heap l1 l2).objs.size = some _ := Heap.get?_push_of_some _ (Heap.get?_push_of_some _ (Heap.get?_push_size _ rfl))
  have g2 : (zT5 s.heap l1 l2).get? (zT1 s.heap l1).objs.size = some _ := Heap.get?_push_of_some _ (Heap.get?_push_of_some _ (Heap.get?_push_of_some _ (Heap.get?_push_size _ rfl)))
  have g1 : (zT5 s.heap l1 l2).get? s.heap.objs.size = some _ := Heap.get?_push_of_some _ (Heap.get?_push_of_some _ (Heap.get?_push_of_some _ (Heap.get?_push_of_some _ (Heap.get?_push_size _ rfl))))
  show _ ∧ _
  rw [z2, z3, z4] at g5
  rw [z1, z2] at g3
  rw [z3] at g4
  rw [z1] at g2
  rw [z4]
  refine ⟨⟨_, g5, rfl⟩, h _ ⟨g5, g3, ⟨_, _, g4⟩, ⟨_, g1, rfl, rfl⟩, ⟨_, g2, rfl, rfl⟩, ?_, ?_⟩ z5 kp⟩
  · obtain ⟨o, e, r⟩ := hl1; exact ⟨o, kp _ o e, r⟩
  · obtain ⟨o, e, r⟩ := hl2; exact ⟨o, kp _ o e, r⟩
end L2

/-! for (x, y) in zip(t, u), t and u tuples (own work). -/
namespace L2
open PySem PySem.Spec PyProof.Rows
section
variable {X : Cx} {pins : List (Addr × Obj)} {σ : St} {H : Hp} {s : Shared} {h' : Heap}
/-- several records of ours have turned -/
theorem Inv.turnedL {t' : Nat} {ch : List Addr} (I : Inv X pins σ H s) (k : ∀ b o, b ∉ ch → s.heap.get? b = some o → h'.get? b = some o) (f : ∀ b ∈ ch, FpOk X pins H b) : Inv X pins σ H { s with heap := h', toks := t' } := by
  have nit : ∀ b u, H b = some u → b ∉ ch := fun b u e z => by rw [(f b z).1] at e; cases e
  refine I.step (g' := s.gens) (d' := s.drawn) (ch := ch) (fun b hb => ?_) (fun b o _ _ hc e _ => k b o hc e) (fun b o _ _ hc e _ => ⟨o.slots, k b o hc e⟩) (fun _ _ _ _ n => n) (fun b o hc e => ⟨o, k b o hc e⟩) (fun _ _ e => e) (fun _ _ _ e => e) (fun b ps e => ⟨#[], by rw [e]; simp⟩) (fun m hm => ?_) (fun b u e => ?_) I.bare
  · obtain ⟨f0, f1, f2, f3, f4, f5⟩ := f b hb
    exact ⟨f3, f1, f4, f5⟩
  · obtain ⟨o, es, ep, ho, r⟩ := hm
    refine ⟨o, es, ep, k _ o (fun z => ?_) ho, r⟩
    obtain ⟨f0, f1, _⟩ := f _ z
    exact f1 rfl
  · refine (I.hok b u e).stay (fun c v hc q => k c v ?_ q) (fun _ q => q) fun _ _ q => q
    rcases hc with z | z
    · rw [z]; exact nit b u e
    · exact nit c _ z
end
/-- the records of a zip at place k -/
structure ZM (h : Heap) (z TI TO i1 i2 a b : Addr) (k : Nat) : Prop where
  zp : IsZip h z TI TO .none
  ti : IsPair h TI (.ref i1) (.ref i2)
  to : ∃ u v, IsPair h TO u v
  j1 : h.IsTupleIter i1 a k
  j2 : h.IsTupleIter i2 b k
def ItZ (K : PySem.W.Frag) (a b : Addr) : It :=
  ⟨fun i H => ∃ xs ys x y, SqT K H a xs ∧ SqT K H b ys ∧ xs[i]? = some x ∧ ys[i]? = some y, fun i H x H' => ∃ u v p, (∀ xs ys, SqT K H a xs → SqT K H b ys → xs[i]? = some u ∧ ys[i]? = some v) ∧ x = .ref p ∧ H p = none ∧ H' = upd H p (.tup [u, v]), fun i H => ∃ xs ys, SqT K H a xs ∧ SqT K H b ys ∧ xs.length ≤ i⟩
theorem turn_zipT {P : Program} {w : World} {K : PySem.W.Frag} {es : List Expr} {x1 : Nat} {tp : Pos} (a b z TI TO i1 i2 : Addr) (D : ZipApart z TI TO i1 i2 a b) : Turn P w K (.Tuple es x1 tp) (ItZ K a b) [z, TI, TO, i1, i2] z (fun i h => ZM h z TI TO i1 i2 a b i) where
  mem := by simp
  obj := fun i h st c hc => by
    obtain ⟨s1, s2, ⟨u, v, s3⟩, s4, s5⟩ := st
    simp only [List.mem_cons, List.not_mem_nil, or_false] at hc
    rcases hc with q | q | q | q | q
    · subst q; exact ⟨_, s1, fun v z => by cases z⟩
    · subst q; exact ⟨_, s2, fun v z => by cases z⟩
    · subst q; exact ⟨_, s3, fun v z => by cases z⟩
    · subst q; obtain ⟨o, e, _, d⟩ := s4; exact ⟨o, e, fun v z => by rw [d] at z; cases z⟩
    · subst q; obtain ⟨o, e, _, d⟩ := s5; exact ⟨o, e, fun v z => by rw [d] at z; cases z⟩
  keep := fun i h h' st k => by
    obtain ⟨s1, s2, ⟨u, v, s3⟩, ⟨o4, e4, r4⟩, ⟨o5, e5, r5⟩⟩ := st
    exact ⟨k z (by simp) _ s1, k TI (by simp) _ s2, ⟨u, v, k TO (by simp) _ s3⟩, ⟨o4, k i1 (by simp) _ e4, r4⟩, ⟨o5, k i2 (by simp) _ e5, r5⟩⟩
  item := by
    intro X hP hw hK hc i pins s σ H E I hf st hg
    subst hP hw hK
    obtain ⟨s1, s2, s3, s4, s5⟩ := st
    obtain ⟨xs, ys, x, y, hq1, hq2, hx, hy⟩ := hg
    obtain ⟨its, rv, p, hz⟩ := I.tuple hq1
    obtain ⟨jts, rw', p', hz'⟩ := I.tuple hq2
    obtain ⟨u, hu, ru⟩ := rv.get hx
    obtain ⟨v, hv, rv'⟩ := rw'.get hy
    have Z : ZT s.heap z TI TO i1 i2 a b i its.toArray jts.toArray .none := ⟨s1, s2, s3, s4, s5, p, p'⟩
    refine zipT_next D Z (x := u) (y := v) (by simpa using hu) (by simpa using hv) fun h' Z' ht hsz kp => ?_
    refine ⟨_, rfl, ?_⟩
    refine wpAny_letOwnedTupleGo_zip (s := { s with heap := h' }) Z'.zp fun h'' zp'' sb => ?_
    have zlt : z < s.heap.objs.size := Heap.lt_size s1
    have kp2 : ∀ c o, c ∉ [z, TI, TO, i1, i2] → s.heap.get? c = some o → h''.get? c = some o := fun c o hc e => by
      simp only [List.mem_cons, List.not_mem_nil, or_false, not_or] at hc
      exact (sb.2 c hc.1).trans (kp c o hc.1 hc.2.2.1 hc.2.2.2.1 hc.2.2.2.2 e)
    have I1 : Inv X pins σ H { s with heap := h'' } := I.turnedL (t' := s.toks) kp2 hf
    have hp : H s.heap.objs.size = none := I.hok.fresh (Nat.le_refl _)
    have e2 : h''.get? s.heap.objs.size = some { cls := .type "tuple", data := .seq #[u, v] } := (sb.2 _ (Nat.ne_of_gt zlt)).trans ht
    have I2 : Inv X pins σ (upd H s.heap.objs.size (.tup [x, y])) { s with heap := h'' } := I1.track (I.our (Nat.le_refl _)) ⟨(show 2 ≤ sizeLine by decide), [u, v], .cons ru (.cons rv' .nil), ⟨_, e2, rfl, _, rfl⟩⟩
    refine ⟨.ref s.heap.objs.size, _, I2, rfl, ⟨x, y, _, fun ws us h1 h2 => ?_, rfl, hp, rfl⟩, ?_, fun c hc => ?_⟩
    · rw [I.tuple_inj h1 hq1, I.tuple_inj h2 hq2]
      exact ⟨hx, hy⟩
    · have up : ∀ c o, c ≠ z → h'.get? c = some o → h''.get? c = some o := fun c o hc e => (sb.2 c hc).trans e
      obtain ⟨_, q2, ⟨q3a, q3b, q3⟩, ⟨o4, e4, r4⟩, ⟨o5, e5, r5⟩, _, _⟩ := Z'
      exact ⟨zp'', up _ _ D.TIz q2, ⟨q3a, q3b, up _ _ D.TOz q3⟩, ⟨o4, up _ _ D.i1z e4, r4⟩, ⟨o5, up _ _ D.i2z e5, r5⟩⟩
    · obtain ⟨f0, _⟩ := hf c hc
      rw [upd_ne fun q => ?_]
      · exact f0
      · have lt : ∀ c o, s.heap.get? c = some o → c ≠ s.heap.objs.size := fun c o e => Nat.ne_of_lt (Heap.lt_size e)
        obtain ⟨q3a, q3b, q3⟩ := s3
        obtain ⟨o4, e4, _⟩ := s4
        obtain ⟨o5, e5, _⟩ := s5
        simp only [List.mem_cons, List.not_mem_nil, or_false] at hc
        rcases hc with r | r | r | r | r
        · exact lt z _ s1 (r ▸ q)
        · exact lt TI _ s2 (r ▸ q)
        · exact lt TO _ q3 (r ▸ q)
        · exact lt i1 _ e4 (r ▸ q)
        · exact lt i2 _ e5 (r ▸ q)
  done := by
    intro X hP hw hK hc i pins s σ H E I hf st hg
    subst hP hw hK
    obtain ⟨s1, s2, s3, s4, s5⟩ := st
    obtain ⟨xs, ys, hq1, hq2, hx⟩ := hg
    obtain ⟨its, rv, p, hz⟩ := I.tuple hq1
    obtain ⟨jts, rw', p', hz'⟩ := I.tuple hq2
    have hl := rv.length
    have Z : ZT s.heap z TI TO i1 i2 a b i its.toArray jts.toArray .none := ⟨s1, s2, s3, s4, s5, p, p'⟩
    refine zipT_stop (I.ok.hd hc) D Z (by simp; omega) fun h' kp => ⟨rfl, I.turnedL (t' := s.toks) (fun c o hc e => ?_) hf⟩
    simp only [List.mem_cons, List.not_mem_nil, or_false, not_or] at hc
    exact kp c o hc.1 hc.2.2.1 hc.2.2.2.1 hc.2.2.2.2 e
  self := fun A i s Q E st h => wpAny_pyIter_zip st.zp h
section
variable {X : Cx}
theorem boot_zip : bootBuiltins "zip" = some (.type "zip") := by decide +kernel
def iZipT (K : PySem.W.Frag) (ta : TA) : TI := fun σ H R => ta σ H fun vs H1 => ∃ a b, vs = [.ref a, .ref b] ∧ (∃ xs, SqT K H1 a xs) ∧ (∃ ys, SqT K H1 b ys) ∧ R (ItZ K a b) H1
theorem pi_zipT {es : List Expr} {x1 : Nat} {tp : Pos} {l m : Expr} {ta : TA} {p pos : Pos} (hg : Gl X "zip") (hm : X.mg "zip" = none) (ha : PA X [l, m] ta) (hs : starEach [l, m] X.env = (false, eval l X.env) :: starEach [m] X.env := by rfl) (hpl : (backTo pos (starEach [m] X.env)).any (·.1) = false := by rfl) :
    PI X (.Tuple es x1 tp) (.Call (.Name "zip" p) [l, m] [] pos) (iZipT X.K ta) := by
  intro pins s σ H R I h
  refine Call_ (ld_blt I hg hm boot_zip (PyProof.Rows.callWith_type1 (thn (ha pos pins s σ H _ I h) fun us s1 ⟨vs, H1, I1, r1, q1⟩ => ?_) hs hpl))
  obtain ⟨a, b, e, ⟨xs, hq1⟩, ⟨ys, hq2⟩, q⟩ := q1
  subst e
  obtain ⟨u, v, rfl, rx, ry⟩ := vals2 r1
  cases rx
  cases ry
  obtain ⟨its, rv, p1, hz⟩ := I1.tuple hq1
  obtain ⟨jts, rw', p2, hz'⟩ := I1.tuple hq2
  have la : a < s1.heap.objs.size := by obtain ⟨o, e, _⟩ := p1; exact Heap.lt_size e
  have lb : b < s1.heap.objs.size := by obtain ⟨o, e, _⟩ := p2; exact Heap.lt_size e
  have D : ZipApart (s1.heap.objs.size + 4) (s1.heap.objs.size + 2) (s1.heap.objs.size + 3) s1.heap.objs.size (s1.heap.objs.size + 1) a b := by
    generalize s1.heap.objs.size = n at la lb
    constructor <;> (intro z; simp only [Addr] at *; omega)
  refine call_zipT p1 p2 fun h' Z hsz hk => ?_
  have I2 : Inv X pins σ H1 { s1 with heap := h' } := I1.kept (t' := s1.toks) hk
  refine wpAny_pyIter_zip (s := { s1 with heap := h' }) Z.zp ?_
  refine ⟨s1.heap.objs.size + 4, [s1.heap.objs.size + 4, s1.heap.objs.size + 2, s1.heap.objs.size + 3, s1.heap.objs.size, s1.heap.objs.size + 1], _, _, H1, rfl, I2, turn_zipT a b _ _ _ _ _ D, ⟨Z.zp, Z.ti, Z.to, Z.j1, Z.j2⟩, fun c hc => ?_, q⟩
  have nb : s1.heap.objs.size ≤ c := by
    simp only [List.mem_cons, List.not_mem_nil, or_false] at hc
    rcases hc with r | r | r | r | r <;> (rw [r]; first | exact Nat.le_refl _ | exact Nat.le_add_right _ _)
  exact I1.fpOk nb (I1.hok.fresh nb)
/-- the loop -/
theorem for_zipT {K : PySem.W.Frag} {a b : Addr} {xs ys : List V} {g : TG} {tb : TS} {D : Ends} {σ : St} {H : Hp} (Pv : Nat → St → Hp → Prop) (hlen : xs.length = ys.length) (h0 : Pv 0 σ H) (hl : ∀ i σ H, i ≤ xs.length → Pv i σ H → SqT K H a xs ∧ SqT K H b ys)
    (hs : ∀ i x y p σ H, xs[i]? = some x → ys[i]? = some y → Pv i σ H → H p = none → g (.ref p) σ (upd H p (.tup [x, y])) fun σ2 H2 => tb { D with nx := Pv (i + 1), ct := Pv (i + 1), bk := D.nx } σ2 H2) (hd : ∀ σ H, Pv xs.length σ H → D.nx σ H) :
    ∃ W : Nat → Nat → St → Hp → Prop, (∃ m, W 0 m σ H) ∧ ∀ i m σ H, W i m σ H →
      ((ItZ K a b).stop i H ∧ D.nx σ H) ∨ ((ItZ K a b).go i H ∧ ∃ N : St → Hp → Prop, (∀ σ' H', N σ' H' → ∃ m', m' < m ∧ W (i + 1) m' σ' H') ∧ ∀ x H', (ItZ K a b).yld i H x H' → g x σ H' fun σ2 H2 => tb { D with nx := N, ct := N, bk := D.nx } σ2 H2) := by
  refine ⟨fun i m σ H => m = xs.length - i ∧ i ≤ xs.length ∧ Pv i σ H, ⟨xs.length, by simp, Nat.zero_le _, h0⟩, ?_⟩
  rintro i m σ H ⟨rfl, hi, p⟩
  obtain ⟨q1, q2⟩ := hl i σ H hi p
  by_cases hlt : i < xs.length
  · have hlt2 : i < ys.length := by omega
    refine .inr ⟨⟨xs, ys, xs[i], ys[i], q1, q2, by simp [hlt], by simp [hlt2]⟩, Pv (i + 1), fun σ' H' p' => ⟨xs.length - (i + 1), by omega, rfl, hlt, p'⟩, fun x H' y => ?_⟩
    obtain ⟨u, v, pa, hk, ex, hn, e⟩ := y
    subst e ex
    exact hs i u v pa σ H (hk xs ys q1 q2).1 (hk xs ys q1 q2).2 p hn
  · have e : i = xs.length := by omega
    subst e
    exact .inl ⟨⟨xs, ys, q1, q2, Nat.le_refl _⟩, hd σ H p⟩
end
end L2

/-! range(n) as a value, list(range(n)); defs with defaults; defs that raise (own work). -/
namespace L2
open PySem PySem.Spec PyProof.Rows
section
variable {X : Cx}
end
/-- a def of the text, perhaps with defaults -/
structure FunX (K : PySem.W.Frag) (x qual : Str) (st : Stmt) (f : Addr) (fd : FuncData) : Prop where
  ex : ∃ (oc : Value) (od : Option Addr) (dV kV doc pm : Value) (an : Option Addr) (cdv ct : Value) (osl : Array (Option Value)),
    fd = PySem.W.fnOf x qual (defArgs st) (defBody st) (defScope st) dV kV doc pm an cdv ct ∧ K.lookup f = some ⟨oc, od, .func fd, osl⟩ ∧ PySem.W.codeIn K cdv qual = true
  kp : PySem.W.keepIn K (.ref f) = true
theorem funX_mk {K : PySem.W.Frag} {x qual : Str} {st : Stmt} {f : Addr} {oc : Value} {od an : Option Addr} {osl : Array (Option Value)} {dV kV doc pm cdv ct : Value} (l : K.lookup f = some ⟨oc, od, .func (PySem.W.fnOf x qual (defArgs st) (defBody st) (defScope st) dV kV doc pm an cdv ct), osl⟩)
    (c : PySem.W.codeIn K cdv qual = true) (k : PySem.W.keepIn K (.ref f) = true) : FunX K x qual st f (PySem.W.fnOf x qual (defArgs st) (defBody st) (defScope st) dV kV doc pm an cdv ct) := ⟨⟨oc, od, dV, kV, doc, pm, an, cdv, ct, osl, rfl, l, c⟩, k⟩
section
variable {P : Program} {w : World} {K : PySem.W.Frag} {mg : Str → Option Value} {base : Heap}
theorem FunX.ok {x qual : Str} {st : Stmt} {f : Addr} {fd : FuncData} {N ps : List Str} {k : Nat} {sp : Sp} (F : FunX K x qual st f fd) (S : FnScope N ps (defScope st)) (len : ∀ vs H Q E, sp vs H Q E → vs.length = ps.length)
    (hbody : ∀ (cdv : Value) (A : Around) (outer : List Env) (s : Shared) (H : Hp) (vs : List V) (Q : VK) (E : XK), Room k (A.deeper (envOfC qual (defScope st) s.heap.objs.size f cdv)) → sp vs H Q E →
      ∃ t, PSs (cxOf CX0 P w K mg base N qual (defScope st) f cdv A outer s H E).nox (defBody st) t ∧ t { nx := fun _ H' => Q .non H', rt := Q } (start N vs) H) : FnOk P w K mg base CX0 (k + 1) f fd ps sp := by
  obtain ⟨oc, od, dV, kV, doc, pm, an, cdv, ct, osl, rfl, lk, hcd⟩ := F.ex
  refine fn_of lk hcd S len fun A outer s H vs Q E hr hsp => ?_
  obtain ⟨t, h, q⟩ := hbody cdv A outer s H vs Q E hr hsp
  exact ⟨t, h.nox, q⟩
end
end L2

/-! for (x, y) in zip(l, m), l and m lists (own work). -/
namespace L2
open PySem PySem.Spec PyProof.Rows
/-- the records of a zip at place k -/
structure ZL (h : Heap) (z TI TO i1 i2 a b : Addr) (k : Nat) : Prop where
  zp : IsZip h z TI TO .none
  ti : IsPair h TI (.ref i1) (.ref i2)
  to : ∃ u v, IsPair h TO u v
  j1 : h.IsListIter i1 a k
  j2 : h.IsListIter i2 b k
def ItY (K : PySem.W.Frag) (a b : Addr) : It :=
  ⟨fun i H => ∃ xs ys x y, SqL K H a xs ∧ SqL K H b ys ∧ xs[i]? = some x ∧ ys[i]? = some y, fun i H x H' => ∃ u v p, (∀ xs ys, SqL K H a xs → SqL K H b ys → xs[i]? = some u ∧ ys[i]? = some v) ∧ x = .ref p ∧ H p = none ∧ H' = upd H p (.tup [u, v]), fun i H => ∃ xs ys, SqL K H a xs ∧ SqL K H b ys ∧ xs.length ≤ i⟩
theorem turn_zipL {P : Program} {w : World} {K : PySem.W.Frag} {es : List Expr} {x1 : Nat} {tp : Pos} (a b z TI TO i1 i2 : Addr) (D : ZipApart z TI TO i1 i2 a b) : Turn P w K (.Tuple es x1 tp) (ItY K a b) [z, TI, TO, i1, i2] z (fun i h => ZL h z TI TO i1 i2 a b i) where
  mem := by simp
  obj := fun i h st c hc => by
    obtain ⟨s1, s2, ⟨u, v, s3⟩, s4, s5⟩ := st
    simp only [List.mem_cons, List.not_mem_nil, or_false] at hc
    rcases hc with q | q | q | q | q
    · subst q; exact ⟨_, s1, fun v z => by cases z⟩
    · subst q; exact ⟨_, s2, fun v z => by cases z⟩
    · subst q; exact ⟨_, s3, fun v z => by cases z⟩
    · subst q; obtain ⟨o, e, _, d⟩ := s4; exact ⟨o, e, fun v z => by rw [d] at z; cases z⟩
    · subst q; obtain ⟨o, e, _, d⟩ := s5; exact ⟨o, e, fun v z => by rw [d] at z; cases z⟩
  keep := fun i h h' st k => by
    obtain ⟨s1, s2, ⟨u, v, s3⟩, ⟨o4, e4, r4⟩, ⟨o5, e5, r5⟩⟩ := st
    exact ⟨k z (by simp) _ s1, k TI (by simp) _ s2, ⟨u, v, k TO (by simp) _ s3⟩, ⟨o4, k i1 (by simp) _ e4, r4⟩, ⟨o5, k i2 (by simp) _ e5, r5⟩⟩
  item := by
    intro X hP hw hK hc i pins s σ H E I hf st hg
    subst hP hw hK
    obtain ⟨s1, s2, s3, s4, s5⟩ := st
    obtain ⟨xs, ys, x, y, hq1, hq2, hx, hy⟩ := hg
    obtain ⟨its, rv, p, hz⟩ := I.list hq1
    obtain ⟨jts, rw', p', hz'⟩ := I.list hq2
    obtain ⟨u, hu, ru⟩ := rv.get hx
    obtain ⟨v, hv, rv'⟩ := rw'.get hy
    obtain ⟨t3a, t3b, t3⟩ := id s3
    refine wpAny_pyNext_zip_item D s1 s2 t3 s4 s5 p.isList p'.isList (x := u) (y := v) (by simpa using hu) (by simpa using hv) fun h' z1 z3 z4 z5 ht hsz kp => ?_
    refine ⟨_, rfl, ?_⟩
    refine wpAny_letOwnedTupleGo_zip (s := { s with heap := h' }) z1 fun h'' zp'' sb => ?_
    have zlt : z < s.heap.objs.size := Heap.lt_size s1
    have kp2 : ∀ c o, c ∉ [z, TI, TO, i1, i2] → s.heap.get? c = some o → h''.get? c = some o := fun c o hc e => by
      simp only [List.mem_cons, List.not_mem_nil, or_false, not_or] at hc
      exact (sb.2 c hc.1).trans (kp c o hc.1 hc.2.2.1 hc.2.2.2.1 hc.2.2.2.2 e)
    have I1 : Inv X pins σ H { s with heap := h'' } := I.turnedL (t' := s.toks) kp2 hf
    have hp : H s.heap.objs.size = none := I.hok.fresh (Nat.le_refl _)
    have e2 : h''.get? s.heap.objs.size = some { cls := .type "tuple", data := .seq #[u, v] } := (sb.2 _ (Nat.ne_of_gt zlt)).trans ht
    have I2 : Inv X pins σ (upd H s.heap.objs.size (.tup [x, y])) { s with heap := h'' } := I1.track (I.our (Nat.le_refl _)) ⟨(show 2 ≤ sizeLine by decide), [u, v], .cons ru (.cons rv' .nil), ⟨_, e2, rfl, _, rfl⟩⟩
    refine ⟨.ref s.heap.objs.size, _, I2, rfl, ⟨x, y, _, fun ws us h1 h2 => ?_, rfl, hp, rfl⟩, ?_, fun c hc => ?_⟩
    · rw [I.list_inj h1 hq1, I.list_inj h2 hq2]
      exact ⟨hx, hy⟩
    · have up : ∀ c o, c ≠ z → h'.get? c = some o → h''.get? c = some o := fun c o hc e => (sb.2 c hc).trans e
      obtain ⟨o4, e4, r4⟩ := z4
      obtain ⟨o5, e5, r5⟩ := z5
      exact ⟨zp'', up _ _ D.TIz (kp _ _ D.TIz D.TITO D.TIi1 D.TIi2 s2), ⟨_, _, up _ _ D.TOz z3⟩, ⟨o4, up _ _ D.i1z e4, r4⟩, ⟨o5, up _ _ D.i2z e5, r5⟩⟩
    · obtain ⟨f0, _⟩ := hf c hc
      rw [upd_ne fun q => ?_]
      · exact f0
      · have lt : ∀ c o, s.heap.get? c = some o → c ≠ s.heap.objs.size := fun c o e => Nat.ne_of_lt (Heap.lt_size e)
        obtain ⟨q3a, q3b, q3⟩ := s3
        obtain ⟨o4, e4, _⟩ := s4
        obtain ⟨o5, e5, _⟩ := s5
        simp only [List.mem_cons, List.not_mem_nil, or_false] at hc
        rcases hc with r | r | r | r | r
        · exact lt z _ s1 (r ▸ q)
        · exact lt TI _ s2 (r ▸ q)
        · exact lt TO _ q3 (r ▸ q)
        · exact lt i1 _ e4 (r ▸ q)
        · exact lt i2 _ e5 (r ▸ q)
  done := by
    intro X hP hw hK hc i pins s σ H E I hf st hg
    subst hP hw hK
    obtain ⟨s1, s2, s3, s4, s5⟩ := st
    obtain ⟨xs, ys, hq1, hq2, hx⟩ := hg
    obtain ⟨its, rv, p, hz⟩ := I.list hq1
    obtain ⟨jts, rw', p', hz'⟩ := I.list hq2
    have hl := rv.length
    obtain ⟨t3a, t3b, t3⟩ := id s3
    refine wpAny_pyNext_zip_end (I.ok.hd hc) D s1 s2 t3 s4 s5 p.isList p'.isList (.inl (by simp; omega)) fun h' kp => ⟨rfl, I.turnedL (t' := s.toks) (fun c o hc e => ?_) hf⟩
    simp only [List.mem_cons, List.not_mem_nil, or_false, not_or] at hc
    exact kp c o hc.1 hc.2.2.1 hc.2.2.2.1 hc.2.2.2.2 e
  self := fun A i s Q E st h => wpAny_pyIter_zip st.zp h
section
variable {X : Cx}
def iZipL (K : PySem.W.Frag) (ta : TA) : TI := fun σ H R => ta σ H fun vs H1 => ∃ a b, vs = [.ref a, .ref b] ∧ (∃ xs, SqL K H1 a xs) ∧ (∃ ys, SqL K H1 b ys) ∧ R (ItY K a b) H1
theorem pi_zipL {es : List Expr} {x1 : Nat} {tp : Pos} {l m : Expr} {ta : TA} {p pos : Pos} (hg : Gl X "zip") (hm : X.mg "zip" = none) (ha : PA X [l, m] ta) (hs : starEach [l, m] X.env = (false, eval l X.env) :: starEach [m] X.env := by rfl) (hpl : (backTo pos (starEach [m] X.env)).any (·.1) = false := by rfl) :
    PI X (.Tuple es x1 tp) (.Call (.Name "zip" p) [l, m] [] pos) (iZipL X.K ta) := by
  intro pins s σ H R I h
  refine Call_ (ld_blt I hg hm boot_zip (PyProof.Rows.callWith_type1 (thn (ha pos pins s σ H _ I h) fun us s1 ⟨vs, H1, I1, r1, q1⟩ => ?_) hs hpl))
  obtain ⟨a, b, e, ⟨xs, hq1⟩, ⟨ys, hq2⟩, q⟩ := q1
  subst e
  obtain ⟨u, v, rfl, rx, ry⟩ := vals2 r1
  cases rx
  cases ry
  obtain ⟨its, rv, p1, hz⟩ := I1.list hq1
  obtain ⟨jts, rw', p2, hz'⟩ := I1.list hq2
  have la : a < s1.heap.objs.size := by obtain ⟨o, e, _⟩ := p1.isList; exact Heap.lt_size e
  have lb : b < s1.heap.objs.size := by obtain ⟨o, e, _⟩ := p2.isList; exact Heap.lt_size e
  have D : ZipApart (s1.heap.objs.size + 4) (s1.heap.objs.size + 2) (s1.heap.objs.size + 3) s1.heap.objs.size (s1.heap.objs.size + 1) a b := by
    generalize s1.heap.objs.size = n at la lb
    constructor <;> (intro z; simp only [Addr] at *; omega)
  refine call_zip_2 p1.isList p2.isList fun h' z1 z2 z3 z4 z5 hsz hk => ?_
  have I2 : Inv X pins σ H1 { s1 with heap := h' } := I1.kept (t' := s1.toks) hk
  refine wpAny_pyIter_zip (s := { s1 with heap := h' }) z1 ?_
  refine ⟨s1.heap.objs.size + 4, [s1.heap.objs.size + 4, s1.heap.objs.size + 2, s1.heap.objs.size + 3, s1.heap.objs.size, s1.heap.objs.size + 1], _, _, H1, rfl, I2, turn_zipL a b _ _ _ _ _ D, ⟨z1, z2, ⟨_, _, z3⟩, z4, z5⟩, fun c hc => ?_, q⟩
  have nb : s1.heap.objs.size ≤ c := by
    simp only [List.mem_cons, List.not_mem_nil, or_false] at hc
    rcases hc with r | r | r | r | r <;> (rw [r]; first | exact Nat.le_refl _ | exact Nat.le_add_right _ _)
  exact I1.fpOk nb (I1.hok.fresh nb)
/-- the loop -/
theorem for_zipL {K : PySem.W.Frag} {a b : Addr} {xs ys : List V} {g : TG} {tb : TS} {D : Ends} {σ : St} {H : Hp} (Pv : Nat → St → Hp → Prop) (hlen : xs.length = ys.length) (h0 : Pv 0 σ H) (hl : ∀ i σ H, i ≤ xs.length → Pv i σ H → SqL K H a xs ∧ SqL K H b ys)
    (hs : ∀ i x y p σ H, xs[i]? = some x → ys[i]? = some y → Pv i σ H → H p = none → g (.ref p) σ (upd H p (.tup [x, y])) fun σ2 H2 => tb { D with nx := Pv (i + 1), ct := Pv (i + 1), bk := D.nx } σ2 H2) (hd : ∀ σ H, Pv xs.length σ H → D.nx σ H) :
    ∃ W : Nat → Nat → St → Hp → Prop, (∃ m, W 0 m σ H) ∧ ∀ i m σ H, W i m σ H →
      ((ItY K a b).stop i H ∧ D.nx σ H) ∨ ((ItY K a b).go i H ∧ ∃ N : St → Hp → Prop, (∀ σ' H', N σ' H' → ∃ m', m' < m ∧ W (i + 1) m' σ' H') ∧ ∀ x H', (ItY K a b).yld i H x H' → g x σ H' fun σ2 H2 => tb { D with nx := N, ct := N, bk := D.nx } σ2 H2) := by
  refine ⟨fun i m σ H => m = xs.length - i ∧ i ≤ xs.length ∧ Pv i σ H, ⟨xs.length, by simp, Nat.zero_le _, h0⟩, ?_⟩
  rintro i m σ H ⟨rfl, hi, p⟩
  obtain ⟨q1, q2⟩ := hl i σ H hi p
  by_cases hlt : i < xs.length
  · have hlt2 : i < ys.length := by omega
    refine .inr ⟨⟨xs, ys, xs[i], ys[i], q1, q2, by simp [hlt], by simp [hlt2]⟩, Pv (i + 1), fun σ' H' p' => ⟨xs.length - (i + 1), by omega, rfl, hlt, p'⟩, fun x H' y => ?_⟩
    obtain ⟨u, v, pa, hk, ex, hn, e⟩ := y
    subst e ex
    exact hs i u v pa σ H (hk xs ys q1 q2).1 (hk xs ys q1 q2).2 p hn
  · have e : i = xs.length := by omega
    subst e
    exact .inl ⟨⟨xs, ys, q1, q2, Nat.le_refl _⟩, hd σ H p⟩
end
end L2

namespace L2
open PySem PySem.Spec PyProof.Rows
/-- a comprehension whose items are told by what has come so far -/
theorem compW_idx {J : It} {g : TG} {te : TE} {R : Addr → Hp → Prop} {D : Addr} {σ0 : St} {H0 : Hp} (n : Nat) (Pv : Nat → List V → St → Hp → Prop) (hn : n ≤ sizeLine) (h0 : Pv 0 [] σ0 H0) (hD0 : H0 D = some (.lst []))
    (hs : ∀ i σ H ys, i < n → Pv i ys σ H → ys.length = i → H D = some (.lst ys) → J.go i H ∧ ∀ x H', J.yld i H x H' → g x σ H' fun σ2 H2 => te σ2 H2 fun y H4 => H4 D = some (.lst ys) ∧ Pv (i + 1) (ys ++ [y]) σ2 (upd H4 D (.lst (ys ++ [y]))))
    (hd : ∀ σ H ys, Pv n ys σ H → H D = some (.lst ys) → ys.length = n → J.stop n H ∧ R D H) : CompW J g tYes te R D σ0 H0 := by
  refine ⟨fun i m σ H => m = n - i ∧ i ≤ n ∧ ∃ ys, Pv i ys σ H ∧ H D = some (.lst ys) ∧ ys.length = i, ⟨n, by omega, Nat.zero_le _, [], h0, hD0, rfl⟩, ?_⟩
  rintro i m σ H ⟨rfl, hi, ys, p, hD, hl⟩
  by_cases hlt : i < n
  · obtain ⟨go, st⟩ := hs i σ H ys hlt p hl hD
    refine .inr ⟨go, fun σ2 y H4 => H4 D = some (.lst ys) ∧ Pv (i + 1) (ys ++ [y]) σ2 (upd H4 D (.lst (ys ++ [y]))), fun _ _ => False, ?_, fun _ _ z => z.elim, st⟩
    rintro σ2 y H4 ⟨e, p'⟩
    exact ⟨_, e, by rw [hl]; omega, n - (i + 1), by omega, rfl, hlt, _, p', upd_same, by simp [hl]⟩
  · have e : i = n := by omega
    subst e
    exact .inl (hd σ H ys p hD hl)
theorem back_same {H H1 : Hp} {a : Addr} {o : Obj} {kvs : List (Key × V)} (hc : H a = some (.dK kvs)) (e : Same (L2.upd H a (.frz o (.dK kvs))) H1) : Same H (L2.upd H1 a (.dK kvs)) := fun b u hb => by
  by_cases eb : b = a
  · subst eb
    rw [hc] at hb
    rw [← hb]
    exact upd_same
  · rw [upd_ne eb]
    exact e b u (by rw [upd_ne eb]; exact hb)
end L2

/-! SORTING BY KEYS THAT DIFFER (own work): what the asking sort does, whoever answers. -/
namespace Srt
open PySem PySem.W PyProof.Rows
structure Ord (N : Nat) (r : Nat → Nat → Bool) : Prop where
  asym : ∀ a b, a < N → b < N → r a b = true → r b a = false
  trans : ∀ a b c, a < N → b < N → c < N → r b a = false → r c b = false → r c a = false
  dist : ∀ a b, a < N → b < N → a ≠ b → r a b = true ∨ r b a = true
def Cmp (N : Nat) (r : Nat → Nat → Bool) (cmp : Nat → Nat → (Bool → Shared → Prop) → Shared → Prop) (P : Shared → Prop) : Prop :=
  ∀ (i j : Nat) (C : Bool → Shared → Prop) (s : Shared), i < N → j < N → i ≠ j → P s → (∀ s', P s' → C (r i j) s') → cmp i j C s
def PN (N : Nat) (p : Array Nat) : Prop := p.toList.Perm (List.range N)
def Up (r : Nat → Nat → Bool) (p : Array Nat) (k : Nat) : Prop := ∀ i j, i ≤ j → j < k → r (p.getD j 0) (p.getD i 0) = false
def Dn (r : Nat → Nat → Bool) (p : Array Nat) (k : Nat) : Prop := ∀ i j, i ≤ j → j < k → r (p.getD i 0) (p.getD j 0) = false
section
variable {N : Nat} {r : Nat → Nat → Bool} {cmp : Nat → Nat → (Bool → Shared → Prop) → Shared → Prop} {P : Shared → Prop} {p : Array Nat}
theorem Ord.refl (O : Ord N r) {a : Nat} (h : a < N) : r a a = false := by
  cases e : r a a with
  | false => rfl
  | true => exact (O.asym a a h h e).symm.trans e |>.symm
theorem PN.size (h : PN N p) : p.size = N := by
  have := h.length_eq
  simpa using this
theorem getD_get {i : Nat} (hi : i < p.size) : p.getD i 0 = p[i] := by simp [Array.getD, hi]
theorem PN.lt (h : PN N p) {i : Nat} (hi : i < N) : p.getD i 0 < N := by
  have hs := h.size
  rw [getD_get (by omega)]
  have : p[i]'(by omega) ∈ p.toList := by simp
  exact List.mem_range.mp (h.mem_iff.mp this)
theorem PN.inj (h : PN N p) {i j : Nat} (hi : i < N) (hj : j < N) (e : p.getD i 0 = p.getD j 0) : i = j := by
  have hs := h.size
  rw [getD_get (by omega), getD_get (by omega)] at e
  have nd : p.toList.Nodup := h.nodup_iff.mpr List.nodup_range
  rcases Nat.lt_trichotomy i j with h1 | h1 | h1
  · exact absurd (show p.toList[i]'(by simp; omega) = p.toList[j]'(by simp; omega) by rw [Array.getElem_toList, Array.getElem_toList]; exact e) (List.pairwise_iff_getElem.mp nd i j (by simp; omega) (by simp; omega) h1)
  · exact h1
  · exact absurd (show p.toList[j]'(by simp; omega) = p.toList[i]'(by simp; omega) by rw [Array.getElem_toList, Array.getElem_toList]; exact e.symm) (List.pairwise_iff_getElem.mp nd j i (by simp; omega) (by simp; omega) h1)
theorem asc (O : Ord N r) (hc : Cmp N r cmp P) (hp : PN N p) : ∀ (f n : Nat) (s : Shared) (Q : Nat → Shared → Prop), 1 ≤ n → n + f ≤ N → Up r p n → P s →
    (∀ m s', n ≤ m → m ≤ n + f → (m = n + f ∨ r (p.getD m 0) (p.getD (m - 1) 0) = true) → Up r p m → P s' → Q m s') → (kas_asc p f n).kasWp cmp Q s
  | 0, n, s, Q, h1, hn, hu, hP, hq => hq n s (Nat.le_refl _) (Nat.le_refl _) (.inl rfl) hu hP
  | f + 1, n, s, Q, h1, hn, hu, hP, hq => by
    show cmp _ _ _ s
    refine hc _ _ _ s (hp.lt (by omega)) (hp.lt (by omega)) (fun z => by have := hp.inj (by omega) (by omega) z; omega) hP fun s' hs' => ?_
    cases e : r (p.getD n 0) (p.getD (n - 1) 0) with
    | true =>
      dsimp only
      rw [if_pos rfl]
      exact hq n s' (Nat.le_refl _) (by omega) (.inr e) hu hs'
    | false =>
      dsimp only
      rw [if_neg (by decide)]
      refine asc O hc hp f (n + 1) s' Q (by omega) (by omega) (fun i j hij hj => ?_) hs' fun m s'' h2 h3 h4 h5 h6 => hq m s'' (by omega) (by omega) (h4.imp (fun z => by omega) id) h5 h6
      by_cases hjn : j < n
      · exact hu i j hij hjn
      · have ej : j = n := by omega
        subst ej
        by_cases hi : i = j
        · subst hi
          exact O.refl (hp.lt (by omega))
        · exact O.trans _ _ _ (hp.lt (by omega)) (hp.lt (by omega)) (hp.lt (by omega)) (hu i (j - 1) (by omega) (by omega)) e
theorem desc (O : Ord N r) (hc : Cmp N r cmp P) (hp : PN N p) : ∀ (f n : Nat) (s : Shared) (Q : Array Nat × Nat × Nat → Shared → Prop), 1 ≤ n → n + f ≤ N → Dn r p n → P s →
    (∀ m s', n ≤ m → m ≤ n + f → Dn r p m → P s' → Q (p, m, 0) s') → (kas_desc f p n 0).kasWp cmp Q s
  | 0, n, s, Q, h1, hn, hu, hP, hq => hq n s (Nat.le_refl _) (Nat.le_refl _) hu hP
  | f + 1, n, s, Q, h1, hn, hu, hP, hq => by
    show cmp _ _ _ s
    refine hc _ _ _ s (hp.lt (by omega)) (hp.lt (by omega)) (fun z => by have := hp.inj (by omega) (by omega) z; omega) hP fun s' hs' => ?_
    cases e : r (p.getD n 0) (p.getD (n - 1) 0) with
    | true =>
      dsimp only
      rw [if_pos rfl, if_neg (by omega)]
      refine desc O hc hp f (n + 1) s' Q (by omega) (by omega) (fun i j hij hj => ?_) hs' fun m s'' h2 h3 h5 h6 => hq m s'' (by omega) (by omega) h5 h6
      by_cases hjn : j < n
      · exact hu i j hij hjn
      · have ej : j = n := by omega
        subst ej
        by_cases hi : i = j
        · subst hi
          exact O.refl (hp.lt (by omega))
        · exact O.trans _ _ _ (hp.lt (by omega)) (hp.lt (by omega)) (hp.lt (by omega)) (O.asym _ _ (hp.lt (by omega)) (hp.lt (by omega)) e) (hu i (j - 1) (by omega) (by omega))
    | false =>
      dsimp only
      rw [if_neg (by decide)]
      show cmp _ _ _ s'
      refine hc _ _ _ s' (hp.lt (by omega)) (hp.lt (by omega)) (fun z => by have := hp.inj (by omega) (by omega) z; omega) hs' fun s'' hs'' => ?_
      have hd : r (p.getD (n - 1) 0) (p.getD n 0) = true := by
        rcases O.dist _ _ (hp.lt (i := n - 1) (by omega)) (hp.lt (i := n) (by omega)) (fun z => by have := hp.inj (by omega) (by omega) z; omega) with h | h
        · exact h
        · rw [e] at h; cases h
      dsimp only
      rw [hd, if_pos rfl]
      exact hq n s'' (Nat.le_refl _) (by omega) hu hs''
theorem rev_at {i j : Nat} (hj : j ≤ p.size) (k : Nat) : (kas_rev p i j).getD k 0 = if i ≤ k ∧ k < j then p.getD (i + j - 1 - k) 0 else p.getD k 0 := by
  have h := getElem?_mirror_all (xs := p) (i := i) (j := j) hj k
  unfold kas_rev
  rw [Array.getD_eq_getD_getElem?, h]
  split <;> rw [Array.getD_eq_getD_getElem?]
theorem rev_pn {i j : Nat} (h : PN N p) : PN N (kas_rev p i j) := (Array.perm_iff_toList_perm.mp (mirror_perm p i j _)).trans h
theorem tail3 (O : Ord N r) (hc : Cmp N r cmp P) (hp : PN N p) {n : Nat} {s : Shared} {Q : Nat × Array Nat → Shared → Prop} (h1 : 1 ≤ n) (hn : n ≤ N) (hd : Dn r p n) (hP : P s)
    (hq : ∀ m p' s', n ≤ m → m ≤ N → PN N p' → Up r p' m → P s' → Q (m, p') s') : (kas_tail3 n N p).kasWp cmp Q s := by
  unfold kas_tail3
  rw [KasT.kasWp_bind]
  have hs := hp.size
  refine asc O hc (rev_pn hp) (N - n) n s _ h1 (by omega) (fun i j hij hj => ?_) hP fun m s' h2 h3 _ h5 h6 => hq m _ s' h2 (by omega) (rev_pn hp) h5 h6
  rw [rev_at (by omega), rev_at (by omega), if_pos (by omega), if_pos (by omega)]
  exact hd _ _ (by omega) (by omega)
theorem count (O : Ord N r) (hc : Cmp N r cmp P) (hp : PN N p) {s : Shared} {Q : Nat × Array Nat → Shared → Prop} (h1 : 1 ≤ N) (hP : P s)
    (hq : ∀ m p' s', 1 ≤ m → m ≤ N → PN N p' → Up r p' m → P s' → Q (m, p') s') : (kas_count N p).kasWp cmp Q s := by
  unfold kas_count
  rw [KasT.kasWp_bind]
  refine asc O hc hp (N - 1) 1 s _ (Nat.le_refl _) (by omega) (fun i j hij hj => ?_) hP fun m s' h2 h3 h4 h5 h6 => ?_
  · have ei : i = 0 := by omega
    have ej : j = 0 := by omega
    subst ei ej
    exact O.refl (hp.lt (by omega))
  · by_cases hm : m = N
    · rw [if_pos (by rw [hm]; exact beq_self_eq_true N)]
      exact hq m p s' h2 (by omega) hp h5 h6
    · rw [if_neg (by rw [beq_iff_eq]; exact hm)]
      have hr : r (p.getD m 0) (p.getD (m - 1) 0) = true := h4.resolve_left (by omega)
      by_cases hm1 : m > 1
      · rw [if_pos hm1]
        show cmp _ _ _ s'
        refine hc _ _ _ s' (hp.lt (by omega)) (hp.lt (by omega)) (fun z => by have := hp.inj (by omega) (by omega) z; omega) h6 fun s'' hs'' => ?_
        have hd : r (p.getD 0 0) (p.getD (m - 1) 0) = true := by
          rcases O.dist _ _ (hp.lt (i := 0) (by omega)) (hp.lt (i := m - 1) (by omega)) (fun z => by have := hp.inj (by omega) (by omega) z; omega) with h | h
          · exact h
          · rw [h5 0 (m - 1) (by omega) (by omega)] at h; cases h
        dsimp only
        rw [hd, if_pos rfl]
        exact hq m p s'' h2 (by omega) hp h5 hs''
      · rw [if_neg hm1]
        have em : m = 1 := by omega
        subst em
        unfold kas_descPart
        rw [KasT.kasWp_bind]
        refine desc O hc hp (N - (1 + 1)) (1 + 1) s' _ (by omega) (by omega) (fun i j hij hj => ?_) h6 fun m s'' g2 g3 g5 g6 => ?_
        · by_cases hi : i = j
          · subst hi
            exact O.refl (hp.lt (by omega))
          · have ei : i = 0 := by omega
            have ej : j = 1 := by omega
            subst ei ej
            exact O.asym _ _ (hp.lt (by omega)) (hp.lt (by omega)) hr
        · rw [if_neg (by show ¬ (0 > 0); omega)]
          exact tail3 O hc hp (by show 1 ≤ m; omega) (by show m ≤ N; omega) g5 g6 fun m' p' s3 a1 a2 a3 a4 a5 => hq m' p' s3 (by have : m ≤ m' := a1; omega) a2 a3 a4 a5
theorem place (O : Ord N r) (hc : Cmp N r cmp P) (hp : PN N p) {k : Nat} (hk : k < N) (hu : Up r p k) : ∀ (f l q : Nat) (s : Shared) (Q : Nat → Shared → Prop), l ≤ q → q ≤ k → q - l ≤ f → (∀ i, i < l → r (p.getD k 0) (p.getD i 0) = false) →
    (∀ i, q ≤ i → i < k → r (p.getD k 0) (p.getD i 0) = true) → P s →
    (∀ m s', m ≤ k → (∀ i, i < m → r (p.getD k 0) (p.getD i 0) = false) → (∀ i, m ≤ i → i < k → r (p.getD k 0) (p.getD i 0) = true) → P s' → Q m s') → (kas_place p k f l q).kasWp cmp Q s
  | 0, l, q, s, Q, hl, hq, hf, lo, hi, hP, h => h l s (by omega) lo (fun i h1 h2 => hi i (by omega) h2) hP
  | f + 1, l, q, s, Q, hl, hq, hf, lo, hi, hP, h => by
    unfold kas_place
    by_cases e : l ≥ q
    · rw [if_pos e]
      exact h l s (by omega) lo (fun i h1 h2 => hi i (by omega) h2) hP
    · rw [if_neg e]
      show cmp _ _ _ s
      have hm : (l + q) / 2 < q := by omega
      have hm2 : l ≤ (l + q) / 2 := by omega
      refine hc _ _ _ s (hp.lt (by omega)) (hp.lt (by omega)) (fun z => by have := hp.inj (by omega) (by omega) z; omega) hP fun s' hs' => ?_
      cases c : r (p.getD k 0) (p.getD ((l + q) / 2) 0) with
      | true =>
        dsimp only
        rw [if_pos rfl]
        refine place O hc hp hk hu f l ((l + q) / 2) s' Q (by omega) (by omega) (by omega) lo (fun i h1 h2 => ?_) hs' h
        cases d : r (p.getD k 0) (p.getD i 0) with
        | true => rfl
        | false =>
          have := O.trans _ _ _ (hp.lt (i := (l + q) / 2) (by omega)) (hp.lt (i := i) (by omega)) (hp.lt (i := k) (by omega)) (hu _ i h1 h2) d
          rw [this] at c
          cases c
      | false =>
        dsimp only
        rw [if_neg (by decide)]
        refine place O hc hp hk hu f ((l + q) / 2 + 1) q s' Q (by omega) (by omega) (by omega) (fun i h1 => ?_) hi hs' h
        exact O.trans _ _ _ (hp.lt (by omega)) (hp.lt (by omega)) (hp.lt (by omega)) (hu i ((l + q) / 2) (by omega) (by omega)) c
theorem bub_at {src d : Nat} (hs : src < p.size) (hd : d ≤ src) (k : Nat) : (bubble p src d).getD k 0 = if k = src - d then p.getD src 0 else if src - d < k ∧ k ≤ src then p.getD (k - 1) 0 else p.getD k 0 := by
  have h := getElem?_bubble hs d hd k
  rw [Array.getD_eq_getD_getElem?, h, Array.getD_eq_getD_getElem?, Array.getD_eq_getD_getElem?, Array.getD_eq_getD_getElem?]
  by_cases e1 : k = src - d
  · rw [if_pos e1, if_pos e1]
  · rw [if_neg e1, if_neg e1]
    by_cases e2 : src - d < k ∧ k ≤ src
    · rw [if_pos e2, if_pos e2]
    · rw [if_neg e2, if_neg e2]
theorem bin (O : Ord N r) (hc : Cmp N r cmp P) : ∀ (f : Nat) (p : Array Nat) (k : Nat) (s : Shared) (Q : Array Nat → Shared → Prop), PN N p → k + f = N → Up r p k → P s →
    (∀ p' s', PN N p' → Up r p' N → P s' → Q p' s') → (kas_bin f p k).kasWp cmp Q s
  | 0, p, k, s, Q, hp, hk, hu, hP, h => h p s hp ((show k = N from hk) ▸ hu) hP
  | f + 1, p, k, s, Q, hp, hk, hu, hP, h => by
    unfold kas_bin
    rw [KasT.kasWp_bind]
    have hs := hp.size
    refine place O hc hp (k := k) (by omega) hu k 0 k s _ (Nat.zero_le _) (Nat.le_refl _) (by omega) (fun i hi => absurd hi (Nat.not_lt_zero _)) (fun i h1 h2 => absurd h2 (by omega)) hP fun m s' h1 lo hi hs' => ?_
    refine bin O hc f _ (k + 1) s' Q ((Array.perm_iff_toList_perm.mp (bubble_perm p k _)).trans hp) (by omega) (fun i j hij hj => ?_) hs' h
    rw [bub_at (by omega) (by omega), bub_at (by omega) (by omega)]
    have e : k - (k - m) = m := by omega
    rw [e]
    have hi' : ∀ i, m ≤ i → i < k → r (p.getD i 0) (p.getD k 0) = false := fun i a b => O.asym _ _ (hp.lt (by omega)) (hp.lt (by omega)) (hi i a b)
    by_cases ej : j = m
    · rw [if_pos ej]
      by_cases ei : i = m
      · rw [if_pos ei]
        exact O.refl (hp.lt (by omega))
      · rw [if_neg ei, if_neg (by omega)]
        exact lo i (by omega)
    · rw [if_neg ej]
      by_cases ei : i = m
      · rw [if_pos ei, if_pos (by omega)]
        exact hi' (j - 1) (by omega) (by omega)
      · rw [if_neg ei]
        by_cases bj : m < j ∧ j ≤ k
        · rw [if_pos bj]
          by_cases bi : m < i ∧ i ≤ k
          · rw [if_pos bi]
            exact hu _ _ (by omega) (by omega)
          · rw [if_neg bi]
            exact hu _ _ (by omega) (by omega)
        · rw [if_neg bj, if_neg (by omega)]
          exact hu _ _ hij (by omega)
/-- the asking sort, by an order in which no two are alike -/
theorem sort (O : Ord N r) (hc : Cmp N r cmp P) {s : Shared} {Q : Array Nat → Shared → Prop} (h1 : 1 ≤ N) (hP : P s) (h : ∀ p' s', PN N p' → Up r p' N → P s' → Q p' s') : (kas_sort N).kasWp cmp Q s := by
  unfold kas_sort
  rw [KasT.kasWp_bind]
  refine count O hc (by unfold PN; simp) h1 hP fun m p' s' a1 a2 a3 a4 a5 => ?_
  show (if m < N then kas_bin (N - max m 1) p' (max m 1) else .ret p').kasWp cmp Q s'
  have em : max m 1 = m := by omega
  rw [em]
  by_cases hm : m < N
  · rw [if_pos hm]
    exact bin O hc _ p' m s' Q a3 (by omega) a4 a5 h
  · rw [if_neg hm]
    have : m = N := by omega
    subst this
    exact h p' s' a3 a4 a5
end
end Srt

/-! sorted OF A LIST OF TUPLES WHOSE FIRST THINGS ARE TEXTS THAT DIFFER (own work). -/
namespace Srt
open PySem PySem.W PyProof.Rows
/-- tuples with these texts ahead -/
def TA1 (h : Heap) (vs : List Value) (zs : List Str) : Prop := vs.length = zs.length ∧ ∀ (i : Nat) (z : Str), zs[i]? = some z → ∃ a o t rest n, vs[i]? = some (.ref a) ∧ h.get? a = some o ∧ o.cls = .type "tuple" ∧ o.data = .seq (Value.str z t :: rest).toArray n
def rz (zs : List Str) (i j : Nat) : Bool := decide ((zs.getD i "").cps.toList < (zs.getD j "").cps.toList)
theorem str_ext {a b : Str} (h : a.cps.toList = b.cps.toList) : a = b := by
  cases a
  cases b
  simp at h
  rw [h]
theorem ord_z {zs : List Str} (nd : zs.Nodup) : Ord zs.length (rz zs) where
  asym := fun a b _ _ h => by
    unfold rz at h ⊢
    rw [decide_eq_true_iff] at h
    rw [decide_eq_false_iff_not]
    exact List.lt_asymm h
  trans := fun a b c _ _ _ h1 h2 => by
    unfold rz at h1 h2 ⊢
    rw [decide_eq_false_iff_not] at h1 h2 ⊢
    rw [List.not_lt] at h1 h2 ⊢
    exact List.le_trans h1 h2
  dist := fun a b ha hb n => by
    unfold rz
    rw [decide_eq_true_iff, decide_eq_true_iff]
    apply Classical.byContradiction
    intro h
    rw [not_or, List.not_lt, List.not_lt] at h
    have e := str_ext (List.le_antisymm h.2 h.1)
    simp only [List.getD_eq_getElem?_getD, List.getElem?_eq_getElem ha, List.getElem?_eq_getElem hb, Option.getD_some] at e
    rcases Nat.lt_trichotomy a b with q | q | q
    · exact List.pairwise_iff_getElem.mp nd a b ha hb q e
    · exact n q
    · exact List.pairwise_iff_getElem.mp nd b a hb ha q e.symm
theorem TA1.keep {h h' : Heap} {vs : List Value} {zs : List Str} (t : TA1 h vs zs) (k : ∀ b o, o.cls = .type "tuple" → h.get? b = some o → h'.get? b = some o) : TA1 h' vs zs :=
  ⟨t.1, fun i z e => by
    obtain ⟨a, o, tk, rest, n, h1, h2, h3, h4⟩ := t.2 i z e
    exact ⟨a, o, tk, rest, n, h1, k a o h3 h2, h3, h4⟩⟩
theorem TA1.kat {h : Heap} : ∀ {vs : List Value} {zs : List Str}, TA1 h vs zs → ∃ fs, KatTups h vs fs ∧ fs.length = zs.length ∧ ∀ v ∈ fs, ∃ z t, v = Value.str z t
  | [], [], _ => ⟨[], KatTups.nil, rfl, fun v hv => by simp at hv⟩
  | [], _ :: _, t => by have := t.1; simp at this
  | _ :: _, [], t => by have := t.1; simp at this
  | v :: vs, z :: zs, t => by
    obtain ⟨a, o, tk, rest, n, h1, h2, h3, h4⟩ := t.2 0 z rfl
    have ev : v = .ref a := by simpa using h1
    subst ev
    obtain ⟨fs, k, hl, hs⟩ := TA1.kat (vs := vs) (zs := zs) ⟨by have := t.1; simpa using this, fun i y e => by
      obtain ⟨a, o, tk, rest, n, g1, g2⟩ := t.2 (i + 1) y (by simpa using e)
      exact ⟨a, o, tk, rest, n, by simpa using g1, g2⟩⟩
    refine ⟨.str z tk :: fs, KatTups.cons h2 h3 h4 (by simp) k, by simp [hl], fun w hw => ?_⟩
    rcases List.mem_cons.mp hw with e | hw
    · exact ⟨z, tk, e⟩
    · exact hs w hw
section
variable {prog : Program} {w : World} {A : Around} {E : Value → Shared → Prop} {s : Shared}
theorem cmp_z {vs : List Value} {zs : List Str} {s1 : Shared} (t : TA1 s1.heap vs zs) (nd : zs.Nodup) : Cmp zs.length (rz zs) (kas_ask prog w A (tuples' true) vs) (fun s' => s' = s1) := by
  intro i j C s' hi hj hij hs' hC
  subst hs'
  obtain ⟨a, o, tk, rest, n, h1, h2, h3, h4⟩ := t.2 i zs[i] (by simp [hi])
  obtain ⟨b, o', tk', rest', n', g1, g2, g3, g4⟩ := t.2 j zs[j] (by simp [hj])
  unfold kas_ask
  have e1 : vs.getD i Value.none = .ref a := by rw [List.getD_eq_getElem?_getD, h1]; rfl
  have e2 : vs.getD j Value.none = .ref b := by rw [List.getD_eq_getElem?_getD, g1]; rfl
  rw [e1, e2]
  refine kat_lt h2 h4 g2 g4 ?_
  have ez : (Value.str zs[i] tk :: rest).toArray.toList.zip (Value.str zs[j] tk' :: rest').toArray.toList = (Value.str zs[i] tk, Value.str zs[j] tk') :: rest.zip rest' := by simp
  rw [ez]
  refine kat_cons (wpAny_eqBool_str ?_)
  have en : decide (zs[i] = zs[j]) = false := by
    rw [decide_eq_false_iff_not]
    intro e
    rcases Nat.lt_trichotomy i j with q | q | q
    · exact List.pairwise_iff_getElem.mp nd i j hi hj q e
    · exact hij q
    · exact List.pairwise_iff_getElem.mp nd j i hj hi q e.symm
  rw [en]
  refine kat_no (oneLt_str ?_)
  have er : rz zs i j = decide (zs[i].cps.toList < zs[j].cps.toList) := by
    unfold rz
    simp only [List.getD_eq_getElem?_getD, List.getElem?_eq_getElem hi, List.getElem?_eq_getElem hj, Option.getD_some]
  rw [← er]
  exact hC s' rfl
theorem list_sort_tup {a : Addr} {vs : List Value} {zs : List Str} {n : Nat} {P : PySem.Fin → Shared → Prop} (ho : s.heap.get? a = some (seqObj "list" vs.toArray n)) (t : TA1 s.heap vs zs) (nd : zs.Nodup) (h64 : vs.length < 64)
    (h : ∀ (p : Array Nat), PN vs.length p → Up (rz zs) p vs.length → P (.done (.ret .none)) { s with heap := sortedHeap s.heap a vs (List.toArray (p.toList.map fun i => vs.getD i Value.none)) }) :
    wpAny (model prog w) A (Builtin.«list.sort» ⟨[.ref a], []⟩) P E s := by
  rw [list_sort_plain]
  have ha : a < s.heap.objs.size := Heap.lt_size ho
  refine wpAny_bind (listItems_at ho rfl ?_)
  refine wpAny_bind (listUpdate_at ho rfl ?_ (by rw [List.size_toArray, sizeLine_eq]; omega) (Nat.zero_le _))
  obtain ⟨e1, ho1⟩ : ∃ e1, (s.heap.update a (Obj.mapSeq fun _ => (#[] : Array Value))).get? a = some (seqObj "list" #[] e1) := ⟨_, get?_update_seq ho (fun _ => #[])⟩
  refine wpAny_bind (seqEpoch_at ho1 rfl ?_)
  refine wpAny_bind (wpAny_newTuple ?_ (by show vs.length ≤ _; rw [sizeLine_eq]; omega))
  refine wpAny_bind (wpAny_newList ?_ (Nat.zero_le _))
  refine wpAny_holding ?_
  have ho6 : (((s.heap.update a (Obj.mapSeq fun _ => (#[] : Array Value))).push (seqObj "tuple" vs.toArray 0)).push (seqObj "list" #[] 0)).get? a = some (seqObj "list" #[] e1) := by
    rw [Heap.get?_push_ne _ _ _ (by rw [size_push', Heap.size_update]; exact Nat.ne_of_lt (Nat.lt_succ_of_lt ha)), Heap.get?_push_ne _ _ _ (by rw [Heap.size_update]; exact Nat.ne_of_lt ha)]
    exact ho1
  have tk : TA1 (((s.heap.update a (Obj.mapSeq fun _ => (#[] : Array Value))).push (seqObj "tuple" vs.toArray 0)).push (seqObj "list" #[] 0)) vs zs := t.keep fun b o hc e => by
    have nb : b ≠ a := fun z => by
      rw [z, ho] at e
      have e' := Option.some.inj e
      rw [← e'] at hc
      exact absurd (show Value.type "list" = Value.type "tuple" from hc) (by decide)
    exact Heap.get?_push_of_some _ (Heap.get?_push_of_some _ ((Heap.get?_update_ne _ _ _ _ nb).trans e))
  show wpAny (model prog w) A _ P E { s with heap := ((s.heap.update a (Obj.mapSeq fun _ => (#[] : Array Value))).push (seqObj "tuple" vs.toArray 0)).push (seqObj "list" #[] 0) }
  dsimp only
  have hsz : vs.toArray.size = vs.length := by simp
  by_cases h2 : vs.toArray.size < 2
  · rw [if_pos h2, if_pos h2]
    refine wpAny_bind (wpAny_pure ?_)
    rw [StateT.run_pure]
    refine wpAny_bind (wpAny_pure ?_)
    dsimp only
    have hout := kat_snds (vs := vs) (ks := vs) rfl (st := SortSt.mk' general' (vs.toArray.zip vs.toArray) #[] 7 none) (p := List.toArray (List.range vs.length)) (by
      have e := kas_range (vs.toArray.zip vs.toArray)
      rw [show (vs.toArray.zip vs.toArray).size = vs.length by simp] at e
      exact e.symm)
    rw [hout]
    refine wpAny_bind (seqEpoch_at ho6 rfl ?_)
    refine wpAny_bind (listUpdate_at ho6 rfl ?_ (Nat.zero_le _) (by rw [List.size_toArray, List.length_map, List.length_range, sizeLine_eq]; omega))
    simp only [bne_self_eq_false, Bool.false_eq_true, if_false]
    refine wpAny_pure (h (List.toArray (List.range vs.length)) (by unfold PN; simp) fun i j hij hj => ?_)
    have ei : i = 0 := by omega
    have ej : j = 0 := by omega
    subst ei ej
    unfold rz
    rw [decide_eq_false_iff_not]
    exact List.lt_irrefl _
  · have hn2 : 2 ≤ vs.length := by omega
    rw [if_neg h2, if_neg h2]
    obtain ⟨fs, kt, hl, hs⟩ := tk.kat
    refine wpAny_bind (kat_kind (T := .type "str") kt (by have := t.1; omega) (fun v hv => ?_) rfl ?_)
    · obtain ⟨z, u, rfl⟩ := hs v hv
      exact PySem.W.Looks.of_pure rfl
    · refine wpAny_bind (wpAny_mono (kat_run (prog := prog) (w := w) (A := A) (E := E) (κ := tuples' true) (ks := vs) (vs := vs) (s := { s with heap := ((s.heap.update a (Obj.mapSeq fun _ => (#[] : Array Value))).push (seqObj "tuple" vs.toArray 0)).push (seqObj "list" #[] 0) })
        (Q := fun st' s' => ∃ p : Array Nat, p.size = vs.length ∧ arrOf st' = p.map (kas_item (vs.toArray.zip vs.toArray)) ∧ failedOf st' = none ∧ PN vs.length p ∧ Up (rz zs) p vs.length ∧ s' = { s with heap := ((s.heap.update a (Obj.mapSeq fun _ => (#[] : Array Value))).push (seqObj "tuple" vs.toArray 0)).push (seqObj "list" #[] 0) })
        (G := fun p s' => PN vs.length p ∧ Up (rz zs) p vs.length ∧ s' = { s with heap := ((s.heap.update a (Obj.mapSeq fun _ => (#[] : Array Value))).push (seqObj "tuple" vs.toArray 0)).push (seqObj "list" #[] 0) })
        rfl hn2 h64 (fun p' st' s' a1 a2 a3 a4 => ⟨p', a1, a2, a3, a4⟩) ?_) ?_ fun _ _ e => e)
      · have el := t.1
        rw [el]
        exact sort (ord_z nd) (cmp_z (s1 := { s with heap := ((s.heap.update a (Obj.mapSeq fun _ => (#[] : Array Value))).push (seqObj "tuple" vs.toArray 0)).push (seqObj "list" #[] 0) }) tk nd) (by omega) rfl fun p' s' b1 b2 b3 => ⟨b1, b2, b3⟩
      · rintro ⟨⟨⟩, st'⟩ s' ⟨p, hp, har, hf, pn, up, rfl⟩
        dsimp only
        have hout := kat_snds (vs := vs) (ks := vs) rfl har
        rw [hout]
        refine wpAny_bind (seqEpoch_at ho6 rfl ?_)
        refine wpAny_bind (listUpdate_at ho6 rfl ?_ (Nat.zero_le _) (by rw [List.size_toArray, List.length_map, Array.length_toList, hp, sizeLine_eq]; omega))
        rw [hf]
        simp only [bne_self_eq_false, Bool.false_eq_true, if_false]
        exact wpAny_pure (h p pn up)
theorem sorted_tup {l : Addr} {vs : List Value} {zs : List Str} {Q : Value → Shared → Prop} (hl : s.heap.IsList l vs.toArray) (t : TA1 s.heap vs zs) (nd : zs.Nodup) (h64 : vs.length < 64)
    (h : ∀ (p : Array Nat), PN vs.length p → Up (rz zs) p vs.length → Q (.ref (s.heap.objs.size + 1)) { s with heap := sortedAll s.heap vs (List.toArray (p.toList.map fun i => vs.getD i Value.none)) }) :
    wpAny (model prog w) A (call (.builtin "sorted") [.ref l]) Q E s := by
  refine Calls.call_function_entry kind_sorted plain_sorted entry_sorted (args_sorted1 _) ?_
  unfold Builtin.«sorted»
  refine wpAny_bind (m := checkCount "sorted" 1 1 _) (wpAny_pure ?_)
  refine wpAny_bind (collect_list hl ?_ (by rw [sizeLine_eq]; omega))
  refine wpAny_bind (wpAny_newList ?_ (by rw [sizeLine_eq]; omega))
  have hsz : ((s.heap.push (seqObj "list" #[] 0)).update s.heap.objs.size (Obj.mapSeq (· ++ vs.toArray))).objs.size = s.heap.objs.size + 1 := by
    rw [Heap.size_update, size_push']
  have hoL : (((s.heap.push (seqObj "list" #[] 0)).update s.heap.objs.size (Obj.mapSeq (· ++ vs.toArray))).push (seqObj "list" vs.toArray 0)).get? (s.heap.objs.size + 1) = some (seqObj "list" vs.toArray 0) := by
    rw [← hsz]; exact Heap.get?_push_size _ rfl
  have keep : ∀ b o, s.heap.get? b = some o → (((s.heap.push (seqObj "list" #[] 0)).update s.heap.objs.size (Obj.mapSeq (· ++ vs.toArray))).push (seqObj "list" vs.toArray 0)).get? b = some o := fun b o q => by
    have hlt : b < s.heap.objs.size := Heap.lt_size q
    rw [Heap.get?_push_ne _ _ _ (by rw [hsz]; exact Nat.ne_of_lt (Nat.lt_succ_of_lt hlt)), Heap.get?_update_ne _ _ _ _ (Nat.ne_of_lt hlt), Heap.get?_push_ne _ _ _ (Nat.ne_of_lt hlt)]
    exact q
  show wpAny _ _ _ _ _ { s with heap := ((s.heap.push (seqObj "list" #[] 0)).update s.heap.objs.size (Obj.mapSeq (· ++ vs.toArray))).push (seqObj "list" vs.toArray 0) }
  rw [hsz]
  refine wpAny_bind (wpAny_holding (wpAny_call_entry slot_list_sort ⟨_, hoL, rfl⟩ entry_list_sort (list_sort_tup (zs := zs) hoL (t.keep fun b o _ e => keep b o e) nd h64 fun p a1 a2 => ⟨_, rfl, ?_⟩) (args_list_sort _)))
  exact wpAny_pure ⟨_, rfl, h p a1 a2⟩
end
end Srt
namespace L2
open PySem PySem.Spec PyProof.Rows
theorem vals_map {xs : List V} {us : List Value} (r : Vals xs us) : ∀ (q : List Nat), (∀ i ∈ q, i < xs.length) → Vals (q.map fun i => xs.getD i .non) (q.map fun i => us.getD i Value.none)
  | [], _ => .nil
  | i :: q, h => by
    refine .cons ?_ (vals_map r q fun j hj => h j (List.mem_cons_of_mem _ hj))
    have hi := h i List.mem_cons_self
    have hu : i < us.length := by rw [← r.length]; exact hi
    obtain ⟨u, e, ru⟩ := r.get (i := i) (x := xs[i]) (by simp [hi])
    simp only [List.getD_eq_getElem?_getD, List.getElem?_eq_getElem hi, e, Option.getD_some]
    exact ru
/-- these texts rise -/
def Rise (zs : List Str) : Prop := zs.Pairwise fun a b => ¬ b.cps.toList < a.cps.toList
section
variable {X : Cx}
/-- sorted(a list of tuples with texts ahead that differ): the same in another order, the texts rising -/
theorem call_sortedT : CallR X (.builtin "sorted") (fun xs H Q => ∃ (p : Addr) (as : List Addr) (zs : List Str), xs = [.ref p] ∧ SqL X.K H p (as.map V.ref) ∧ as.length = zs.length ∧ (∀ (i : Nat) (a : Addr) (z : Str), as[i]? = some a → zs[i]? = some z → ∃ rest, SqT X.K H a (.str z :: rest)) ∧ zs.Nodup ∧ as.length < 64 ∧
    ∀ (l : Addr) (ix : List Nat), H l = none → ix.Perm (List.range as.length) → Rise (ix.map fun i => zs.getD i "") → Q (.ref l) (upd H l (.lst ((ix.map fun i => as.getD i 0).map V.ref)))) := by
  intro pins s σ H xs us Q I r h
  obtain ⟨p, as, zs, rfl, hq, hlen, ht, nd, h64, q⟩ := h
  obtain ⟨u, rfl, rx⟩ := vals1 r
  cases rx
  obtain ⟨its, r', pl, hz⟩ := I.list hq
  have hl := r'.length
  rw [List.length_map] at hl
  have ta : Srt.TA1 s.heap its zs := ⟨by omega, fun i z e => by
    have hi : i < zs.length := (List.getElem?_eq_some_iff.mp e).1
    obtain ⟨rest, hs⟩ := ht i (as[i]'(by omega)) z (by simp) e
    obtain ⟨its', r2, ⟨o, ho, hc, n, hd⟩, _⟩ := I.tuple hs
    cases r2 with
    | cons r3 r4 =>
      obtain ⟨t, rfl⟩ := r3
      obtain ⟨v, hv, rv⟩ := r'.get (i := i) (x := .ref (as[i]'(by omega))) (by simp)
      cases rv
      exact ⟨_, o, t, _, n, hv, ho, hc, hd⟩⟩
  refine Srt.sorted_tup pl.isList ta nd (by omega) fun p' pn up => ?_
  obtain ⟨e, he⟩ := sortedAll_at s.heap its (List.toArray (p'.toList.map fun i => its.getD i Value.none))
  have hs := pn.size
  have lt : ∀ i ∈ p'.toList, i < its.length := fun i hi => List.mem_range.mp (pn.mem_iff.mp hi)
  have ev : (p'.toList.map fun i => as.getD i 0).map V.ref = p'.toList.map fun i => (as.map V.ref).getD i .non := by
    rw [List.map_map]
    apply List.map_congr_left
    intro i hi
    have := lt i hi
    have h1 : i < as.length := by omega
    simp [List.getD_eq_getElem?_getD, h1]
  refine ⟨.ref (s.heap.objs.size + 1), _, I.laid (t' := s.toks) (o := .lst ((p'.toList.map fun i => as.getD i 0).map V.ref)) (fun b ob e' => sortedAll_old e') (Nat.le_succ _) ?_, rfl, q _ p'.toList (I.hok.fresh (Nat.le_succ _)) (by rw [hl]; exact pn) ?_⟩
  · refine ⟨by rw [List.length_map, List.length_map, Array.length_toList, hs, ← hl]; rw [List.length_map] at hz; exact hz, _, e, ?_, he⟩
    rw [ev]
    exact vals_map r' _ fun i hi => by rw [List.length_map]; have := lt i hi; omega
  · unfold Rise
    rw [List.pairwise_map, List.pairwise_iff_getElem]
    intro i j hi hj hij
    have hi' : i < p'.size := by simpa using hi
    have hj' : j < p'.size := by simpa using hj
    have h0 := up i j (by omega) (by omega)
    unfold Srt.rz at h0
    rw [decide_eq_false_iff_not, Srt.getD_get hi', Srt.getD_get hj'] at h0
    rw [Array.getElem_toList, Array.getElem_toList]
    exact h0
end
end L2

/-! == OF TWO DICTS, where they are alike (own work). -/
namespace L2
open PySem PySem.Spec PyProof.Rows PySem.Builtin PySem.Builtin.Dict
section
variable {prog : Program} {w : World} {A : Around} {E : Value → Shared → Prop} {s : Shared} {a b : Addr} {oa ob : Obj} {es fs : Array DictEntry} {ep fp : Nat}
end
end L2

namespace L2
open PySem PySem.Spec PyProof.Rows PySem.Builtin PySem.Builtin.Dict
section
variable {A : Around} {s : Shared} {P : Program} {w : World}
end
end L2

/-! == AND != OF THINGS THAT ARE ALIKE ALL THE WAY DOWN (own work). -/
namespace L2
open PySem PySem.Spec PyProof.Rows
theorem kv_back : ∀ {kvs : List (Key × V)} {vs : List (Key × Value)} {k : Key} {u : Value} {i : Nat}, KV kvs vs → vs[i]? = some (k, u) → ∃ v, kvs[i]? = some (k, v) ∧ RelV v u
  | _, _, _, _, _, .nil, e => by simp at e
  | _, _, k, u, 0, .cons (a := p) r _, e => by
    simp at e
    subst e
    obtain ⟨p1, p2⟩ := p
    obtain ⟨r1, r2⟩ := r
    simp only at r1
    subst r1
    exact ⟨p2, rfl, r2⟩
  | _, _, k, u, i + 1, .cons _ t, e => by
    obtain ⟨v, h1, h2⟩ := kv_back (i := i) t (by simpa using e)
    exact ⟨v, by simpa using h1, h2⟩
section
variable {X : Cx} {pins : List (Addr × Obj)} {σ : St} {H : Hp} {s : Shared}
end
end L2

/-! != OF LISTS OF TEXTS, != OF TWO DICTS THAT ARE ALIKE (own work). -/
namespace L2
open PySem PySem.Spec PyProof.Rows PySem.Builtin PySem.Builtin.Dict
section
variable {X : Cx}
end
section
variable {A : Around} {s : Shared} {P : Program} {w : World}
end
section
variable {X : Cx}
end
end L2

/-! == OF TWO DICTS THAT ARE ALIKE (own work). -/
namespace L2
open PySem PySem.Spec PyProof.Rows PySem.Builtin PySem.Builtin.Dict
section
variable {A : Around} {s : Shared} {P : Program} {w : World}
end
section
variable {X : Cx}
end
end L2

/-! d.items() AS A VALUE, AND sorted(d.items()), d WITH TEXT KEYS (own work). -/
namespace L2
open PySem PySem.Spec PyProof.Rows
section
variable {X : Cx} {pins : List (Addr × Obj)} {σ : St} {H H' : Hp} {s : Shared} {h' : Heap}
/-- many new objects at once -/
theorem Inv.laidM {t' : Nat} (I : Inv X pins σ H s) (k : ∀ b u, s.heap.get? b = some u → h'.get? b = some u) (old : ∀ b u, s.heap.get? b = some u → H' b = H b) (new : ∀ b u, H' b = some u → s.heap.get? b = none → ObjOk X.prog X.w H' h' b u) : Inv X pins σ H' { s with heap := h', toks := t' } := by
  have oldH : ∀ b u, H b = some u → H' b = some u := fun b u q => by
    obtain ⟨ob, e⟩ := (I.hok b u q).there
    rw [old b ob e]
    exact q
  refine I.un ⟨fun b u q _ _ _ => k b u q, fun b u q _ _ _ => ⟨u.slots, k b u q⟩, fun b u q n _ => by rw [old b u q]; exact n, fun b u q _ => ⟨u, k b u q⟩,
    fun b xs q => oldH _ _ q, fun b u xs q => oldH _ _ q, fun b ps q => ⟨#[], by rw [oldH _ _ q]; simp⟩⟩ fun b u q => ?_
  cases e : s.heap.get? b with
  | none => exact new b u q e
  | some ob =>
    rw [old b ob e] at q
    exact (I.hok b u q).stay (fun c v _ r => k c v r) (fun c r => oldH _ _ r) fun c xs r => oldH _ _ r
end
theorem idx_nd : ∀ {as : List Addr} {j : Nat} {a : Addr}, as.Nodup → as[j]? = some a → as.idxOf a = j
  | [], _, _, _, h => by simp at h
  | b :: r, 0, a, nd, h => by
    have e : b = a := by simpa using h
    subst e
    exact List.idxOf_cons_self
  | b :: r, j + 1, a, nd, h => by
    have h' : r[j]? = some a := by simpa using h
    have ne : ¬ b = a := fun e => (List.nodup_cons.mp nd).1 (by rw [e]; exact List.mem_of_getElem? h')
    have nb : (b == a) = false := by simpa using ne
    rw [List.idxOf_cons, nb, idx_nd (List.nodup_cons.mp nd).2 h']
    rfl
def vwP (p d : Addr) (h : Heap) : Prop := h.IsItemsView p d
section
variable {X : Cx}
/-- d.items() -/
theorem mt_items : MtR X "dict.items" (fun x xs H Q => ∃ a kvs, x = .ref a ∧ xs = [] ∧ Rd H a (.dK kvs) ∧ ∀ p, H p = none → Q (.ref p) (upd H p (.ext (vwP p a)))) := by
  intro pins s σ H x xs v us Q I rx r h
  obtain ⟨a, kvs, rfl, rfl, e, q⟩ := h
  cases rx
  have hus := r.zero
  subst hus
  obtain ⟨_, lo, vs, kv, dd⟩ := e.ok I.hok
  refine call_meetsIn F.slot_dict_items dd.typeIs F.entry_dict_items (F.args_dict_items_1 _) (meets_dict_items (mixKind X.prog X.w) a lo) ⟨⟨vs, dd⟩, ?_⟩
  have hv : vwP s.heap.objs.size a (s.heap.push { cls := .type "dict_items", data := .fields #[.ref a] }) := ⟨_, Heap.get?_push_size _ rfl, rfl, rfl⟩
  refine ⟨.ref s.heap.objs.size, _, I.laid (t' := s.toks) (o := .ext (vwP s.heap.objs.size a)) (fun b ob e' => Heap.get?_push_of_some _ e') (Nat.le_refl _) ⟨hv, ?_, fun h1 h2 x k => ?_⟩, rfl, q _ (I.hok.fresh (Nat.le_refl _))⟩
  · obtain ⟨o, ho, _⟩ := hv
    exact ⟨o, ho⟩
  · obtain ⟨o, ho, r⟩ := x
    exact ⟨o, k o ho, r⟩
/-- the heap behind sorted(d.items()) -/
def itH (H : Hp) (l : Addr) (o : HO) (as : List Addr) (kvs : List (Key × V)) : Hp := fun b => if b = l then some o else if b ∈ as then some (.tup [kV (kvs.getD (as.idxOf b) (.inl 0, .non)).1, (kvs.getD (as.idxOf b) (.inl 0, .non)).2]) else H b
/-- sorted(d.items()) -/
theorem call_sortedIt (hc : X.calm = true) : CallR X (.builtin "sorted") (fun xs H Q => ∃ (p d : Addr) (kvs : List (Key × V)) (zs : List Str), xs = [.ref p] ∧ H p = some (.ext (vwP p d)) ∧ Rd H d (.dK kvs) ∧ kvs.map (·.1) = zs.map Sum.inr ∧ zs.Nodup ∧ zs.length < 64 ∧
    ∀ (l : Addr) (as : List Addr) (ix : List Nat) (H' : Hp), H l = none → (∀ a ∈ as, H a = none) → l ∉ as → as.Nodup → as.length = kvs.length → Same H H' → (∀ (j : Nat) (a : Addr) (k : Key) (v : V), as[j]? = some a → kvs[j]? = some (k, v) → H' a = some (.tup [kV k, v])) →
      ix.Perm (List.range as.length) → Rise (ix.map fun i => zs.getD i "") → H' l = some (.lst ((ix.map fun i => as.getD i 0).map V.ref)) → Q (.ref l) H') := by
  intro pins s σ H xs us Q I r h
  obtain ⟨p, d, kvs, zs, rfl, hp, hq, hz, nd, h64, q⟩ := h
  obtain ⟨u, rfl, rx⟩ := vals1 r
  cases rx
  obtain ⟨hlen, lo, vs, kv, dd⟩ := hq.ok I.hok
  obtain ⟨ep, da⟩ := dd.dictAt
  obtain ⟨hv, _⟩ := I.hok p _ hp
  have hl := kv.len
  have hl2 : kvs.length = zs.length := by simpa using congrArg List.length hz
  refine Calls.call_function_entry kind_sorted plain_sorted entry_sorted (args_sorted1 _) ?_
  unfold Builtin.«sorted»
  refine wpAny_bind (m := checkCount "sorted" 1 1 _) (wpAny_pure ?_)
  refine wpAny_bind (PySem.W.kdx_collect (knd := mixKind X.prog X.w) (kvs := vs) (ep := ep) (I.ok.hd hc) hv da (by rw [← hl]; exact hlen) fun h' tk as hk hal hG => ?_)
  have hal' : (as.map Value.ref).length = zs.length := by rw [List.length_map, hal, ← hl, hl2]
  refine wpAny_bind (wpAny_newList ?_ (by rw [hal', ← hl2]; exact hlen))
  have hoL : (h'.push (seqObj "list" (as.map Value.ref).toArray 0)).get? h'.objs.size = some (seqObj "list" (as.map Value.ref).toArray 0) := Heap.get?_push_size _ rfl
  have ta : Srt.TA1 (h'.push (seqObj "list" (as.map Value.ref).toArray 0)) (as.map Value.ref) zs := ⟨hal', fun i z e => by
    have hi : i < zs.length := (List.getElem?_eq_some_iff.mp e).1
    have hia : i < as.length := by rw [List.length_map] at hal'; omega
    obtain ⟨key, k, x, e1, e2, e3⟩ := hG.pairs i as[i] (List.getElem?_eq_getElem hia)
    have hk' := kv_key kv e1
    rw [hz, List.getElem?_map, e] at hk'
    have ek : Sum.inr z = k := by simpa using hk'
    subst ek
    obtain ⟨t, rfl⟩ := is_kV e2
    exact ⟨as[i], _, t, [x], 0, by rw [List.getElem?_map, List.getElem?_eq_getElem hia]; rfl, Heap.get?_push_of_some _ e3, rfl, rfl⟩⟩
  refine wpAny_bind (wpAny_holding (wpAny_call_entry slot_list_sort ⟨_, hoL, rfl⟩ entry_list_sort (Srt.list_sort_tup (s := { s with heap := h'.push (seqObj "list" (as.map Value.ref).toArray 0), toks := tk }) (zs := zs) hoL ta nd (by rw [hal']; exact h64) fun p' pn up => ⟨_, rfl, ?_⟩) (args_list_sort _)))
  have hndA : as.Nodup := hG.rise.imp fun h => Nat.ne_of_lt h
  have hltA : ∀ a ∈ as, a < h'.objs.size := fun a ha => hG.there ha
  have hlA : h'.objs.size ∉ as := fun hm => Nat.lt_irrefl _ (hltA _ hm)
  have hgA : ∀ a ∈ as, s.heap.get? a = none := fun a ha => by
    cases e : s.heap.get? a with
    | none => rfl
    | some ob => exact absurd (Heap.lt_size e) (Nat.lt_asymm (hG.above a ha))
  have hnL : s.heap.get? h'.objs.size = none := by
    cases e : s.heap.get? h'.objs.size with
    | none => rfl
    | some ob => exact absurd (Heap.lt_size (hk _ _ e)) (Nat.lt_irrefl _)
  obtain ⟨e, he⟩ := sortedHeap_at (out := List.toArray (p'.toList.map fun i => (as.map Value.ref).getD i Value.none)) hoL
  have keep : ∀ b ob, h'.get? b = some ob → (sortedHeap (h'.push (seqObj "list" (as.map Value.ref).toArray 0)) h'.objs.size (as.map Value.ref) (List.toArray (p'.toList.map fun i => (as.map Value.ref).getD i Value.none))).get? b = some ob := fun b ob q' => by
    have hlt := Heap.lt_size q'
    rw [sortedHeap_old (Nat.ne_of_lt hlt) (by rw [size_push']; exact Nat.lt_succ_of_lt hlt)]
    exact Heap.get?_push_of_some _ q'
  have la : as.length = kvs.length := by rw [hal, ← hl]
  have lt : ∀ i ∈ p'.toList, i < as.length := fun i hi => by
    have := List.mem_range.mp (pn.mem_iff.mp hi)
    rwa [List.length_map] at this
  have ev : (p'.toList.map fun i => as.getD i 0).map V.ref = p'.toList.map fun i => (as.map V.ref).getD i .non := by
    rw [List.map_map]
    apply List.map_congr_left
    intro i hi
    have h1 := lt i hi
    simp [List.getD_eq_getElem?_getD, h1]
  have hs := pn.size
  have rr : ∀ {bs : List Addr}, Vals (bs.map V.ref) (bs.map Value.ref) := fun {bs} => by
    induction bs with
    | nil => exact .nil
    | cons b r ih => exact .cons rfl ih
  have at_ : ∀ (j : Nat) (a : Addr) (k : Key) (v : V), as[j]? = some a → kvs[j]? = some (k, v) → itH H h'.objs.size (.lst ((p'.toList.map fun i => as.getD i 0).map V.ref)) as kvs a = some (.tup [kV k, v]) := fun j a k v h1 h2 => by
    have hm := List.mem_of_getElem? h1
    unfold itH
    rw [if_neg (Nat.ne_of_lt (hltA a hm)), if_pos hm, idx_nd hndA h1, List.getD_eq_getElem?_getD, h2]
    rfl
  have oldI : ∀ b u, s.heap.get? b = some u → itH H h'.objs.size (.lst ((p'.toList.map fun i => as.getD i 0).map V.ref)) as kvs b = H b := fun b u e => by
    unfold itH
    rw [if_neg (fun z => by rw [z, hnL] at e; cases e), if_neg (fun z => by rw [hgA b z] at e; cases e)]
  refine wpAny_pure ⟨_, rfl, .ref h'.objs.size, itH H h'.objs.size (.lst ((p'.toList.map fun i => as.getD i 0).map V.ref)) as kvs, I.laidM (t' := tk) (fun b ob e => keep b ob (hk b ob e)) oldI fun b u hu hn => ?_, rfl,
    q _ as p'.toList _ (I.none_at hnL) (fun a ha => I.none_at (hgA a ha)) hlA hndA la (fun b u hb => ?_) at_ (by have := pn; unfold Srt.PN at this; rw [List.length_map] at this; exact this) ?_ (by unfold itH; rw [if_pos rfl])⟩
  · by_cases hbl : b = h'.objs.size
    · subst hbl
      unfold itH at hu
      rw [if_pos rfl] at hu
      cases hu
      refine ⟨?_, _, e, ?_, he⟩
      · rw [List.length_map, List.length_map, Array.length_toList, hs, List.length_map, la]
        exact hlen
      · rw [ev]
        exact vals_map rr _ fun i hi => by rw [List.length_map]; exact lt i hi
    · by_cases hba : b ∈ as
      · obtain ⟨j, hj⟩ := List.getElem?_of_mem hba
        obtain ⟨key, k, x, e1, e2, e3⟩ := hG.pairs j b hj
        obtain ⟨v, e4, rv⟩ := kv_back kv e1
        rw [at_ j b k v hj e4] at hu
        cases hu
        exact ⟨by show 2 ≤ sizeLine; decide, [key, x], .cons (is_kV e2) (.cons rv .nil), _, keep _ _ e3, rfl, 0, rfl⟩
      · unfold itH at hu
        rw [if_neg hbl, if_neg hba] at hu
        obtain ⟨ob, z⟩ := (I.hok b u hu).there
        rw [hn] at z
        cases z
  · obtain ⟨ob, z⟩ := (I.hok b u hb).there
    rw [oldI b ob z]
    exact hb
  · unfold Rise
    rw [List.pairwise_map, List.pairwise_iff_getElem]
    intro i j hi hj hij
    have hi' : i < p'.size := by simpa using hi
    have hj' : j < p'.size := by simpa using hj
    have h0 := up i j (by omega) (by omega)
    unfold Srt.rz at h0
    rw [decide_eq_false_iff_not, Srt.getD_get hi', Srt.getD_get hj'] at h0
    rw [Array.getElem_toList, Array.getElem_toList]
    exact h0
end
end L2

namespace L2
open PySem PySem.Spec PyProof.Rows
theorem SqT.rd {K : PySem.W.Frag} {H : Hp} {a : Addr} {xs : List V} (h : Rd H a (.tup xs)) : SqT K H a xs := .inl h
/-- isinstance, of tuples frozen too -/
theorem call_isi5 {X : Cx} : CallR X (.builtin "isinstance") (fun xs H Q => ∃ x n t b, xs = [x, .ty n] ∧ (TyOf X.K H x t ∨ ∃ a ys, x = .ref a ∧ Rd H a (.tup ys) ∧ t = .type "tuple") ∧ PySem.W.kitOne X.K t (.type n) = some b ∧ Q (.bl b) H) := by
  intro pins s σ H xs us Q I r h
  obtain ⟨x, n, t, b, rfl, hx, e, q⟩ := h
  rcases hx with hx | ⟨a, ys, rfl, ha, rfl⟩
  · exact call_isi pins s σ H _ us Q I r ⟨x, n, t, b, rfl, hx, e, q⟩
  · obtain ⟨u, w', rfl, rx, rc⟩ := vals2 r
    cases rx
    cases (show w' = Value.type n from rc)
    obtain ⟨its, _, ⟨o, h1, h2, _⟩, _⟩ := I.tuple (SqT.rd ha)
    exact PySem.W.kia_one PySem.W.kitx_tuple I.kIn ⟨o, h1, h2⟩ e (fun z => nomatch z) fun tk => ⟨.bl b, H, I.tok tk, rfl, q⟩
end L2
namespace My
open PySem L2 PyProof.Rows
def top (i : Nat) : Stmt := PySem.Challenge.pw_halfmoved_k23_a_column_put_into_pieces.main.body.getD i (.Pass ⟨0, 0, 0, 0⟩)
seal L2.PE L2.PT L2.PW L2.PS L2.PSs L2.PA L2.PI L2.PG L2.PGs L2.OpR L2.CallR L2.IxR L2.SlR L2.MtR L2.PIf L2.PO L2.MtM L2.PC
def spSm (n : Nat) : Sp := fun vs H Q _ => ∃ x y, vs = [x, y] ∧ Lq H n x y ∧ ∀ H', Same H H' → Q (.bl true) H'
def spEa (n : Nat) : Sp := fun vs H Q _ => ∃ (a b : Addr) (kvs kws : List (Key × V)) (f : Key → V), vs = [.ref a, .ref b] ∧ Rd H a (.dK kvs) ∧ Rd H b (.dK kws) ∧ (∀ (k : Key) (v : V), (k, v) ∈ kws → valV kvs k = some (f k)) ∧ (∀ (k : Key) (v : V), (k, v) ∈ kws → valV kws k = some v) ∧ (∀ (k : Key) (v : V), (k, v) ∈ kws → Lq H n (f k) v) ∧ ∀ H', Same H H' → Q (.bl true) H'
section
variable {P : Program} {w : World} {K : PySem.W.Frag} {mg : Str → Option Value} {base : Heap}
theorem kq {a b : String} {r : Bool} (h : kitTy a b = some r) : PySem.W.kitOne K (.type a) (.type b) = some r := kit_eq.trans h
theorem ok_sm {f fE : Addr} {fd fdE : FuncData} (D : Df K mg "_law_same" (top 15) f fd) (E : Df K mg "_law_each" (top 16) fE fdE) (B : Bl mg) (hz : mg "zip" = none) (n : Nat) (ih : ∀ m, n = m + 1 → FnOk P w K mg base CX0 (2 * m + 1) f fd ["_law_found", "_law_due"] (spSm m) ∧ FnOk P w K mg base CX0 (2 * m + 2) fE fdE ["_law_found", "_law_due"] (spEa m)) :
    FnOk P w K mg base CX0 (2 * n + 1) f fd ["_law_found", "_law_due"] (spSm n) := by
  have sc : FnScope ["_law_found", "_law_due", "_law_one", "_law_other"] ["_law_found", "_law_due"] (defScope (top 15)) := ⟨rfl, rfl, rfl, by decide +kernel, rfl, by decide +kernel, by decide +kernel⟩
  have bA := D.fn.binds (ps := ["_law_found", "_law_due"]) fun _ _ _ _ _ _ us hl => by obtain ⟨v0, v1, rfl⟩ := L2.ln2 hl; rfl
  have bE := E.fn.binds (ps := ["_law_found", "_law_due"]) fun _ _ _ _ _ _ us hl => by obtain ⟨v0, v1, rfl⟩ := L2.ln2 hl; rfl
  refine D.fn.ok sc (fun vs H Q E h => ?_) (fun cdv A outer s H vs Q E' hr h => ?_)
  · obtain ⟨x, y, rfl, _⟩ := h
    rfl
  · obtain ⟨x, y, rfl, hl, q⟩ := h
    cases hl with
    | non =>
      refine ⟨_, (pss_cons (ps_if (pt_cmpR op_isN (pv 1) pe_non (nomark _)) (pss_one (ps_ret (pe_cmpR op_isN (pv 0) pe_non (nomark _)))) pss_nil)
          pss_never), ?_⟩
      refine ⟨_, rfl, rfl, _, rfl, iteB (decide_eq_true rfl) ?_⟩
      refine ⟨_, rfl, rfl, ?_⟩
      rw [decide_eq_true rfl]
      exact q H (Same.refl H)
    | bl =>
      refine ⟨_, (pss_cons (ps_if (pt_cmpR op_isN (pv 1) pe_non (nomark _)) pss_never pss_nil)
          (pss_cons (ps_if (PW.pt (pw_or (pt_val (pe_callB call_isi5 (by rfl) B.isi boot_isi (pa_cons (pv 1) (pa_cons (pe_bltn (v := .ty "bool") (by rfl) B.bool boot_bool rfl) pa_nil)))) (pw_or1 (pt_val (pe_callB call_isi5 (by rfl) B.isi boot_isi (pa_cons (pv 0) (pa_cons (pe_bltn (v := .ty "bool") (by rfl) B.bool boot_bool rfl) pa_nil))))))) (pss_one (ps_ret (pe_and (pe_callB call_isi5 (by rfl) B.isi boot_isi (pa_cons (pv 1) (pa_cons (pe_bltn (v := .ty "bool") (by rfl) B.bool boot_bool rfl) pa_nil))) (pe_and (pe_callB call_isi5 (by rfl) B.isi boot_isi (pa_cons (pv 0) (pa_cons (pe_bltn (v := .ty "bool") (by rfl) B.bool boot_bool rfl) pa_nil))) (pe_one (pe_cmpR op_eq (pv 0) (pv 1) (nomark _))))))) pss_nil)
          pss_never)), ?_⟩
      refine ⟨_, rfl, rfl, _, rfl, iteC (decide_eq_false fun e => by cases e) ?_⟩
      refine ⟨_, rfl, _, _, _, _, rfl, .inl (.bl _), kq (show kitTy "bool" "bool" = some true by decide +kernel), _, rfl, ?_⟩
      refine iteT ?_
      refine iteT ?_
      refine ⟨_, rfl, _, _, _, _, rfl, .inl (.bl _), kq (show kitTy "bool" "bool" = some true by decide +kernel), _, rfl, ?_⟩
      refine iteT ?_
      refine ⟨_, rfl, _, _, _, _, rfl, .inl (.bl _), kq (show kitTy "bool" "bool" = some true by decide +kernel), _, rfl, ?_⟩
      refine iteT ?_
      refine ⟨_, rfl, _, rfl, rfl, ?_⟩
      rw [decide_eq_true rfl]
      exact q H (Same.refl H)
    | int =>
      refine ⟨_, (pss_cons (ps_if (pt_cmpR op_isN (pv 1) pe_non (nomark _)) pss_never pss_nil)
          (pss_cons (ps_if (PW.pt (pw_or (pt_val (pe_callB call_isi5 (by rfl) B.isi boot_isi (pa_cons (pv 1) (pa_cons (pe_bltn (v := .ty "bool") (by rfl) B.bool boot_bool rfl) pa_nil)))) (pw_or1 (pt_val (pe_callB call_isi5 (by rfl) B.isi boot_isi (pa_cons (pv 0) (pa_cons (pe_bltn (v := .ty "bool") (by rfl) B.bool boot_bool rfl) pa_nil))))))) pss_never pss_nil)
          (pss_cons (ps_if (pt_val (pe_callB call_isi5 (by rfl) B.isi boot_isi (pa_cons (pv 1) (pa_cons (pe_bltn (v := .ty "int") (by rfl) B.int boot_int rfl) pa_nil)))) (pss_one (ps_ret (pe_and (pe_callB call_isi5 (by rfl) B.isi boot_isi (pa_cons (pv 0) (pa_cons (pe_bltn (v := .ty "int") (by rfl) B.int boot_int rfl) pa_nil))) (pe_one (pe_cmpR op_eq (pv 0) (pv 1) (nomark _)))))) pss_nil)
          pss_never))), ?_⟩
      refine ⟨_, rfl, rfl, _, rfl, iteC (decide_eq_false fun e => by cases e) ?_⟩
      refine ⟨_, rfl, _, _, _, _, rfl, .inl (.int _), kq (show kitTy "int" "bool" = some false by decide +kernel), _, rfl, ?_⟩
      refine iteF ?_
      refine ⟨_, rfl, _, _, _, _, rfl, .inl (.int _), kq (show kitTy "int" "bool" = some false by decide +kernel), _, rfl, ?_⟩
      refine iteF ?_
      refine ⟨_, rfl, _, _, _, _, rfl, .inl (.int _), kq (show kitTy "int" "int" = some true by decide +kernel), _, rfl, ?_⟩
      refine iteT ?_
      refine ⟨_, rfl, _, _, _, _, rfl, .inl (.int _), kq (show kitTy "int" "int" = some true by decide +kernel), _, rfl, ?_⟩
      refine iteT ?_
      refine ⟨_, rfl, _, rfl, rfl, ?_⟩
      rw [decide_eq_true rfl]
      exact q H (Same.refl H)
    | str =>
      refine ⟨_, (pss_cons (ps_if (pt_cmpR op_isN (pv 1) pe_non (nomark _)) pss_never pss_nil)
          (pss_cons (ps_if (PW.pt (pw_or (pt_val (pe_callB call_isi5 (by rfl) B.isi boot_isi (pa_cons (pv 1) (pa_cons (pe_bltn (v := .ty "bool") (by rfl) B.bool boot_bool rfl) pa_nil)))) (pw_or1 (pt_val (pe_callB call_isi5 (by rfl) B.isi boot_isi (pa_cons (pv 0) (pa_cons (pe_bltn (v := .ty "bool") (by rfl) B.bool boot_bool rfl) pa_nil))))))) pss_never pss_nil)
          (pss_cons (ps_if (pt_val (pe_callB call_isi5 (by rfl) B.isi boot_isi (pa_cons (pv 1) (pa_cons (pe_bltn (v := .ty "int") (by rfl) B.int boot_int rfl) pa_nil)))) pss_never pss_nil)
          (pss_cons (ps_if (pt_val (pe_callB call_isi5 (by rfl) B.isi boot_isi (pa_cons (pv 1) (pa_cons (pe_bltn (v := .ty "str") (by rfl) B.str boot_str rfl) pa_nil)))) (pss_one (ps_ret (pe_and (pe_callB call_isi5 (by rfl) B.isi boot_isi (pa_cons (pv 0) (pa_cons (pe_bltn (v := .ty "str") (by rfl) B.str boot_str rfl) pa_nil))) (pe_one (pe_cmpR op_eq (pv 0) (pv 1) (nomark _)))))) pss_nil)
          pss_never)))), ?_⟩
      refine ⟨_, rfl, rfl, _, rfl, iteC (decide_eq_false fun e => by cases e) ?_⟩
      refine ⟨_, rfl, _, _, _, _, rfl, .inl (.str _), kq (show kitTy "str" "bool" = some false by decide +kernel), _, rfl, ?_⟩
      refine iteF ?_
      refine ⟨_, rfl, _, _, _, _, rfl, .inl (.str _), kq (show kitTy "str" "bool" = some false by decide +kernel), _, rfl, ?_⟩
      refine iteF ?_
      refine ⟨_, rfl, _, _, _, _, rfl, .inl (.str _), kq (show kitTy "str" "int" = some false by decide +kernel), _, rfl, ?_⟩
      refine iteF ?_
      refine ⟨_, rfl, _, _, _, _, rfl, .inl (.str _), kq (show kitTy "str" "str" = some true by decide +kernel), _, rfl, ?_⟩
      refine iteT ?_
      refine ⟨_, rfl, _, _, _, _, rfl, .inl (.str _), kq (show kitTy "str" "str" = some true by decide +kernel), _, rfl, ?_⟩
      refine iteT ?_
      refine ⟨_, rfl, _, rfl, rfl, ?_⟩
      rw [decide_eq_true rfl]
      exact q H (Same.refl H)
    | @tup m a b xs ys ha hb hlen hi =>
      obtain ⟨ihS, ihE⟩ := ih m rfl
      have hrS : Room (2 * m + 1) _ := hr.mono (by omega)
      have hrE : Room (2 * m + 2) _ := hr.mono (by omega)
      refine ⟨_, (pss_cons (ps_if (pt_cmpR op_isN (pv 1) pe_non (nomark _)) pss_never pss_nil)
          (pss_cons (ps_if (PW.pt (pw_or (pt_val (pe_callB call_isi5 (by rfl) B.isi boot_isi (pa_cons (pv 1) (pa_cons (pe_bltn (v := .ty "bool") (by rfl) B.bool boot_bool rfl) pa_nil)))) (pw_or1 (pt_val (pe_callB call_isi5 (by rfl) B.isi boot_isi (pa_cons (pv 0) (pa_cons (pe_bltn (v := .ty "bool") (by rfl) B.bool boot_bool rfl) pa_nil))))))) pss_never pss_nil)
          (pss_cons (ps_if (pt_val (pe_callB call_isi5 (by rfl) B.isi boot_isi (pa_cons (pv 1) (pa_cons (pe_bltn (v := .ty "int") (by rfl) B.int boot_int rfl) pa_nil)))) pss_never pss_nil)
          (pss_cons (ps_if (pt_val (pe_callB call_isi5 (by rfl) B.isi boot_isi (pa_cons (pv 1) (pa_cons (pe_bltn (v := .ty "str") (by rfl) B.str boot_str rfl) pa_nil)))) pss_never pss_nil)
          (pss_cons (ps_if (pt_val (pe_callB call_isi5 (by rfl) B.isi boot_isi (pa_cons (pv 1) (pa_cons (pe_bltn (v := .ty "dict") (by rfl) B.dict boot_dict rfl) pa_nil)))) pss_never pss_nil)
          (pss_cons (ps_if (PW.pt (pw_or (pt_cmpR op_ne (pe_callB call_isi5 (by rfl) B.isi boot_isi (pa_cons (pv 1) (pa_cons (pe_bltn (v := .ty "list") (by rfl) B.list boot_list rfl) pa_nil))) (pe_callB call_isi5 (by rfl) B.isi boot_isi (pa_cons (pv 0) (pa_cons (pe_bltn (v := .ty "list") (by rfl) B.list boot_list rfl) pa_nil))) (nomark _)) (pw_or1 (pt_cmpR op_ne (pe_callB call_isi5 (by rfl) B.isi boot_isi (pa_cons (pv 1) (pa_cons (pe_bltn (v := .ty "tuple") (by rfl) B.tuple boot_tuple rfl) pa_nil))) (pe_callB call_isi5 (by rfl) B.isi boot_isi (pa_cons (pv 0) (pa_cons (pe_bltn (v := .ty "tuple") (by rfl) B.tuple boot_tuple rfl) pa_nil))) (nomark _))))) pss_never pss_nil)
          (pss_cons (ps_if (pt_cmpR op_ne (pe_callB call_len_seq (by rfl) B.len PySem.boot_len (pa_cons (pv 0) pa_nil)) (pe_callB call_len_seq (by rfl) B.len PySem.boot_len (pa_cons (pv 1) pa_nil)) (nomark _)) pss_never pss_nil)
          (pss_cons (ps_for PassesOwn.never rfl (pi_zipT (by rfl) hz (pa_cons (pv 0) (pa_cons (pv 1) pa_nil))) (pg_tup rfl (pgs_cons (pg_name (i := 2) sc.nd rfl (Or.inl rfl)) (pgs_cons (pg_name (i := 3) sc.nd rfl (Or.inl rfl)) pgs_nil)))
            (pss_one (ps_if (pt_not (pt_val (pe_call ihS hrS (by rfl) D.mg D.fn.kp bA .nil pass0 (pa_cons (pv 2) (pa_cons (pv 3) pa_nil))))) pss_never pss_nil)))
          (pss_one (ps_ret pe_bl)))))))))), ?_⟩
      refine ⟨_, rfl, rfl, _, rfl, iteC (decide_eq_false fun e => by cases e) ?_⟩
      refine ⟨_, rfl, _, _, _, _, rfl, .inr ⟨_, _, rfl, hb, rfl⟩, kq (show kitTy "tuple" "bool" = some false by decide +kernel), _, rfl, ?_⟩
      refine iteF ?_
      refine ⟨_, rfl, _, _, _, _, rfl, .inr ⟨_, _, rfl, ha, rfl⟩, kq (show kitTy "tuple" "bool" = some false by decide +kernel), _, rfl, ?_⟩
      refine iteF ?_
      refine ⟨_, rfl, _, _, _, _, rfl, .inr ⟨_, _, rfl, hb, rfl⟩, kq (show kitTy "tuple" "int" = some false by decide +kernel), _, rfl, ?_⟩
      refine iteF ?_
      refine ⟨_, rfl, _, _, _, _, rfl, .inr ⟨_, _, rfl, hb, rfl⟩, kq (show kitTy "tuple" "str" = some false by decide +kernel), _, rfl, ?_⟩
      refine iteF ?_
      refine ⟨_, rfl, _, _, _, _, rfl, .inr ⟨_, _, rfl, hb, rfl⟩, kq (show kitTy "tuple" "dict" = some false by decide +kernel), _, rfl, ?_⟩
      refine iteF ?_
      refine ⟨_, rfl, _, _, _, _, rfl, .inr ⟨_, _, rfl, hb, rfl⟩, kq (show kitTy "tuple" "list" = some false by decide +kernel), _, rfl, _, _, _, _, rfl, .inr ⟨_, _, rfl, ha, rfl⟩, kq (show kitTy "tuple" "list" = some false by decide +kernel), rfl, _, rfl, ?_⟩
      refine iteNS rfl ?_
      refine ⟨_, rfl, _, _, _, _, rfl, .inr ⟨_, _, rfl, hb, rfl⟩, kq (show kitTy "tuple" "tuple" = some true by decide +kernel), _, rfl, _, _, _, _, rfl, .inr ⟨_, _, rfl, ha, rfl⟩, kq (show kitTy "tuple" "tuple" = some true by decide +kernel), rfl, _, rfl, ?_⟩
      refine iteNS rfl ?_
      refine ⟨_, rfl, _, _, rfl, .inr (SqT.rd ha), _, rfl, _, _, rfl, .inr (SqT.rd hb), rfl, _, rfl, ?_⟩
      refine iteNS (by rw [hlen]) ?_
      refine ⟨_, rfl, _, rfl, a, b, rfl, ⟨_, SqT.rd ha⟩, ⟨_, SqT.rd hb⟩, for_zipT (K := K) (xs := xs) (ys := ys) (fun i σ H' => Same H H' ∧ ∃ (u v : Option V), σ = [some (.ref a), some (.ref b), u, v]) hlen ⟨Same.refl H, _, _, rfl⟩ (fun i σ H' _ p => ⟨SqT.rd (ha.same p.1), SqT.rd (hb.same p.1)⟩) ?_ ?_⟩
      · rintro i x y p σ H' hx hy ⟨s1, u, v, rfl⟩ hp
        refine ⟨p, [x, y], rfl, SqT.of upd_same, rfl, x, [y], rfl, y, [], rfl, rfl, ?_⟩
        have s2 := s1.trans (Same.upd (o := .tup [x, y]) hp)
        refine ⟨_, rfl, _, rfl, x, y, rfl, (hi i x y hx hy).same s2, fun H2 s3 => ⟨_, rfl, ?_⟩⟩
        refine iteF ?_
        exact ⟨s2.trans s3, _, _, rfl⟩
      · rintro σ H' ⟨s1, u, v, rfl⟩
        exact q H' s1
    | @lst m a b xs ys ha hb hlen hi =>
      obtain ⟨ihS, ihE⟩ := ih m rfl
      have hrS : Room (2 * m + 1) _ := hr.mono (by omega)
      have hrE : Room (2 * m + 2) _ := hr.mono (by omega)
      refine ⟨_, (pss_cons (ps_if (pt_cmpR op_isN (pv 1) pe_non (nomark _)) pss_never pss_nil)
          (pss_cons (ps_if (PW.pt (pw_or (pt_val (pe_callB call_isi5 (by rfl) B.isi boot_isi (pa_cons (pv 1) (pa_cons (pe_bltn (v := .ty "bool") (by rfl) B.bool boot_bool rfl) pa_nil)))) (pw_or1 (pt_val (pe_callB call_isi5 (by rfl) B.isi boot_isi (pa_cons (pv 0) (pa_cons (pe_bltn (v := .ty "bool") (by rfl) B.bool boot_bool rfl) pa_nil))))))) pss_never pss_nil)
          (pss_cons (ps_if (pt_val (pe_callB call_isi5 (by rfl) B.isi boot_isi (pa_cons (pv 1) (pa_cons (pe_bltn (v := .ty "int") (by rfl) B.int boot_int rfl) pa_nil)))) pss_never pss_nil)
          (pss_cons (ps_if (pt_val (pe_callB call_isi5 (by rfl) B.isi boot_isi (pa_cons (pv 1) (pa_cons (pe_bltn (v := .ty "str") (by rfl) B.str boot_str rfl) pa_nil)))) pss_never pss_nil)
          (pss_cons (ps_if (pt_val (pe_callB call_isi5 (by rfl) B.isi boot_isi (pa_cons (pv 1) (pa_cons (pe_bltn (v := .ty "dict") (by rfl) B.dict boot_dict rfl) pa_nil)))) pss_never pss_nil)
          (pss_cons (ps_if (PW.pt (pw_or (pt_cmpR op_ne (pe_callB call_isi5 (by rfl) B.isi boot_isi (pa_cons (pv 1) (pa_cons (pe_bltn (v := .ty "list") (by rfl) B.list boot_list rfl) pa_nil))) (pe_callB call_isi5 (by rfl) B.isi boot_isi (pa_cons (pv 0) (pa_cons (pe_bltn (v := .ty "list") (by rfl) B.list boot_list rfl) pa_nil))) (nomark _)) (pw_or1 (pt_cmpR op_ne (pe_callB call_isi5 (by rfl) B.isi boot_isi (pa_cons (pv 1) (pa_cons (pe_bltn (v := .ty "tuple") (by rfl) B.tuple boot_tuple rfl) pa_nil))) (pe_callB call_isi5 (by rfl) B.isi boot_isi (pa_cons (pv 0) (pa_cons (pe_bltn (v := .ty "tuple") (by rfl) B.tuple boot_tuple rfl) pa_nil))) (nomark _))))) pss_never pss_nil)
          (pss_cons (ps_if (pt_cmpR op_ne (pe_callB call_len_seq (by rfl) B.len PySem.boot_len (pa_cons (pv 0) pa_nil)) (pe_callB call_len_seq (by rfl) B.len PySem.boot_len (pa_cons (pv 1) pa_nil)) (nomark _)) pss_never pss_nil)
          (pss_cons (ps_for PassesOwn.never rfl (pi_zipL (by rfl) hz (pa_cons (pv 0) (pa_cons (pv 1) pa_nil))) (pg_tup rfl (pgs_cons (pg_name (i := 2) sc.nd rfl (Or.inl rfl)) (pgs_cons (pg_name (i := 3) sc.nd rfl (Or.inl rfl)) pgs_nil)))
            (pss_one (ps_if (pt_not (pt_val (pe_call ihS hrS (by rfl) D.mg D.fn.kp bA .nil pass0 (pa_cons (pv 2) (pa_cons (pv 3) pa_nil))))) pss_never pss_nil)))
          (pss_one (ps_ret pe_bl)))))))))), ?_⟩
      refine ⟨_, rfl, rfl, _, rfl, iteC (decide_eq_false fun e => by cases e) ?_⟩
      refine ⟨_, rfl, _, _, _, _, rfl, .inl (.lst hb), kq (show kitTy "list" "bool" = some false by decide +kernel), _, rfl, ?_⟩
      refine iteF ?_
      refine ⟨_, rfl, _, _, _, _, rfl, .inl (.lst ha), kq (show kitTy "list" "bool" = some false by decide +kernel), _, rfl, ?_⟩
      refine iteF ?_
      refine ⟨_, rfl, _, _, _, _, rfl, .inl (.lst hb), kq (show kitTy "list" "int" = some false by decide +kernel), _, rfl, ?_⟩
      refine iteF ?_
      refine ⟨_, rfl, _, _, _, _, rfl, .inl (.lst hb), kq (show kitTy "list" "str" = some false by decide +kernel), _, rfl, ?_⟩
      refine iteF ?_
      refine ⟨_, rfl, _, _, _, _, rfl, .inl (.lst hb), kq (show kitTy "list" "dict" = some false by decide +kernel), _, rfl, ?_⟩
      refine iteF ?_
      refine ⟨_, rfl, _, _, _, _, rfl, .inl (.lst hb), kq (show kitTy "list" "list" = some true by decide +kernel), _, rfl, _, _, _, _, rfl, .inl (.lst ha), kq (show kitTy "list" "list" = some true by decide +kernel), rfl, _, rfl, ?_⟩
      refine iteNS rfl ?_
      refine ⟨_, rfl, _, _, _, _, rfl, .inl (.lst hb), kq (show kitTy "list" "tuple" = some false by decide +kernel), _, rfl, _, _, _, _, rfl, .inl (.lst ha), kq (show kitTy "list" "tuple" = some false by decide +kernel), rfl, _, rfl, ?_⟩
      refine iteNS rfl ?_
      refine ⟨_, rfl, _, _, rfl, .inl (SqL.of ha), _, rfl, _, _, rfl, .inl (SqL.of hb), rfl, _, rfl, ?_⟩
      refine iteNS (by rw [hlen]) ?_
      refine ⟨_, rfl, _, rfl, a, b, rfl, ⟨_, SqL.of ha⟩, ⟨_, SqL.of hb⟩, for_zipL (K := K) (xs := xs) (ys := ys) (fun i σ H' => Same H H' ∧ ∃ (u v : Option V), σ = [some (.ref a), some (.ref b), u, v]) hlen ⟨Same.refl H, _, _, rfl⟩ (fun i σ H' _ p => ⟨SqL.of (p.1 _ _ ha), SqL.of (p.1 _ _ hb)⟩) ?_ ?_⟩
      · rintro i x y p σ H' hx hy ⟨s1, u, v, rfl⟩ hp
        refine ⟨p, [x, y], rfl, SqT.of upd_same, rfl, x, [y], rfl, y, [], rfl, rfl, ?_⟩
        have s2 := s1.trans (Same.upd (o := .tup [x, y]) hp)
        refine ⟨_, rfl, _, rfl, x, y, rfl, (hi i x y hx hy).same s2, fun H2 s3 => ⟨_, rfl, ?_⟩⟩
        refine iteF ?_
        exact ⟨s2.trans s3, _, _, rfl⟩
      · rintro σ H' ⟨s1, u, v, rfl⟩
        exact q H' s1
    | @dct m a b kvs kws f ha hb hlen hf hg hi =>
      obtain ⟨ihS, ihE⟩ := ih m rfl
      have hrS : Room (2 * m + 1) _ := hr.mono (by omega)
      have hrE : Room (2 * m + 2) _ := hr.mono (by omega)
      refine ⟨_, (pss_cons (ps_if (pt_cmpR op_isN (pv 1) pe_non (nomark _)) pss_never pss_nil)
          (pss_cons (ps_if (PW.pt (pw_or (pt_val (pe_callB call_isiD (by rfl) B.isi boot_isi (pa_cons (pv 1) (pa_cons (pe_bltn (v := .ty "bool") (by rfl) B.bool boot_bool rfl) pa_nil)))) (pw_or1 (pt_val (pe_callB call_isiD (by rfl) B.isi boot_isi (pa_cons (pv 0) (pa_cons (pe_bltn (v := .ty "bool") (by rfl) B.bool boot_bool rfl) pa_nil))))))) pss_never pss_nil)
          (pss_cons (ps_if (pt_val (pe_callB call_isiD (by rfl) B.isi boot_isi (pa_cons (pv 1) (pa_cons (pe_bltn (v := .ty "int") (by rfl) B.int boot_int rfl) pa_nil)))) pss_never pss_nil)
          (pss_cons (ps_if (pt_val (pe_callB call_isiD (by rfl) B.isi boot_isi (pa_cons (pv 1) (pa_cons (pe_bltn (v := .ty "str") (by rfl) B.str boot_str rfl) pa_nil)))) pss_never pss_nil)
          (pss_cons (ps_if (pt_val (pe_callB call_isiD (by rfl) B.isi boot_isi (pa_cons (pv 1) (pa_cons (pe_bltn (v := .ty "dict") (by rfl) B.dict boot_dict rfl) pa_nil)))) (pss_one (ps_ret (pe_and (pe_callB call_isiD (by rfl) B.isi boot_isi (pa_cons (pv 0) (pa_cons (pe_bltn (v := .ty "dict") (by rfl) B.dict boot_dict rfl) pa_nil))) (pe_and (pe_cmpR op_eq (pe_callB call_lenR (by rfl) B.len PySem.boot_len (pa_cons (pv 0) pa_nil)) (pe_callB call_lenR (by rfl) B.len PySem.boot_len (pa_cons (pv 1) pa_nil)) (nomark _)) (pe_one (pe_call ihE hrE (by rfl) E.mg E.fn.kp bE .nil pass0 (pa_cons (pv 0) (pa_cons (pv 1) pa_nil)))))))) pss_nil)
          pss_never))))), ?_⟩
      refine ⟨_, rfl, rfl, _, rfl, iteC (decide_eq_false fun e => by cases e) ?_⟩
      refine ⟨_, rfl, _, _, _, _, rfl, hb, kq (show kitTy "dict" "bool" = some false by decide +kernel), _, rfl, ?_⟩
      refine iteF ?_
      refine ⟨_, rfl, _, _, _, _, rfl, ha, kq (show kitTy "dict" "bool" = some false by decide +kernel), _, rfl, ?_⟩
      refine iteF ?_
      refine ⟨_, rfl, _, _, _, _, rfl, hb, kq (show kitTy "dict" "int" = some false by decide +kernel), _, rfl, ?_⟩
      refine iteF ?_
      refine ⟨_, rfl, _, _, _, _, rfl, hb, kq (show kitTy "dict" "str" = some false by decide +kernel), _, rfl, ?_⟩
      refine iteF ?_
      refine ⟨_, rfl, _, _, _, _, rfl, hb, kq (show kitTy "dict" "dict" = some true by decide +kernel), _, rfl, ?_⟩
      refine iteT ?_
      refine ⟨_, rfl, _, _, _, _, rfl, ha, kq (show kitTy "dict" "dict" = some true by decide +kernel), _, rfl, ?_⟩
      refine iteT ?_
      refine ⟨_, rfl, a, kvs, rfl, ha, _, rfl, b, kws, rfl, hb, rfl, _, rfl, iteB (decide_eq_true (by rw [hlen])) ?_⟩
      exact ⟨_, rfl, _, rfl, a, b, kvs, kws, f, rfl, ha, hb, hf, hg, hi, q⟩
end
end My

namespace My
open PySem L2 PyProof.Rows
seal L2.PE L2.PT L2.PW L2.PS L2.PSs L2.PA L2.PI L2.PG L2.PGs L2.OpR L2.CallR L2.IxR L2.SlR L2.MtR L2.PIf L2.PO L2.MtM L2.PC
section
variable {P : Program} {w : World} {K : PySem.W.Frag} {mg : Str → Option Value} {base : Heap}
theorem ok_ea {f fE : Addr} {fd fdE : FuncData} (D : Df K mg "_law_same" (top 15) f fd) (E : Df K mg "_law_each" (top 16) fE fdE) (n : Nat) (GS : FnOk P w K mg base CX0 (2 * n + 1) f fd ["_law_found", "_law_due"] (spSm n)) : FnOk P w K mg base CX0 (2 * n + 2) fE fdE ["_law_found", "_law_due"] (spEa n) := by
  have sc : FnScope ["_law_found", "_law_due", "_law_key"] ["_law_found", "_law_due"] (defScope (top 16)) := ⟨rfl, rfl, rfl, by decide +kernel, rfl, by decide +kernel, by decide +kernel⟩
  have bA := D.fn.binds (ps := ["_law_found", "_law_due"]) fun _ _ _ _ _ _ us hl => by obtain ⟨v0, v1, rfl⟩ := L2.ln2 hl; rfl
  refine E.fn.ok sc (fun vs H Q E h => ?_) (fun cdv A outer s H vs Q E' hr h => ?_)
  · obtain ⟨a, b, kvs, kws, g, rfl, _⟩ := h
    rfl
  · obtain ⟨a, b, kvs, kws, g, rfl, ha, hb, hf, hg, hi, q⟩ := h
    have hu : (A.deeper (envOfC "_law_each" (defScope (top 16)) s.heap.objs.size fE cdv)).units + 1 < cLine := hu_of hr
    refine ⟨_, pss_cons (ps_frzR (ps_for PassesOwn.never rfl (pi_dict (pv 1)) (pg_name (i := 2) sc.nd rfl (Or.inl rfl))
        (pss_one (ps_if (PW.pt (pw_or (pt_cmp (pc_dnotin hu (pv 2) (pv 0))) (pw_or1 (pt_not (pt_val (pe_call GS hr (by rfl) D.mg D.fn.kp bA .nil pass0 (pa_cons (pe_dget hu (pv 0) (pv 2) (fun _ _ => rfl)) (pa_cons (pe_dget hu (pv 1) (pv 2) (fun _ _ => rfl)) pa_nil)))))))) pss_never pss_nil))))
      (pss_one (ps_ret pe_bl)), ?_⟩
    refine ⟨b, kws, hb, fun o ho => ?_, fun ho o => ?_⟩
    · refine ⟨_, rfl, b, o, _, rfl, ho, for_dict (a := b) (o := o) (kvs := kws) (fun i σ H1 => Same H H1 ∧ ∃ u, σ = [some (.ref a), some (.ref b), u]) ⟨Same.refl H, _, rfl⟩ (fun i σ H1 _ p => p.1 _ _ ho) ?_ ?_⟩
      · rintro i k v σ H1 hk ⟨s1, u, rfl⟩
        have hm := List.mem_of_getElem? hk
        refine ⟨_, rfl, _, rfl, a, _, rfl, .inl ⟨kvs, k, Rd.same s1 ha, rfl, (hf k v hm).symm⟩, _, rfl, iteF ?_⟩
        refine ⟨_, rfl, _, rfl, a, _, rfl, .inl ⟨kvs, k, Rd.same s1 ha, rfl, (hf k v hm).symm⟩, _, rfl, _, rfl, b, _, rfl, .inl ⟨kws, k, Rd.same s1 hb, rfl, (hg k v hm).symm⟩, _, _, rfl, (hi k v hm).same s1, fun H2 s2 => ⟨_, rfl, iteF ?_⟩⟩
        exact ⟨s1.trans s2, _, rfl⟩
      · rintro σ H1 ⟨s1, u, rfl⟩
        exact q H1 s1
    · have e1 : (upd H b (.frz o (.dK kws))) b = some (.frz o (.dK kws)) := upd_same
      have ha1 : Rd (upd H b (.frz o (.dK kws))) a (.dK kvs) := Rd.frz ho ha
      have hb1 : Rd (upd H b (.frz o (.dK kws))) b (.dK kws) := Rd.frz ho hb
      have hi1 : ∀ (k : Key) (v : V), (k, v) ∈ kws → Lq (upd H b (.frz o (.dK kws))) n (g k) v := fun k v hm => (hi k v hm).frz ho
      have bk : ∀ {G : Hp}, Same (upd H b (.frz o (.dK kws))) G → Same H (upd G b (.dK kws)) := fun {G} sg => back_same ho sg
      generalize upd H b (.frz o (.dK kws)) = H0 at *
      refine ⟨_, rfl, b, o, _, rfl, e1, for_dict (a := b) (o := o) (kvs := kws) (fun i σ H1 => Same H0 H1 ∧ ∃ u, σ = [some (.ref a), some (.ref b), u]) ⟨Same.refl H0, _, rfl⟩ (fun i σ H1 _ p => p.1 _ _ e1) ?_ ?_⟩
      · rintro i k v σ H1 hk ⟨s1, u, rfl⟩
        have hm := List.mem_of_getElem? hk
        refine ⟨_, rfl, _, rfl, a, _, rfl, .inl ⟨kvs, k, Rd.same s1 ha1, rfl, (hf k v hm).symm⟩, _, rfl, iteF ?_⟩
        refine ⟨_, rfl, _, rfl, a, _, rfl, .inl ⟨kvs, k, Rd.same s1 ha1, rfl, (hf k v hm).symm⟩, _, rfl, _, rfl, b, _, rfl, .inl ⟨kws, k, Rd.same s1 hb1, rfl, (hg k v hm).symm⟩, _, _, rfl, (hi1 k v hm).same s1, fun H2 s2 => ⟨_, rfl, iteF ?_⟩⟩
        exact ⟨s1.trans s2, _, rfl⟩
      · rintro σ H1 ⟨s1, u, rfl⟩
        exact ⟨s1 _ _ e1, q _ (bk s1)⟩
theorem ok_both {f fE : Addr} {fd fdE : FuncData} (D : Df K mg "_law_same" (top 15) f fd) (E : Df K mg "_law_each" (top 16) fE fdE) (B : Bl mg) (hz : mg "zip" = none) : ∀ n : Nat, FnOk P w K mg base CX0 (2 * n + 1) f fd ["_law_found", "_law_due"] (spSm n) ∧ FnOk P w K mg base CX0 (2 * n + 2) fE fdE ["_law_found", "_law_due"] (spEa n)
  | 0 => have h := ok_sm D E B hz 0 (fun m e => by cases e); ⟨h, ok_ea D E 0 h⟩
  | n + 1 => have h := ok_sm D E B hz (n + 1) (fun m e => by cases e; exact ok_both D E B hz n); ⟨h, ok_ea D E (n + 1) h⟩
end
end My

namespace My
open PySem L2 PyProof.Rows
seal L2.PE L2.PT L2.PW L2.PS L2.PSs L2.PA L2.PI L2.PG L2.PGs L2.OpR L2.CallR L2.IxR L2.SlR L2.MtR L2.PIf L2.PO L2.MtM L2.PC
def spCel (K : PySem.W.Frag) : Sp := fun vs H Q _ => ∃ (a : Addr) (ns : List Int) (k : Int), vs = [.ref a, .int k] ∧ SqL K H a (ns.map V.int) ∧ 0 ≤ k ∧ ∀ i : Int, Q (.int i) H
def spMix : Sp := fun vs H Q _ => ∃ (c k : Int), vs = [.int c, .int k] ∧ ∀ i : Int, 0 ≤ i → i < 2147483647 → Q (.int i) H
def spSign : Sp := fun vs H Q _ => ∃ n : Int, vs = [.int n] ∧ ∀ z : Str, z.length = 1 → Q (.str z) H
def spText : Sp := fun vs H Q _ => ∃ n : Int, vs = [.int n] ∧ 0 ≤ n ∧ ∀ z : Str, z.length ≤ 60 → Q (.str z) H
def sgA : Str := " !\"#$&'()*+,-./0123456789:;<=>?@ABCDEFGHIJKLMNOPQRSTUVWXYZ[\\]^_`"
def sgB : Str := sgA ++ "abcdefghijklmnopqrstuvwxyz{|}~"
theorem sgB_len : sgB.cps.toList.length = 94 := by decide +kernel
theorem at_memN {l : List Nat} {i : Int} (h0 : 0 ≤ i) (h1 : i < l.length) : ∃ v, atI l i = some v ∧ v ∈ l := by
  obtain ⟨j, rfl⟩ := Int.eq_ofNat_of_zero_le h0
  have hj : j < l.length := by omega
  exact ⟨l[j], atI_nat (List.getElem?_eq_getElem hj), List.getElem_mem hj⟩
section
variable {P : Program} {w : World} {K : PySem.W.Frag} {mg : Str → Option Value} {base : Heap}
theorem ok_cel {f : Addr} {fd : FuncData} (F : Fun K "_law_cell" "_law_cell" (top 13) f fd) (B : Bl mg) : FnOk P w K mg base CX0 1 f fd ["_law_script", "_law_k"] (spCel K) := by
  have sc : FnScope ["_law_script", "_law_k"] ["_law_script", "_law_k"] (defScope (top 13)) := ⟨rfl, rfl, rfl, by decide +kernel, rfl, by decide +kernel, by decide +kernel⟩
  refine F.ok sc (fun vs H Q E h => ?_) (fun cdv A outer s H vs Q E hr h => ?_)
  · obtain ⟨a, ns, k, rfl, _⟩ := h
    rfl
  · obtain ⟨a, ns, k, rfl, ha, k0, q⟩ := h
    refine ⟨_, pss_cons (ps_if (pt_cmpR op_lt (pv 1) (pe_callB call_len_seq (by rfl) B.len PySem.boot_len (pa_cons (pv 0) pa_nil)) (nomark _)) (pss_one (ps_ret (pe_ix ix_list (pv 0) (pv 1) (fun _ _ => rfl)))) pss_nil) (pss_one (ps_ret pe_int)), ?_⟩
    refine ⟨_, rfl, _, rfl, _, _, rfl, .inl ha, _, _, rfl, rfl, _, rfl, ?_⟩
    refine ite2 (fun c => ?_) (fun _ => q _)
    have c' : k < (((ns.map V.int).length : Nat) : Int) := of_decide_eq_true c
    obtain ⟨j, rfl⟩ := Int.eq_ofNat_of_zero_le k0
    have hj : j < ns.length := by rw [List.length_map] at c'; omega
    exact ⟨_, rfl, _, rfl, _, _, _, _, rfl, rfl, ha, atI_nat (by rw [List.getElem?_map, List.getElem?_eq_getElem hj]; rfl), q _⟩
theorem ok_mix {f : Addr} {fd : FuncData} (F : Fun K "_law_mix" "_law_mix" (top 14) f fd) : FnOk P w K mg base CX0 1 f fd ["_law_cell_here", "_law_k"] spMix := by
  have sc : FnScope ["_law_cell_here", "_law_k"] ["_law_cell_here", "_law_k"] (defScope (top 14)) := ⟨rfl, rfl, rfl, by decide +kernel, rfl, by decide +kernel, by decide +kernel⟩
  refine F.ok sc (fun vs H Q E h => ?_) (fun cdv A outer s H vs Q E hr h => ?_)
  · obtain ⟨c, k, rfl, _⟩ := h
    rfl
  · obtain ⟨c, k, rfl, q⟩ := h
    refine ⟨_, pss_one (ps_ret (pe_op op_mod (pe_op op_mul (pe_op op_add (pe_op op_mod (pv 0) pe_int) (pe_op op_mul pe_int (pv 1))) pe_int) pe_int)), ?_⟩
    exact ⟨_, rfl, _, _, rfl, rfl, (pos rfl), _, rfl, _, _, rfl, rfl, .inl ⟨by decide, by decide⟩, _, _, rfl, rfl, _, _, rfl, rfl, .inr ⟨by decide, by decide⟩, _, _, rfl, rfl, (pos rfl), q _ (Int.emod_nonneg _ (by decide)) (Int.emod_lt_of_pos _ (by decide))⟩
theorem ok_sgn {f : Addr} {fd : FuncData} (F : Fun K "_law_sign" "_law_sign" (top 18) f fd) : FnOk P w K mg base CX0 1 f fd ["_law_number"] spSign := by
  have sc : FnScope ["_law_number", "_law_some"] ["_law_number"] (defScope (top 18)) := ⟨rfl, rfl, rfl, by decide +kernel, rfl, by decide +kernel, by decide +kernel⟩
  refine F.ok sc (fun vs H Q E h => ?_) (fun cdv A outer s H vs Q E hr h => ?_)
  · obtain ⟨n, rfl, _⟩ := h
    rfl
  · obtain ⟨n, rfl, q⟩ := h
    refine ⟨_, pss_cons (ps_set (i := 1) sc.nd rfl (Or.inl rfl) pe_str) (pss_cons (ps_set (i := 1) sc.nd rfl (Or.inl rfl) (pe_op op_add_str (pv 1) pe_str)) (pss_one (ps_ret (pe_ix ix_str (pv 1) (pe_op op_mod (pv 0) pe_int) (fun _ _ => rfl))))), ?_⟩
    obtain ⟨ch, e1, e2⟩ := at_memN (l := sgB.cps.toList) (i := n % 94) (Int.emod_nonneg _ (by decide)) (by rw [sgB_len]; exact Int.emod_lt_of_pos _ (by decide))
    refine ⟨_, rfl, _, _, rfl, rfl, (by decide +kernel), _, rfl, _, rfl, _, _, rfl, rfl, (pos rfl), sgB, _, ch, rfl, rfl, (by decide +kernel), e1, q _ rfl⟩
end
end My

namespace L2
open PySem PySem.Spec PyProof.Rows
def sCut21 (t : TS) : TS := fun D σ H => ∃ R : St → Hp → Prop, t { D with nx := R } σ H ∧ ∀ σ' H', R σ' H' → D.nx σ' H'
theorem ps_cut21 {X : Cx} {st : Stmt} {t : TS} (h : PS X st t) : PS X st (sCut21 t) := by
  intro pins s σ H D I hq
  obtain ⟨R, h1, h2⟩ := hq
  refine thn (h pins s σ H _ I h1) fun f s' hs => ?_
  cases f with
  | next => obtain ⟨σ', H', I', z⟩ := hs; exact ⟨σ', H', I', h2 _ _ z⟩
  | brk => exact hs
  | cont => exact hs
  | ret u => exact hs
end L2
namespace My
open PySem L2 PyProof.Rows
seal L2.PE L2.PT L2.PW L2.PS L2.PSs L2.PA L2.PI L2.PG L2.PGs L2.OpR L2.CallR L2.IxR L2.SlR L2.MtR L2.PIf L2.PO L2.MtM L2.PC
def abcS : Str := "abcdefghijklmnopqrstuvwxyz"
def letters : List Nat := abcS.cps.toList
def letN (i : Int) : Nat := (letters[(i % 26).toNat]?).getD 0
theorem let_len : letters.length = 26 := by decide +kernel
theorem letN_at (i : Int) : atI letters (i % 26) = some (letN i) ∧ letN i ∈ letters := by
  have h0 := Int.emod_nonneg i (show (26 : Int) ≠ 0 by decide)
  have h1 := Int.emod_lt_of_pos i (show (0 : Int) < 26 by decide)
  obtain ⟨n, hn⟩ := Int.eq_ofNat_of_zero_le h0
  have hl : n < letters.length := by rw [let_len]; omega
  have e : letN i = letters[n] := by
    unfold letN
    rw [hn, Int.toNat_natCast, List.getElem?_eq_getElem hl]
    rfl
  rw [e, hn]
  exact ⟨atI_nat (List.getElem?_eq_getElem hl), List.getElem_mem hl⟩
theorem let_nd : letters.Nodup := by decide +kernel
theorem letN_inj {i j : Int} (h : letN i = letN j) : i % 26 = j % 26 := by
  have a0 := Int.emod_nonneg i (show (26 : Int) ≠ 0 by decide)
  have a1 := Int.emod_lt_of_pos i (show (0 : Int) < 26 by decide)
  have b0 := Int.emod_nonneg j (show (26 : Int) ≠ 0 by decide)
  have b1 := Int.emod_lt_of_pos j (show (0 : Int) < 26 by decide)
  obtain ⟨n, hn⟩ := Int.eq_ofNat_of_zero_le a0
  obtain ⟨m, hm⟩ := Int.eq_ofNat_of_zero_le b0
  have hl : n < letters.length := by rw [let_len]; omega
  have hk : m < letters.length := by rw [let_len]; omega
  unfold letN at h
  rw [hn, hm, Int.toNat_natCast, Int.toNat_natCast, List.getElem?_eq_getElem hl, List.getElem?_eq_getElem hk] at h
  have : n = m := (List.getElem_inj let_nd).mp h
  omega
def nmC (fi st at_ k : Int) (n : Nat) : List Nat := (List.range n).map fun (j : Nat) => letN (if (0 + (j : Int)) = at_ then fi + (0 + (j : Int)) * st + k else fi + (0 + (j : Int)) * st)
theorem nmC_len {fi st at_ k : Int} {n : Nat} : (nmC fi st at_ k n).length = n := by unfold nmC; rw [List.length_map, List.length_range]
theorem nmC_inj {fi st at_ k k' : Int} {n : Nat} (h0 : 0 ≤ at_) (h1 : at_ < n) (e : nmC fi st at_ k n = nmC fi st at_ k' n) : (fi + (0 + at_) * st + k) % 26 = (fi + (0 + at_) * st + k') % 26 := by
  obtain ⟨j, rfl⟩ := Int.eq_ofNat_of_zero_le h0
  have hj : j < n := by omega
  have g := congrArg (fun l : List Nat => l[j]?) e
  simp only [nmC, List.getElem?_map, List.getElem?_range hj, Option.map_some] at g
  have g' := Option.some.inj g
  rw [if_pos (by omega), if_pos (by omega)] at g'
  exact letN_inj g'
def spNames : Sp := fun vs H Q _ => ∃ c m : Int, vs = [.int c, .int m] ∧ 0 ≤ m ∧ m ≤ 12 ∧ ∀ (l : Addr) (zs : List Str) (H' : Hp), Same H H' → H l = none → H' l = some (.lst (zs.map V.str)) → (zs.length : Int) = m → zs.Nodup → (∀ z ∈ zs, 1 ≤ z.length ∧ z.length ≤ 8) → Q (.ref l) H'
def nmN : List Str := ["_law_cell_here", "_law_many", "_law_letters", "_law_long", "_law_at", "_law_first", "_law_step", "_law_names_here", "_law_k", "_law_name", "_law_j", "_law_place"]
section
variable {P : Program} {w : World} {K : PySem.W.Frag} {mg : Str → Option Value} {base : Heap}
theorem ok_text {f fS : Addr} {fd fdS : FuncData} (F : Fun K "_law_text" "_law_text" (top 19) f fd) (B : Bl mg) (DS : Df K mg "_law_sign" (top 18) fS fdS) : FnOk P w K mg base CX0 2 f fd ["_law_number"] spText := by
  have sc : FnScope ["_law_number", "_law_found", "_law_many", "_law_k"] ["_law_number"] (defScope (top 19)) := ⟨rfl, rfl, rfl, by decide +kernel, rfl, by decide +kernel, by decide +kernel⟩
  have GS : FnOk P w K mg base CX0 1 fS fdS ["_law_number"] spSign := ok_sgn DS.fn
  have bS := DS.fn.binds (ps := ["_law_number"]) fun _ _ _ _ _ _ us hl => by obtain ⟨v0, rfl⟩ := L2.ln1 hl; rfl
  refine F.ok sc (fun vs H Q E h => ?_) (fun cdv A outer s H vs Q E hr h => ?_)
  · obtain ⟨n, rfl, _⟩ := h
    rfl
  · obtain ⟨n, rfl, n0, q⟩ := h
    refine ⟨_, pss_cons (ps_set (i := 1) sc.nd rfl (Or.inl rfl) pe_str) (pss_cons (ps_set (i := 2) sc.nd rfl (Or.inl rfl) (pe_op op_mod (pv 0) pe_int))
      (pss_cons (ps_cut21 (ps_if (pt_cmpR op_eq (pe_op op_mod (pe_op op_fdiv (pv 0) pe_int) pe_int) pe_int (nomark _)) (pss_one (ps_set (i := 2) sc.nd rfl (Or.inl rfl) (pe_op op_add pe_int (pe_op op_mod (pe_op op_fdiv (pv 0) pe_int) pe_int)))) pss_nil))
      (pss_cons (ps_for PassesOwn.never rfl (pi_range1 rfl B.range (pa_cons (pv 2) pa_nil)) (pg_name (i := 3) sc.nd rfl (Or.inl rfl))
        (pss_one (ps_set (i := 1) sc.nd rfl (Or.inl rfl) (pe_op op_add_str (pv 1) (pe_call GS hr (by rfl) DS.mg DS.fn.kp bS .nil pass0 (pa_cons (pe_op op_add (pe_op op_fdiv (pv 0) pe_int) (pe_op op_mul (pv 3) (pe_op op_mod (pe_op op_fdiv (pv 0) pe_int) pe_int))) pa_nil))))))
      (pss_one (ps_ret (pv 1)))))), ?_⟩
    have a0 := Int.emod_nonneg n (show (9 : Int) ≠ 0 by decide)
    have a9 := Int.emod_lt_of_pos n (show (0 : Int) < 9 by decide)
    refine ⟨_, rfl, _, _, rfl, rfl, (pos rfl), ?_⟩
    refine ⟨fun σ' H' => H' = H ∧ ∃ m : Int, σ' = [some (.int n), some (.str ""), some (.int m), none] ∧ 0 ≤ m ∧ m ≤ 57, ?_, ?_⟩
    · refine ⟨_, rfl, _, _, rfl, rfl, ⟨by decide, by decide⟩, _, _, rfl, rfl, (pos rfl), rfl, _, rfl, ?_⟩
      refine ite2 (fun _ => ?_) (fun _ => ?_)
      · have b0 := Int.emod_nonneg (n / 144) (show (38 : Int) ≠ 0 by decide)
        have b9 := Int.emod_lt_of_pos (n / 144) (show (0 : Int) < 38 by decide)
        exact ⟨_, rfl, _, _, rfl, rfl, ⟨by decide, by decide⟩, _, _, rfl, rfl, (pos rfl), _, _, rfl, rfl, rfl, _, rfl, by omega, by omega⟩
      · exact ⟨rfl, _, rfl, a0, by omega⟩
    rintro σ1 H1 ⟨rfl, m, rfl, m0, m57⟩
    refine ⟨_, rfl, _, rfl, (by omega), (by omega), for_range (fun i σ H' => H' = H1 ∧ ∃ (z : Str) (u : Option V), σ = [some (.int n), some (.str z), some (.int m), u] ∧ z.length = i) ⟨rfl, "", _, rfl, by decide⟩ ?_ ?_⟩
    · rintro i σ H' hi ⟨rfl, z, u, rfl, hz⟩
      have hi6 : i < 57 := by omega
      refine ⟨_, rfl, _, rfl, _, _, rfl, rfl, ⟨by decide, by decide⟩, _, rfl, _, rfl, _, _, rfl, rfl, ⟨by decide, by decide⟩, _, _, rfl, rfl, (pos rfl), _, _, rfl, rfl, .inl ⟨by omega, by omega⟩, _, _, rfl, rfl, _, rfl, fun y hy => ?_⟩
      refine ⟨_, _, rfl, rfl, (by rw [sizeLine_eq]; omega), rfl, _, _, rfl, ?_⟩
      rw [Str.length_append, hz, hy]
    · rintro σ H' ⟨rfl, z, u, rfl, hz⟩
      exact ⟨_, rfl, q z (by omega)⟩
end
end My

namespace My
open PySem L2 PyProof.Rows
theorem mt_app {X : Cx} : MtR X "list.append" rAppend := mt_append
seal L2.PE L2.PT L2.PW L2.PS L2.PSs L2.PA L2.PI L2.PG L2.PGs L2.OpR L2.CallR L2.IxR L2.SlR L2.MtR L2.PIf L2.PO L2.MtM L2.PC
theorem same_put {H H1 : Hp} {p : Addr} {o : HO} (s : Same H H1) (h : H p = none) : Same H (upd H1 p o) := fun b u e => by
  rw [upd_ne (ne_of_none e h)]
  exact s _ _ e
theorem nmC_succ {fi st at_ k : Int} {n : Nat} : nmC fi st at_ k (n + 1) = nmC fi st at_ k n ++ [letN (if (0 + (n : Int)) = at_ then fi + (0 + (n : Int)) * st + k else fi + (0 + (n : Int)) * st)] := by
  unfold nmC
  rw [List.range_succ, List.map_append]
  rfl
section
variable {P : Program} {w : World} {K : PySem.W.Frag} {mg : Str → Option Value} {base : Heap}
theorem ok_names {f : Addr} {fd : FuncData} (F : Fun K "_law_names" "_law_names" (top 17) f fd) (B : Bl mg) : FnOk P w K mg base CX0 1 f fd ["_law_cell_here", "_law_many"] spNames := by
  have sc : FnScope nmN ["_law_cell_here", "_law_many"] (defScope (top 17)) := ⟨rfl, rfl, rfl, by decide +kernel, rfl, by decide +kernel, by decide +kernel⟩
  refine F.ok sc (fun vs H Q E h => ?_) (fun cdv A outer s H vs Q E hr h => ?_)
  · obtain ⟨c, m, rfl, _⟩ := h
    rfl
  · obtain ⟨c, m, rfl, m0, m12, q⟩ := h
    refine ⟨_, pss_cons (ps_set (i := 2) sc.nd rfl (Or.inl rfl) pe_str)
      (pss_cons (ps_set (i := 3) sc.nd rfl (Or.inl rfl) (pe_op op_add pe_int (pe_op op_mod (pv 0) pe_int)))
      (pss_cons (ps_set (i := 4) sc.nd rfl (Or.inl rfl) (pe_op op_mod (pe_op op_fdiv (pv 0) pe_int) (pv 3)))
      (pss_cons (ps_set (i := 5) sc.nd rfl (Or.inl rfl) (pe_op op_mod (pe_op op_fdiv (pv 0) pe_int) pe_int))
      (pss_cons (ps_set (i := 6) sc.nd rfl (Or.inl rfl) (pe_op op_mod (pe_op op_fdiv (pv 0) pe_int) pe_int))
      (pss_cons (ps_set (i := 7) sc.nd rfl (Or.inl rfl) (pe_lst pa_nil))
      (pss_cons (ps_for PassesOwn.never rfl (pi_range1 rfl B.range (pa_cons (pv 1) pa_nil)) (pg_name (i := 8) sc.nd rfl (Or.inl rfl))
        (pss_cons (ps_set (i := 9) sc.nd rfl (Or.inl rfl) pe_str)
        (pss_cons (ps_for PassesOwn.never rfl (pi_range1 rfl B.range (pa_cons (pv 3) pa_nil)) (pg_name (i := 10) sc.nd rfl (Or.inl rfl))
          (pss_cons (ps_set (i := 11) sc.nd rfl (Or.inl rfl) (pe_op op_add (pv 5) (pe_op op_mul (pv 10) (pv 6))))
          (pss_cons (ps_cut21 (ps_if (pt_cmpR op_eq (pv 10) (pv 4) (nomark _)) (pss_one (ps_set (i := 11) sc.nd rfl (Or.inl rfl) (pe_op op_add (pv 11) (pv 8)))) pss_nil))
          (pss_one (ps_set (i := 9) sc.nd rfl (Or.inl rfl) (pe_op op_add_str (pv 9) (pe_ix ix_str (pv 2) (pe_op op_mod (pv 11) pe_int) (fun _ _ => rfl))))))))
        (pss_one (ps_expr (pe_bm PySem.F.plainAttrs_list PySem.F.slot_list_append PySem.F.type_list_append mt_app (pv 7) (pa_cons (pv 9) pa_nil)))))))
      (pss_one (ps_ret (pv 7))))))))), ?_⟩
    have l0 := Int.emod_nonneg c (show (8 : Int) ≠ 0 by decide)
    have l8 := Int.emod_lt_of_pos c (show (0 : Int) < 8 by decide)
    refine ⟨_, rfl, _, _, rfl, rfl, (pos rfl), _, _, rfl, rfl, ?_⟩
    have lp : (0 : Int) < 1 + c % 8 := by omega
    refine ⟨_, rfl, _, _, rfl, rfl, ⟨by decide, by decide⟩, _, rfl, _, _, rfl, rfl, lp, ?_⟩
    refine ⟨_, rfl, _, _, rfl, rfl, ⟨by decide, by decide⟩, _, _, rfl, rfl, (pos rfl), ?_⟩
    refine ⟨_, rfl, _, _, rfl, rfl, ⟨by decide, by decide⟩, _, _, rfl, rfl, (pos rfl), ?_⟩
    have f0 := Int.emod_nonneg (c / 64) (show (26 : Int) ≠ 0 by decide)
    have f9 := Int.emod_lt_of_pos (c / 64) (show (0 : Int) < 26 by decide)
    have t0 := Int.emod_nonneg (c / 1664) (show (26 : Int) ≠ 0 by decide)
    have t9 := Int.emod_lt_of_pos (c / 1664) (show (0 : Int) < 26 by decide)
    have a0 := Int.emod_nonneg (c / 8) (show (1 + c % 8 : Int) ≠ 0 by omega)
    have a9 := Int.emod_lt_of_pos (c / 8) lp
    refine ⟨Nat.zero_le _, fun l hl => ?_⟩
    have T1 := Same.upd (o := .lst []) hl
    have e1 := upd_same (H := H) (a := l) (o := .lst [])
    show tSeq _ _ _ [some (.int c), some (.int m), some (.str abcS), some (.int (1 + c % 8)), some (.int (c / 8 % (1 + c % 8))), some (.int (c / 64 % 26)), some (.int (c / 1664 % 26)), some (.ref l), none, none, none, none] _
    generalize upd H l (.lst []) = H1 at *
    generalize c / 64 % 26 = fi at *
    generalize c / 1664 % 26 = st at *
    generalize c / 8 % (1 + c % 8) = at_ at *
    generalize hln : 1 + c % 8 = ln at *
    have abz : abcS.length ≤ sizeLine := by decide +kernel
    obtain ⟨nL, hnL⟩ := Int.eq_ofNat_of_zero_le (show 0 ≤ ln by omega)
    refine ⟨_, rfl, _, rfl, (by omega), (by omega), for_range (fun i σ H' => Same H H' ∧ (∃ u8 u9 u10 u11, σ = [some (.int c), some (.int m), some (.str abcS), some (.int ln), some (.int at_), some (.int fi), some (.int st), some (.ref l), u8, u9, u10, u11]) ∧ ∃ zs : List Str, H' l = some (.lst (zs.map V.str)) ∧ zs.length = i ∧ ∀ (j : Nat) (z : Str), zs[j]? = some z → z.cps.toList = nmC fi st at_ (0 + (j : Int)) nL) ⟨T1, ⟨_, _, _, _, rfl⟩, [], e1, rfl, fun j z h => nomatch h⟩ ?_ ?_⟩
    · rintro i σ H' hi ⟨sm, ⟨u8, u9, u10, u11, rfl⟩, zs, g1, g2, g3⟩
      refine ⟨_, rfl, _, rfl, (by omega), (by omega), for_range (fun j σ H2 => H2 = H' ∧ ∃ (z : Str) (u10 u11 : Option V), σ = [some (.int c), some (.int m), some (.str abcS), some (.int ln), some (.int at_), some (.int fi), some (.int st), some (.ref l), some (.int (0 + (i : Int))), some (.str z), u10, u11] ∧ z.cps.toList = nmC fi st at_ (0 + (i : Int)) j) ⟨rfl, "", _, _, rfl, rfl⟩ ?_ ?_⟩
      · rintro j σ H2 hj ⟨rfl, z, v10, v11, rfl, hz⟩
        refine ⟨_, rfl, _, rfl, _, rfl, _, _, rfl, rfl, .inr ⟨by omega, by omega⟩, _, _, rfl, rfl, ?_⟩
        refine ⟨fun σ' H3 => H3 = H2 ∧ σ' = [some (.int c), some (.int m), some (.str abcS), some (.int ln), some (.int at_), some (.int fi), some (.int st), some (.ref l), some (.int (0 + (i : Int))), some (.str z), some (.int (0 + (j : Int))), some (.int (if (0 + (j : Int)) = at_ then fi + (0 + (j : Int)) * st + (0 + (i : Int)) else fi + (0 + (j : Int)) * st))], ?_, ?_⟩
        · refine ⟨_, rfl, _, rfl, rfl, _, rfl, ?_⟩
          by_cases hc : (0 + (j : Int)) = at_
          · refine iteB (by rw [hc]; exact decide_eq_true rfl) ⟨_, rfl, _, rfl, _, _, rfl, rfl, rfl, ?_⟩
            rw [if_pos hc]
            rfl
          · refine iteC (decide_eq_false fun e => hc (by injection e)) ⟨rfl, ?_⟩
            rw [if_neg hc]
            rfl
        rintro σ3 H3 ⟨rfl, rfl⟩
        have lt := letN_at (if (0 + (j : Int)) = at_ then fi + (0 + (j : Int)) * st + (0 + (i : Int)) else fi + (0 + (j : Int)) * st)
        have zl : z.length = j := by
          have := congrArg List.length hz
          rw [nmC_len] at this
          show z.cps.size = j
          rw [← Array.length_toList]
          exact this
        refine ⟨_, rfl, _, rfl, _, rfl, _, _, rfl, rfl, (pos rfl), abcS, _, _, rfl, rfl, abz, lt.1, _, _, rfl, rfl, (by rw [sizeLine_eq]; show z.length + 1 ≤ _; omega), rfl, _, _, _, rfl, ?_⟩
        rw [Str.cps_append, Array.toList_append, hz, nmC_succ]
      · rintro σ H2 ⟨rfl, z, v10, v11, rfl, hz⟩
        refine ⟨_, rfl, .inl ⟨rfl, _, SqL.of g1⟩, _, rfl, l, _, _, rfl, rfl, g1, (by rw [List.length_map, sizeLine_eq]; omega), ?_⟩
        refine ⟨same_put sm hl, ⟨_, _, _, _, rfl⟩, zs ++ [z], by rw [upd_same, List.map_append]; rfl, by rw [List.length_append, g2]; rfl, fun j z' hj => ?_⟩
        by_cases hjl : j < zs.length
        · rw [List.getElem?_append_left hjl] at hj
          exact g3 j z' hj
        · have e : j = zs.length := by
            have := (List.getElem?_eq_some_iff.mp hj).1
            rw [List.length_append] at this
            simp at this
            omega
          subst e
          rw [List.getElem?_append_right (Nat.le_refl _), Nat.sub_self] at hj
          cases hj
          rw [g2]
          have en : ln.toNat = nL := by rw [hnL]; simp
          rw [en] at hz
          exact hz
    · rintro σ H' ⟨sm, ⟨u8, u9, u10, u11, rfl⟩, zs, g1, g2, g3⟩
      refine ⟨_, rfl, q l zs H' sm hl g1 (by omega) ?_ fun z hz => ?_⟩
      · rw [List.nodup_iff_pairwise_ne, List.pairwise_iff_getElem]
        intro i j hi hj hij e
        have h1 := g3 i zs[i] (List.getElem?_eq_getElem hi)
        have h2 := g3 j zs[j] (List.getElem?_eq_getElem hj)
        rw [e, h2] at h1
        have := nmC_inj a0 (by omega) h1
        omega
      · obtain ⟨j, hj⟩ := List.getElem?_of_mem hz
        have := congrArg List.length (g3 j z hj)
        rw [nmC_len] at this
        have zl : z.length = nL := by
          show z.cps.size = nL
          rw [← Array.length_toList]
          exact this
        omega
end
end My

/-! OWN EXCEPTIONS WITHOUT AN __init__ OF THEIR OWN (own work). -/
namespace L2
open PySem PySem.Spec PyProof.Rows Builtin Builtin.ObjectAttr
section
variable {prog : Program} {w : World} {A : Around} {E : Value → Shared → Prop} {h : Heap} {g : Array GenState} {d : Drawn} {t : Nat} {os : OsState}
variable {nm q : Str} {C N : Addr} {bs bm : List Value} {sn : List Str} {sub : List Value} {ab : Bool} {col : Option Bool} {dd : Option Addr} {k0 k1 k2 k3 k5 : Option Value}
end
section
variable {X : Cx} {C : Addr} {x : Str} {p pos : Pos} {e : Expr} {es : List Expr} {t : TA}
end
end L2

/-! isinstance OF EXCEPTIONS, except OF A CLASS ABOVE (own work). -/
namespace L2
open PySem PySem.Spec PyProof.Rows Builtin Builtin.ObjectAttr
section
variable {prog : Program} {w : World} {A : Around} {E : Value → Shared → Prop} {s : Shared} {K : PySem.W.Frag} {x C : Addr} {ox : Obj} {od : Option Obj}
end
section
variable {X : Cx} {pins : List (Addr × Obj)} {σ : St} {H : Hp} {s : Shared} {a C : Addr} {od : Option Addr}
end
/-! ### except of a class above -/
section
variable {M : Model} {A : Around} {E : Value → Shared → Prop} {h : Heap} {g : Array GenState} {d : Drawn} {t : Nat} {os : OsState}
variable {nm q : Str} {C N : Addr} {bs bm : List Value} {sn : List Str} {sub : List Value} {ab : Bool} {col : Option Bool} {dd : Option Addr} {k0 k1 k2 k3 k5 : Option Value}
variable {nm' q' : Str} {D N' : Addr} {bs' bm' : List Value} {sn' : List Str} {sub' : List Value} {ab' : Bool} {col' : Option Bool} {dd' : Option Addr} {j0 j1 j2 j3 j5 : Option Value}
end
section
variable {X : Cx} {body : List Stmt} {cx n : Str} {b₀ : Stmt} {suite : List Stmt} {np hp pos : Pos} {CN : Addr} {i : Nat} {tb : Ends → TS} {tc : Addr → Addr → TS} {ts : Addr → TS}
end
end L2

/-! TRY WITH TWO HANDLERS (own work). -/
namespace L2
open PySem PySem.Spec PyProof.Rows
section
variable {X : Cx} {body : List Stmt} {cx cy n : Str} {b₀ b₁ : Stmt} {suite suite' : List Stmt} {np hp np' hp' pos : Pos} {CN CM Cx : Addr} {i : Nat} {tb : Ends → TS} {tc td : Addr → Addr → TS} {ts : Addr → TS} {pins : List (Addr × Obj)} {σ1 : St} {H1 : Hp} {s : Shared} {x : Addr} {od : Option Addr} {D : Ends} {rest : List ExceptHandler}
end
end L2

/-! VALUES WITHOUT ADDRESSES, WHERE DICTS AND LISTS ARE STILL ONE'S OWN (own work). -/
namespace L2
open PySem PySem.Spec PyProof.Rows
/-- no address -/
def flt : V → Bool
  | .non => true
  | .bl _ => true
  | .int _ => true
  | .str _ => true
  | _ => false
theorem zw_get {zs : List Str} {vs : List V} {i : Nat} : (zs.zipWith (fun z v => ((Sum.inr z : Key), v)) vs)[i]? = match zs[i]?, vs[i]? with | some z, some v => some (.inr z, v) | _, _ => none := by
  rw [List.getElem?_zipWith]
  cases zs[i]? <;> cases vs[i]? <;> rfl
theorem zw_len {zs : List Str} {vs : List V} (h : vs.length = zs.length) : (zs.zipWith (fun z v => ((Sum.inr z : Key), v)) vs).length = zs.length := by
  rw [List.length_zipWith]; omega
theorem zw_mem {zs : List Str} {vs : List V} {k : Key} {v : V} (h : (k, v) ∈ zs.zipWith (fun z v => ((Sum.inr z : Key), v)) vs) : ∃ (i : Nat) (z : Str), zs[i]? = some z ∧ vs[i]? = some v ∧ k = .inr z := by
  obtain ⟨i, hi⟩ := List.getElem?_of_mem h
  rw [zw_get] at hi
  cases h1 : zs[i]? with
  | none => rw [h1] at hi; cases hi
  | some z =>
    cases h2 : vs[i]? with
    | none => rw [h1, h2] at hi; cases hi
    | some u =>
      rw [h1, h2] at hi
      injection hi with hi
      injection hi with e1 e2
      exact ⟨i, z, h1, by rw [h2, e2], e1.symm⟩
/-- the value at a key -/
theorem zw_val {zs : List Str} {vs : List V} (nd : zs.Nodup) {i : Nat} {z : Str} {v : V} (h1 : zs[i]? = some z) (h2 : vs[i]? = some v) : valV (zs.zipWith (fun z v => ((Sum.inr z : Key), v)) vs) (.inr z) = some v := by
  induction zs generalizing vs i with
  | nil => cases h1
  | cons y r ih =>
    cases vs with
    | nil => cases h2
    | cons u us =>
      rw [List.zipWith_cons_cons]
      rw [List.nodup_cons] at nd
      cases i with
      | zero =>
        cases h1
        cases h2
        exact valV_pos rfl
      | succ i =>
        rw [List.getElem?_cons_succ] at h1 h2
        have hne : ¬ (Sum.inr y : Key) = .inr z := fun e => by
          injection e with e
          exact nd.1 (by rw [e]; exact List.mem_of_getElem? h1)
        rw [valV_neg (p := ((Sum.inr y : Key), u)) hne]
        exact ih nd.2 h1 h2
end L2

namespace L2
open PySem PySem.Spec PyProof.Rows
theorem Same.put {H H1 : Hp} {p : Addr} {o : HO} (s : Same H H1) (h : H p = none) : Same H (L2.upd H1 p o) := fun b u e => by
  rw [upd_ne (ne_of_none e h)]
  exact s _ _ e
def cut (H0 H : Hp) : Hp := fun b => match H0 b with | none => H b | some _ => none
theorem cut_sub {H0 H : Hp} : Same (cut H0 H) H := fun b o e => by
  unfold cut at e
  split at e
  · exact e
  · cases e
theorem cut_new {H0 H : Hp} {b : Addr} {o : HO} (e : cut H0 H b = some o) : H0 b = none := by
  unfold cut at e
  split at e
  · assumption
  · cases e
theorem cut_at {H0 H : Hp} {b : Addr} {o : HO} (h0 : H0 b = none) (e : H b = some o) : cut H0 H b = some o := by
  unfold cut
  rw [h0]
  exact e
theorem cut_up {H0 H H' : Hp} (s : Same H H') : Same (cut H0 H) (cut H0 H') := fun b o e => cut_at (cut_new e) (s _ _ (cut_sub _ _ e))
theorem none_of {H0 H1 : Hp} {b : Addr} (s : Same H0 H1) (h : H1 b = none) : H0 b = none := by
  cases e : H0 b with
  | none => rfl
  | some o => rw [s _ _ e] at h; cases h
/-- what comes behind a statement, said once -/
theorem cut_put {H H1 : Hp} {r : Addr} {o : HO} (h : H r = none) : cut H (upd H1 r o) = upd (cut H H1) r o := by
  funext b
  by_cases e : b = r
  · subst e
    rw [upd_same, cut]
    rw [h]
    exact upd_same
  · rw [upd_ne e]
    unfold cut
    split
    · rw [upd_ne e]
    · rfl
theorem cut_upd {H H2 : Hp} {a : Addr} {o o' : HO} (h : H a = some o') : Same (cut H H2) (cut H (upd H2 a o)) := fun b u e => by
  have nb : b ≠ a := fun e2 => by rw [e2, cut] at e; rw [h] at e; cases e
  exact cut_at (cut_new e) (by rw [upd_ne nb]; exact cut_sub _ _ e)
end L2
namespace My
open PySem L2 PyProof.Rows
seal L2.PE L2.PT L2.PW L2.PS L2.PSs L2.PA L2.PI L2.PG L2.PGs L2.OpR L2.CallR L2.IxR L2.SlR L2.MtR L2.PIf L2.PO L2.MtM L2.PC
/-! ### rows, tables, pieces: contents without addresses -/
abbrev Rw := List (Str × V)
abbrev Pc := List (Str × List Rw)
def rK (row : Rw) : List (Key × V) := row.map fun c => (.inr c.1, c.2)
/-- values without an address, or tuples -/
def RwOk (H : Hp) (row : Rw) : Prop := ((row.map (·.1)).Nodup ∧ row.length ≤ 12) ∧ ∀ c ∈ row, flt c.2 = true ∨ ∃ a xs, c.2 = .ref a ∧ H a = some (.tup xs)
def RowsAt (H : Hp) (l : Addr) (rows : List Rw) : Prop := ∃ rs : List Addr, H l = some (.lst (rs.map V.ref)) ∧ rs.length = rows.length ∧ ∀ (j : Nat) (r : Addr) (row : Rw), rs[j]? = some r → rows[j]? = some row → H r = some (.dK (rK row))
def zK (zs : List Str) (ls : List Addr) : List (Key × V) := zs.zipWith (fun z v => ((Sum.inr z : Key), v)) (ls.map V.ref)
def PcAt (H : Hp) (p : Addr) (pc : Pc) : Prop := ∃ ls : List Addr, H p = some (.dK (zK (pc.map (·.1)) ls)) ∧ ls.length = pc.length ∧ ∀ (j : Nat) (l : Addr) (t : Str × List Rw), ls[j]? = some l → pc[j]? = some t → RowsAt H l t.2
/-- .. its rows apart from one another -/
def RowsD (H : Hp) (l : Addr) (rows : List Rw) : Prop := ∃ rs : List Addr, H l = some (.lst (rs.map V.ref)) ∧ rs.length = rows.length ∧ rs.Nodup ∧ ∀ (j : Nat) (r : Addr) (row : Rw), rs[j]? = some r → rows[j]? = some row → H r = some (.dK (rK row))
def PcD (H : Hp) (p : Addr) (pc : Pc) : Prop := ∃ ls : List Addr, H p = some (.dK (zK (pc.map (·.1)) ls)) ∧ ls.length = pc.length ∧ ∀ (j : Nat) (l : Addr) (t : Str × List Rw), ls[j]? = some l → pc[j]? = some t → RowsD H l t.2
/-- .. and each table's rows its own -/
def RowsO (H : Hp) (ow : Addr → Nat) (j : Nat) (l : Addr) (rows : List Rw) : Prop := ∃ rs : List Addr, H l = some (.lst (rs.map V.ref)) ∧ rs.length = rows.length ∧ rs.Nodup ∧ (∀ (j : Nat) (r : Addr) (row : Rw), rs[j]? = some r → rows[j]? = some row → H r = some (.dK (rK row))) ∧ ∀ r ∈ rs, ow r = j
def PcE (H : Hp) (p : Addr) (pc : Pc) : Prop := ∃ (ls : List Addr) (ow : Addr → Nat), H p = some (.dK (zK (pc.map (·.1)) ls)) ∧ ls.length = pc.length ∧ ∀ (j : Nat) (l : Addr) (t : Str × List Rw), ls[j]? = some l → pc[j]? = some t → RowsO H ow j l t.2
theorem RowsO.same {H H' : Hp} {ow : Addr → Nat} {j : Nat} {l : Addr} {rows : List Rw} (h : RowsO H ow j l rows) (s : Same H H') : RowsO H' ow j l rows := let ⟨rs, a, b, n, c, d⟩ := h; ⟨rs, s _ _ a, b, n, fun j r row x y => s _ _ (c j r row x y), d⟩
theorem PcE.same {H H' : Hp} {p : Addr} {pc : Pc} (h : PcE H p pc) (s : Same H H') : PcE H' p pc := let ⟨ls, ow, a, b, c⟩ := h; ⟨ls, ow, s _ _ a, b, fun j l t x y => (c j l t x y).same s⟩
theorem RowsO.d {H : Hp} {ow : Addr → Nat} {j : Nat} {l : Addr} {rows : List Rw} (h : RowsO H ow j l rows) : RowsD H l rows := let ⟨rs, a, b, n, c, _⟩ := h; ⟨rs, a, b, n, c⟩
theorem PcE.d {H : Hp} {p : Addr} {pc : Pc} (h : PcE H p pc) : PcD H p pc := let ⟨ls, ow, a, b, c⟩ := h; ⟨ls, a, b, fun j l t x y => (c j l t x y).d⟩
theorem RowsD.same {H H' : Hp} {l : Addr} {rows : List Rw} (h : RowsD H l rows) (s : Same H H') : RowsD H' l rows := let ⟨rs, a, b, n, c⟩ := h; ⟨rs, s _ _ a, b, n, fun j r row x y => s _ _ (c j r row x y)⟩
theorem PcD.same {H H' : Hp} {p : Addr} {pc : Pc} (h : PcD H p pc) (s : Same H H') : PcD H' p pc := let ⟨ls, a, b, c⟩ := h; ⟨ls, s _ _ a, b, fun j l t x y => (c j l t x y).same s⟩
theorem RowsD.rows {H : Hp} {l : Addr} {rows : List Rw} (h : RowsD H l rows) : RowsAt H l rows := let ⟨rs, a, b, _, c⟩ := h; ⟨rs, a, b, c⟩
theorem PcD.pc {H : Hp} {p : Addr} {pc : Pc} (h : PcD H p pc) : PcAt H p pc := let ⟨ls, a, b, c⟩ := h; ⟨ls, a, b, fun j l t x y => (c j l t x y).rows⟩
structure PcOk (H : Hp) (pc : Pc) : Prop where
  nd : (pc.map (·.1)).Nodup
  le : pc.length ≤ 8
  rl : ∀ t ∈ pc, t.2.length ≤ 1000
  rw_ : ∀ t ∈ pc, ∀ row ∈ t.2, RwOk H row
theorem RowsAt.same {H H' : Hp} {l : Addr} {rows : List Rw} (h : RowsAt H l rows) (s : Same H H') : RowsAt H' l rows := let ⟨rs, a, b, c⟩ := h; ⟨rs, s _ _ a, b, fun j r row x y => s _ _ (c j r row x y)⟩
theorem PcAt.same {H H' : Hp} {p : Addr} {pc : Pc} (h : PcAt H p pc) (s : Same H H') : PcAt H' p pc := let ⟨ls, a, b, c⟩ := h; ⟨ls, s _ _ a, b, fun j l t x y => (c j l t x y).same s⟩
theorem rK_flat {H : Hp} {row : Rw} (ok : RwOk H row) {k : Key} {a : Addr} (ha : ∀ xs, H a ≠ some (.tup xs)) : (k, V.ref a) ∉ rK row := fun h => by
  obtain ⟨c, hc, e⟩ := List.mem_map.mp h
  injection e with _ e2
  rcases ok.2 c hc with h | ⟨b, xs, h1, h2⟩
  · rw [e2] at h
    cases h
  · rw [e2] at h1
    injection h1 with h1
    exact ha xs (h1 ▸ h2)
theorem zK_mem {zs : List Str} {ls : List Addr} {j : Nat} {z : Str} {l : Addr} (h1 : zs[j]? = some z) (h2 : ls[j]? = some l) : ((.inr z : Key), V.ref l) ∈ zK zs ls := by
  refine List.mem_of_getElem? (i := j) ?_
  unfold zK
  rw [zw_get, h1, List.getElem?_map, h2]
  rfl
theorem zK_get {zs : List Str} {ls : List Addr} {j : Nat} {k : Key} {v : V} (h : (zK zs ls)[j]? = some (k, v)) : ∃ z l, zs[j]? = some z ∧ ls[j]? = some l ∧ k = .inr z ∧ v = .ref l := by
  unfold zK at h
  rw [zw_get, List.getElem?_map] at h
  cases h1 : zs[j]? with
  | none => rw [h1] at h; cases h
  | some z =>
    cases h2 : ls[j]? with
    | none => rw [h1, h2] at h; cases h
    | some l =>
      rw [h1, h2] at h
      cases h
      exact ⟨z, l, rfl, rfl, rfl, rfl⟩
theorem zK_len {zs : List Str} {ls : List Addr} (h : ls.length = zs.length) : (zK zs ls).length = zs.length := by
  unfold zK
  exact zw_len (by rw [List.length_map]; exact h)
theorem zK_snoc {zs : List Str} {ls : List Addr} {z : Str} {l : Addr} (h : ls.length = zs.length) : zK (zs ++ [z]) (ls ++ [l]) = zK zs ls ++ [(.inr z, .ref l)] := by
  unfold zK
  rw [List.map_append, List.zipWith_append (by rw [List.length_map]; exact h.symm)]
  rfl
theorem zK_new {zs : List Str} {ls : List Addr} {z : Str} (h : z ∉ zs) : valV (zK zs ls) (.inr z) = none := by
  unfold valV
  rw [List.find?_eq_none.mpr fun x hx => ?_]
  · rfl
  · obtain ⟨k, v⟩ := x
    obtain ⟨i, y, h1, h2, e⟩ := zw_mem hx
    intro hd
    have e2 := of_decide_eq_true hd
    rw [e] at e2
    injection e2 with e2
    exact h (by rw [← e2]; exact List.mem_of_getElem? h1)
/-- the piece's dict is none of its lists and rows -/
theorem PcAt.apart {H : Hp} {p : Addr} {pc : Pc} (ok : PcOk H pc) {ls : List Addr} (hp : H p = some (.dK (zK (pc.map (·.1)) ls))) (hl : ls.length = pc.length) {j : Nat} {l : Addr} {t : Str × List Rw} (h1 : ls[j]? = some l) (h2 : pc[j]? = some t) (hr : RowsAt H l t.2) :
    l ≠ p ∧ ∀ (r : Addr) (row : Rw), row ∈ t.2 → H r = some (.dK (rK row)) → r ≠ p := by
  obtain ⟨rs, a1, _⟩ := hr
  refine ⟨(fun e => by rw [e, hp] at a1; cases a1), fun r row hrow hrr e => ?_⟩
  rw [e, hp] at hrr
  injection hrr with e1
  injection e1 with e2
  have hm : ((.inr t.1 : Key), V.ref l) ∈ zK (pc.map (·.1)) ls := zK_mem (j := j) (by rw [List.getElem?_map, h2]; rfl) h1
  rw [e2] at hm
  exact rK_flat (ok.rw_ t (List.mem_of_getElem? h2) row hrow) (fun xs h => by rw [a1] at h; cases h) hm
def spCopied : Sp := fun vs H Q _ => ∃ (p : Addr) (pc : Pc), vs = [.ref p] ∧ PcAt H p pc ∧ PcOk H pc ∧ ∀ p' H', Same H H' → PcE (cut H H') p' pc → Q (.ref p') H'
section
variable {P : Program} {w : World} {K : PySem.W.Frag} {mg : Str → Option Value} {base : Heap}
theorem ok_copied {f : Addr} {fd : FuncData} (F : Fun K "copied" "copied" (top 2) f fd) (B : Bl mg) : FnOk P w K mg base CX0 1 f fd ["piece"] spCopied := by
  have sc : FnScope ["piece", "fresh", "table", "rows"] ["piece"] (defScope (top 2)) := ⟨rfl, rfl, rfl, by decide +kernel, rfl, by decide +kernel, by decide +kernel⟩
  refine F.ok sc (fun vs H Q E h => ?_) (fun cdv A outer s H vs Q E hr h => ?_)
  · obtain ⟨p, pc, rfl, _⟩ := h
    rfl
  · obtain ⟨p, pc, rfl, hpc, ok, q⟩ := h
    have hu : (A.deeper (envOfC "copied" (defScope (top 2)) s.heap.objs.size f cdv)).units + 1 < cLine := hu_of hr
    refine ⟨_, pss_cons (ps_set (i := 1) sc.nd rfl (Or.inl rfl) pe_dnewK) (pss_cons (ps_frz (ps_for PassesOwn.never rfl (pi_items (pv 0)) (pg_tup rfl (pgs_cons (pg_name (i := 2) sc.nd rfl (Or.inl rfl)) (pgs_cons (pg_name (i := 3) sc.nd rfl (Or.inl rfl)) pgs_nil)))
        (pss_one (ps_dput hu (pv 1) (pv 2) (pe_comp (osc := defScope (top 2)) (N0 := ["piece", "fresh", "table", "rows"]) (xs := ["row"]) (fr := []) ⟨rfl, by decide +kernel, by decide +kernel, by decide +kernel, by decide, by decide +kernel⟩ rfl rfl rfl (pi_list (pv 3))
          (fun s H fp => pg_name (i := 0) (show (["row"] : List Str).Nodup by decide +kernel) rfl (Or.inl rfl)) (fun s H fp => pif_nil) (fun s H fp => pe_callTy call_dict_of (by rfl) B.dict boot_dict (pa_cons (pv 0) pa_nil))) rfl)))) (pss_one (ps_ret (pv 1)))), ?_⟩
    obtain ⟨ls, hp, hll, hls⟩ := hpc
    refine fun fr hfr => ⟨p, _, (Same.upd hfr) _ _ hp, fun o => ?_⟩
    have np : p ≠ fr := fun e => by rw [← e, hp] at hfr; cases hfr
    have S0 : Same H (upd H fr (.dK [])) := Same.upd hfr
    have d0 : (upd H fr (.dK [])) fr = some (.dK []) := upd_same
    generalize upd H fr (.dK []) = H1 at *
    have hfa : (upd H1 p (.frz o (.dK (zK (pc.map (·.1)) ls)))) p = some (.frz o (.dK (zK (pc.map (·.1)) ls))) := upd_same
    have hb0 : Same H (upd (upd H1 p (.frz o (.dK (zK (pc.map (·.1)) ls)))) p (.dK (zK (pc.map (·.1)) ls))) := S0.trans (back_same (S0 _ _ hp) (Same.refl _))
    have d1 : (upd H1 p (.frz o (.dK (zK (pc.map (·.1)) ls)))) fr = some (.dK []) := by rw [upd_ne np.symm]; exact d0
    generalize upd H1 p (.frz o (.dK (zK (pc.map (·.1)) ls))) = H2 at *
    have kl : (zK (pc.map (·.1)) ls).length = pc.length := by rw [zK_len (by rw [List.length_map]; exact hll), List.length_map]
    refine ⟨_, rfl, p, o, _, rfl, hfa, for_items (a := p) (o := o) (kvs := zK (pc.map (·.1)) ls) (fun i σ H3 => H3 p = some (.frz o (.dK (zK (pc.map (·.1)) ls))) ∧ Same H (upd H3 p (.dK (zK (pc.map (·.1)) ls))) ∧ ∃ u2 u3, σ = [some (.ref p), some (.ref fr), u2, u3] ∧ PcE (cut H H3) fr (pc.take i))
      ⟨hfa, hb0, _, _, rfl, [], (fun _ => 0), cut_at hfr d1, rfl, fun j l t h => nomatch h⟩ (fun i σ H3 _ p => p.1) ?_ ?_⟩
    · rintro i k v p1 σ H3 hk ⟨h3p, sm, u2, u3, rfl, ls', ow, f1, f2, f3⟩ hp1
      have hi : i < pc.length := by
        have := (List.getElem?_eq_some_iff.mp hk).1
        omega
      obtain ⟨z, l, hz, hl, rfl, rfl⟩ := zK_get hk
      have hil : i < ls.length := by omega
      rw [List.getElem?_map, List.getElem?_eq_getElem hi] at hz
      cases hz
      rw [List.getElem?_eq_getElem hil] at hl
      cases hl
      have hR := hls i ls[i] pc[i] (List.getElem?_eq_getElem hil) (List.getElem?_eq_getElem hi)
      obtain ⟨nl, nr⟩ := PcAt.apart ok hp hll (List.getElem?_eq_getElem hil) (List.getElem?_eq_getElem hi) hR
      obtain ⟨rs, a1, a2, a3⟩ := id hR
      have okt := ok.rl pc[i] (List.getElem_mem hi)
      have T1 := Same.upd (o := .tup [kV (.inr pc[i].1), .ref ls[i]]) hp1
      refine ⟨p1, _, rfl, SqT.of upd_same, rfl, _, _, rfl, _, _, rfl, rfl, ?_⟩
      generalize upd H3 p1 (.tup [kV (.inr pc[i].1), .ref ls[i]]) = H4 at T1
      have back : ∀ {b : Addr} {ob : HO}, b ≠ p → H b = some ob → H4 b = some ob := fun {b ob} nb e => by
        have := sm b ob e
        rw [upd_ne nb] at this
        exact T1 _ _ this
      have l4 := back nl a1
      refine ⟨_, rfl, ls[i], rfl, ⟨_, SqL.of l4⟩, fun D hD => ?_⟩
      have nH : ∀ {b : Addr}, H4 b = none → H b = none := fun {b} e => by
        by_cases nb : b = p
        · rw [nb, T1 _ _ h3p] at e; cases e
        · cases e2 : H b with
          | none => rfl
          | some ob => rw [back nb e2] at e; cases e
      refine compW_idx rs.length (fun i' ys σ' Hc => (∃ t, σ' = [t]) ∧ Same H4 Hc ∧ ∃ qs : List Addr, ys = qs.map V.ref ∧ qs.Nodup ∧ ∀ (j : Nat) (r : Addr) (row : Rw), qs[j]? = some r → pc[i].2[j]? = some row → (H r = none ∧ H4 r = none) ∧ r ≠ D ∧ r ≠ fr ∧ Hc r = some (.dK (rK row))) (by rw [sizeLine_eq]; omega) ⟨⟨none, rfl⟩, Same.upd hD, [], rfl, List.nodup_nil, fun j r row h => nomatch h⟩ upd_same ?_ ?_
      · rintro i' σ' Hc ys hi' ⟨⟨u, rfl⟩, sc', qs, rfl, qnd, hqs⟩ hyl hD'
        rw [List.length_map] at hyl
        have hrow : i' < pc[i].2.length := by omega
        refine ⟨⟨_, V.ref rs[i'], SqL.of (sc' _ _ l4), by rw [List.getElem?_map, List.getElem?_eq_getElem hi']; rfl⟩, ?_⟩
        rintro x H' ⟨rfl, hx'⟩
        have ex := hx' _ (SqL.of (sc' _ _ l4))
        rw [List.getElem?_map, List.getElem?_eq_getElem hi'] at ex
        cases ex
        have r0 := a3 i' rs[i'] pc[i].2[i'] (List.getElem?_eq_getElem hi') (List.getElem?_eq_getElem hrow)
        have r4 := back (nr _ _ (List.getElem_mem hrow) r0) r0
        refine ⟨_, rfl, rs[i'], _, rfl, .inl (sc' _ _ r4), fun r' hr' => ?_⟩
        have T2 := Same.upd (o := .dK (rK pc[i].2[i'])) hr'
        have rD : r' ≠ D := fun e => by rw [e, hD'] at hr'; cases hr'
        refine ⟨T2 _ _ hD', ⟨_, rfl⟩, (sc'.trans T2).put hD, qs ++ [r'], by rw [List.map_append]; rfl, (by
          rw [List.nodup_append]
          refine ⟨qnd, List.nodup_cons.mpr ⟨List.not_mem_nil, List.nodup_nil⟩, fun x hx y hy e => ?_⟩
          rw [List.mem_singleton.mp hy] at e
          obtain ⟨j, hj⟩ := List.getElem?_of_mem hx
          have hjl : j < pc[i].2.length := by have := (List.getElem?_eq_some_iff.mp hj).1; omega
          have := (hqs j x _ hj (List.getElem?_eq_getElem hjl)).2.2.2
          rw [e, hr'] at this
          cases this), fun j r row h1 h2 => ?_⟩
        by_cases hj : j < qs.length
        · rw [List.getElem?_append_left hj] at h1
          obtain ⟨e1, e2, e4, e3⟩ := hqs j r row h1 h2
          exact ⟨e1, e2, e4, by rw [upd_ne e2]; exact T2 _ _ e3⟩
        · have hj' : j = qs.length := by
            have := (List.getElem?_eq_some_iff.mp h1).1
            rw [List.length_append] at this
            simp at this
            omega
          subst hj'
          rw [List.getElem?_append_right (Nat.le_refl _), Nat.sub_self] at h1
          cases h1
          rw [hyl, List.getElem?_eq_getElem hrow] at h2
          cases h2
          exact ⟨⟨nH (none_of sc' hr'), none_of sc' hr'⟩, rD, (fun e => by rw [e, (T1.trans sc') _ _ (cut_sub _ _ f1)] at hr'; cases hr'), by rw [upd_ne rD]; exact upd_same⟩
      · rintro σ' Hc ys ⟨_, sc', qs, rfl, qnd, hqs⟩ hDn hyl
        rw [List.length_map] at hyl
        have f1c := (T1.trans sc') _ _ (cut_sub _ _ f1)
        have lt' : ls'.length = i := by rw [f2, List.length_take]; omega
        refine ⟨⟨_, SqL.of (sc' _ _ l4), by rw [List.length_map]; exact Nat.le_refl _⟩, _, rfl, _, rfl, fr, _, rfl, .inl ⟨_, .inr pc[i].1, f1c, rfl, (by rw [zK_len (by rw [List.length_map]; exact f2), List.length_map, List.length_take, sizeLine_eq]; have := ok.le; omega), rfl⟩, ?_⟩
        have hnew : pc[i].1 ∉ (pc.take i).map (·.1) := fun hm => by
          have nd := ok.nd
          have e : pc.map (·.1) = (pc.take i).map (·.1) ++ (pc.drop i).map (·.1) := by rw [← List.map_append, List.take_append_drop]
          rw [e, List.nodup_append] at nd
          refine nd.2.2 _ hm pc[i].1 ?_ rfl
          rw [List.drop_eq_getElem_cons hi, List.map_cons]
          exact List.mem_cons_self
        rw [putK_new _ (zK_new hnew), ← zK_snoc (by rw [List.length_map]; exact f2)]
        have nDf : D ≠ fr := fun e => by rw [e, T1 _ _ (cut_sub _ _ f1)] at hD; cases hD
        refine ⟨by rw [upd_ne np]; exact (T1.trans sc') _ _ h3p, fun b ob hb => ?_, _, _, rfl, ls' ++ [D], (fun b => if b ∈ qs then i else ow b), cut_at hfr ?_, ?_, fun j l t h1 h2 => ?_⟩
        · by_cases e : b = p
          · subst e
            rw [upd_same]
            rw [hp] at hb
            exact hb
          · rw [upd_ne e, upd_ne (ne_of_none hb hfr)]
            exact sc' _ _ (back e hb)
        · rw [upd_same, List.take_succ, List.getElem?_eq_getElem hi, List.map_append]
          rfl
        · rw [List.length_append, lt', List.length_take]
          show i + 1 = _
          omega
        · by_cases hj : j < i
          · rw [List.getElem?_append_left (by omega)] at h1
            have h2' : (pc.take i)[j]? = some t := by
              rw [List.getElem?_take] at h2 ⊢
              rw [if_pos (by omega)] at h2 ⊢
              exact h2
            obtain ⟨qs', b1, b2, bn, b3, bo⟩ := f3 j l t h1 h2'
            have g := cut_up (H0 := H) (T1.trans sc')
            have nlf : l ≠ fr := fun e => by rw [e, f1] at b1; cases b1
            refine ⟨qs', ?_, b2, bn, fun j' r row c1 c2 => ?_, fun r hr => ?_⟩
            · rw [cut_put hfr, upd_ne nlf]
              exact g _ _ b1
            · have b4 := b3 j' r row c1 c2
              have htp : t ∈ pc := by
                rw [List.getElem?_take, if_pos hj] at h2'
                exact List.mem_of_getElem? h2'
              have nrf : r ≠ fr := fun e => by
                rw [e, f1] at b4
                injection b4 with e1
                injection e1 with e2
                have hm : ((.inr t.1 : Key), V.ref l) ∈ zK ((pc.take i).map (·.1)) ls' := zK_mem (j := j) (by rw [List.getElem?_map, h2']; rfl) h1
                rw [e2] at hm
                exact rK_flat (ok.rw_ t htp row (List.mem_of_getElem? c2)) (fun xs h => by rw [cut_new b1] at h; cases h) hm
              rw [cut_put hfr, upd_ne nrf]
              exact g _ _ b4
            · have nq : r ∉ qs := fun hq => by
                obtain ⟨n1, hn1⟩ := List.getElem?_of_mem hq
                have hl1 : n1 < pc[i].2.length := by have := (List.getElem?_eq_some_iff.mp hn1).1; omega
                have z1 := (hqs n1 r _ hn1 (List.getElem?_eq_getElem hl1)).1.2
                obtain ⟨n2, hn2⟩ := List.getElem?_of_mem hr
                have hl2 : n2 < t.2.length := by have := (List.getElem?_eq_some_iff.mp hn2).1; omega
                have z2 := T1 _ _ (cut_sub _ _ (b3 n2 r _ hn2 (List.getElem?_eq_getElem hl2)))
                rw [z1] at z2
                cases z2
              show (if r ∈ qs then i else ow r) = j
              rw [if_neg nq]
              exact bo r hr
          · have hj' : j = i := by
              have := (List.getElem?_eq_some_iff.mp h1).1
              rw [List.length_append, lt'] at this
              simp at this
              omega
            subst hj'
            rw [List.getElem?_append_right (by omega), lt', Nat.sub_self] at h1
            cases h1
            rw [List.getElem?_take, if_pos (by omega), List.getElem?_eq_getElem hi] at h2
            cases h2
            refine ⟨qs, cut_at (nH hD) (by rw [upd_ne nDf]; exact hDn), by omega, qnd, (fun j' r row c1 c2 => ?_), fun r hr => if_pos hr⟩
            obtain ⟨e1, e2, nrf, e3⟩ := hqs j' r row c1 c2
            exact cut_at e1.1 (by rw [upd_ne nrf]; exact e3)
    · rintro σ H3 ⟨h3p, sm, u2, u3, rfl, hfin⟩
      rw [kl, List.take_length] at hfin
      exact ⟨h3p, _, rfl, q fr _ sm (hfin.same (cut_upd hp))⟩
theorem ok_copy {f : Addr} {fd : FuncData} (F : Fun K "_law_copy" "_law_copy" (top 30) f fd) (B : Bl mg) : FnOk P w K mg base CX0 1 f fd ["_law_piece_here"] spCopied := by
  have sc : FnScope ["_law_piece_here", "_law_made", "_law_name", "_law_rows"] ["_law_piece_here"] (defScope (top 30)) := ⟨rfl, rfl, rfl, by decide +kernel, rfl, by decide +kernel, by decide +kernel⟩
  refine F.ok sc (fun vs H Q E h => ?_) (fun cdv A outer s H vs Q E hr h => ?_)
  · obtain ⟨p, pc, rfl, _⟩ := h
    rfl
  · obtain ⟨p, pc, rfl, hpc, ok, q⟩ := h
    have hu : (A.deeper (envOfC "_law_copy" (defScope (top 30)) s.heap.objs.size f cdv)).units + 1 < cLine := hu_of hr
    refine ⟨_, pss_cons (ps_set (i := 1) sc.nd rfl (Or.inl rfl) pe_dnewK) (pss_cons (ps_frz (ps_for PassesOwn.never rfl (pi_items (pv 0)) (pg_tup rfl (pgs_cons (pg_name (i := 2) sc.nd rfl (Or.inl rfl)) (pgs_cons (pg_name (i := 3) sc.nd rfl (Or.inl rfl)) pgs_nil)))
        (pss_one (ps_dput hu (pv 1) (pv 2) (pe_comp (osc := defScope (top 30)) (N0 := ["_law_piece_here", "_law_made", "_law_name", "_law_rows"]) (xs := ["_law_row_here"]) (fr := []) ⟨rfl, by decide +kernel, by decide +kernel, by decide +kernel, by decide, by decide +kernel⟩ rfl rfl rfl (pi_list (pv 3))
          (fun s H fp => pg_name (i := 0) (show (["_law_row_here"] : List Str).Nodup by decide +kernel) rfl (Or.inl rfl)) (fun s H fp => pif_nil) (fun s H fp => pe_callTy call_dict_of (by rfl) B.dict boot_dict (pa_cons (pv 0) pa_nil))) rfl)))) (pss_one (ps_ret (pv 1)))), ?_⟩
    obtain ⟨ls, hp, hll, hls⟩ := hpc
    refine fun fr hfr => ⟨p, _, (Same.upd hfr) _ _ hp, fun o => ?_⟩
    have np : p ≠ fr := fun e => by rw [← e, hp] at hfr; cases hfr
    have S0 : Same H (upd H fr (.dK [])) := Same.upd hfr
    have d0 : (upd H fr (.dK [])) fr = some (.dK []) := upd_same
    generalize upd H fr (.dK []) = H1 at *
    have hfa : (upd H1 p (.frz o (.dK (zK (pc.map (·.1)) ls)))) p = some (.frz o (.dK (zK (pc.map (·.1)) ls))) := upd_same
    have hb0 : Same H (upd (upd H1 p (.frz o (.dK (zK (pc.map (·.1)) ls)))) p (.dK (zK (pc.map (·.1)) ls))) := S0.trans (back_same (S0 _ _ hp) (Same.refl _))
    have d1 : (upd H1 p (.frz o (.dK (zK (pc.map (·.1)) ls)))) fr = some (.dK []) := by rw [upd_ne np.symm]; exact d0
    generalize upd H1 p (.frz o (.dK (zK (pc.map (·.1)) ls))) = H2 at *
    have kl : (zK (pc.map (·.1)) ls).length = pc.length := by rw [zK_len (by rw [List.length_map]; exact hll), List.length_map]
    refine ⟨_, rfl, p, o, _, rfl, hfa, for_items (a := p) (o := o) (kvs := zK (pc.map (·.1)) ls) (fun i σ H3 => H3 p = some (.frz o (.dK (zK (pc.map (·.1)) ls))) ∧ Same H (upd H3 p (.dK (zK (pc.map (·.1)) ls))) ∧ ∃ u2 u3, σ = [some (.ref p), some (.ref fr), u2, u3] ∧ PcE (cut H H3) fr (pc.take i))
      ⟨hfa, hb0, _, _, rfl, [], (fun _ => 0), cut_at hfr d1, rfl, fun j l t h => nomatch h⟩ (fun i σ H3 _ p => p.1) ?_ ?_⟩
    · rintro i k v p1 σ H3 hk ⟨h3p, sm, u2, u3, rfl, ls', ow, f1, f2, f3⟩ hp1
      have hi : i < pc.length := by
        have := (List.getElem?_eq_some_iff.mp hk).1
        omega
      obtain ⟨z, l, hz, hl, rfl, rfl⟩ := zK_get hk
      have hil : i < ls.length := by omega
      rw [List.getElem?_map, List.getElem?_eq_getElem hi] at hz
      cases hz
      rw [List.getElem?_eq_getElem hil] at hl
      cases hl
      have hR := hls i ls[i] pc[i] (List.getElem?_eq_getElem hil) (List.getElem?_eq_getElem hi)
      obtain ⟨nl, nr⟩ := PcAt.apart ok hp hll (List.getElem?_eq_getElem hil) (List.getElem?_eq_getElem hi) hR
      obtain ⟨rs, a1, a2, a3⟩ := id hR
      have okt := ok.rl pc[i] (List.getElem_mem hi)
      have T1 := Same.upd (o := .tup [kV (.inr pc[i].1), .ref ls[i]]) hp1
      refine ⟨p1, _, rfl, SqT.of upd_same, rfl, _, _, rfl, _, _, rfl, rfl, ?_⟩
      generalize upd H3 p1 (.tup [kV (.inr pc[i].1), .ref ls[i]]) = H4 at T1
      have back : ∀ {b : Addr} {ob : HO}, b ≠ p → H b = some ob → H4 b = some ob := fun {b ob} nb e => by
        have := sm b ob e
        rw [upd_ne nb] at this
        exact T1 _ _ this
      have l4 := back nl a1
      refine ⟨_, rfl, ls[i], rfl, ⟨_, SqL.of l4⟩, fun D hD => ?_⟩
      have nH : ∀ {b : Addr}, H4 b = none → H b = none := fun {b} e => by
        by_cases nb : b = p
        · rw [nb, T1 _ _ h3p] at e; cases e
        · cases e2 : H b with
          | none => rfl
          | some ob => rw [back nb e2] at e; cases e
      refine compW_idx rs.length (fun i' ys σ' Hc => (∃ t, σ' = [t]) ∧ Same H4 Hc ∧ ∃ qs : List Addr, ys = qs.map V.ref ∧ qs.Nodup ∧ ∀ (j : Nat) (r : Addr) (row : Rw), qs[j]? = some r → pc[i].2[j]? = some row → (H r = none ∧ H4 r = none) ∧ r ≠ D ∧ r ≠ fr ∧ Hc r = some (.dK (rK row))) (by rw [sizeLine_eq]; omega) ⟨⟨none, rfl⟩, Same.upd hD, [], rfl, List.nodup_nil, fun j r row h => nomatch h⟩ upd_same ?_ ?_
      · rintro i' σ' Hc ys hi' ⟨⟨u, rfl⟩, sc', qs, rfl, qnd, hqs⟩ hyl hD'
        rw [List.length_map] at hyl
        have hrow : i' < pc[i].2.length := by omega
        refine ⟨⟨_, V.ref rs[i'], SqL.of (sc' _ _ l4), by rw [List.getElem?_map, List.getElem?_eq_getElem hi']; rfl⟩, ?_⟩
        rintro x H' ⟨rfl, hx'⟩
        have ex := hx' _ (SqL.of (sc' _ _ l4))
        rw [List.getElem?_map, List.getElem?_eq_getElem hi'] at ex
        cases ex
        have r0 := a3 i' rs[i'] pc[i].2[i'] (List.getElem?_eq_getElem hi') (List.getElem?_eq_getElem hrow)
        have r4 := back (nr _ _ (List.getElem_mem hrow) r0) r0
        refine ⟨_, rfl, rs[i'], _, rfl, .inl (sc' _ _ r4), fun r' hr' => ?_⟩
        have T2 := Same.upd (o := .dK (rK pc[i].2[i'])) hr'
        have rD : r' ≠ D := fun e => by rw [e, hD'] at hr'; cases hr'
        refine ⟨T2 _ _ hD', ⟨_, rfl⟩, (sc'.trans T2).put hD, qs ++ [r'], by rw [List.map_append]; rfl, (by
          rw [List.nodup_append]
          refine ⟨qnd, List.nodup_cons.mpr ⟨List.not_mem_nil, List.nodup_nil⟩, fun x hx y hy e => ?_⟩
          rw [List.mem_singleton.mp hy] at e
          obtain ⟨j, hj⟩ := List.getElem?_of_mem hx
          have hjl : j < pc[i].2.length := by have := (List.getElem?_eq_some_iff.mp hj).1; omega
          have := (hqs j x _ hj (List.getElem?_eq_getElem hjl)).2.2.2
          rw [e, hr'] at this
          cases this), fun j r row h1 h2 => ?_⟩
        by_cases hj : j < qs.length
        · rw [List.getElem?_append_left hj] at h1
          obtain ⟨e1, e2, e4, e3⟩ := hqs j r row h1 h2
          exact ⟨e1, e2, e4, by rw [upd_ne e2]; exact T2 _ _ e3⟩
        · have hj' : j = qs.length := by
            have := (List.getElem?_eq_some_iff.mp h1).1
            rw [List.length_append] at this
            simp at this
            omega
          subst hj'
          rw [List.getElem?_append_right (Nat.le_refl _), Nat.sub_self] at h1
          cases h1
          rw [hyl, List.getElem?_eq_getElem hrow] at h2
          cases h2
          exact ⟨⟨nH (none_of sc' hr'), none_of sc' hr'⟩, rD, (fun e => by rw [e, (T1.trans sc') _ _ (cut_sub _ _ f1)] at hr'; cases hr'), by rw [upd_ne rD]; exact upd_same⟩
      · rintro σ' Hc ys ⟨_, sc', qs, rfl, qnd, hqs⟩ hDn hyl
        rw [List.length_map] at hyl
        have f1c := (T1.trans sc') _ _ (cut_sub _ _ f1)
        have lt' : ls'.length = i := by rw [f2, List.length_take]; omega
        refine ⟨⟨_, SqL.of (sc' _ _ l4), by rw [List.length_map]; exact Nat.le_refl _⟩, _, rfl, _, rfl, fr, _, rfl, .inl ⟨_, .inr pc[i].1, f1c, rfl, (by rw [zK_len (by rw [List.length_map]; exact f2), List.length_map, List.length_take, sizeLine_eq]; have := ok.le; omega), rfl⟩, ?_⟩
        have hnew : pc[i].1 ∉ (pc.take i).map (·.1) := fun hm => by
          have nd := ok.nd
          have e : pc.map (·.1) = (pc.take i).map (·.1) ++ (pc.drop i).map (·.1) := by rw [← List.map_append, List.take_append_drop]
          rw [e, List.nodup_append] at nd
          refine nd.2.2 _ hm pc[i].1 ?_ rfl
          rw [List.drop_eq_getElem_cons hi, List.map_cons]
          exact List.mem_cons_self
        rw [putK_new _ (zK_new hnew), ← zK_snoc (by rw [List.length_map]; exact f2)]
        have nDf : D ≠ fr := fun e => by rw [e, T1 _ _ (cut_sub _ _ f1)] at hD; cases hD
        refine ⟨by rw [upd_ne np]; exact (T1.trans sc') _ _ h3p, fun b ob hb => ?_, _, _, rfl, ls' ++ [D], (fun b => if b ∈ qs then i else ow b), cut_at hfr ?_, ?_, fun j l t h1 h2 => ?_⟩
        · by_cases e : b = p
          · subst e
            rw [upd_same]
            rw [hp] at hb
            exact hb
          · rw [upd_ne e, upd_ne (ne_of_none hb hfr)]
            exact sc' _ _ (back e hb)
        · rw [upd_same, List.take_succ, List.getElem?_eq_getElem hi, List.map_append]
          rfl
        · rw [List.length_append, lt', List.length_take]
          show i + 1 = _
          omega
        · by_cases hj : j < i
          · rw [List.getElem?_append_left (by omega)] at h1
            have h2' : (pc.take i)[j]? = some t := by
              rw [List.getElem?_take] at h2 ⊢
              rw [if_pos (by omega)] at h2 ⊢
              exact h2
            obtain ⟨qs', b1, b2, bn, b3, bo⟩ := f3 j l t h1 h2'
            have g := cut_up (H0 := H) (T1.trans sc')
            have nlf : l ≠ fr := fun e => by rw [e, f1] at b1; cases b1
            refine ⟨qs', ?_, b2, bn, fun j' r row c1 c2 => ?_, fun r hr => ?_⟩
            · rw [cut_put hfr, upd_ne nlf]
              exact g _ _ b1
            · have b4 := b3 j' r row c1 c2
              have htp : t ∈ pc := by
                rw [List.getElem?_take, if_pos hj] at h2'
                exact List.mem_of_getElem? h2'
              have nrf : r ≠ fr := fun e => by
                rw [e, f1] at b4
                injection b4 with e1
                injection e1 with e2
                have hm : ((.inr t.1 : Key), V.ref l) ∈ zK ((pc.take i).map (·.1)) ls' := zK_mem (j := j) (by rw [List.getElem?_map, h2']; rfl) h1
                rw [e2] at hm
                exact rK_flat (ok.rw_ t htp row (List.mem_of_getElem? c2)) (fun xs h => by rw [cut_new b1] at h; cases h) hm
              rw [cut_put hfr, upd_ne nrf]
              exact g _ _ b4
            · have nq : r ∉ qs := fun hq => by
                obtain ⟨n1, hn1⟩ := List.getElem?_of_mem hq
                have hl1 : n1 < pc[i].2.length := by have := (List.getElem?_eq_some_iff.mp hn1).1; omega
                have z1 := (hqs n1 r _ hn1 (List.getElem?_eq_getElem hl1)).1.2
                obtain ⟨n2, hn2⟩ := List.getElem?_of_mem hr
                have hl2 : n2 < t.2.length := by have := (List.getElem?_eq_some_iff.mp hn2).1; omega
                have z2 := T1 _ _ (cut_sub _ _ (b3 n2 r _ hn2 (List.getElem?_eq_getElem hl2)))
                rw [z1] at z2
                cases z2
              show (if r ∈ qs then i else ow r) = j
              rw [if_neg nq]
              exact bo r hr
          · have hj' : j = i := by
              have := (List.getElem?_eq_some_iff.mp h1).1
              rw [List.length_append, lt'] at this
              simp at this
              omega
            subst hj'
            rw [List.getElem?_append_right (by omega), lt', Nat.sub_self] at h1
            cases h1
            rw [List.getElem?_take, if_pos (by omega), List.getElem?_eq_getElem hi] at h2
            cases h2
            refine ⟨qs, cut_at (nH hD) (by rw [upd_ne nDf]; exact hDn), by omega, qnd, (fun j' r row c1 c2 => ?_), fun r hr => if_pos hr⟩
            obtain ⟨e1, e2, nrf, e3⟩ := hqs j' r row c1 c2
            exact cut_at e1.1 (by rw [upd_ne nrf]; exact e3)
    · rintro σ H3 ⟨h3p, sm, u2, u3, rfl, hfin⟩
      rw [kl, List.take_length] at hfin
      exact ⟨h3p, _, rfl, q fr _ sm (hfin.same (cut_upd hp))⟩
end
end My

namespace My
open PySem L2 PyProof.Rows
seal L2.PE L2.PT L2.PW L2.PS L2.PSs L2.PA L2.PI L2.PG L2.PGs L2.OpR L2.CallR L2.IxR L2.SlR L2.MtR L2.PIf L2.PO L2.MtM L2.PC
/-! ### alike all the way down -/
def RwF (H : Hp) (row : Rw) : Prop := ∀ c ∈ row, flt c.2 = true ∨ ∃ a xs, c.2 = .ref a ∧ H a = some (.tup xs) ∧ ∀ x ∈ xs, flt x = true
theorem lq_flt {H : Hp} {n : Nat} {v : V} (h : flt v = true) : Lq H n v v := by
  cases v with
  | non => exact .non
  | bl b => exact .bl
  | int i => exact .int
  | str z => exact .str
  | _ => cases h
theorem val_lq {H : Hp} {n : Nat} {v : V} (h : flt v = true ∨ ∃ a xs, v = .ref a ∧ H a = some (.tup xs) ∧ ∀ x ∈ xs, flt x = true) : Lq H (n + 1) v v := by
  rcases h with h | ⟨a, xs, rfl, e, hf⟩
  · exact lq_flt h
  · exact .tup (.inl e) (.inl e) rfl fun i x y h1 h2 => by
      rw [h1] at h2
      cases h2
      exact lq_flt (hf x (List.mem_of_getElem? h1))
theorem rK_val {row : Rw} (nd : (row.map (·.1)).Nodup) {c : Str × V} (hc : c ∈ row) : valV (rK row) (.inr c.1) = some c.2 := by
  induction row with
  | nil => cases hc
  | cons a r ih =>
    rw [List.map_cons, List.nodup_cons] at nd
    unfold rK
    rw [List.map_cons]
    rcases List.mem_cons.mp hc with rfl | hc
    · exact valV_pos rfl
    · rw [valV_neg (p := ((Sum.inr a.1 : Key), a.2)) (fun e => by
        injection e with e
        exact nd.1 (by rw [e]; exact List.mem_map.mpr ⟨c, hc, rfl⟩))]
      exact ih nd.2 hc
theorem row_lq {H : Hp} {n : Nat} {r r' : Addr} {row : Rw} (nd : (row.map (·.1)).Nodup) (ok : RwF H row) (h1 : H r = some (.dK (rK row))) (h2 : H r' = some (.dK (rK row))) : Lq H (n + 2) (.ref r) (.ref r') := by
  have val : ∀ (k : Key) (v : V), (k, v) ∈ rK row → valV (rK row) k = some v ∧ Lq H (n + 1) v v := fun k v h => by
    obtain ⟨c, hc, e⟩ := List.mem_map.mp h
    cases e
    exact ⟨rK_val nd hc, val_lq (ok c hc)⟩
  refine .dct (fun k => (valV (rK row) k).getD .non) (.inl h1) (.inl h2) rfl (fun k v h => ?_) (fun k v h => (val k v h).1) fun k v h => ?_
  · rw [(val k v h).1]
    rfl
  · rw [(val k v h).1]
    exact (val k v h).2
theorem rows_lq {H : Hp} {n : Nat} {l l' : Addr} {rows : List Rw} (nd : ∀ row ∈ rows, (row.map (·.1)).Nodup) (ok : ∀ row ∈ rows, RwF H row) (h1 : RowsAt H l rows) (h2 : RowsAt H l' rows) : Lq H (n + 3) (.ref l) (.ref l') := by
  obtain ⟨rs, a1, b1, c1⟩ := h1
  obtain ⟨rs', a2, b2, c2⟩ := h2
  refine .lst a1 a2 (by rw [List.length_map, List.length_map, b1, b2]) fun i x y e1 e2 => ?_
  rw [List.getElem?_map] at e1 e2
  cases d1 : rs[i]? with
  | none => rw [d1] at e1; cases e1
  | some r =>
    cases d2 : rs'[i]? with
    | none => rw [d2] at e2; cases e2
    | some r' =>
      rw [d1] at e1
      rw [d2] at e2
      cases e1
      cases e2
      have hi : i < rows.length := by rw [← b1]; exact (List.getElem?_eq_some_iff.mp d1).1
      exact row_lq (nd _ (List.getElem_mem hi)) (ok _ (List.getElem_mem hi)) (c1 i r _ d1 (List.getElem?_eq_getElem hi)) (c2 i r' _ d2 (List.getElem?_eq_getElem hi))
theorem pc_lq {H : Hp} {n : Nat} {p p' : Addr} {pc : Pc} (ndp : (pc.map (·.1)).Nodup) (nd : ∀ t ∈ pc, ∀ row ∈ t.2, (row.map (·.1)).Nodup) (ok : ∀ t ∈ pc, ∀ row ∈ t.2, RwF H row) (h1 : PcAt H p pc) (h2 : PcAt H p' pc) : Lq H (n + 4) (.ref p) (.ref p') := by
  obtain ⟨ls, a1, b1, c1⟩ := h1
  obtain ⟨ls', a2, b2, c2⟩ := h2
  have val : ∀ (k : Key) (v : V), (k, v) ∈ zK (pc.map (·.1)) ls' → ∃ v', valV (zK (pc.map (·.1)) ls) k = some v' ∧ valV (zK (pc.map (·.1)) ls') k = some v ∧ Lq H (n + 3) v' v := fun k v h => by
    obtain ⟨i, hi⟩ := List.getElem?_of_mem h
    obtain ⟨z, l, hz, hl, rfl, rfl⟩ := zK_get hi
    have hil : i < pc.length := by rw [← b2]; exact (List.getElem?_eq_some_iff.mp hl).1
    have hil' : i < ls.length := by omega
    exact ⟨.ref ls[i], zw_val ndp hz (by rw [List.getElem?_map, List.getElem?_eq_getElem hil']; rfl), zw_val ndp hz (by rw [List.getElem?_map, hl]; rfl), rows_lq (nd _ (List.getElem_mem hil)) (ok _ (List.getElem_mem hil)) (c1 i _ pc[i] (List.getElem?_eq_getElem hil') (List.getElem?_eq_getElem hil)) (c2 i l pc[i] hl (List.getElem?_eq_getElem hil))⟩
  refine .dct (fun k => (valV (zK (pc.map (·.1)) ls) k).getD .non) (.inl a1) (.inl a2) ?_ (fun k v h => ?_) (fun k v h => ?_) fun k v h => ?_
  · rw [zK_len (by rw [List.length_map]; exact b1), zK_len (by rw [List.length_map]; exact b2)]
  · obtain ⟨v', e1, _⟩ := val k v h
    rw [e1]
    rfl
  · exact (val k v h).choose_spec.2.1
  · obtain ⟨v', e1, _, e3⟩ := val k v h
    rw [e1]
    exact e3
def spPair (n : Nat) : Sp := fun vs H Q _ => ∃ (t : Addr) (x y p r : V), vs = [.ref t, p, r] ∧ H t = some (.tup [x, y]) ∧ Lq H n x p ∧ Lq H n y r ∧ ∀ H', Same H H' → Q (.bl true) H'
section
variable {P : Program} {w : World} {K : PySem.W.Frag} {mg : Str → Option Value} {base : Heap}
theorem ok_pair {f fS : Addr} {fd fdS : FuncData} (F : Fun K "_law_pair" "_law_pair" (top 31) f fd) (B : Bl mg) (D : Df K mg "_law_same" (top 15) fS fdS) (n : Nat) (GS : FnOk P w K mg base CX0 (2 * n + 1) fS fdS ["_law_found", "_law_due"] (spSm n)) : FnOk P w K mg base CX0 (2 * n + 2) f fd ["_law_found", "_law_piece_here", "_law_rest"] (spPair n) := by
  have sc : FnScope ["_law_found", "_law_piece_here", "_law_rest"] ["_law_found", "_law_piece_here", "_law_rest"] (defScope (top 31)) := ⟨rfl, rfl, rfl, by decide +kernel, rfl, by decide +kernel, by decide +kernel⟩
  have bA := D.fn.binds (ps := ["_law_found", "_law_due"]) fun _ _ _ _ _ _ us hl => by obtain ⟨v0, v1, rfl⟩ := L2.ln2 hl; rfl
  refine F.ok sc (fun vs H Q E h => ?_) (fun cdv A outer s H vs Q E hr h => ?_)
  · obtain ⟨t, x, y, p, r, rfl, _⟩ := h
    rfl
  · obtain ⟨t, x, y, p, r, rfl, ht, h1, h2, q⟩ := h
    refine ⟨_, pss_cons (ps_if (PW.pt (pw_or (pt_not (pt_val (pe_callB call_isi (by rfl) B.isi boot_isi (pa_cons (pv 0) (pa_cons (pe_bltn (v := .ty "tuple") (by rfl) B.tuple boot_tuple rfl) pa_nil))))) (pw_or1 (pt_cmpR op_ne (pe_callB call_len_seq (by rfl) B.len PySem.boot_len (pa_cons (pv 0) pa_nil)) pe_int (nomark _))))) pss_never pss_nil)
      (pss_one (ps_ret (pe_and (pe_call GS hr (by rfl) D.mg D.fn.kp bA .nil pass0 (pa_cons (pe_ix ix_tup (pv 0) pe_int (fun _ _ => rfl)) (pa_cons (pv 1) pa_nil))) (pe_one (pe_call GS hr (by rfl) D.mg D.fn.kp bA .nil pass0 (pa_cons (pe_ix ix_tup (pv 0) pe_int (fun _ _ => rfl)) (pa_cons (pv 2) pa_nil))))))), ?_⟩
    refine ⟨_, rfl, _, _, _, _, rfl, .tup ht, kq (show kitTy "tuple" "tuple" = some true by decide +kernel), _, rfl, iteF ?_⟩
    refine ⟨_, rfl, _, _, rfl, .inr (SqT.of ht), rfl, _, rfl, iteNS rfl ?_⟩
    refine ⟨_, rfl, t, _, 0, _, rfl, rfl, SqT.of ht, rfl, _, rfl, x, p, rfl, h1, fun H1 s1 => ?_⟩
    refine ⟨_, rfl, iteT ?_⟩
    exact ⟨_, rfl, t, _, 1, _, rfl, rfl, SqT.of (s1 _ _ ht), rfl, _, rfl, y, r, rfl, h2.same s1, fun H2 s2 => q H2 (s1.trans s2)⟩
end
end My

/-! TOKENS (own work): rules that know that the count of tokens has reached n, and calls that show the value itself. -/
namespace L2
open PySem PySem.Spec PyProof.Rows

theorem thnk {α : Type} {t : Sem α} {Q Q' : α → Shared → Prop} {M : Model} {A : Around} {E : Value → Shared → Prop} {s : Shared} {n : Nat} (hn : n ≤ s.toks) (h : wpAny M A t Q E s) (hQ : ∀ a s', n ≤ s'.toks → Q a s' → Q' a s') : wpAny M A t Q' E s :=
  wpAny_mono (wpAny_toks_of hn h) (fun a s' x => hQ a s' x.1 x.2) fun _ _ x => x.2

def PEk (n : Nat) (X : Cx) (e : Expr) (t : TE) : Prop :=
  ∀ (pins : List (Addr × Obj)) (s : Shared) (σ : St) (H : Hp) (Q : VK), n ≤ s.toks → Inv X pins σ H s → t σ H Q → wpAny (model X.prog X.w) X.A (eval e X.env) (EP X pins σ Q) X.xe s
def PSk (n : Nat) (X : Cx) (st : Stmt) (t : TS) : Prop :=
  ∀ (pins : List (Addr × Obj)) (s : Shared) (σ : St) (H : Hp) (D : Ends), n ≤ s.toks → Inv X pins σ H s → t D σ H → wpAny (model X.prog X.w) X.A (exec st X.env) (SP X pins D) X.xe s
def PSsk (n : Nat) (X : Cx) (st : List Stmt) (t : TS) : Prop :=
  ∀ (pins : List (Addr × Obj)) (s : Shared) (σ : St) (H : Hp) (D : Ends), n ≤ s.toks → Inv X pins σ H s → t D σ H → wpAny (model X.prog X.w) X.A (execs st X.env) (SP X pins D) X.xe s
section
variable {n : Nat} {X : Cx} {st : Stmt} {rest : List Stmt} {t u : TS} {e a b : Expr} {te ta tb : TE} {pos : Pos}
theorem PS.k (h : PS X st t) : PSk n X st t := fun pins s σ H Q _ I q => h pins s σ H Q I q
theorem PSs.k (h : PSs X rest t) : PSsk n X rest t := fun pins s σ H Q _ I q => h pins s σ H Q I q
theorem pssk_cons (h1 : PSk n X st t) (h2 : PSsk n X rest u) : PSsk n X (st :: rest) (tSeq t u) := by
  intro pins s σ H D hn I h
  refine wpAny_execs_cons (thnk hn (h1 pins s σ H { D with nx := u D } hn I h) fun f s1 hn1 q => ?_)
  cases f with
  | next =>
    obtain ⟨σ', H', I', q⟩ := q
    exact h2 pins s1 σ' H' D hn1 I' q
  | ret v => exact q
  | brk => exact q
  | cont => exact q
theorem pssk_one (h1 : PSk n X st t) : PSsk n X [st] t := by
  intro pins s σ H D hn I h
  refine wpAny_execs_cons (thn (h1 pins s σ H D hn I h) fun f s1 q => ?_)
  cases f with
  | next => exact wpAny_execs_nil q
  | ret v => exact q
  | brk => exact q
  | cont => exact q
theorem psk_if {c : Expr} {xs ys : List Stmt} {tc : TT} (hc : PT X c tc) (ha : PSsk n X xs t) (hb : PSsk n X ys u) : PSk n X (.If c xs ys pos) (tIfS tc t u) := by
  intro pins s σ H D hn I h
  refine wpAny_If (thnk hn (hc pins s σ H _ I h) fun d s1 hn1 ⟨H1, I1, q1⟩ => ?_)
  cases d with
  | true => exact ha pins s1 σ H1 D hn1 I1 q1
  | false => exact hb pins s1 σ H1 D hn1 I1 q1
theorem psk_ret (he : PEk n X e te) : PSk n X (.Return (some e) pos) (tRet te) := by
  intro pins s σ H D hn I h
  exact wpAny_Return_some (thn (he pins s σ H _ hn I h) fun v s1 ⟨x, H1, I1, r1, q1⟩ => ⟨x, σ, H1, I1, r1, q1⟩)
end

/-! ### defs -/
/-- what is wanted behind a call: the value, the count of tokens, the value as it is seen, the heap -/
abbrev WK := Value → Nat → V → Hp → Prop
abbrev SpW := List V → Hp → WK → Prop
def CRW (outer : List Env) (P : Program) (w : World) (H : Hp) (s : Shared) (Q : WK) (r : Result) (s' : Shared) : Prop :=
  match r with
  | .ok (.ret u) => ∃ v H', s'.os = s.os ∧ AllBare s'.gens ∧ Un (frs outer) [] H H' s.heap s'.heap ∧ HOk P w H' s'.heap ∧ RelV v u ∧ Q u s'.toks v H'
  | _ => False
structure FnOkW (n : Nat) (P : Program) (w : World) (K : PySem.W.Frag) (mg : Str → Option Value) (base : Heap) (k : Nat) (f : Addr) (fd : FuncData) (ps : List Str) (sp : SpW) : Prop where
  len : ∀ vs H Q, sp vs H Q → vs.length = ps.length
  run : ∀ (A : Around) (outer : List Env) (s : Shared) (H : Hp) (args : Args) (us : List Value) (vs : List V) (Q : WK), n ≤ s.toks → Room k A → Env0 P w K mg base A outer s H → BindsTo s fd args (ps.zip us) → Vals vs us → sp vs H Q →
    codeAny (model P w) A (.call (.ref f) args) (CRW outer P w H s Q) s
/-- what is wanted behind a body -/
def SPW (X : Cx) (pins : List (Addr × Obj)) (Q : WK) (f : Flow) (s' : Shared) : Prop :=
  match f with
  | .ret u => ∃ v σ' H', Inv X pins σ' H' s' ∧ RelV v u ∧ Q u s'.toks v H'
  | _ => False
section
variable {P : Program} {w : World} {K : PySem.W.Frag} {mg : Str → Option Value} {base : Heap}
theorem Fun.okW {x qual : Str} {st : Stmt} {f : Addr} {fd : FuncData} {N ps : List Str} {n k : Nat} {sp : SpW} (F : Fun K x qual st f fd) (S : FnScope N ps (defScope st)) (len : ∀ vs H Q, sp vs H Q → vs.length = ps.length)
    (hbody : ∀ (cdv : Value) (A : Around) (outer : List Env) (s : Shared) (H : Hp) (vs : List V) (Q : WK) (s1 : Shared), Room k (A.deeper (envOfC qual (defScope st) s.heap.objs.size f cdv)) → sp vs H Q → n ≤ s1.toks →
      Inv (cxOf CX0 P w K mg base N qual (defScope st) f cdv A outer s H (fun _ _ _ => False)).nox [] (start N vs) H s1 →
      wpAny (model P w) (A.deeper (envOfC qual (defScope st) s.heap.objs.size f cdv)) (execs (defBody st) (envOfC qual (defScope st) s.heap.objs.size f cdv)) (SPW (cxOf CX0 P w K mg base N qual (defScope st) f cdv A outer s H (fun _ _ _ => False)).nox [] Q) (fun _ _ => False) s1) :
    FnOkW n P w K mg base (k + 1) f fd ps sp := by
  obtain ⟨oc, od, kV, doc, pm, an, cdv, ct, osl, rfl, lk, hcd⟩ := F.ex
  refine ⟨len, fun A outer s H args us vs Q hn hr e0 hb r hsp => ?_⟩
  have hl := len _ _ _ hsp
  have KX : K.In s.heap := e0.mod.kin.keeps fun b o e => (e0.bs b o e).1
  have lim : s.heap.NoLimit := e0.mod.nolimit.keeps fun b o e => (e0.bs b o e).1
  have hkind : ∀ y ∈ ps.zip us, (defScope st).names.lookup y.1 = some .local ∨ ((defScope st).names.lookup y.1 = some .cell ∧ ((cellsFrom (s.heap.objs.size + 1) (defScope st).names []).lookup y.1).isSome = true) := fun ⟨n, v⟩ hy => by
    rcases S.par n (List.of_mem_zip hy).1 with q | q
    · exact .inl q
    · exact .inr ⟨q, PySem.W.cellsFrom_some _ _ _ (.inl q)⟩
  refine codeAny_call_function hr.depth (KX _ _ lk) rfl S.co S.gen rfl (PySem.W.codeRec_of KX hcd) (hb _ _ _ _ ?_)
  refine wpAny_with_toks hn ?_
  refine wpAny_newFunctionEnv_cells S.kind hkind fun env he s1 x hn1 => ?_
  subst he
  refine ⟨lim.keeps x.toInCall.keep, codeAny_func ?_⟩
  have I : Inv (cxOf CX0 P w K mg base N qual (defScope st) f cdv A outer s H (fun _ _ _ => False)) [] (start N vs) H s1 := inv_start S hr.hd e0 hl r x
  refine wpAny_mono (hbody cdv A outer s H vs Q s1 (hr.deeper _) hsp hn1 (I.wish _)) (fun fl s' hs => ?_) fun e s' hs => False.elim hs
  cases fl with
  | ret u =>
    obtain ⟨v, σ', H', J, rv, q⟩ := hs
    exact ⟨v, H', J.os, J.bare, J.base, J.hok, rv, q⟩
  | next => exact False.elim hs
  | brk => exact False.elim hs
  | cont => exact False.elim hs
end

/-- behind an expression: the value itself too -/
def EW (X : Cx) (pins : List (Addr × Obj)) (σ : St) (Q : WK) (u : Value) (s' : Shared) : Prop := ∃ v H', Inv X pins σ H' s' ∧ RelV v u ∧ Q u s'.toks v H'
section
variable {n : Nat} {X : Cx} {k : Nat} {f : Addr} {fd : FuncData} {ps : List Str} {sp : SpW} {x : Str} {p pos : Pos} {e : Expr} {es : List Expr} {t : TA}
theorem run_fnW {pins : List (Addr × Obj)} {σ : St} {H : Hp} {s : Shared} {Q : WK} {us : List Value} {vs : List V} (F : FnOkW n X.prog X.w X.K X.mg X.base k f fd ps sp) (hr : Room k X.A) (hb : Binds X.K fd ps []) (hn : n ≤ s.toks)
    (I : Inv X pins σ H s) (r : Vals vs us) (h : sp vs H Q) : wpAny (model X.prog X.w) X.A (call (.ref f) us) (EW X pins σ Q) X.xe s := by
  have hl : us.length = ps.length := by rw [← r.length]; exact F.len _ _ _ h
  have hb' := hb s us I.kIn (by rw [List.append_nil]; exact hl)
  rw [List.append_nil] at hb'
  refine wpAny_call (codeAny_mono (F.run X.A X.stack s H ⟨us, []⟩ us vs Q hn hr I.env0 hb' r h) fun r s' hq => ?_)
  cases r with
  | error e => exact False.elim hq
  | ok fl =>
    cases fl with
    | ret u =>
      obtain ⟨v, H', os, bare, un, hok, rv, q⟩ := hq
      exact ⟨v, H', I.call' (ch := []) os un hok bare (fun b z => absurd z (by simp)), rv, q⟩
    | next => exact False.elim hq
    | brk => exact False.elim hq
    | cont => exact False.elim hq
theorem ev_callW (F : FnOkW n X.prog X.w X.K X.mg X.base k f fd ps sp) (hr : Room k X.A) (hg : Gl X x) (hm : X.mg x = some (.ref f)) (hk : PySem.W.keepIn X.K (.ref f) = true) (hb : Binds X.K fd ps [])
    (ha : PA X (e :: es) t) {pins : List (Addr × Obj)} {s : Shared} {σ : St} {H : Hp} {Q : WK} (hn : n ≤ s.toks) (I : Inv X pins σ H s) (h : t σ H fun vs H1 => sp vs H1 Q)
    (hdb : (x == ("__debug__" : Str)) = false := by decide) (he : starEach (e :: es) X.env = (false, eval e X.env) :: starEach es X.env := by rfl) (hpl : (backTo pos (starEach es X.env)).any (·.1) = false := by rfl) :
    wpAny (model X.prog X.w) X.A (eval (.Call (.Name x p) (e :: es) [] pos) X.env) (EW X pins σ Q) X.xe s := by
  refine wpAny_Call_Name_kw (ld_glob I hg hm ?_ hdb)
  refine PySem.W.callWith_K (h₀ := X.base) I.ok.mod.kin hk (thnk hn (ha pos pins s σ H _ I h) fun us s1 hn1 ⟨vs, H1, I1, r, q⟩ => ⟨I1.kIn, ?_⟩) he hpl
  exact run_fnW F hr hb hn1 I1 r q
def tCallW (sp : SpW) (t : TA) : TE := fun σ H Q => t σ H fun vs H1 => sp vs H1 fun _ _ v H2 => Q v H2
theorem pek_callW (F : FnOkW n X.prog X.w X.K X.mg X.base k f fd ps sp) (hr : Room k X.A) (hg : Gl X x) (hm : X.mg x = some (.ref f)) (hk : PySem.W.keepIn X.K (.ref f) = true) (hb : Binds X.K fd ps [])
    (ha : PA X (e :: es) t) (hdb : (x == ("__debug__" : Str)) = false := by decide) (he : starEach (e :: es) X.env = (false, eval e X.env) :: starEach es X.env := by rfl) (hpl : (backTo pos (starEach es X.env)).any (·.1) = false := by rfl) :
    PEk n X (.Call (.Name x p) (e :: es) [] pos) (tCallW sp t) := by
  intro pins s σ H Q hn I h
  exact thn (ev_callW F hr hg hm hk hb ha hn I h hdb he hpl) fun u s' ⟨v, H', I', r', q'⟩ => ⟨v, H', I', r', q'⟩
end
end L2

namespace L2
open PySem PySem.Spec PyProof.Rows
theorem thnk' {α : Type} {t : Sem α} {Q Q' : α → Shared → Prop} {M : Model} {A : Around} {E : Value → Shared → Prop} {s : Shared} {n : Nat} (hn : n ≤ s.toks) (h : wpAny M A t Q (fun _ _ => False) s) (hQ : ∀ a s', n ≤ s'.toks → Q a s' → Q' a s') : wpAny M A t Q' E s :=
  wpAny_mono (wpAny_toks_of hn h) (fun a s' x => hQ a s' x.1 x.2) fun _ _ x => x.2.elim
/-! ### a comprehension whose element asks the count of tokens -/
section
variable {n : Nat} {X : Cx}
theorem comp_blockK {osc scope : Scope} {N0 xs : List Str} {fr : List Nat} {pins : List (Addr × Obj)} {σ : St} {H2 : Hp} {s2 : Shared} {fp : List Addr} {it : Addr} {tn : Nat → Heap → Prop} {J : It} {elt tg iter : Expr} {ifs : List Expr} {pos : Pos}
    {g : TG} {tt : TT} {te : TE} {E : Value → Shared → Prop} {R : Addr → Hp → Prop} {RR : Value → Addr → Result → Shared → Prop} (C : CompTx osc scope N0 xs fr) (ho : X.env.scope = osc) (hN0 : X.N = N0) (hc : X.calm = true)
    (hg : ∀ s H fp, PG (cxComp X scope (compN N0 xs fr) s H fp) tg g) (ht : ∀ s H fp, PIf (cxComp X scope (compN N0 xs fr) s H fp) ifs tt) (he : ∀ s H fp, PEk n (cxComp X scope (compN N0 xs fr) s H fp) elt te)
    (hn2 : n ≤ s2.toks) (I2 : Inv X pins σ H2 s2) (T : Turn X.prog X.w X.K tg J fp it tn) (st2 : tn 0 s2.heap) (f2 : ∀ b ∈ fp, FpOk X pins H2 b)
    (hR : ∀ D, H2 D = none → CompW J g tt te R D (compSt xs fr σ) (upd H2 D (.lst [])))
    (hRR : ∀ (D C : Addr) (s' : Shared) (H' : Hp) (m : Str → Option Value), Inv X pins σ H' s' → s'.heap.Ns C m → FpOk X pins H' C → R D H' → RR (.ref D) C (.ok .next) s') :
    wpAny (model X.prog X.w) X.A (newList []) (fun acc s₃ => wpAny (model X.prog X.w) X.A (newFunctionEnv scope X.env.globals (closL X.env scope.names) [] X.env.qual none .none (some X.env)) (fun cenv s₄ =>
      codeAny (model X.prog X.w) X.A (.compStart (.ListComp elt [⟨tg, iter, ifs, 0⟩] scope pos) 0 (.ref it) acc { cenv with scope := relabel scope X.env }) (RR acc cenv.locals) s₄) E s₃) E s2 := by
  refine wpAny_newObj_type (wpAny_newFunctionEnv C.nocell (by intro y hy; simp at hy) (fun h₁ hns₁ hsb₁ => ?_) C.kind)
  dsimp only at hns₁ hsb₁ ⊢
  have I3 : Inv X pins σ (upd H2 s2.heap.objs.size (.lst [])) { s2 with heap := s2.heap.push { cls := .type "list", data := .seq ([] : List Value).toArray } } := I2.lnew (its := []) (t' := s2.toks) .nil (by simp)
  have flt : ∀ b ∈ fp, b < s2.heap.objs.size := fun b hb => by
    obtain ⟨o, e, _⟩ := T.obj 0 _ st2 b hb
    exact Heap.lt_size e
  have f3 : ∀ b ∈ fp, FpOk X pins (upd H2 s2.heap.objs.size (.lst [])) b := fun b hb => ⟨by rw [upd_ne (Nat.ne_of_lt (flt b hb))]; exact (f2 b hb).1, (f2 b hb).2⟩
  have flt3 : ∀ b ∈ fp, b < (s2.heap.push { cls := .type "list", data := .seq ([] : List Value).toArray }).objs.size := fun b hb => by
    rw [Heap.size_push]
    exact Nat.lt_succ_of_lt (flt b hb)
  obtain ⟨W, ⟨m0, w0⟩, turn⟩ := hR s2.heap.objs.size I2.fresh
  generalize hD : s2.heap.objs.size = D at *
  generalize hs3 : s2.heap.push { cls := .type "list", data := .seq ([] : List Value).toArray } = h3 at *
  have up2 : ∀ b o, s2.heap.get? b = some o → h3.get? b = some o := fun b o e => by rw [← hs3]; exact Heap.get?_push_of_some _ e
  have old : ∀ b o, h3.get? b = some o → h₁.get? b = some o := fun b o e => hsb₁.extBut b o (Nat.ne_of_lt (Heap.lt_size e)) (Heap.get?_push_of_some _ e)
  have Ic := comp_start (tk := s2.toks + ([] : List (Str × Value)).length) C ho hN0 I3 f3 flt3 hns₁ old
  have st4 : tn 0 h₁ := T.keep 0 _ _ st2 fun b hb o e => old b o (up2 b o e)
  have stat : ∀ {H' : Hp}, (∀ b ∈ fp, H' b = none) → ∀ b ∈ fp, FpOk (cxComp X scope (compN N0 xs fr) { s2 with heap := h3 } (upd H2 D (.lst [])) fp) [] H' b := fun hn b hb =>
    ⟨hn b hb, Nat.ne_of_lt (flt3 b hb), fun z => by
      rcases List.mem_cons.mp (I3.stkSub b z) with q | q
      · exact (f3 b hb).2.1 q
      · exact (f3 b hb).2.2.1 q, .inl hb, fun x c h => (Ic.ok.exf b hb).2 x c h, fun p hp => absurd (show p ∈ ([] : List (Addr × Obj)) from hp) (by simp)⟩
  have fin : ∀ {σ' : St} {H' : Hp} {s' : Shared}, Inv (cxComp X scope (compN N0 xs fr) { s2 with heap := h3 } (upd H2 D (.lst [])) fp) [] σ' H' s' → R D H' → RR (.ref D) h3.objs.size (.ok .next) s' := fun {σ' H' s'} I' q => by
    obtain ⟨m, hm, _⟩ := I'.loc
    refine hRR D h3.objs.size s' H' m (I3.call' I'.os I'.base I'.hok I'.bare fun b hb => ?_) hm (I3.fpOk (Nat.le_refl _) I'.free) q
    exact ⟨(f3 b hb).2.2.2.1, (f3 b hb).2.1, (f3 b hb).2.2.2.2.1, (f3 b hb).2.2.2.2.2⟩
  have loop : codeAny (model X.prog X.w) X.A (.compLoop (.ListComp elt [⟨tg, iter, ifs, 0⟩] scope pos) 0 (.ref it) (.ref D) (compEnvC scope (closL X.env scope.names) h3.objs.size X.env)) (RR (.ref D) h3.objs.size) { s2 with heap := h₁, toks := s2.toks + ([] : List (Str × Value)).length } := by
    refine codeAny_loop rfl (fun mm s' => n ≤ s'.toks ∧ ∃ i σ' H', Inv (cxComp X scope (compN N0 xs fr) { s2 with heap := h3 } (upd H2 D (.lst [])) fp) [] σ' H' s' ∧ tn i s'.heap ∧ (∀ b ∈ fp, H' b = none) ∧ W i mm σ' H') (fun mm s' hI => ?_) m0 ⟨hn2, 0, _, _, Ic, st4, fun b hb => (f3 b hb).1, w0⟩
    show wpAny _ X.A ((compTurn (.ListComp elt [⟨tg, iter, ifs, 0⟩] scope pos) 0 (.ref it) (.ref D) (compEnvC scope (closL X.env scope.names) h3.objs.size X.env)).onRaise (fun x => do noteFrame x (compEnvC scope (closL X.env scope.names) h3.objs.size X.env); theTreesLotGoes x)) _ _ s'
    refine wpAny_noted ?_
    rw [compTurn_list]
    obtain ⟨hn', i, σ', H', I', st', fr', w'⟩ := hI
    refine wpAny_bind (wpAny_standAt (wpAny_bind ?_))
    rcases turn i mm σ' H' w' with ⟨stop, q⟩ | ⟨go, N, M, hN, hM, step⟩
    · refine thn (T.done (cxComp X scope (compN N0 xs fr) { s2 with heap := h3 } (upd H2 D (.lst [])) fp) rfl rfl rfl hc i [] s' σ' H' _ I' (stat fr') st' stop) fun r s4 ⟨hr, I4⟩ => ?_
      subst hr
      exact wpAny_pure (fin I4 q)
    · refine thnk hn' (T.item (cxComp X scope (compN N0 xs fr) { s2 with heap := h3 } (upd H2 D (.lst [])) fp) rfl rfl rfl hc i [] s' σ' H' _ I' (stat fr') st' go) fun r s4 hn4 ⟨u, hr, h4⟩ => ?_
      subst hr
      refine wpAny_bind (thnk hn4 h4 fun _ s5 hn5 ⟨x, H5, I5, r5, y5, st5, fr5⟩ => ?_)
      have I5' := I5.pinned (stat fr5) (T.obj _ _ st5)
      have again : ∀ {σ7 : St} {H7 : Hp} {s7 : Shared}, Inv (cxComp X scope (compN N0 xs fr) { s2 with heap := h3 } (upd H2 D (.lst [])) fp) ([] ++ pinsAt fp s5.heap) σ7 H7 s7 → n ≤ s7.toks → (∃ m', m' < mm ∧ W (i + 1) m' σ7 H7) →
          ∃ m, m < mm ∧ n ≤ s7.toks ∧ ∃ i σ' H', Inv (cxComp X scope (compN N0 xs fr) { s2 with heap := h3 } (upd H2 D (.lst [])) fp) [] σ' H' s7 ∧ tn i s7.heap ∧ (∀ b ∈ fp, H' b = none) ∧ W i m σ' H' := fun {σ7 H7 s7} I7 hn7 n7 => by
        obtain ⟨m', hm, w7⟩ := n7
        refine ⟨m', hm, hn7, i + 1, σ7, H7, I7.unpinned, T.keep _ _ _ st5 fun b hb o e => (I7.pin (b, o) (List.mem_append_right _ (List.mem_append_right _ (mem_pinsAt hb e)))).1, fun b hb => ?_, w7⟩
        obtain ⟨o, e, d⟩ := T.obj _ _ st5 b hb
        exact (I7.pin (b, o) (List.mem_append_right _ (List.mem_append_right _ (mem_pinsAt hb e)))).2.1
      refine wpAny_bind (thnk' hn5 (hg _ _ _ _ s5 σ' H5 x u _ I5' r5 (step x H5 y5)) (fun _ s6 hn6 ⟨σ6, H6, I6, q6⟩ => ?_))
      refine wpAny_bind (thnk' hn6 (ht _ _ _ _ s6 σ6 H6 _ I6 q6) (fun ok s7 hn7 ⟨H7, I7, q7⟩ => ?_))
      cases ok with
      | false =>
        rw [if_neg Bool.false_ne_true] at q7
        exact wpAny_pure ⟨rfl, again I7 hn7 (hM _ _ q7)⟩
      | true =>
        rw [if_pos rfl] at q7
        refine wpAny_bind (wpAny_bind (thnk' hn7 (he _ _ _ _ s7 σ6 H7 _ hn7 I7 q7) (fun y s8 hn8 ⟨v, H8, I8, r8, q8⟩ => ?_)))
        obtain ⟨ys, eD, hz, q8⟩ := hN _ _ _ q8
        refine wpAny_bind (thnk' hn8 (mt_append (X := cxComp X scope (compN N0 xs fr) { s2 with heap := h3 } (upd H2 D (.lst [])) fp) _ s8 σ6 H8 (.ref D) [v] (.ref D) [y] (fun _ H9 => ∃ m', m' < mm ∧ W (i + 1) m' σ6 H9) I8 rfl (.cons r8 .nil) ⟨D, ys, v, rfl, rfl, eD, hz, q8⟩) (fun _ s9 hn9 ⟨_, H9, I9, _, q9⟩ => ?_))
        exact wpAny_pure (wpAny_pure ⟨rfl, again I9 hn9 q9⟩)
  exact codeAny_compStart_list loop (T.self X.A 0 _ _ _ st4 loop)

variable {osc scope : Scope} {N0 xs : List Str} {fr : List Nat} {elt tg iter : Expr} {ifs : List Expr} {pos : Pos} {wi : TI} {g : TG} {tt : TT} {te : TE}
theorem psk_comp {i : Nat} {y : Str} {py spos : Pos} (C : CompTx osc scope N0 xs fr) (ho : X.env.scope = osc) (hN0 : X.N = N0) (hc : X.calm = true) (hi : PI X tg iter wi)
    (hg : ∀ s H fp, PG (cxComp X scope (compN N0 xs fr) s H fp) tg g) (ht : ∀ s H fp, PIf (cxComp X scope (compN N0 xs fr) s H fp) ifs tt) (he : ∀ s H fp, PEk n (cxComp X scope (compN N0 xs fr) s H fp) elt te)
    (hN : X.N.Nodup) (hy : X.N[i]? = some y) (hx : Loc X.env.scope y)
    (hsw : swapsWith (.ListComp elt [⟨tg, iter, ifs, 0⟩] scope pos) (some (.Name y py)) spos.line X.env = pure true := by rfl)
    (hf : X.fn y = true ∨ X.env.scope.names.lookup y = some .local := by first | exact .inl rfl | exact .inr rfl | assumption)
    (hs : ∀ x, foldedSetIterable iter X.env x = pure x := by intro _; rfl) : PSk n X (.Assign [.Name y py] (.ListComp elt [⟨tg, iter, ifs, 0⟩] scope pos) spos) (sComp i xs fr wi g tt te) := by
  intro pins s σ H D hn I h
  rw [exec_Assign_Name_used _ _ _ _ hsw]
  refine wpAny_bind (wpAny_standAt (wpAny_bind ?_))
  show wpAny _ X.A (do let _ ← comprehension (.ListComp elt [⟨tg, iter, ifs, 0⟩] scope pos) scope X.env _ (newList []) false (eval iter X.env) (some (assign (.Name y py) X.env))) _ _ s
  refine wpAny_bind (wpAny_mono (wpAny_comprehension_free (use := some (assign (.Name y py) X.env)) (Q := fun _ s' => SP X pins D .next s') rfl hs (clos_ok (comp_free C ho I)) C.kind C.names
    (thnk hn (hi pins s σ H _ I h) fun v s1 hn1 h1 => thnk hn1 h1 fun itv s2 hn2 h2 => ?_)) (fun _ s' hq => wpAny_pure (wpAny_pure hq)) fun _ _ e => e)
  obtain ⟨it, fp, tn, J, H2, e, I2, T, st2, f2, hR⟩ := h2
  subst e
  refine comp_blockK C ho hN0 hc hg ht he hn2 I2 T st2 f2 hR fun Dl C s' H' m I' hm fC q => ?_
  refine wpAny_assign_Name (store_ok2 I' hN hy hx (show RelV (.ref Dl) (.ref Dl) from rfl) (fun s3 I3 hsb => ?_) hf)
  obtain ⟨a, sb, ha⟩ := hsb
  have hCa : C ≠ a := by
    rcases ha with z | z
    · rw [z]; exact fC.2.1
    · exact fun w => fC.2.2.2.2.1 y a z w.symm
  refine ⟨m, hm.sameBut sb hCa, fun h' sb' => ⟨_, H', ?_, q⟩⟩
  exact I3.turned (t' := s3.toks) (fun b o hb e => (sb'.2 b hb).trans e) fC.1 fC.2.1 fC.2.2.2.1 fC.2.2.2.2.1 fC.2.2.2.2.2
end

end L2

namespace L2
open PySem PySem.Spec PyProof.Rows
section
variable {n : Nat} {X : Cx} {pins : List (Addr × Obj)} {s : Shared} {σ : St} {H : Hp}
/-! ### texts with known tokens -/
/-- name = a written text: a token has been spent -/
theorem set_const {i : Nat} {x : Str} {z : Str} {j : Nat} {pos pos' cp : Pos} {D : Ends} (I : Inv X pins σ H s) (hN : X.N.Nodup) (hi : X.N[i]? = some x) (hx : Loc X.env.scope x) (h : D.nx (σ.set i (some (.str z))) H)
    (hs : swapsWith (.Constant (.str z) j cp) (some (.Name x pos')) pos.line X.env = pure false := by rfl) (hf : X.fn x = true ∨ X.env.scope.names.lookup x = some .local := by first | exact .inl rfl | exact .inr rfl | assumption) :
    wpAny (model X.prog X.w) X.A (exec (.Assign [.Name x pos'] (.Constant (.str z) j cp) pos) X.env) (fun f s' => 1 ≤ s'.toks ∧ SP X pins D f s') X.xe s := by
  refine wpAny_Assign_Name (wpAny_Constant_str ?_) hs
  refine thnk (n := 1) (show 1 ≤ s.toks + 1 by omega) (store_ok (I.tok (s.toks + 1)) hN hi hx (show RelV (.str z) (.str z s.toks) from ⟨_, rfl⟩) (Q := fun _ s' => SP X pins D .next s') (fun s2 I2 => ⟨_, H, I2, h⟩) hf) fun _ s' hn q => ⟨hn, q⟩
/-- z[i]: the sign's token is the newest one -/
theorem ev_ixs {a b : Expr} {ta tb : TE} {pos : Pos} {Q : WK} (ha : PE X a ta) (hb : PE X b tb) (hs : PlainIx b) (hn : n ≤ s.toks) (I : Inv X pins σ H s)
    (h : ta σ H fun x H1 => tb σ H1 fun y H2 => ∃ z i c, x = .str z ∧ y = .int i ∧ z.length ≤ sizeLine ∧ atI z.cps.toList i = some c ∧ ∀ tk, n ≤ tk → Q (.str ⟨#[c]⟩ tk) (tk + 1) (.str ⟨#[c]⟩) H2) :
    wpAny (model X.prog X.w) X.A (eval (.Subscript a b pos) X.env) (EW X pins σ Q) X.xe s := by
  refine Subscript_ ?_
  refine thnk hn (ha pins s σ H _ I h) fun v s1 hn1 ⟨x, H1, I1, r1, q1⟩ => ?_
  refine thnk hn1 (hb pins s1 σ H1 _ I1 q1) fun u s2 hn2 ⟨y, H2, I2, r2, q2⟩ => ?_
  obtain ⟨z, i, c, rfl, rfl, hz, he, q⟩ := q2
  obtain ⟨t, rfl⟩ := r1
  obtain ⟨t', rfl⟩ := r2
  obtain ⟨j, h1, h2, h3, h4, h5⟩ := atI_get he
  have hl : z.cps.toList.length = z.length := by simp [Str.length]
  rw [hl] at h1 h4 h5
  have hn := line63
  exact tail_any (typeIs_str s2 z t) slot_str_getitem.lookup (getItem_str (c := c) (by
    have e1 : decide (i < -(2 ^ 63 : Int)) = false := decide_eq_false (by omega)
    have e2 : decide (i ≥ 2 ^ 63) = false := decide_eq_false (by omega)
    rw [e1, e2, Bool.or_false]) (by rw [h1]; simpa using h2) ⟨.str ⟨#[c]⟩, H2, I2.tok _, ⟨_, rfl⟩, q s2.toks hn2⟩) (hs _ _)
/-- a pair ("..", text) whose second text's token is known -/
def TokPair (H : Hp) (a : Addr) (y z : Str) (u : Tok) : Prop := ∃ o u0 m, H a = some (.frz o (.tup [.str y, .str z])) ∧ o.data = .seq #[u0, .str z u] m
theorem TokPair.same {H H' : Hp} {a : Addr} {y z : Str} {u : Tok} (h : TokPair H a y z u) (e : Same H H') : TokPair H' a y z u := by
  obtain ⟨o, u0, m, h1, h2⟩ := h
  exact ⟨o, u0, m, e _ _ h1, h2⟩
theorem TokPair.sq {K : PySem.W.Frag} {H : Hp} {a : Addr} {y z : Str} {u : Tok} (h : TokPair H a y z u) : SqT K H a [.str y, .str z] := by
  obtain ⟨o, u0, m, h1, h2⟩ := h
  exact .inl (.inr ⟨o, h1⟩)
/-- ("..", e) -/
theorem ev_pair {y : Str} {j : Nat} {cp pos : Pos} {x1 : Nat} {e : Expr} {Q : WK} (I : Inv X pins σ H s) (hn : n ≤ s.toks)
    (he : ∀ s1, Inv X pins σ H s1 → n ≤ s1.toks → wpAny (model X.prog X.w) X.A (eval e X.env) (EW X pins σ fun u k v H1 => ∃ z t, u = .str z t ∧ v = .str z ∧ ∀ p (H2 : Hp), H1 p = none → Same H1 H2 → TokPair H2 p y z t → Q (.ref p) k (.ref p) H2) X.xe s1)
    (hs : starEach [.Constant (.str y) j cp, e] X.env = [(false, eval (.Constant (.str y) j cp) X.env), (false, eval e X.env)] := by rfl) :
    wpAny (model X.prog X.w) X.A (eval (.Tuple [.Constant (.str y) j cp, e] x1 pos) X.env) (EW X pins σ Q) X.xe s := by
  refine wpAny_Tuple_spliced ?_
  rw [hs]
  show wpAny _ _ (spliced [(false, eval (.Constant (.str y) j cp) X.env), (false, _)]) _ _ s
  refine Calls.spliced_cons (wpAny_Constant_str (Calls.spliced_cons ?_))
  show wpAny _ _ (eval e X.env) _ _ _
  refine thn (he _ (I.tok (s.toks + 1)) (Nat.le_succ_of_le hn)) fun u s1 ⟨v, H1, I1, r1, z, t, e1, e2, q⟩ => Calls.spliced_nil ⟨(show 2 ≤ sizeLine by decide), ?_⟩
  subst e1 e2
  have hf : H1 s1.heap.objs.size = none := I1.hok.fresh (Nat.le_refl _)
  refine ⟨.ref s1.heap.objs.size, upd H1 s1.heap.objs.size (.frz { cls := .type "tuple", data := .seq #[.str y s.toks, .str z t] } (.tup [.str y, .str z])), I1.laid (t' := s1.toks) (fun b u e => Heap.get?_push_of_some _ e) (Nat.le_refl _) ?_, rfl, q _ _ hf (Same.upd hf) ⟨_, _, _, upd_same, rfl⟩⟩
  refine ⟨Heap.get?_push_size _ rfl, (show 2 ≤ sizeLine by decide), [.str y s.toks, .str z t], .cons ⟨_, rfl⟩ (.cons ⟨_, rfl⟩ .nil), ⟨_, Heap.get?_push_size _ rfl, rfl, _, rfl⟩⟩
/-- .. its second thing -/
theorem ev_second {a : Expr} {ta : TE} {pos cp : Pos} {j : Nat} {p : Addr} {y z : Str} {t : Tok} (ha : PE X a ta) (I : Inv X pins σ H s) (h : ta σ H fun x H1 => x = .ref p ∧ H1 = H) (hp : TokPair H p y z t) (hs : PlainIx (.Constant (.int 1) j cp)) :
    wpAny (model X.prog X.w) X.A (eval (.Subscript a (.Constant (.int 1) j cp) pos) X.env) (fun u s' => u = .str z t ∧ Inv X pins σ H s') X.xe s := by
  refine Subscript_ ?_
  refine thn (ha pins s σ H _ I h) fun v s1 ⟨x, H1, I1, r1, e1, e2⟩ => ?_
  subst e1 e2
  cases r1
  refine thn (pe_int pins s1 σ H1 (fun y H2 => y = .int 1 ∧ H2 = H1) I1 ⟨rfl, rfl⟩) fun u s2 ⟨y2, H2, I2, r2, e3, e4⟩ => ?_
  subst e3 e4
  obtain ⟨t', rfl⟩ := r2
  obtain ⟨o, u0, m, h1, h2⟩ := hp
  obtain ⟨g, _, its, r, o', g', c', m', d'⟩ := I2.hok p _ h1
  have pl : IsTup s2.heap p #[u0, .str z t] := ⟨o, g, (by rw [g] at g'; cases g'; exact c'), m, h2⟩
  exact subscriptTail_builtinR (x := .str z t) pl.typeIs slot_tuple_getitem.lookup
    (getItem_tuple (j := 1) (Q := fun r s' => r = .str z t ∧ r = .str z t ∧ Inv X pins σ H2 s') pl (by decide) (by decide) (by rfl) (by rfl) ⟨rfl, rfl, I2⟩) (hs _ _)
/-- o.replace(pair[1], "") -/
def tStrike (p : Addr) (z : Str) (to : TE) : TE := fun σ H Q => to σ H fun x H1 => H1 = H ∧ ∃ w, x = .str w ∧ w.length ≤ 1048576 ∧ Q (.str (Txt.replace w z ⟨#[]⟩)) H1
theorem pek_strike {o a : Expr} {to ta : TE} {apos cpos sp cp cp2 : Pos} {j j2 : Nat} {p : Addr} {y z : Str} {t : Tok} {C : St → Hp → Prop} (hz : (z == (⟨#[]⟩ : Str)) = false) (ht : t ≠ 0) (htn : t < n) (ho : PE X o to) (ha : PE X a ta)
    (hC : ∀ σ H, C σ H → TokPair H p y z t ∧ ta σ H fun x H1 => x = .ref p ∧ H1 = H) (hs : PlainIx (.Constant (.int 1) j cp))
    (hbase : attributeBase o "replace" X.env (eval o X.env) = eval o X.env := by rfl)
    (hfew : ((backTo cpos (starEach [.Subscript a (.Constant (.int 1) j cp) sp, .Constant (.str "") j2 cp2] X.env)).all (fun x => !x.1) && (backToKw cpos (keywordEach [] X.env)).all (fun x => x.1.isSome)
      && decide (([.Subscript a (.Constant (.int 1) j cp) sp, .Constant (.str "") j2 cp2] : List Expr).length + ([] : List Keyword).length + (if ([] : List Keyword).isEmpty then 0 else 1) < 30)) = true := by rfl)
    (hline : (apos.endLine == cpos.line) = true := by rfl)
    (hse : starEach [.Subscript a (.Constant (.int 1) j cp) sp, .Constant (.str "") j2 cp2] X.env = [(false, eval (.Subscript a (.Constant (.int 1) j cp) sp) X.env), (false, eval (.Constant (.str "") j2 cp2) X.env)] := by rfl) :
    PEk n X (.Call (.Attribute o "replace" apos) [.Subscript a (.Constant (.int 1) j cp) sp, .Constant (.str "") j2 cp2] [] cpos) (fun σ H Q => C σ H ∧ tStrike p z to σ H Q) := by
  intro pins s σ H Q hn I ⟨hc, h⟩
  obtain ⟨hp, hta⟩ := hC σ H hc
  refine wpAny_Call_method_late hbase hfew hline rfl (thnk hn (ho pins s σ H _ I h) fun v s1 hn1 ⟨x, H1, I1, r1, e1, w, e2, hw, q⟩ => ?_)
  subst e1 e2
  obtain ⟨tw, rfl⟩ := r1
  refine ⟨"str", "str.replace", F.plainAttrs_str, F.slot_str_replace, F.type_str_replace, typeIs_str _ _ _, (fun _ e => nomatch e), ?_⟩
  rw [hse]
  refine Calls.callWith_builtin rfl (Calls.evalArgs_plain ?_)
  show wpAny _ _ (spliced [(false, eval (.Subscript a (.Constant (.int 1) j cp) sp) X.env), (false, eval (.Constant (.str "") j2 cp2) X.env)]) _ _ s1
  refine Calls.spliced_cons (thnk hn1 (ev_second ha I1 hta hp hs) fun u s2 hn2 ⟨e3, I2⟩ => Calls.spliced_cons (wpAny_Constant_str (Calls.spliced_nil ?_)))
  subst e3
  refine SC.replaceW ht (Nat.ne_of_gt (Nat.lt_of_le_of_lt (Nat.zero_le t) (Nat.lt_of_lt_of_le htn hn2))) (Nat.ne_of_lt (Nat.lt_of_lt_of_le htn hn2)) hz hw (by decide) fun t' k => ⟨.str (Txt.replace w z ⟨#[]⟩), H1, (I2.tok _).tok k, ⟨t', rfl⟩, q⟩
end
theorem pss_run {X : Cx} {st : List Stmt} {t : TS} (h : PSs X st t) {pins : List (Addr × Obj)} {s : Shared} {σ : St} {H : Hp} {D : Ends} (I : Inv X pins σ H s) (q : t D σ H) : wpAny (model X.prog X.w) X.A (execs st X.env) (SP X pins D) X.xe s := h pins s σ H D I q
end L2

namespace L2
open PySem PySem.Spec PyProof.Rows
section
variable {P : Program} {w : World} {K : PySem.W.Frag} {mg : Str → Option Value} {base : Heap}
abbrev SpK := List V → Hp → VK → Prop
def toW (sp : SpK) : SpW := fun vs H Q => sp vs H fun v H' => ∀ u tk, Q u tk v H'
/-- a def whose body asks the count of tokens -/
theorem Fun.okK {x qual : Str} {st : Stmt} {f : Addr} {fd : FuncData} {N ps : List Str} {n k : Nat} {sp : SpK} (F : Fun K x qual st f fd) (S : FnScope N ps (defScope st)) (len : ∀ vs H Q, sp vs H Q → vs.length = ps.length)
    (hbody : ∀ (cdv : Value) (A : Around) (outer : List Env) (s : Shared) (H : Hp) (vs : List V) (Q : VK), Room k (A.deeper (envOfC qual (defScope st) s.heap.objs.size f cdv)) → sp vs H Q →
      ∃ t, PSsk n (cxOf CX0 P w K mg base N qual (defScope st) f cdv A outer s H (fun _ _ _ => False)).nox (defBody st) t ∧ t { nx := fun _ _ => False, rt := Q } (start N vs) H) :
    FnOkW n P w K mg base (k + 1) f fd ps (toW sp) := by
  refine F.okW S (fun vs H Q h => len _ _ _ h) (fun cdv A outer s H vs Q s1 hr h hn I => ?_)
  obtain ⟨t, ht, hq⟩ := hbody cdv A outer s H vs _ hr h
  refine thn (ht [] s1 _ H _ hn I hq) fun fl s' hs => ?_
  cases fl with
  | ret u =>
    obtain ⟨v, σ', H', J, rv, q⟩ := hs
    exact ⟨v, σ', H', J, rv, q u _⟩
  | next => obtain ⟨_, _, _, z⟩ := hs; exact z.elim
  | brk => obtain ⟨_, _, _, z⟩ := hs; exact z.elim
  | cont => obtain ⟨_, _, _, z⟩ := hs; exact z.elim
end
end L2

namespace L2
open PySem PySem.Spec PyProof.Rows
/-- a def that asks no count of tokens is an ordinary one -/
theorem FnOkW.plain {P : Program} {w : World} {K : PySem.W.Frag} {mg : Str → Option Value} {base : Heap} {k : Nat} {f : Addr} {fd : FuncData} {ps : List Str} {sp : SpK} (F : FnOkW 0 P w K mg base k f fd ps (toW sp)) (hm : ∀ vs H (Q : VK), sp vs H Q → sp vs H fun v H' => ∀ (_ : Value) (_ : Nat), Q v H') :
    FnOk P w K mg base CX0 k f fd ps (fun vs H Q _ => sp vs H Q) := by
  refine ⟨fun vs H Q E h => F.len vs H (fun _ _ v H' => Q v H') (hm _ _ _ h), fun A outer s H args us vs Q E hr e0 hb r h => ?_⟩
  refine codeAny_mono (F.run A outer s H args us vs (fun _ _ v H' => Q v H') (Nat.zero_le _) hr e0 hb r (hm _ _ _ h)) fun r s' hq => ?_
  cases r with
  | error e => exact False.elim hq
  | ok fl =>
    cases fl with
    | ret u => exact hq
    | next => exact False.elim hq
    | brk => exact False.elim hq
    | cont => exact False.elim hq
end L2

/-! TOKENS (own work): statements and loops that carry a count of tokens that is reached, and may grow. -/
namespace L2
open PySem PySem.Spec PyProof.Rows
structure EndsM where
  nx : Nat → St → Hp → Prop
  rt : Nat → VK
abbrev TSM := EndsM → Nat → St → Hp → Prop
def EndsM.at (D : EndsM) (m : Nat) : Ends := { nx := D.nx m, rt := D.rt m }
def SPM (X : Cx) (pins : List (Addr × Obj)) (D : EndsM) (f : Flow) (s' : Shared) : Prop := match f with
  | .next => ∃ m σ' H', m ≤ s'.toks ∧ Inv X pins σ' H' s' ∧ D.nx m σ' H'
  | .ret u => ∃ m v σ' H', m ≤ s'.toks ∧ Inv X pins σ' H' s' ∧ RelV v u ∧ D.rt m v H'
  | _ => False
def PSM (X : Cx) (st : Stmt) (T : TSM) : Prop := ∀ (pins : List (Addr × Obj)) (s : Shared) (m : Nat) (σ : St) (H : Hp) (D : EndsM), m ≤ s.toks → Inv X pins σ H s → T D m σ H → wpAny (model X.prog X.w) X.A (exec st X.env) (SPM X pins D) X.xe s
def PSsM (X : Cx) (st : List Stmt) (T : TSM) : Prop := ∀ (pins : List (Addr × Obj)) (s : Shared) (m : Nat) (σ : St) (H : Hp) (D : EndsM), m ≤ s.toks → Inv X pins σ H s → T D m σ H → wpAny (model X.prog X.w) X.A (execs st X.env) (SPM X pins D) X.xe s
section
variable {X : Cx} {st : Stmt} {rest : List Stmt} {T U : TSM} {pos : Pos}
theorem sp_m {pins : List (Addr × Obj)} {D : EndsM} {m : Nat} {f : Flow} {s' : Shared} (hm : m ≤ s'.toks) (q : SP X pins (D.at m) f s') : SPM X pins D f s' := by
  cases f with
  | next => obtain ⟨σ', H', I', q⟩ := q; exact ⟨m, σ', H', hm, I', q⟩
  | ret u => obtain ⟨v, σ', H', I', r, q⟩ := q; exact ⟨m, v, σ', H', hm, I', r, q⟩
  | brk => obtain ⟨_, _, _, z⟩ := q; exact z
  | cont => obtain ⟨_, _, _, z⟩ := q; exact z
theorem PSk.m {t : Nat → TS} (h : ∀ n, PSk n X st (t n)) : PSM X st (fun D m σ H => t m (D.at m) σ H) := fun pins s m σ H D hm I q => thnk hm (h m pins s σ H (D.at m) hm I q) fun f s' hm' q' => sp_m hm' q'
theorem PSsk.m {t : Nat → TS} (h : ∀ n, PSsk n X rest (t n)) : PSsM X rest (fun D m σ H => t m (D.at m) σ H) := fun pins s m σ H D hm I q => thnk hm (h m pins s σ H (D.at m) hm I q) fun f s' hm' q' => sp_m hm' q'
theorem PS.m {t : TS} (h : PS X st t) : PSM X st (fun D m σ H => t (D.at m) σ H) := PSk.m fun _ => h.k
theorem PSs.m {t : TS} (h : PSs X rest t) : PSsM X rest (fun D m σ H => t (D.at m) σ H) := PSsk.m fun _ => h.k
theorem psM_cons (h1 : PSM X st T) (h2 : PSsM X rest U) : PSsM X (st :: rest) (fun D m σ H => T { D with nx := U D } m σ H) := by
  intro pins s m σ H D hm I h
  refine wpAny_execs_cons (thn (h1 pins s m σ H { D with nx := U D } hm I h) fun f s1 q => ?_)
  cases f with
  | next =>
    obtain ⟨m', σ', H', hm', I', q⟩ := q
    exact h2 pins s1 m' σ' H' D hm' I' q
  | ret v => exact q
  | brk => exact q
  | cont => exact q
theorem psM_one (h1 : PSM X st T) : PSsM X [st] T := by
  intro pins s m σ H D hm I h
  refine wpAny_execs_cons (thn (h1 pins s m σ H D hm I h) fun f s1 q => ?_)
  cases f with
  | next => exact wpAny_execs_nil q
  | ret v => exact q
  | brk => exact q
  | cont => exact q
theorem psM_nil : PSsM X [] (fun D m σ H => D.nx m σ H) := fun pins s m σ H D hm I q => wpAny_execs_nil ⟨m, σ, H, hm, I, q⟩
theorem psM_if {c : Expr} {xs ys : List Stmt} {tc : TT} (hc : PT X c tc) (ha : PSsM X xs T) (hb : PSsM X ys U) : PSM X (.If c xs ys pos) (fun D m σ H => tc σ H fun b H1 => if b = true then T D m σ H1 else U D m σ H1) := by
  intro pins s m σ H D hm I h
  refine wpAny_If (thnk hm (hc pins s σ H _ I h) fun d s1 hm1 ⟨H1, I1, q1⟩ => ?_)
  cases d with
  | true => exact ha pins s1 m σ H1 D hm1 I1 q1
  | false => exact hb pins s1 m σ H1 D hm1 I1 q1
/-- name = e, where e's value is seen with its count -/
def EWn (X : Cx) (e : Expr) (w : Nat → St → Hp → WK → Prop) : Prop := ∀ (pins : List (Addr × Obj)) (s : Shared) (m : Nat) (σ : St) (H : Hp) (Q : WK), m ≤ s.toks → Inv X pins σ H s → w m σ H Q → wpAny (model X.prog X.w) X.A (eval e X.env) (EW X pins σ Q) X.xe s
theorem psM_set {e : Expr} {w : Nat → St → Hp → WK → Prop} {i : Nat} {x : Str} {pos' : Pos} (he : EWn X e w) (hN : X.N.Nodup) (hi : X.N[i]? = some x) (hx : Loc X.env.scope x) (hs : swapsWith e (some (.Name x pos')) pos.line X.env = pure false := by rfl) (hf : X.fn x = true ∨ X.env.scope.names.lookup x = some .local := by first | exact .inl rfl | exact .inr rfl | assumption) :
    PSM X (.Assign [.Name x pos'] e pos) (fun D m σ H => w m σ H fun _ k v H' => D.nx k (σ.set i (some v)) H') := by
  intro pins s m σ H D hm I h
  refine wpAny_Assign_Name (thn (he pins s m σ H _ hm I h) fun u s1 ⟨v, H1, I1, r1, q1⟩ => ?_) hs
  exact thnk (Nat.le_refl s1.toks) (store_ok (Q := fun _ s' => Inv X pins (σ.set i (some v)) H1 s') I1 hN hi hx r1 (fun s2 I2 => I2) hf) fun _ s2 hj I2 => ⟨_, _, _, hj, I2, q1⟩
theorem psM_ret {e : Expr} {w : Nat → St → Hp → WK → Prop} (he : EWn X e w) : PSM X (.Return (some e) pos) (fun D m σ H => w m σ H fun _ k v H' => D.rt k v H') := by
  intro pins s m σ H D hm I h
  exact wpAny_Return_some (thn (he pins s m σ H _ hm I h) fun u s1 ⟨v, H1, I1, r1, q1⟩ => ⟨s1.toks, v, σ, H1, Nat.le_refl _, I1, r1, q1⟩)
theorem ewn_callW {k : Nat} {f : Addr} {fd : FuncData} {ps : List Str} {sp : Nat → SpW} {x : Str} {p : Pos} {e : Expr} {es : List Expr} {t : TA} (F : ∀ n, FnOkW n X.prog X.w X.K X.mg X.base k f fd ps (sp n)) (hr : Room k X.A) (hg : Gl X x) (hm : X.mg x = some (.ref f)) (hk : PySem.W.keepIn X.K (.ref f) = true) (hb : Binds X.K fd ps [])
    (ha : PA X (e :: es) t) (hdb : (x == ("__debug__" : Str)) = false := by decide) (he : starEach (e :: es) X.env = (false, eval e X.env) :: starEach es X.env := by rfl) (hpl : (backTo pos (starEach es X.env)).any (·.1) = false := by rfl) :
    EWn X (.Call (.Name x p) (e :: es) [] pos) (fun m σ H Q => t σ H fun vs H1 => sp m vs H1 Q) := fun pins s m σ H Q hm' I h => ev_callW (F m) hr hg hm hk hb ha hm' I h hdb he hpl
/-- a loop -/
def tForM (wi : TI) (g : TG) (T : TSM) : TSM := fun D m σ H => wi σ H fun J H1 => ∃ W : Nat → Nat → Nat → St → Hp → Prop, (∃ n, W 0 n m σ H1) ∧ ∀ i n m σ H, W i n m σ H →
  (J.stop i H ∧ D.nx m σ H) ∨ (J.go i H ∧ ∃ N : Nat → St → Hp → Prop, (∀ m' σ' H', N m' σ' H' → ∃ n', n' < n ∧ W (i + 1) n' m' σ' H') ∧ ∀ x H', J.yld i H x H' → g x σ H' fun σ2 H2 => T { D with nx := N } m σ2 H2)
theorem psM_for {tg iter : Expr} {body : List Stmt} {wi : TI} {g : TG} (hp : PassesOwn (model X.prog X.w) X.A X.env X.xe) (hc : X.calm = true) (hi : PI X tg iter wi) (hg : PG X tg g) (hb : PSsM X body T)
    (hs : ∀ x, foldedSetIterable iter X.env x = pure x := by intro _; rfl) : PSM X (.For tg iter body [] pos) (tForM wi g T) := by
  intro pins s m σ H D hm I h
  refine wpAny_For (thnk hm (hi pins s σ H _ I h) fun v s1 hm1 h1 => thnk hm1 h1 fun itv s2 hm2 h2 => ?_) hs
  obtain ⟨it, fp, tn, J, H2, e, I2, T', st2, f2, W, ⟨m0, w0⟩, turn⟩ := h2
  subst e
  have stat : ∀ {H' : Hp}, (∀ b ∈ fp, H' b = none) → ∀ b ∈ fp, FpOk X pins H' b := fun hn b hb => ⟨hn b hb, (f2 b hb).2⟩
  refine codeAny_forLoop_any (fun n s' => ∃ i m σ' H', m ≤ s'.toks ∧ Inv X pins σ' H' s' ∧ tn i s'.heap ∧ (∀ b ∈ fp, H' b = none) ∧ W i n m σ' H') ?_ m0 ⟨0, m, σ, H2, hm2, I2, st2, fun b hb => (f2 b hb).1, w0⟩
  rintro n s3 ⟨i, m3, σ3, H3, hm3, I3, st3, fr3, w3⟩
  rcases turn i n m3 σ3 H3 w3 with ⟨stop, qn⟩ | ⟨go, N, hN, step⟩
  · refine wpAny_passesOwn hp (thnk hm3 (T'.done X rfl rfl rfl hc i pins s3 σ3 H3 X.xe I3 (stat fr3) st3 stop) fun r s4 hm4 ⟨hr, I4⟩ => ?_)
    subst hr
    exact wpAny_execs_nil ⟨m3, σ3, H3, hm4, I4, qn⟩
  · refine wpAny_passesOwn hp (thnk hm3 (T'.item X rfl rfl rfl hc i pins s3 σ3 H3 X.xe I3 (stat fr3) st3 go) fun r s4 hm4 ⟨u, hr, h4⟩ => ?_)
    subst hr
    refine wpAny_passesOwn hp (thnk hm4 h4 fun _ s5 hm5 ⟨x, H5, I5, r5, y5, st5, fr5⟩ => ?_)
    have I5' := I5.pinned (stat fr5) (T'.obj _ _ st5)
    refine wpAny_passesOwn hp (thnk hm5 (hg _ s5 σ3 H5 x u _ I5' r5 (step x H5 y5)) fun _ s6 hm6 ⟨σ6, H6, I6, q6⟩ => ?_)
    refine wpAny_passesOwn hp (thn (hb _ s6 m3 σ6 H6 _ hm6 I6 q6) fun f s7 q7 => ?_)
    cases f with
    | next =>
      obtain ⟨m7, σ7, H7, hm7, I7, n7⟩ := q7
      obtain ⟨m', hlt, w7⟩ := hN m7 σ7 H7 n7
      refine ⟨m', hlt, i + 1, m7, σ7, H7, hm7, I7.unpinned, T'.keep _ _ _ st5 fun b hb o e => (I7.pin (b, o) (List.mem_append_right _ (List.mem_append_right _ (mem_pinsAt hb e)))).1, fun b hb => ?_, w7⟩
      obtain ⟨o, e, d⟩ := T'.obj _ _ st5 b hb
      exact (I7.pin (b, o) (List.mem_append_right _ (List.mem_append_right _ (mem_pinsAt hb e)))).2.1
    | cont => exact False.elim q7
    | brk => exact False.elim q7
    | ret v => obtain ⟨m7, x7, σ7, H7, hm7, I7, r7, q7⟩ := q7; exact ⟨m7, x7, σ7, H7, hm7, I7.unpinned, r7, q7⟩
/-- over range(n) -/
theorem forM_range {n : Nat} {g : TG} {D : EndsM} {m : Nat} {σ : St} {H : Hp} {a : Int} (Pv : Nat → Nat → St → Hp → Prop) (h0 : Pv 0 m σ H)
    (hs : ∀ i m σ H, i < n → Pv i m σ H → g (.int (a + i)) σ H fun σ2 H2 => T { D with nx := Pv (i + 1) } m σ2 H2) (hd : ∀ m σ H, Pv n m σ H → D.nx m σ H) :
    ∃ W : Nat → Nat → Nat → St → Hp → Prop, (∃ k, W 0 k m σ H) ∧ ∀ i k m σ H, W i k m σ H →
      ((Itr a n).stop i H ∧ D.nx m σ H) ∨ ((Itr a n).go i H ∧ ∃ N : Nat → St → Hp → Prop, (∀ m' σ' H', N m' σ' H' → ∃ k', k' < k ∧ W (i + 1) k' m' σ' H') ∧ ∀ x H', (Itr a n).yld i H x H' → g x σ H' fun σ2 H2 => T { D with nx := N } m σ2 H2) := by
  refine ⟨fun i k m σ H => k = n - i ∧ i ≤ n ∧ Pv i m σ H, ⟨n, by simp, Nat.zero_le _, h0⟩, ?_⟩
  rintro i k m σ H ⟨rfl, hi, p⟩
  by_cases hlt : i < n
  · refine .inr ⟨hlt, Pv (i + 1), fun m' σ' H' p' => ⟨n - (i + 1), by omega, rfl, hlt, p'⟩, fun x H' y => ?_⟩
    obtain ⟨rfl, rfl⟩ := y
    exact hs i m σ _ hlt p
  · have e : i = n := by omega
    subst e
    exact .inl ⟨Nat.le_refl _, hd m σ H p⟩
end
section
variable {P : Program} {w : World} {K : PySem.W.Frag} {mg : Str → Option Value} {base : Heap}
/-- a def whose body carries the count -/
theorem Fun.okM {x qual : Str} {st : Stmt} {f : Addr} {fd : FuncData} {N ps : List Str} {n k : Nat} {sp : SpW} (F : Fun K x qual st f fd) (S : FnScope N ps (defScope st)) (len : ∀ vs H Q, sp vs H Q → vs.length = ps.length)
    (hbody : ∀ (cdv : Value) (A : Around) (outer : List Env) (s : Shared) (H : Hp) (vs : List V) (Q : WK), Room k (A.deeper (envOfC qual (defScope st) s.heap.objs.size f cdv)) → sp vs H Q →
      ∃ T, PSsM (cxOf CX0 P w K mg base N qual (defScope st) f cdv A outer s H (fun _ _ _ => False)).nox (defBody st) T ∧ T { nx := fun _ _ _ => False, rt := fun m v H' => ∀ u tk, m ≤ tk → Q u tk v H' } n (start N vs) H) :
    FnOkW n P w K mg base (k + 1) f fd ps sp := by
  refine F.okW S (fun vs H Q h => len _ _ _ h) (fun cdv A outer s H vs Q s1 hr h hn I => ?_)
  obtain ⟨T, hT, hq⟩ := hbody cdv A outer s H vs Q hr h
  refine thn (hT [] s1 n _ H _ hn I hq) fun fl s' hs => ?_
  cases fl with
  | next => obtain ⟨_, _, _, _, _, z⟩ := hs; exact z
  | ret u => obtain ⟨m, v, σ', H', hm, J, r, q⟩ := hs; exact ⟨v, σ', H', J, r, q u _ hm⟩
  | brk => exact hs
  | cont => exact hs
end
end L2

namespace My
open PySem L2 PyProof.Rows
seal L2.PE L2.PT L2.PW L2.PS L2.PSs L2.PA L2.PI L2.PG L2.PGs L2.OpR L2.CallR L2.IxR L2.SlR L2.MtR L2.PIf L2.PO L2.MtM L2.PC
def okSign (c : Nat) : Prop := 32 ≤ c ∧ c ≤ 126 ∧ c ≠ 37
def spSignW : SpW := fun vs H Q => ∃ c : Int, vs = [.int c] ∧ ∀ ch t k, okSign ch → 1 ≤ t → t < k → Q (.str ⟨#[ch]⟩ t) k (.str ⟨#[ch]⟩) H
section
variable {P : Program} {w : World} {K : PySem.W.Frag} {mg : Str → Option Value} {base : Heap}
theorem ok_signW {f : Addr} {fd : FuncData} (F : Fun K "_law_sign" "_law_sign" (top 18) f fd) : FnOkW 0 P w K mg base 1 f fd ["_law_number"] spSignW := by
  have sc : FnScope ["_law_number", "_law_some"] ["_law_number"] (defScope (top 18)) := ⟨rfl, rfl, rfl, by decide +kernel, rfl, by decide +kernel, by decide +kernel⟩
  refine F.okW sc (fun vs H Q h => ?_) (fun cdv A outer s H vs Q s1 hr h _ I => ?_)
  · obtain ⟨c, rfl, _⟩ := h
    rfl
  · obtain ⟨c, rfl, q⟩ := h
    refine wpAny_execs_cons (thn (set_const (i := 1) (D := { nx := fun σ' H' => σ' = [some (.int c), some (.str " !\"#$&'()*+,-./0123456789:;<=>?@ABCDEFGHIJKLMNOPQRSTUVWXYZ[\\]^_`")] ∧ H' = H, rt := fun _ _ => False }) I sc.nd rfl (Or.inl rfl) ⟨rfl, rfl⟩) fun fl s2 ⟨n2, h2⟩ => ?_)
    cases fl with
    | next =>
      obtain ⟨σ2, H2, I2, rfl, rfl⟩ := h2
      have p2 : ∃ t, PSs (cxOf CX0 P w K mg base ["_law_number", "_law_some"] "_law_sign" (defScope (top 18)) f cdv A outer s H2 (fun _ _ _ => False)).nox (((defBody (top 18)).drop 1).take 1) t ∧
          t { nx := fun σ' H' => (∃ z : Str, σ' = [some (.int c), some (.str z)] ∧ z.cps.toList.length = 94 ∧ ∀ ch ∈ z.cps.toList, okSign ch) ∧ H' = H2, rt := fun _ _ => False } [some (.int c), some (.str " !\"#$&'()*+,-./0123456789:;<=>?@ABCDEFGHIJKLMNOPQRSTUVWXYZ[\\]^_`")] H2 := by
        refine ⟨_, pss_one (ps_set (i := 1) sc.nd rfl (Or.inl rfl) (pe_op op_add_str (pv 1) pe_str)), ?_⟩
        refine ⟨_, rfl, _, _, rfl, rfl, (by decide +kernel), ⟨_, rfl, ?_, ?_⟩, rfl⟩
        · decide +kernel
        · unfold okSign
          decide +kernel
      obtain ⟨t2, pt2, qt2⟩ := p2
      show wpAny _ _ (execs (((defBody (top 18)).drop 1).take 1 ++ (defBody (top 18)).drop 2) _) _ _ s2
      rw [execs_app]
      refine wpAny_bind (thnk n2 (pss_run pt2 I2 qt2) fun fl s3 n3 h3 => ?_)
      · cases fl with
        | next =>
          show wpAny _ _ (execs ((defBody (top 18)).drop 2) _) _ _ s3
          obtain ⟨σ3, H3, I3, ⟨z, rfl, hz, ho⟩, rfl⟩ := h3
          refine wpAny_execs_cons (wpAny_Return_some (thn (ev_ixs (n := 1) (Q := Q) (pv 1) (pe_op op_mod (pv 0) pe_int) (fun _ _ => rfl) n3 I3 ?_) fun u s4 ⟨v, H4, I4, r4, q4⟩ => ⟨v, _, H4, I4, r4, q4⟩))
          refine ⟨_, rfl, _, rfl, _, _, rfl, rfl, (pos rfl), ?_⟩
          obtain ⟨ch, e1, e2⟩ := atN_mem (l := z.cps.toList) (i := c % 94) (Int.emod_nonneg _ (by decide)) (by rw [hz]; exact Int.emod_lt_of_pos _ (by decide))
          refine ⟨z, _, ch, rfl, rfl, ?_, e1, fun tk hk => q ch tk (tk + 1) (ho ch e2) hk (Nat.lt_succ_self _)⟩
          have : z.length = z.cps.toList.length := by simp [Str.length]
          rw [this, hz]
          decide
        | ret v => obtain ⟨_, _, _, _, _, z⟩ := h3; exact z.elim
        | brk => obtain ⟨_, _, _, z⟩ := h3; exact z.elim
        | cont => obtain ⟨_, _, _, z⟩ := h3; exact z.elim
    | ret v => obtain ⟨_, _, _, _, _, z⟩ := h2; exact z.elim
    | brk => obtain ⟨_, _, _, z⟩ := h2; exact z.elim
    | cont => obtain ⟨_, _, _, z⟩ := h2; exact z.elim
end
end My

namespace L2
open PySem PySem.Spec PyProof.Rows
section
variable {X : Cx}
end
end L2

namespace Nm
open PySem PySem.NumText PySem.W PyProof.Rows
end Nm

namespace L2
open PySem PySem.Spec PyProof.Rows
section
variable {X : Cx}
/-! ### a module's table of texts -/
/-! ### replace of written texts -/
variable {n : Nat}
/-! ### a test that spends a token -/
end
end L2

/-! replace OF ONE SIGN, sign by sign (own work). -/
namespace Rp
open PySem PySem.StrLaws PySem.Builtin PySem.Builtin.Str
end Rp

/-! COMPREHENSIONS AND CALLS THAT ASK TOKENS, split (own work). -/
namespace L2
open PySem PySem.Spec PyProof.Rows
section
variable {X : Cx} {n : Nat}
section
variable {osc scope : Scope} {N0 xs : List Str} {fr : List Nat} {elt tg iter : Expr} {ifs : List Expr} {pos : Pos} {wi : TI} {g : TG} {tt : TT} {te : TE}
/-- a comprehension whose items ask the count of tokens -/
theorem pek_comp (C : CompTx osc scope N0 xs fr) (ho : X.env.scope = osc) (hN0 : X.N = N0) (hc : X.calm = true) (hi : PI X tg iter wi)
    (hg : ∀ s H fp, PG (cxComp X scope (compN N0 xs fr) s H fp) tg g) (ht : ∀ s H fp, PIf (cxComp X scope (compN N0 xs fr) s H fp) ifs tt) (he : ∀ s H fp, PEk n (cxComp X scope (compN N0 xs fr) s H fp) elt te)
    (hs : ∀ x, foldedSetIterable iter X.env x = pure x := by intro _; rfl) : PEk n X (.ListComp elt [⟨tg, iter, ifs, 0⟩] scope pos) (tComp xs fr wi g tt te) := by
  intro pins s σ H Q hn I h
  rw [eval_ListComp]
  refine wpAny_comprehension_free (use := none) rfl hs (clos_ok (comp_free C ho I)) C.kind C.names (thnk hn (hi pins s σ H _ I h) fun v s1 hn1 h1 => thnk hn1 h1 fun itv s2 hn2 h2 => ?_)
  obtain ⟨it, fp, tn, J, H2, e, I2, T, st2, f2, hR⟩ := h2
  subst e
  refine comp_blockK C ho hN0 hc hg ht he hn2 I2 T st2 f2 hR fun D C s' H' m I' hm fC q => ?_
  refine ⟨m, hm, fun h' sb => ⟨.ref D, H', ?_, rfl, q⟩⟩
  exact I'.turned (t' := s'.toks) (fun b o hb e => (sb.2 b hb).trans e) fC.1 fC.2.1 fC.2.2.2.1 fC.2.2.2.2.1 fC.2.2.2.2.2
end
end
end L2
namespace Rp
open PySem PySem.StrLaws PySem.Builtin PySem.Builtin.Str
end Rp

/-! A MODULE'S DICT OF TUPLES READ; A TUPLE THAT STOOD FROZEN IS THAWED (own work). -/
namespace L2
open PySem PySem.Spec PyProof.Rows PyProof.V
section
variable {X : Cx}
end
end L2

/-! TOKENS (own work): values seen with their count, in pairs; calls of types; frozen tuples thawed. -/
namespace L2
open PySem PySem.Spec PyProof.Rows
section
variable {X : Cx} {pos : Pos} {n : Nat}
theorem PE.ewn {e : Expr} {t : TE} (h : PE X e t) : EWn X e (fun m σ H Q => t σ H fun v H' => ∀ u k, m ≤ k → Q u k v H') := fun pins s m σ H Q hm I q =>
  thnk hm (h pins s σ H _ I q) fun u s1 hm1 ⟨v, H1, I1, r1, q1⟩ => ⟨v, H1, I1, r1, q1 u s1.toks hm1⟩
/-- T(e), e asks the count of tokens -/
theorem pek_callTy {T : String} {r : List V → Hp → VK → Prop} {x : Str} {p : Pos} {e : Expr} {te : TE} (hc : CallR X (.type T) r) (hg : Gl X x) (hm : X.mg x = none) (hv : bootBuiltins x = some (.type T)) (ha : PEk n X e te) (hn : x ≠ "__name__" := by decide) (hdb : (x == ("__debug__" : Str)) = false := by decide)
    (he : starEach [e] X.env = [(false, eval e X.env)] := by rfl) : PEk n X (.Call (.Name x p) [e] [] pos) (tCB r (tCons te tNil)) := by
  intro pins s σ H Q hk I h
  refine wpAny_Call_Name_kw (ld_blt I hg hm hv ?_ hn hdb)
  refine PyProof.Rows.callWith_type1 ?_ he rfl
  rw [he]
  show wpAny _ _ (spliced [(false, eval e X.env)]) _ _ s
  refine Calls.spliced_cons (thn (ha pins s σ H _ hk I h) fun u s1 ⟨v, H1, I1, r1, q1⟩ => Calls.spliced_nil ?_)
  exact hc pins s1 σ H1 [v] [u] Q I1 (.cons r1 .nil) q1
/-- a block cut in two -/
theorem psM_split {l : List Stmt} (k : Nat) {D : EndsM} {m : Nat} {σ : St} {H : Hp} (Mid : Nat → St → Hp → Prop) (h1 : ∃ T, PSsM X (l.take k) T ∧ T { D with nx := Mid } m σ H) (h2 : ∀ m σ H, Mid m σ H → ∃ T, PSsM X (l.drop k) T ∧ T D m σ H) : ∃ T, PSsM X l T ∧ T D m σ H := by
  refine ⟨fun D' m' σ' H' => D' = D ∧ m' = m ∧ σ' = σ ∧ H' = H, ?_, rfl, rfl, rfl, rfl⟩
  rintro pins s m' σ' H' D' hm I ⟨rfl, rfl, rfl, rfl⟩
  obtain ⟨T, hT, hq⟩ := h1
  have e : l = l.take k ++ l.drop k := (List.take_append_drop k l).symm
  rw [e, execs_app]
  refine wpAny_bind (thn (hT pins s m' σ' H' _ hm I hq) fun fl s2 hs => ?_)
  cases fl with
  | next =>
    obtain ⟨m2, σ2, H2, hm2, I2, q2⟩ := hs
    obtain ⟨T2, hT2, hq2⟩ := h2 m2 σ2 H2 q2
    exact hT2 pins s2 m2 σ2 H2 _ hm2 I2 hq2
  | ret u => exact wpAny_pure hs
  | brk => exact hs.elim
  | cont => exact hs.elim
end
end L2

/-! TOKENS (own work): appends, items set, pairs with a token, all with a count that grows. -/
namespace L2
open PySem PySem.Spec PyProof.Rows
section
variable {X : Cx} {pos : Pos}
theorem PEk.ewn {e : Expr} {t : Nat → TE} (h : ∀ n, PEk n X e (t n)) : EWn X e (fun m σ H Q => t m σ H fun v H' => ∀ u k, m ≤ k → Q u k v H') := fun pins s m σ H Q hm I q =>
  thnk hm (h m pins s σ H _ hm I q) fun u s1 hm1 ⟨v, H1, I1, r1, q1⟩ => ⟨v, H1, I1, r1, q1 u s1.toks hm1⟩
theorem ewn_bm1 {o e : Expr} {to : TE} {we : Nat → St → Hp → WK → Prop} {name : Str} {apos cpos : Pos} {T id : String} {r : V → List V → Hp → VK → Prop} (pa : PlainAttrs T) (slot : Slot T name id) (hty : typeOf (.builtin id) = pure (.type "method_descriptor")) (hm : MtR X id r) (ho : PE X o to) (ha : EWn X e we)
    (hbase : attributeBase o name X.env (eval o X.env) = eval o X.env := by rfl)
    (hfew : ((backTo cpos (starEach [e] X.env)).all (fun x => !x.1) && (backToKw cpos (keywordEach [] X.env)).all (fun x => x.1.isSome)
      && decide (([e] : List Expr).length + ([] : List Keyword).length + (if ([] : List Keyword).isEmpty then 0 else 1) < 30)) = true := by rfl)
    (hline : (apos.endLine == cpos.line) = true := by rfl) (hs : starEach [e] X.env = [(false, eval e X.env)] := by rfl) :
    EWn X (.Call (.Attribute o name apos) [e] [] cpos) (fun m σ H Q => to σ H fun x H1 => tyV X.K T x H1 ∧ we m σ H1 fun _ k y H2 => r x [y] H2 fun v H3 => ∀ u j, k ≤ j → Q u j v H3) := by
  intro pins s m σ H Q hn I h
  refine wpAny_Call_method_late hbase hfew hline rfl (thnk hn (ho pins s σ H _ I h) fun v s1 hn1 ⟨x, H1, I1, r1, ty, q1⟩ => ?_)
  obtain ⟨h1, h2⟩ := tyV_is I1 r1 ty
  refine ⟨T, id, pa, slot, hty, h1, h2, ?_⟩
  rw [hs]
  refine Calls.callWith_builtin rfl (Calls.evalArgs_plain ?_)
  show wpAny _ _ (spliced [(false, eval e X.env)]) _ _ s1
  refine Calls.spliced_cons (thn (ha pins s1 m σ H1 _ hn1 I1 q1) fun u s2 ⟨y, H2, I2, r2, q2⟩ => Calls.spliced_nil ?_)
  exact thnk (Nat.le_refl s2.toks) (hm pins s2 σ H2 x [y] v [u] _ I2 r1 (.cons r2 .nil) q2) fun u3 s3 hm3 ⟨v3, H3, I3, r3, q3⟩ => ⟨v3, H3, I3, r3, q3 u3 s3.toks hm3⟩
theorem psM_expr {e : Expr} {w : Nat → St → Hp → WK → Prop} (he : EWn X e w) (hs : swapsWith e none pos.line X.env = pure false := by rfl) : PSM X (.Expr e pos) (fun D m σ H => w m σ H fun _ k _ H1 => D.nx k σ H1) := by
  intro pins s m σ H D hm I h
  exact wpAny_Expr_any (thn (he pins s m σ H _ hm I h) fun v s1 ⟨x, H1, I1, r1, q1⟩ => ⟨s1.toks, σ, H1, Nat.le_refl _, I1, q1⟩) I.quiet hs
theorem psM_dput {o i value : Expr} {pos' : Pos} {td ty : TE} {w : Nat → St → Hp → WK → Prop} (hu : X.A.units + 1 < cLine) (ho : PE X o td) (hi : PE X i ty) (hv : EWn X value w) (hs : swapsWith value (some (.Subscript o i pos')) pos.line X.env = pure false) :
    PSM X (.Assign [.Subscript o i pos'] value pos) (fun D m σ H => w m σ H fun _ k v H1 => td σ H1 fun x H2 => ty σ H2 fun y H3 => ∃ a H4, x = .ref a ∧ DPut H3 a y v H4 ∧ D.nx k σ H4) := by
  intro pins s m σ H D hm I h
  refine wpAny_Assign_Subscript (thn (hv pins s m σ H _ hm I h) fun r s1 ⟨v, H1, I1, rv, q1⟩ => thnk (Nat.le_refl s1.toks) (ho pins s1 σ H1 _ I1 q1) fun u s2 hm2 ⟨x, H2, I2, rx, q2⟩ => thnk hm2 (hi pins s2 σ H2 _ I2 q2) fun iv s3 hm3 ⟨y, H3, I3, ry, a, H4, ex, g, q3⟩ => ?_) hs
  subst ex
  obtain rfl : u = Value.ref a := rx
  exact thnk hm3 (d_setItem hu I3 g ry rv (Q := fun _ s' => Inv X pins σ H4 s') fun s4 I4 => I4) fun _ s4 hm4 I4 => ⟨s1.toks, σ, H4, hm4, I4, q3⟩
theorem ewn_pairT {y : Str} {j : Nat} {cp : Pos} {x1 : Nat} {e : Expr} {wb : Nat → St → Hp → WK → Prop} (he : EWn X e wb)
    (hs : starEach [.Constant (.str y) j cp, e] X.env = [(false, eval (.Constant (.str y) j cp) X.env), (false, eval e X.env)] := by rfl) :
    EWn X (.Tuple [.Constant (.str y) j cp, e] x1 pos) (fun m σ H Q => wb m σ H fun u k v H1 => ∃ z t, u = .str z t ∧ v = .str z ∧ ∀ p (H2 : Hp), H1 p = none → Same H1 H2 → TokPair H2 p y z t → Q (.ref p) k (.ref p) H2) :=
  fun pins s m σ H Q hm I h => ev_pair (n := m) I hm (fun s1 I1 h1 => he pins s1 m σ H _ h1 I1 h) hs
theorem EWn.ge {e : Expr} {w : Nat → St → Hp → WK → Prop} (h : EWn X e w) : EWn X e (fun m σ H Q => w m σ H fun u k v H' => m ≤ k → Q u k v H') := fun pins s m σ H Q hm I q => thnk hm (h pins s m σ H _ hm I q) fun u s1 hm1 ⟨v, H1, I1, r1, q1⟩ => ⟨v, H1, I1, r1, q1 hm1⟩
theorem FnOkW.le {n m : Nat} {P : Program} {w : World} {K : PySem.W.Frag} {mg : Str → Option Value} {base : Heap} {k : Nat} {f : Addr} {fd : FuncData} {ps : List Str} {sp : SpW} (h : n ≤ m) (F : FnOkW n P w K mg base k f fd ps sp) : FnOkW m P w K mg base k f fd ps sp := ⟨F.len, fun A outer s H args us vs Q hn => F.run A outer s H args us vs Q (Nat.le_trans h hn)⟩
theorem TokPair.rd {H : Hp} {a : Addr} {y z : Str} {t : Tok} (h : TokPair H a y z t) : Rd H a (.tup [.str y, .str z]) := let ⟨o, _, _, e, _⟩ := h; .inr ⟨o, e⟩
/-- ** of a large number -/
theorem op_powB : OpR X (binaryOp .Pow) (rI (fun i j => 0 ≤ j ∧ (Builtin.Int.intBits i : Int) * j ≤ 2 ^ 27) fun i j => .int (i ^ j.toNat)) := opI fun _ _ _ _ _ _ _ hc q => pow_int hc.1 hc.2 q
/-- a loop, its reading told by a name -/
def ForM (J : It) (g : TG) (T : TSM) (D : EndsM) (m : Nat) (σ : St) (H : Hp) : Prop := ∃ W : Nat → Nat → Nat → St → Hp → Prop, (∃ n, W 0 n m σ H) ∧ ∀ i n m σ H, W i n m σ H →
  (J.stop i H ∧ D.nx m σ H) ∨ (J.go i H ∧ ∃ N : Nat → St → Hp → Prop, (∀ m' σ' H', N m' σ' H' → ∃ n', n' < n ∧ W (i + 1) n' m' σ' H') ∧ ∀ x H', J.yld i H x H' → g x σ H' fun σ2 H2 => T { D with nx := N } m σ2 H2)
def tForF (wi : TI) (g : TG) (T : TSM) : TSM := fun D m σ H => wi σ H fun J H1 => ForM J g T D m σ H1
theorem psM_forF {T : TSM} {tg iter : Expr} {body : List Stmt} {wi : TI} {g : TG} (hp : PassesOwn (model X.prog X.w) X.A X.env X.xe) (hc : X.calm = true) (hi : PI X tg iter wi) (hg : PG X tg g) (hb : PSsM X body T)
    (hs : ∀ x, foldedSetIterable iter X.env x = pure x := by intro _; rfl) : PSM X (.For tg iter body [] pos) (tForF wi g T) := psM_for hp hc hi hg hb hs
theorem forF_range {T : TSM} {n : Nat} {g : TG} {D : EndsM} {m : Nat} {σ : St} {H : Hp} {a : Int} (Pv : Nat → Nat → St → Hp → Prop) (h0 : Pv 0 m σ H)
    (hs : ∀ i m σ H, i < n → Pv i m σ H → g (.int (a + i)) σ H fun σ2 H2 => T { D with nx := Pv (i + 1) } m σ2 H2) (hd : ∀ m σ H, Pv n m σ H → D.nx m σ H) : ForM (Itr a n) g T D m σ H := forM_range Pv h0 hs hd
/-- [a, b, e], e seen with its count -/
theorem ewn_lst3 {a b e : Expr} {ta tb : TE} {we : Nat → St → Hp → WK → Prop} (ha : PE X a ta) (hb : PE X b tb) (he : EWn X e we) (hs : starEach [a, b, e] X.env = [(false, eval a X.env), (false, eval b X.env), (false, eval e X.env)] := by rfl) :
    EWn X (.List [a, b, e] pos) (fun m σ H Q => ta σ H fun x H1 => tb σ H1 fun y H2 => we m σ H2 fun _ k v H3 => ∀ p, H3 p = none → Q (.ref p) k (.ref p) (upd H3 p (.lst [x, y, v]))) := by
  intro pins s m σ H Q hm I h
  refine wpAny_List_spliced ?_
  rw [hs]
  show wpAny _ _ (spliced [(false, eval a X.env), (false, eval b X.env), (false, eval e X.env)]) _ _ s
  refine Calls.spliced_cons (thnk hm (ha pins s σ H _ I h) fun u s1 hm1 ⟨x, H1, I1, r1, q1⟩ => ?_)
  refine Calls.spliced_cons (thnk hm1 (hb pins s1 σ H1 _ I1 q1) fun u1 s2 hm2 ⟨y, H2, I2, r2, q2⟩ => ?_)
  refine Calls.spliced_cons (thn (he pins s2 m σ H2 _ hm2 I2 q2) fun u2 s3 ⟨v, H3, I3, r3, q3⟩ => Calls.spliced_nil ⟨(show 3 ≤ sizeLine by decide), ?_⟩)
  have hf : H3 s3.heap.objs.size = none := I3.hok.fresh (Nat.le_refl _)
  refine ⟨.ref s3.heap.objs.size, upd H3 s3.heap.objs.size (.lst [x, y, v]), I3.laid (t' := s3.toks) (fun b u e => Heap.get?_push_of_some _ e) (Nat.le_refl _) ?_, rfl, q3 _ hf⟩
  exact ⟨(show 3 ≤ sizeLine by decide), [u, u1, u2], _, .cons r1 (.cons r2 (.cons r3 .nil)), Heap.get?_push_size _ rfl⟩
end
end L2

namespace My
open PySem L2 PyProof.Rows
seal L2.PE L2.PT L2.PW L2.PS L2.PSs L2.PA L2.PI L2.PG L2.PGs L2.OpR L2.CallR L2.IxR L2.SlR L2.MtR L2.PIf L2.PO L2.MtM L2.PC L2.PSM L2.PSsM L2.EWn L2.PEk L2.PSk L2.PSsk
/-! ### kinds, with the tokens of their signs -/
inductive Pl (H : Hp) (m : Nat) (a : Addr) : Prop
  | whole (h : H a = some (.tup [.str "whole"]))
  | below (i : Int) (hi : 1 ≤ i) (h : H a = some (.tup [.str "below", .int i]))
  | upto (i : Int) (h : H a = some (.tup [.str "upto", .int i]))
  | word (h : H a = some (.tup [.str "word"]))
  | without (c : Nat) (t : Tok) (hc : okSign c) (h : TokPair H a "without" ⟨#[c]⟩ t) (h1 : 1 ≤ t) (h2 : t < m)
theorem Pl.same {H H' : Hp} {m : Nat} {a : Addr} (h : Pl H m a) (s : Same H H') : Pl H' m a := by
  cases h with
  | whole h => exact .whole (s _ _ h)
  | below i hi h => exact .below i hi (s _ _ h)
  | upto i h => exact .upto i (s _ _ h)
  | word h => exact .word (s _ _ h)
  | without c t hc h h1 h2 => exact .without c t hc (h.same s) h1 h2
theorem Pl.up {H : Hp} {m m' : Nat} {a : Addr} (h : Pl H m a) (s : m ≤ m') : Pl H m' a := by
  cases h with
  | whole h => exact .whole h
  | below i hi h => exact .below i hi h
  | upto i h => exact .upto i h
  | word h => exact .word h
  | without c t hc h h1 h2 => exact .without c t hc h h1 (Nat.lt_of_lt_of_le h2 s)
def Wd (x : Str) : Prop := x = "whole" ∨ x = "below" ∨ x = "upto" ∨ x = "word" ∨ x = "without"
theorem Pl.rd {H : Hp} {m : Nat} {a : Addr} (h : Pl H m a) : ∃ x r, Rd H a (.tup (.str x :: r)) ∧ Wd x ∧ r.length ≤ 1 ∧ ∀ y ∈ r, flt y = true := by
  cases h with
  | whole h => exact ⟨_, _, .inl h, .inl rfl, by decide, fun y hy => nomatch hy⟩
  | below i hi h => exact ⟨_, _, .inl h, .inr (.inl rfl), by show 1 ≤ 1; decide, fun y hy => by rw [List.mem_singleton.mp hy]; rfl⟩
  | upto i h => exact ⟨_, _, .inl h, .inr (.inr (.inl rfl)), by show 1 ≤ 1; decide, fun y hy => by rw [List.mem_singleton.mp hy]; rfl⟩
  | word h => exact ⟨_, _, .inl h, .inr (.inr (.inr (.inl rfl))), by decide, fun y hy => nomatch hy⟩
  | without c t hc h h1 h2 => exact ⟨_, _, h.rd, .inr (.inr (.inr (.inr rfl))), by show 1 ≤ 1; decide, fun y hy => by rw [List.mem_singleton.mp hy]; rfl⟩
inductive Kd (H : Hp) (m : Nat) (a : Addr) : Prop
  | pl (h : Pl H m a)
  | key (h : H a = some (.tup [.str "key"]))
  | more (so : Str) (hs : so = "list" ∨ so = "some" ∨ so = "once") (b : Addr) (h : H a = some (.tup [.str so, .ref b])) (hp : Pl H m b)
theorem Kd.same {H H' : Hp} {m : Nat} {a : Addr} (h : Kd H m a) (s : Same H H') : Kd H' m a := by
  cases h with
  | pl h => exact .pl (h.same s)
  | key h => exact .key (s _ _ h)
  | more so hs b h hp => exact .more so hs b (s _ _ h) (hp.same s)
theorem Kd.up {H : Hp} {m m' : Nat} {a : Addr} (h : Kd H m a) (s : m ≤ m') : Kd H m' a := by
  cases h with
  | pl h => exact .pl (h.up s)
  | key h => exact .key h
  | more so hs b h hp => exact .more so hs b h (hp.up s)
/-- .. what it takes to stand as one -/
def spPlM (m : Nat) : SpW := fun vs H Q => ∃ n : Int, vs = [.int n] ∧ ∀ a H' u k, m ≤ k → Same H H' → Pl H' k a → Q u k (.ref a) H'
def spKdM (m : Nat) : SpW := fun vs H Q => ∃ n : Int, vs = [.int n] ∧ ∀ a H' u k, m ≤ k → Same H H' → Kd H' k a → Q u k (.ref a) H'
theorem okSign_ne {c : Nat} : (({ cps := #[c] } : Str) == (⟨#[]⟩ : Str)) = false := by
  rw [beq_eq_false_iff_ne]
  intro e
  injection e with e
  have := congrArg Array.size e
  simp at this
section
variable {P : Program} {w : World} {K : PySem.W.Frag} {mg : Str → Option Value} {base : Heap}
theorem ok_plM {f fS : Addr} {fd fdS : FuncData} (F : Fun K "_law_plain" "_law_plain" (top 22) f fd) (DS : Df K mg "_law_sign" (top 18) fS fdS) (m : Nat) : FnOkW m P w K mg base 2 f fd ["_law_number"] (spPlM m) := by
  have sc : FnScope ["_law_number", "_law_far", "_law_size", "_law_some"] ["_law_number"] (defScope (top 22)) := ⟨rfl, rfl, rfl, by decide +kernel, rfl, by decide +kernel, by decide +kernel⟩
  have GS : ∀ n, FnOkW n P w K mg base 1 fS fdS ["_law_number"] spSignW := fun n => (ok_signW DS.fn).le (Nat.zero_le n)
  have bS := DS.fn.binds (ps := ["_law_number"]) fun _ _ _ _ _ _ us hl => by obtain ⟨v0, rfl⟩ := L2.ln1 hl; rfl
  refine F.okM sc (fun vs H Q h => ?_) (fun cdv A outer s H vs Q hr h => ?_)
  · obtain ⟨n, rfl, _⟩ := h
    rfl
  · obtain ⟨n, rfl, q⟩ := h
    refine ⟨_, psM_cons (PS.m (ps_set (i := 1) sc.nd rfl (Or.inl rfl) (pe_ix ix_list (pe_lst (pa_cons pe_int (pa_cons (pe_op op_pow pe_int pe_int) pa_nil))) (pe_op op_fdiv (pe_op op_mod (pe_op op_fdiv (pv 0) pe_int) pe_int) pe_int) (fun _ _ => rfl))))
      (psM_cons (PS.m (ps_set (i := 2) sc.nd rfl (Or.inl rfl) (pe_op op_mod (pe_op op_fdiv (pv 0) pe_int) pe_int)))
      (psM_cons (PS.m (ps_set (i := 3) sc.nd rfl (Or.inl rfl) (pe_lst (pa_cons (pe_tup (pa_cons pe_str pa_nil)) (pa_cons (pe_tup (pa_cons pe_str (pa_cons (pe_op op_add pe_int (pe_op op_mul (pv 2) (pv 1))) pa_nil))) (pa_cons (pe_tup (pa_cons pe_str (pa_cons (pe_op op_mul (pe_op op_sub (pv 2) pe_int) (pv 1)) pa_nil))) (pa_cons (pe_tup (pa_cons pe_str pa_nil)) pa_nil)))))))
      (psM_cons (psM_expr (ewn_bm1 PySem.F.plainAttrs_list PySem.F.slot_list_append PySem.F.type_list_append mt_app (pv 3) (ewn_pairT (EWn.ge (ewn_callW GS hr (by rfl) DS.mg DS.fn.kp bS (pa_cons (pe_op op_fdiv (pv 0) pe_int) pa_nil))))))
      (psM_one (psM_ret (PE.ewn (pe_ix ix_list (pv 3) (pe_op op_mod (pv 0) pe_int) (fun _ _ => rfl)))))))), ?_⟩
    have pw : CPow 10 40 := ⟨by decide, by decide, by decide⟩
    have f0 : 0 ≤ n / 5 % 3 / 2 ∧ n / 5 % 3 / 2 < 2 := by omega
    refine ⟨_, _, rfl, rfl, pw, (by show 2 ≤ sizeLine; decide), fun l hl => ?_⟩
    obtain ⟨far, e1, e2⟩ := at_mem (l := [.int 1, .int (10 ^ (40 : Int).toNat)]) f0.1 f0.2
    have hfar : ∃ fr : Int, far = .int fr ∧ 1 ≤ fr := by
      rcases List.mem_cons.mp e2 with rfl | h
      · exact ⟨1, rfl, by decide⟩
      · rw [List.mem_singleton.mp h]
        exact ⟨10 ^ (40 : Int).toNat, rfl, by decide +kernel⟩
    obtain ⟨fr, rfl, hfr⟩ := hfar
    refine ⟨_, rfl, _, _, rfl, rfl, ⟨by decide, by decide⟩, _, _, rfl, rfl, (pos rfl), _, _, rfl, rfl, ⟨by decide, by decide⟩, l, _, _, _, rfl, rfl, SqL.of upd_same, e1, ?_⟩
    have s1 : Same H (upd H l (.lst [.int 1, .int (10 ^ (40 : Int).toNat)])) := Same.upd hl
    dsimp only
    generalize upd H l (.lst [.int 1, .int (10 ^ (40 : Int).toNat)]) = H1 at *
    refine ⟨_, rfl, _, _, rfl, rfl, ⟨by decide, by decide⟩, _, _, rfl, rfl, (pos rfl), ?_⟩
    have z0 : 0 ≤ n / 15 % 1000 ∧ n / 15 % 1000 < 1000 := by omega
    dsimp only
    generalize n / 15 % 1000 = z at *
    refine ⟨(by decide), fun p1 h1 => ⟨_, rfl, _, rfl, _, _, rfl, rfl, .inl ⟨by omega, by omega⟩, _, _, rfl, rfl, (show 2 ≤ sizeLine by decide), fun p2 h2 => ⟨_, rfl, _, _, rfl, rfl, _, rfl, _, _, rfl, rfl, .inl ⟨by omega, by omega⟩, (show 2 ≤ sizeLine by decide), fun p3 h3 => ⟨(by decide), fun p4 h4 => ⟨(show 4 ≤ sizeLine by decide), fun l2 hl2 => ?_⟩⟩⟩⟩⟩
    have e1 : H1 l2 = none := none_of ((((Same.upd h1).trans (Same.upd h2)).trans (Same.upd h3)).trans (Same.upd h4)) hl2
    have T1 := Same.upd (o := .tup [.str "whole"]) h1
    have T2 := Same.upd (o := .tup [.str "below", .int (1 + z * fr)]) h2
    have T3 := Same.upd (o := .tup [.str "upto", .int ((z - 500) * fr)]) h3
    have T4 := Same.upd (o := .tup [.str "word"]) h4
    have T5 := Same.upd (o := .lst [.ref p1, .ref p2, .ref p3, .ref p4]) hl2
    have g1 := T5 _ _ (T4 _ _ (T3 _ _ (T2 _ _ (upd_same (H := H1) (a := p1) (o := .tup [.str "whole"])))))
    have g2 := T5 _ _ (T4 _ _ (T3 _ _ (upd_same (a := p2) (o := .tup [.str "below", .int (1 + z * fr)]))))
    have g3 := T5 _ _ (T4 _ _ (upd_same (a := p3) (o := .tup [.str "upto", .int ((z - 500) * fr)])))
    have g4 := T5 _ _ (upd_same (a := p4) (o := .tup [.str "word"]))
    have g5 := upd_same (a := l2) (o := .lst [.ref p1, .ref p2, .ref p3, .ref p4]) (H := upd (upd (upd (upd H1 p1 (.tup [.str "whole"])) p2 (.tup [.str "below", .int (1 + z * fr)])) p3 (.tup [.str "upto", .int ((z - 500) * fr)])) p4 (.tup [.str "word"]))
    have sA := s1.trans ((((T1.trans T2).trans T3).trans T4).trans T5)
    have n2 : H l2 = none := none_of s1 e1
    dsimp only
    generalize upd (upd (upd (upd (upd H1 p1 (.tup [.str "whole"])) p2 (.tup [.str "below", .int (1 + z * fr)])) p3 (.tup [.str "upto", .int ((z - 500) * fr)])) p4 (.tup [.str "word"])) l2 (.lst [.ref p1, .ref p2, .ref p3, .ref p4]) = H2 at *
    refine ⟨_, rfl, .inl ⟨rfl, _, SqL.of g5⟩, _, rfl, _, _, rfl, rfl, ⟨by decide, by decide⟩, _, rfl, fun ch t k o1 o2 o3 hk => ⟨_, t, rfl, rfl, fun p H3 hp s3 tp => ?_⟩⟩
    refine ⟨l2, _, _, rfl, rfl, s3 _ _ g5, (by show 4 < sizeLine; decide), fun u j hj => ?_⟩
    have nl : ∀ b xs, H2 b = some (.tup xs) → b ≠ l2 := fun b xs e z => by rw [z, g5] at e; cases e
    have npl : p ≠ l2 := fun z => by rw [z, g5] at hp; cases hp
    have m5 := Int.emod_nonneg n (show (5 : Int) ≠ 0 by decide)
    have m6 := Int.emod_lt_of_pos n (show (0 : Int) < 5 by decide)
    obtain ⟨v, ev, hv⟩ := at_mem (l := [.ref p1, .ref p2, .ref p3, .ref p4, .ref p]) m5 m6
    refine ⟨_, rfl, _, rfl, _, _, rfl, rfl, (pos rfl), l2, _, _, v, rfl, rfl, SqL.of upd_same, ev, fun u2 k2 hk2 u3 k3 hk3 => ?_⟩
    have sF : Same H (upd H3 l2 (.lst ([.ref p1, .ref p2, .ref p3, .ref p4] ++ [.ref p]))) := (sA.trans s3).put n2
    have up : ∀ b xs, H2 b = some (.tup xs) → upd H3 l2 (.lst ([.ref p1, .ref p2, .ref p3, .ref p4] ++ [.ref p])) b = some (.tup xs) := fun b xs e => (upd_ne (nl b xs e)).trans (s3 _ _ e)
    have fin : ∃ a, v = .ref a ∧ Pl (upd H3 l2 (.lst ([.ref p1, .ref p2, .ref p3, .ref p4] ++ [.ref p]))) k3 a := by
      have hv' : v = .ref p1 ∨ v = .ref p2 ∨ v = .ref p3 ∨ v = .ref p4 ∨ v = .ref p := by simpa using hv
      rcases hv' with rfl | rfl | rfl | rfl | rfl
      · exact ⟨_, rfl, .whole (up _ _ g1)⟩
      · refine ⟨_, rfl, .below _ ?_ (up _ _ g2)⟩
        have := Int.mul_nonneg z0.1 (show 0 ≤ fr by omega)
        omega
      · exact ⟨_, rfl, .upto _ (up _ _ g3)⟩
      · exact ⟨_, rfl, .word (up _ _ g4)⟩
      · obtain ⟨o, u0, m0, t1, t2⟩ := tp
        exact ⟨_, rfl, .without ch t o1 ⟨o, u0, m0, (upd_ne npl).trans t1, t2⟩ o2 (Nat.lt_of_lt_of_le o3 (by omega))⟩
    obtain ⟨a, rfl, ha⟩ := fin
    exact q a _ u3 k3 (by omega) sF ha
theorem ok_kdM {f fP fS : Addr} {fd fdP fdS : FuncData} (F : Fun K "_law_kind" "_law_kind" (top 23) f fd) (DP : Df K mg "_law_plain" (top 22) fP fdP) (DS : Df K mg "_law_sign" (top 18) fS fdS) (m : Nat) : FnOkW m P w K mg base 3 f fd ["_law_number"] (spKdM m) := by
  have sc : FnScope ["_law_number", "_law_plain_here"] ["_law_number"] (defScope (top 23)) := ⟨rfl, rfl, rfl, by decide +kernel, rfl, by decide +kernel, by decide +kernel⟩
  have GP : ∀ n, FnOkW n P w K mg base 2 fP fdP ["_law_number"] (spPlM n) := fun n => ok_plM DP.fn DS n
  have bP := DP.fn.binds (ps := ["_law_number"]) fun _ _ _ _ _ _ us hl => by obtain ⟨v0, rfl⟩ := L2.ln1 hl; rfl
  refine F.okM sc (fun vs H Q h => ?_) (fun cdv A outer s H vs Q hr h => ?_)
  · obtain ⟨n, rfl, _⟩ := h
    rfl
  · obtain ⟨n, rfl, q⟩ := h
    refine ⟨_, psM_cons (psM_set (i := 1) (ewn_callW GP hr (by rfl) DP.mg DP.fn.kp bP (pa_cons (pe_op op_fdiv (pv 0) pe_int) pa_nil)) sc.nd rfl (Or.inl rfl))
      (psM_one (psM_ret (PE.ewn (pe_ix ix_list (pe_lst (pa_cons (pv 1) (pa_cons (pv 1) (pa_cons (pe_tup (pa_cons pe_str pa_nil)) (pa_cons (pe_tup (pa_cons pe_str (pa_cons (pv 1) pa_nil))) (pa_cons (pe_tup (pa_cons pe_str (pa_cons (pv 1) pa_nil))) (pa_cons (pe_tup (pa_cons pe_str (pa_cons (pv 1) pa_nil))) pa_nil))))))) (pe_op op_mod (pv 0) pe_int) (fun _ _ => rfl))))), ?_⟩
    refine ⟨_, rfl, _, _, rfl, rfl, ⟨by decide, by decide⟩, _, rfl, fun a H1 u k hk s1 ha => ?_⟩
    refine ⟨_, rfl, _, rfl, (by decide), fun p1 h1 => ⟨_, rfl, (show 2 ≤ sizeLine by decide), fun p2 h2 => ⟨_, rfl, (show 2 ≤ sizeLine by decide), fun p3 h3 => ⟨_, rfl, (show 2 ≤ sizeLine by decide), fun p4 h4 => ⟨(show 6 ≤ sizeLine by decide), fun l hl => ?_⟩⟩⟩⟩⟩
    have T1 := Same.upd (o := .tup [.str "key"]) h1
    have T2 := Same.upd (o := .tup [.str "list", .ref a]) h2
    have T3 := Same.upd (o := .tup [.str "some", .ref a]) h3
    have T4 := Same.upd (o := .tup [.str "once", .ref a]) h4
    have T5 := Same.upd (o := .lst [.ref a, .ref a, .ref p1, .ref p2, .ref p3, .ref p4]) hl
    have g1 := T5 _ _ (T4 _ _ (T3 _ _ (T2 _ _ (upd_same (H := H1) (a := p1) (o := .tup [.str "key"])))))
    have g2 := T5 _ _ (T4 _ _ (T3 _ _ (upd_same (a := p2) (o := .tup [.str "list", .ref a]))))
    have g3 := T5 _ _ (T4 _ _ (upd_same (a := p3) (o := .tup [.str "some", .ref a])))
    have g4 := T5 _ _ (upd_same (a := p4) (o := .tup [.str "once", .ref a]))
    have sT := (((T1.trans T2).trans T3).trans T4).trans T5
    have m5 := Int.emod_nonneg n (show (6 : Int) ≠ 0 by decide)
    have m6 := Int.emod_lt_of_pos n (show (0 : Int) < 6 by decide)
    obtain ⟨v, ev, hv⟩ := at_mem (l := [.ref a, .ref a, .ref p1, .ref p2, .ref p3, .ref p4]) m5 m6
    refine ⟨_, rfl, _, _, rfl, rfl, (pos rfl), l, _, _, v, rfl, rfl, SqL.of upd_same, ev, fun u2 k2 hk2 u3 k3 hk3 => ?_⟩
    have hA := (ha.same sT).up (show k ≤ k3 by omega)
    have hv' : v = .ref a ∨ v = .ref a ∨ v = .ref p1 ∨ v = .ref p2 ∨ v = .ref p3 ∨ v = .ref p4 := by simpa using hv
    rcases hv' with rfl | rfl | rfl | rfl | rfl | rfl
    · exact q _ _ u3 k3 (by omega) (s1.trans sT) (.pl hA)
    · exact q _ _ u3 k3 (by omega) (s1.trans sT) (.pl hA)
    · exact q _ _ u3 k3 (by omega) (s1.trans sT) (.key g1)
    · exact q _ _ u3 k3 (by omega) (s1.trans sT) (.more _ (.inl rfl) _ g2 hA)
    · exact q _ _ u3 k3 (by omega) (s1.trans sT) (.more _ (.inr (.inl rfl)) _ g3 hA)
    · exact q _ _ u3 k3 (by omega) (s1.trans sT) (.more _ (.inr (.inr rfl)) _ g4 hA)
end
end My

namespace My
open PySem L2 PyProof.Rows
seal L2.PE L2.PT L2.PW L2.PS L2.PSs L2.PA L2.PI L2.PG L2.PGs L2.OpR L2.CallR L2.IxR L2.SlR L2.MtR L2.PIf L2.PO L2.MtM L2.PC L2.PSM L2.PSsM L2.EWn L2.PEk L2.PSk L2.PSsk
theorem boot_min : bootBuiltins "min" = some (.builtin "min") := by decide +kernel
def spPv (m : Nat) : SpK := fun vs H Q => ∃ (a : Addr) (c k : Int), vs = [.ref a, .int c, .int k] ∧ Pl H m a ∧ ∀ v, flt v = true → Q v H
/-- a value: flat, or a tuple of such -/
def VOk (H : Hp) (v : V) : Prop := flt v = true ∨ ∃ a xs, v = .ref a ∧ H a = some (.tup xs) ∧ ∀ x ∈ xs, flt x = true
theorem VOk.same {H H' : Hp} {v : V} (h : VOk H v) (s : Same H H') : VOk H' v := h.imp id fun ⟨a, xs, e1, e2, e3⟩ => ⟨a, xs, e1, s _ _ e2, e3⟩
/-! ### trees of tuples -/
inductive Tq (H : Hp) : Nat → V → Prop
  | flat {n : Nat} {v : V} (h : flt v = true) : Tq H n v
  | tup {n : Nat} {a : Addr} {xs : List V} (e : Rd H a (.tup xs)) (hl : xs.length ≤ 1000) (h : ∀ x ∈ xs, Tq H n x) : Tq H (n + 1) (.ref a)
theorem Tq.same {H H' : Hp} (s : Same H H') {n : Nat} {v : V} (h : Tq H n v) : Tq H' n v := by
  induction h with
  | flat h => exact .flat h
  | tup e hl _ ih => exact .tup (e.same s) hl ih
def spVa (m : Nat) : SpK := fun vs H Q => ∃ (a : Addr) (c k z : Int), vs = [.ref a, .int c, .int k, .int z] ∧ Kd H m a ∧ 1 ≤ z ∧ ∀ v H', Same H H' → VOk H' v → Tq H' 1 v → Q v H'
section
variable {P : Program} {w : World} {K : PySem.W.Frag} {mg : Str → Option Value} {base : Heap}
theorem ok_pvM {f fM fT fS : Addr} {fd fdM fdT fdS : FuncData} (F : Fun K "_law_plain_value" "_law_plain_value" (top 20) f fd) (B : Bl mg) (DM : Df K mg "_law_mix" (top 14) fM fdM) (DT : Df K mg "_law_text" (top 19) fT fdT) (DS : Df K mg "_law_sign" (top 18) fS fdS) (m : Nat) : FnOkW m P w K mg base 3 f fd ["_law_kind_here", "_law_cell_here", "_law_k"] (toW (spPv m)) := by
  have sc : FnScope ["_law_kind_here", "_law_cell_here", "_law_k", "_law_number", "_law_whole"] ["_law_kind_here", "_law_cell_here", "_law_k"] (defScope (top 20)) := ⟨rfl, rfl, rfl, by decide +kernel, rfl, by decide +kernel, by decide +kernel⟩
  have GM : FnOk P w K mg base CX0 2 fM fdM ["_law_cell_here", "_law_k"] spMix := (ok_mix DM.fn).mono (by omega)
  have GT : FnOk P w K mg base CX0 2 fT fdT ["_law_number"] spText := ok_text DT.fn B DS
  have bM := DM.fn.binds (ps := ["_law_cell_here", "_law_k"]) fun _ _ _ _ _ _ us hl => by obtain ⟨v0, v1, rfl⟩ := L2.ln2 hl; rfl
  have bT := DT.fn.binds (ps := ["_law_number"]) fun _ _ _ _ _ _ us hl => by obtain ⟨v0, rfl⟩ := L2.ln1 hl; rfl
  refine F.okK sc (fun vs H Q h => ?_) (fun cdv A outer s H vs Q hr h => ?_)
  · obtain ⟨a, c, k, rfl, _⟩ := h
    rfl
  · obtain ⟨a, c, k, rfl, ha, q⟩ := h
    by_cases hw : ∃ ch t, okSign ch ∧ TokPair H a "without" ⟨#[ch]⟩ t ∧ 1 ≤ t ∧ t < m
    · obtain ⟨ch, t, oc, tp, t1, tn⟩ := hw
      refine ⟨_, pssk_cons (PS.k (ps_set (i := 3) sc.nd rfl (Or.inl rfl) (pe_call GM hr (by rfl) DM.mg DM.fn.kp bM .nil pass0 (pa_cons (pv 1) (pa_cons (pv 2) pa_nil)))))
        (pssk_cons (PS.k (ps_if (pt_cmpR op_eq (pe_ix ix_tup (pv 0) pe_int (fun _ _ => rfl)) pe_str (nomark _)) pss_never pss_nil))
        (pssk_cons (psk_if (pt_cmpR op_eq (pe_ix ix_tup (pv 0) pe_int (fun _ _ => rfl)) pe_str (nomark _)) (pssk_one (psk_ret (pek_strike (C := fun σ H' => σ[0]? = some (some (.ref a)) ∧ TokPair H' a "without" ⟨#[ch]⟩ t) (z := ⟨#[ch]⟩) okSign_ne (Nat.ne_of_gt t1) tn (pe_call GT hr (by rfl) DT.mg DT.fn.kp bT .nil pass0 (pa_cons (pv 3) pa_nil)) (pv 0) (fun σ H' hc => ⟨hc.2, _, hc.1, rfl, rfl⟩) (fun _ _ => rfl)))) (PSs.k pss_nil))
        (PSs.k pss_never))), ?_⟩
      refine ⟨_, rfl, _, rfl, _, _, rfl, fun i i0 i1 => ?_⟩
      refine ⟨_, rfl, a, _, 0, .str "without", rfl, rfl, tp.sq, rfl, rfl, _, rfl, iteC (by decide) ?_⟩
      refine ⟨_, rfl, a, _, 0, .str "without", rfl, rfl, tp.sq, rfl, rfl, _, rfl, iteB (by decide) ?_⟩
      exact ⟨⟨rfl, tp⟩, _, rfl, _, rfl, i0, fun z hz => ⟨rfl, z, rfl, by omega, q _ rfl⟩⟩
    · refine ⟨_, PSs.k (pss_cons (ps_set (i := 3) sc.nd rfl (Or.inl rfl) (pe_call GM hr (by rfl) DM.mg DM.fn.kp bM .nil pass0 (pa_cons (pv 1) (pa_cons (pv 2) pa_nil))))
        (pss_cons (ps_if (pt_cmpR op_eq (pe_ix ix_tup (pv 0) pe_int (fun _ _ => rfl)) pe_str (nomark _)) (pss_one (ps_ret (pe_call GT hr (by rfl) DT.mg DT.fn.kp bT .nil pass0 (pa_cons (pv 3) pa_nil)))) pss_nil)
        (pss_cons (ps_if (pt_cmpR op_eq (pe_ix ix_tup (pv 0) pe_int (fun _ _ => rfl)) pe_str (nomark _)) pss_never pss_nil)
        (pss_cons (ps_set (i := 4) sc.nd rfl (Or.inl rfl) (pe_op op_sub (pe_op op_mod (pv 3) pe_int) pe_int))
        (pss_cons (ps_cut21 (ps_if (pt_cmpR op_eq (pe_op op_mod (pe_op op_fdiv (pv 3) pe_int) pe_int) pe_int (nomark _)) (pss_one (ps_set (i := 4) sc.nd rfl (Or.inl rfl) (pe_op op_sub (pe_op op_mod (pv 1) (pe_op op_mul pe_int (pe_op op_powB (pe_op op_pow pe_int pe_int) pe_int))) (pe_op op_powB (pe_op op_pow pe_int pe_int) pe_int)))) pss_nil))
        (pss_cons (ps_if (pt_cmpR op_eq (pe_ix ix_tup (pv 0) pe_int (fun _ _ => rfl)) pe_str (nomark _)) (pss_one (ps_ret (pe_op op_mod (pv 4) (pe_ix ix_tup (pv 0) pe_int (fun _ _ => rfl))))) pss_nil)
        (pss_cons (ps_if (pt_cmpR op_eq (pe_ix ix_tup (pv 0) pe_int (fun _ _ => rfl)) pe_str (nomark _)) (pss_one (ps_ret (pe_op op_sub (pe_ix ix_tup (pv 0) pe_int (fun _ _ => rfl)) (pe_callB call_abs (by rfl) B.abs boot_abs (pa_cons (pv 4) pa_nil))))) pss_nil)
        (pss_one (ps_ret (pv 4)))))))))), ?_⟩
      refine ⟨_, rfl, _, rfl, _, _, rfl, fun i i0 i1 => ?_⟩
      have hx : ∃ x r, H a = some (.tup (.str x :: r)) ∧ x ≠ "without" ∧ (x = "below" → ∃ j : Int, 1 ≤ j ∧ r = [.int j]) ∧ (x = "upto" → ∃ j : Int, r = [.int j]) := by
        cases ha with
        | whole h => exact ⟨_, _, h, by decide, fun e => absurd e (by decide), fun e => absurd e (by decide)⟩
        | below j hj h => exact ⟨_, _, h, by decide, fun _ => ⟨j, hj, rfl⟩, fun e => absurd e (by decide)⟩
        | upto j h => exact ⟨_, _, h, by decide, fun e => absurd e (by decide), fun _ => ⟨j, rfl⟩⟩
        | word h => exact ⟨_, _, h, by decide, fun e => absurd e (by decide), fun e => absurd e (by decide)⟩
        | without ch t oc h h1 h2 => exact absurd ⟨ch, t, oc, h, h1, h2⟩ hw
      obtain ⟨x, r, e, nw, hb, hu⟩ := hx
      have sq : SqT K H a (.str x :: r) := SqT.of e
      have h0 : atI (V.str x :: r) 0 = some (.str x) := atI_nat (j := 0) rfl
      refine ⟨_, rfl, a, _, 0, .str x, rfl, rfl, sq, h0, rfl, _, rfl, ?_⟩
      refine ite2 (fun _ => ⟨_, rfl, _, rfl, i0, fun z hz => q _ rfl⟩) (fun _ => ?_)
      refine ⟨_, rfl, a, _, 0, .str x, rfl, rfl, sq, h0, rfl, _, rfl, iteC (decide_eq_false fun e => nw (by injection e)) ?_⟩
      refine ⟨_, rfl, _, _, rfl, rfl, (pos rfl), _, _, rfl, rfl, ?_⟩
      refine ⟨fun σ' H' => H' = H ∧ ∃ j : Int, σ' = [some (.ref a), some (.int c), some (.int k), some (.int i), some (.int j)], ?_, ?_⟩
      · refine ⟨_, rfl, _, _, rfl, rfl, ⟨by decide, by decide⟩, _, _, rfl, rfl, (pos rfl), rfl, _, rfl, ?_⟩
        refine ite2 (fun _ => ?_) (fun _ => ⟨rfl, _, rfl⟩)
        have pw : CPow 10 57 := ⟨by decide, by decide, by decide⟩
        exact ⟨_, rfl, _, _, rfl, rfl, pw, _, _, rfl, rfl, ⟨by decide, by decide +kernel⟩, _, _, rfl, rfl, .inl ⟨by decide, by decide⟩, _, _, rfl, rfl, (pos (by decide +kernel)), _, _, rfl, rfl, pw, _, _, rfl, rfl, ⟨by decide, by decide +kernel⟩, _, _, rfl, rfl, rfl, _, rfl⟩
      rintro σ1 H1 ⟨rfl, j, rfl⟩
      refine ⟨_, rfl, a, _, 0, .str x, rfl, rfl, sq, h0, rfl, _, rfl, ?_⟩
      refine ite2 (fun hc => ?_) (fun _ => ?_)
      · obtain ⟨y, hy, rfl⟩ := hb (by have := of_decide_eq_true hc; injection this)
        exact ⟨_, rfl, _, rfl, a, _, 1, .int y, rfl, rfl, sq, rfl, _, _, rfl, rfl, (show 0 < y by omega), q _ rfl⟩
      refine ⟨_, rfl, a, _, 0, .str x, rfl, rfl, sq, h0, rfl, _, rfl, ?_⟩
      refine ite2 (fun hc => ?_) (fun _ => ?_)
      · obtain ⟨y, rfl⟩ := hu (by have := of_decide_eq_true hc; injection this)
        exact ⟨_, rfl, a, _, 1, .int y, rfl, rfl, sq, rfl, _, rfl, _, rfl, _, _, rfl, rfl, q _ rfl⟩
      exact ⟨_, rfl, q _ rfl⟩
end
end My

namespace My
open PySem L2 PyProof.Rows
seal L2.PE L2.PT L2.PW L2.PS L2.PSs L2.PA L2.PI L2.PG L2.PGs L2.OpR L2.CallR L2.IxR L2.SlR L2.MtR L2.PIf L2.PO L2.MtM L2.PC L2.PSM L2.PSsM L2.EWn L2.PEk L2.PSk L2.PSsk
section
variable {P : Program} {w : World} {K : PySem.W.Frag} {mg : Str → Option Value} {base : Heap}
theorem Kd.at {H : Hp} {m : Nat} {a : Addr} (h : Kd H m a) : ∃ x r, Rd H a (.tup (.str x :: r)) ∧ ((x = "list" ∨ x = "some" ∨ x = "once") ∧ (∃ b, r = [.ref b] ∧ Pl H m b) ∨ (x ≠ "list" ∧ x ≠ "some" ∧ x ≠ "once") ∧ (x ≠ "key" → Pl H m a)) := by
  cases h with
  | pl h =>
    obtain ⟨x, r, e, hx, _⟩ := h.rd
    refine ⟨x, r, e, .inr ⟨?_, fun _ => h⟩⟩
    rcases hx with rfl | rfl | rfl | rfl | rfl <;> decide
  | key h => exact ⟨_, _, .inl h, .inr ⟨by decide, fun e => absurd rfl e⟩⟩
  | more so hs b h hp => exact ⟨_, _, .inl h, .inl ⟨hs, b, rfl, hp⟩⟩
theorem ok_vaM {f fP fM fT fS : Addr} {fd fdP fdM fdT fdS : FuncData} (F : Fun K "_law_value" "_law_value" (top 21) f fd) (B : Bl mg) (hmin : mg "min" = none) (DP : Df K mg "_law_plain_value" (top 20) fP fdP) (DM : Df K mg "_law_mix" (top 14) fM fdM) (DT : Df K mg "_law_text" (top 19) fT fdT) (DS : Df K mg "_law_sign" (top 18) fS fdS) (m : Nat) : FnOkW m P w K mg base 4 f fd ["_law_kind_here", "_law_cell_here", "_law_k", "_law_size"] (toW (spVa m)) := by
  have sc : FnScope ["_law_kind_here", "_law_cell_here", "_law_k", "_law_size", "_law_number", "_law_many"] ["_law_kind_here", "_law_cell_here", "_law_k", "_law_size"] (defScope (top 21)) := ⟨rfl, rfl, rfl, by decide +kernel, rfl, by decide +kernel, by decide +kernel⟩
  have GM : FnOk P w K mg base CX0 3 fM fdM ["_law_cell_here", "_law_k"] spMix := (ok_mix DM.fn).mono (by omega)
  have GP : FnOkW m P w K mg base 3 fP fdP ["_law_kind_here", "_law_cell_here", "_law_k"] (toW (spPv m)) := ok_pvM DP.fn B DM DT DS m
  have bM := DM.fn.binds (ps := ["_law_cell_here", "_law_k"]) fun _ _ _ _ _ _ us hl => by obtain ⟨v0, v1, rfl⟩ := L2.ln2 hl; rfl
  have bP := DP.fn.binds (ps := ["_law_kind_here", "_law_cell_here", "_law_k"]) fun _ _ _ _ _ _ us hl => by obtain ⟨v0, v1, v2, rfl⟩ := L2.ln3 hl; rfl
  refine F.okK sc (fun vs H Q h => ?_) (fun cdv A outer s H vs Q hr h => ?_)
  · obtain ⟨a, c, k, z, rfl, _⟩ := h
    rfl
  · obtain ⟨a, c, k, z, rfl, ha, hz, q⟩ := h
    have ndA : (["_law_j", "_law_kind_here", "_law_cell_here", "_law_k"] : List Str).Nodup := by decide +kernel
    refine ⟨_, pssk_cons (PS.k (ps_set (i := 4) sc.nd rfl (Or.inl rfl) (pe_call GM hr (by rfl) DM.mg DM.fn.kp bM .nil pass0 (pa_cons (pv 1) (pa_cons (pv 2) pa_nil)))))
      (pssk_cons (PS.k (ps_if (pt_cmpR op_eq (pe_ix ix_tup (pv 0) pe_int (fun _ _ => rfl)) pe_str (nomark _)) (pss_one (ps_ret (pe_ix ix_list (pe_lst (pa_cons pe_non (pa_cons (pe_op op_mod (pv 4) (pv 3)) pa_nil))) (pe_callB (call_min2 rfl) (by rfl) hmin boot_min (pa_cons (pe_op op_mod (pe_op op_fdiv (pv 4) pe_int) pe_int) (pa_cons pe_int pa_nil))) (fun _ _ => rfl)))) pss_nil))
      (pssk_cons (psk_if (PW.pt (pw_or (pt_cmpR op_eq (pe_ix ix_tup (pv 0) pe_int (fun _ _ => rfl)) pe_str (nomark _)) (pw_or1 (pt_cmpR op_eq (pe_ix ix_tup (pv 0) pe_int (fun _ _ => rfl)) pe_str (nomark _)))))
        (pssk_cons (PS.k (ps_set (i := 5) sc.nd rfl (Or.inl rfl) (pe_op op_add (pe_op op_mod (pv 4) pe_int) (pe_callTy call_int1 (by rfl) B.int boot_int (pa_cons (pe_cmpR op_eq (pe_ix ix_tup (pv 0) pe_int (fun _ _ => rfl)) pe_str (nomark _)) pa_nil)))))
        (pssk_cons (PS.k (ps_cut21 (ps_if (pt_cmpR op_eq (pe_op op_mod (pe_op op_fdiv (pv 4) pe_int) pe_int) pe_int (nomark _)) (pss_one (ps_set (i := 5) sc.nd rfl (Or.inl rfl) (pe_op op_add pe_int (pe_op op_mod (pe_op op_fdiv (pv 4) pe_int) pe_int)))) pss_nil)))
        (pssk_one (psk_ret (pek_callTy call_tuple_of (by rfl) B.tuple boot_tuple (pek_comp (osc := defScope (top 21)) (N0 := ["_law_kind_here", "_law_cell_here", "_law_k", "_law_size", "_law_number", "_law_many"]) (xs := ["_law_j"]) (fr := [0, 1, 2]) ⟨rfl, by decide +kernel, by decide +kernel, by decide +kernel, (fun j hj => by
              have e : j = 0 ∨ j = 1 ∨ j = 2 := by simpa using hj
              rcases e with rfl | rfl | rfl
              · exact ⟨_, rfl, by decide +kernel⟩
              · exact ⟨_, rfl, by decide +kernel⟩
              · exact ⟨_, rfl, by decide +kernel⟩), by decide +kernel⟩ rfl rfl rfl (pi_range1 rfl B.range (pa_cons (pv 5) pa_nil))
          (fun s H fp => pg_name (i := 0) ndA rfl (Or.inl rfl)) (fun s H fp => pif_nil)
          (fun s H fp => pek_callW GP hr (by rfl) DP.mg DP.fn.kp bP (pa_cons (pe_ix (r := rIxT K) ix_tup (pv 1) pe_int (fun _ _ => rfl)) (pa_cons (pv 2) (pa_cons (pe_op op_add (pv 3) (pe_op op_mul pe_int (pv 0))) pa_nil)))))))))) (PSs.k pss_nil))
      (pssk_cons (psk_if (pt_cmpR op_eq (pe_ix ix_tup (pv 0) pe_int (fun _ _ => rfl)) pe_str (nomark _)) (pssk_one (psk_ret (pek_callW GP hr (by rfl) DP.mg DP.fn.kp bP (pa_cons (pe_ix ix_tup (pv 0) pe_int (fun _ _ => rfl)) (pa_cons (pv 1) (pa_cons (pv 2) pa_nil)))))) (PSs.k pss_nil))
      (pssk_one (psk_ret (pek_callW GP hr (by rfl) DP.mg DP.fn.kp bP (pa_cons (pv 0) (pa_cons (pv 1) (pa_cons (pv 2) pa_nil))))))))), ?_⟩
    obtain ⟨x, r, rd, cs⟩ := ha.at
    have sq : SqT K H a (.str x :: r) := SqT.rd rd
    have h0 : atI (V.str x :: r) 0 = some (.str x) := atI_nat (j := 0) rfl
    refine ⟨_, rfl, _, rfl, _, _, rfl, fun i i0 i1 => ?_⟩
    refine ⟨_, rfl, a, _, 0, .str x, rfl, rfl, sq, h0, rfl, _, rfl, ?_⟩
    refine ite2 (fun hc => ?_) (fun hk => ?_)
    · refine ⟨_, rfl, _, rfl, _, _, rfl, rfl, (show 0 < z by omega), (by show 2 ≤ sizeLine; decide), fun l hl => ⟨_, rfl, _, _, rfl, rfl, ⟨by decide, by decide⟩, _, _, rfl, rfl, (pos rfl), _, _, rfl, ?_⟩⟩
      have b0 : 0 ≤ (if (1 : Int) < i / 7 % 3 then 1 else i / 7 % 3) ∧ (if (1 : Int) < i / 7 % 3 then 1 else i / 7 % 3) < 2 := by split <;> omega
      obtain ⟨v, ev, hv⟩ := at_mem (l := [.non, .int (i % z)]) b0.1 b0.2
      refine ⟨l, _, _, v, rfl, rfl, SqL.of upd_same, ev, ?_⟩
      have hv' : v = .non ∨ v = .int (i % z) := by simpa using hv
      have hf : flt v = true := by rcases hv' with rfl | rfl <;> rfl
      exact q _ _ (Same.upd hl) (.inl hf) (.flat hf)
    have nk : x ≠ "key" := fun e => hk (decide_eq_true (congrArg V.str e))
    have tupl : ∀ (b : Addr) (n : Int), r = [.ref b] → Pl H m b → 0 ≤ n → n ≤ 60 → ∀ D, H D = none → CompW (Itr 0 n.toNat) (gName 0) tYes (tCallW (toW (spPv m)) (tCons (tOp (rIxT K) (tVar 1) (tC (.int 1))) (tCons (tVar 2) (tCons (tOp (rI0 fun i j => .int (i + j)) (tVar 3) (tOp (rI CMul fun i j => .int (i * j)) (tC (.int 11)) (tVar 0))) tNil))))
        (fun D H2 => ∃ p ys, [V.ref D] = [.ref p] ∧ ((SqL K H2 p ys ∧ ∀ l, H2 l = none → Q (.ref l) (upd H2 l (.tup ys))) ∨ (SqT K H2 p ys ∧ Q (.ref p) H2))) D (compSt ["_law_j"] [0, 1, 2] [some (.ref a), some (.int c), some (.int k), some (.int z), some (.int i), some (.int n)]) (upd H D (.lst [])) := by
      intro b n hr' hb n0 n60 D hD
      subst hr'
      refine compW_idx n.toNat (fun i ys σ' Hc => (∃ t0, σ' = [t0, some (.ref a), some (.int c), some (.int k)]) ∧ Same H Hc ∧ ∀ x ∈ ys, flt x = true) (by rw [sizeLine_eq]; omega) ⟨⟨none, rfl⟩, Same.upd hD, fun x h => nomatch h⟩ upd_same ?_ ?_
      · rintro i σ' Hc ys hi ⟨⟨t0, rfl⟩, sm, hys⟩ hyl hD'
        refine ⟨hi, ?_⟩
        rintro x H' ⟨rfl, rfl⟩
        refine ⟨_, rfl, a, _, 1, .ref b, rfl, rfl, SqT.rd (rd.same sm), rfl, _, rfl, _, rfl, _, rfl, _, _, rfl, rfl, .inl ⟨by decide, by decide⟩, _, _, rfl, rfl, b, _, _, rfl, hb.same sm, fun v hv u tk => ?_⟩
        refine ⟨hD', ⟨_, rfl⟩, sm.put hD, fun y hy => ?_⟩
        rcases List.mem_append.mp hy with hy | hy
        · exact hys y hy
        · rw [List.mem_singleton.mp hy]
          exact hv
      · rintro σ' Hc ys ⟨_, sm, hys⟩ hDn hyl
        exact ⟨Nat.le_refl _, D, ys, rfl, .inl ⟨SqL.of hDn, fun l hl => q _ _ (sm.trans (Same.upd hl)) (.inr ⟨l, ys, rfl, upd_same, hys⟩) (.tup (.inl upd_same) (by omega) fun x hx => .flat (hys x hx))⟩⟩
    rcases cs with ⟨hs, b, rfl, hp⟩ | ⟨⟨n1, n2, n3⟩, hp⟩
    · rcases hs with rfl | rfl | rfl
      · refine ⟨_, rfl, a, _, 0, .str "list", rfl, rfl, sq, h0, rfl, _, rfl, iteB (by decide) (iteT ?_)⟩
        refine ⟨_, rfl, _, _, rfl, rfl, (pos rfl), _, rfl, a, _, 0, .str "list", rfl, rfl, sq, h0, rfl, .inr ⟨_, rfl, _, _, rfl, rfl, ?_⟩⟩
        refine ⟨fun σ' H' => H' = H ∧ ∃ n : Int, σ' = [some (.ref a), some (.int c), some (.int k), some (.int z), some (.int i), some (.int n)] ∧ 0 ≤ n ∧ n ≤ 60, ?_, ?_⟩
        · refine ⟨_, rfl, _, _, rfl, rfl, ⟨by decide, by decide⟩, _, _, rfl, rfl, (pos rfl), rfl, _, rfl, ?_⟩
          refine ite2 (fun _ => ?_) (fun _ => ?_)
          · exact ⟨_, rfl, _, _, rfl, rfl, ⟨by decide, by decide⟩, _, _, rfl, rfl, (pos rfl), _, _, rfl, rfl, rfl, _, rfl, by omega, by omega⟩
          · exact ⟨rfl, _, rfl, by split <;> omega, by split <;> omega⟩
        rintro σ1 H1 ⟨rfl, n, rfl, n0, n60⟩
        exact ⟨_, rfl, _, rfl, by omega, by omega, tupl b n rfl hp n0 n60⟩
      · refine ⟨_, rfl, a, _, 0, .str "some", rfl, rfl, sq, h0, rfl, _, rfl, iteC (by decide) ⟨_, rfl, a, _, 0, .str "some", rfl, rfl, sq, h0, rfl, _, rfl, iteB (by decide) ?_⟩⟩
        refine ⟨_, rfl, _, _, rfl, rfl, (pos rfl), _, rfl, a, _, 0, .str "some", rfl, rfl, sq, h0, rfl, .inr ⟨_, rfl, _, _, rfl, rfl, ?_⟩⟩
        refine ⟨fun σ' H' => H' = H ∧ ∃ n : Int, σ' = [some (.ref a), some (.int c), some (.int k), some (.int z), some (.int i), some (.int n)] ∧ 0 ≤ n ∧ n ≤ 60, ?_, ?_⟩
        · refine ⟨_, rfl, _, _, rfl, rfl, ⟨by decide, by decide⟩, _, _, rfl, rfl, (pos rfl), rfl, _, rfl, ?_⟩
          refine ite2 (fun _ => ?_) (fun _ => ?_)
          · exact ⟨_, rfl, _, _, rfl, rfl, ⟨by decide, by decide⟩, _, _, rfl, rfl, (pos rfl), _, _, rfl, rfl, rfl, _, rfl, by omega, by omega⟩
          · exact ⟨rfl, _, rfl, by split <;> omega, by split <;> omega⟩
        rintro σ1 H1 ⟨rfl, n, rfl, n0, n60⟩
        exact ⟨_, rfl, _, rfl, by omega, by omega, tupl b n rfl hp n0 n60⟩
      · refine ⟨_, rfl, a, _, 0, .str "once", rfl, rfl, sq, h0, rfl, _, rfl, iteC (by decide) ⟨_, rfl, a, _, 0, .str "once", rfl, rfl, sq, h0, rfl, _, rfl, iteC (by decide) ?_⟩⟩
        refine ⟨_, rfl, a, _, 0, .str "once", rfl, rfl, sq, h0, rfl, _, rfl, iteB (by decide) ?_⟩
        exact ⟨_, rfl, a, _, 1, .ref b, rfl, rfl, sq, rfl, _, rfl, _, rfl, b, _, _, rfl, hp, fun v hv u tk => q v H (Same.refl H) (.inl hv) (.flat hv)⟩
    · have nd : ∀ {y : Str}, x ≠ y → decide (V.str x = V.str y) = false := fun h => decide_eq_false fun e => h (by injection e)
      refine ⟨_, rfl, a, _, 0, .str x, rfl, rfl, sq, h0, rfl, _, rfl, iteC (nd n1) ⟨_, rfl, a, _, 0, .str x, rfl, rfl, sq, h0, rfl, _, rfl, iteC (nd n2) ?_⟩⟩
      refine ⟨_, rfl, a, _, 0, .str x, rfl, rfl, sq, h0, rfl, _, rfl, iteC (nd n3) ?_⟩
      exact ⟨_, rfl, _, rfl, _, rfl, a, _, _, rfl, hp nk, fun v hv u tk => q v H (Same.refl H) (.inl hv) (.flat hv)⟩
end
end My

namespace My
open PySem L2 PyProof.Rows
seal L2.PE L2.PT L2.PW L2.PS L2.PSs L2.PA L2.PI L2.PG L2.PGs L2.OpR L2.CallR L2.IxR L2.SlR L2.MtR L2.PIf L2.PO L2.MtM L2.PC L2.PSM L2.PSsM L2.EWn L2.PEk L2.PSk L2.PSsk
/-! ### a dict of texts written -/
def putR (row : Rw) (z : Str) (v : V) : Rw := if (row.any fun c => decide (c.1 = z)) = true then row.map (fun c => if c.1 = z then (c.1, v) else c) else row ++ [(z, v)]
theorem put_rK {row : Rw} {z : Str} {v : V} : putK (rK row) (.inr z) v = rK (putR row z v) := by
  unfold putK putR
  have e : ((rK row).any fun kv => decide (kv.1 = (.inr z : Key))) = row.any fun c => decide (c.1 = z) := by
    unfold rK
    rw [List.any_map]
    congr 1
    funext c
    show decide ((Sum.inr c.1 : Key) = .inr z) = decide (c.1 = z)
    rw [Bool.eq_iff_iff, decide_eq_true_iff, decide_eq_true_iff]
    exact ⟨fun h => by injection h, fun h => by rw [h]⟩
  rw [e]
  split
  · unfold rK
    rw [List.map_map, List.map_map]
    refine List.map_congr_left fun y _ => ?_
    show (if (Sum.inr y.1 : Key) = .inr z then ((Sum.inr y.1 : Key), v) else (.inr y.1, y.2)) = (fun c : Str × V => ((Sum.inr c.1 : Key), c.2)) (if y.1 = z then (y.1, v) else y)
    by_cases e : y.1 = z
    · rw [if_pos (by rw [e]), if_pos e]
    · rw [if_neg (fun h => e (by injection h)), if_neg e]
  · unfold rK
    rw [List.map_append]
    rfl
theorem putR_mem {row : Rw} {z : Str} {v : V} {c : Str × V} (h : c ∈ putR row z v) : c ∈ row ∨ c = (z, v) := by
  unfold putR at h
  split at h
  · obtain ⟨d, hd, e⟩ := List.mem_map.mp h
    by_cases ez : d.1 = z
    · rw [if_pos ez] at e
      exact .inr (by rw [← e, ez])
    · rw [if_neg ez] at e
      exact .inl (e ▸ hd)
  · rcases List.mem_append.mp h with h | h
    · exact .inl h
    · exact .inr (List.mem_singleton.mp h)
theorem putR_nd {row : Rw} {z : Str} {v : V} (h : (row.map (·.1)).Nodup) : ((putR row z v).map (·.1)).Nodup := by
  unfold putR
  split
  · rw [List.map_map]
    have e : row.map ((·.1) ∘ fun c : Str × V => if c.1 = z then (c.1, v) else c) = row.map (·.1) := List.map_congr_left fun c _ => by
      show (if c.1 = z then (c.1, v) else c).1 = c.1
      split <;> rfl
    rw [e]
    exact h
  · rename_i hn
    rw [List.map_append, List.nodup_append]
    refine ⟨h, by simp, fun a ha b hb => ?_⟩
    have e : b = z := by simpa using hb
    subst e
    intro e2
    subst e2
    obtain ⟨c, hc, ec⟩ := List.mem_map.mp ha
    exact hn (List.any_eq_true.mpr ⟨c, hc, decide_eq_true ec⟩)
theorem putR_len {row : Rw} {z : Str} {v : V} : (putR row z v).length ≤ row.length + 1 := by
  unfold putR
  split
  · rw [List.length_map]
    exact Nat.le_succ _
  · rw [List.length_append]
    exact Nat.le_refl _
/-! ### tuples stay -/
def isT : HO → Bool
  | .tup _ => true
  | .frz _ (.tup _) => true
  | _ => false
def STu (H H' : Hp) : Prop := ∀ b u, H b = some u → isT u = true → H' b = some u
theorem st_of {H H' : Hp} (s : Same H H') : STu H H' := fun b u e _ => s _ _ e
theorem STu.put {H : Hp} {b : Addr} {o o' : HO} (h : H b = some o) (hn : isT o = false) : STu H (upd H b o') := fun c u e hu => by
  have nb : c ≠ b := fun z => by rw [z, h] at e; cases e; rw [hn] at hu; cases hu
  rw [upd_ne nb]
  exact e
theorem Pl.st {H H' : Hp} {m : Nat} {a : Addr} (h : Pl H m a) (s : STu H H') : Pl H' m a := by
  cases h with
  | whole h => exact .whole (s _ _ h rfl)
  | below i hi h => exact .below i hi (s _ _ h rfl)
  | upto i h => exact .upto i (s _ _ h rfl)
  | word h => exact .word (s _ _ h rfl)
  | without c t hc h h1 h2 =>
    obtain ⟨o, u0, m0, e1, e2⟩ := h
    exact .without c t hc ⟨o, u0, m0, s _ _ e1 rfl, e2⟩ h1 h2
theorem Kd.st {H H' : Hp} {m : Nat} {a : Addr} (h : Kd H m a) (s : STu H H') : Kd H' m a := by
  cases h with
  | pl h => exact .pl (h.st s)
  | key h => exact .key (s _ _ h rfl)
  | more so hs b h hp => exact .more so hs b (s _ _ h rfl) (hp.st s)
/-- a table's columns: names and kinds -/
def TbOk (H : Hp) (m : Nat) (tb : Rw) : Prop := (tb.map (·.1)).Nodup ∧ ∀ c ∈ tb, ∃ a, c.2 = .ref a ∧ Kd H m a
theorem TbOk.st {H H' : Hp} {m : Nat} {tb : Rw} (h : TbOk H m tb) (s : STu H H') : TbOk H' m tb := ⟨h.1, fun c hc => let ⟨a, e, k⟩ := h.2 c hc; ⟨a, e, k.st s⟩⟩
theorem TbOk.up {H : Hp} {m m' : Nat} {tb : Rw} (h : TbOk H m tb) (s : m ≤ m') : TbOk H m' tb := ⟨h.1, fun c hc => let ⟨a, e, k⟩ := h.2 c hc; ⟨a, e, k.up s⟩⟩
theorem TbOk.put {H : Hp} {m : Nat} {tb : Rw} {z : Str} {a : Addr} (h : TbOk H m tb) (ha : Kd H m a) : TbOk H m (putR tb z (.ref a)) := ⟨putR_nd h.1, fun c hc => by
  rcases putR_mem hc with hc | rfl
  · exact h.2 c hc
  · exact ⟨a, rfl, ha⟩⟩
/-- the first name is none of its columns -/
def NoC (cs : List Str) (tb : Rw) : Prop := ∀ z, cs[0]? = some z → z ∉ tb.map (·.1)
theorem putR_keys {row : Rw} {z z' : Str} {v : V} (h : z' ∈ (putR row z v).map (·.1)) : z' ∈ row.map (·.1) ∨ z' = z := by
  obtain ⟨c, hc, rfl⟩ := List.mem_map.mp h
  rcases putR_mem hc with hc | rfl
  · exact .inl (List.mem_map.mpr ⟨c, hc, rfl⟩)
  · exact .inr rfl
theorem NoC.put {cs : List Str} {tb : Rw} {j : Nat} {v : V} (h : NoC cs tb) (nd : cs.Nodup) (hj : 1 + j < cs.length) : NoC cs (putR tb cs[1 + j] v) := fun z hz hm => by
  rcases putR_keys hm with hm | rfl
  · exact h z hz hm
  · have h0 : 0 < cs.length := by omega
    rw [List.getElem?_eq_getElem h0] at hz
    have := (List.getElem_inj nd).mp (Option.some.inj hz)
    omega
theorem cut_eq {H H1 H2 : Hp} {b : Addr} {o : HO} (h : cut H H1 b = some o) (e : H2 b = some o) : cut H H2 b = some o := cut_at (cut_new h) e
def spTab (m : Nat) : SpW := fun vs H Q => ∃ (c : Int) (cl : Addr) (cs : List Str) (n : Int), vs = [.int c, .ref cl, .int n] ∧ H cl = some (.lst (cs.map V.str)) ∧ 7 ≤ cs.length ∧ cs.length ≤ 12 ∧ cs.Nodup ∧ 0 ≤ n ∧ n ≤ 4 ∧
  ∀ l tbs H' u k, m ≤ k → Same H H' → RowsD (cut H H') l tbs → (tbs.length : Int) = n → (∀ tb ∈ tbs, TbOk H' k tb ∧ tb.length ≤ 2 ∧ NoC cs tb) → Q u k (.ref l) H'
def nTab : List Str := ["_law_cell_here", "_law_columns", "_law_many", "_law_tables_here", "_law_k", "_law_made", "_law_j"]
section
variable {P : Program} {w : World} {K : PySem.W.Frag} {mg : Str → Option Value} {base : Heap}
theorem ok_tabM {f fK fP fM fS : Addr} {fd fdK fdP fdM fdS : FuncData} (F : Fun K "_law_tables" "_law_tables" (top 24) f fd) (B : Bl mg) (DK : Df K mg "_law_kind" (top 23) fK fdK) (DP : Df K mg "_law_plain" (top 22) fP fdP) (DM : Df K mg "_law_mix" (top 14) fM fdM) (DS : Df K mg "_law_sign" (top 18) fS fdS) (m : Nat) : FnOkW m P w K mg base 4 f fd ["_law_cell_here", "_law_columns", "_law_many"] (spTab m) := by
  have sc : FnScope nTab ["_law_cell_here", "_law_columns", "_law_many"] (defScope (top 24)) := ⟨rfl, rfl, rfl, by decide +kernel, rfl, by decide +kernel, by decide +kernel⟩
  have GM : FnOk P w K mg base CX0 3 fM fdM ["_law_cell_here", "_law_k"] spMix := (ok_mix DM.fn).mono (by omega)
  have GK : ∀ n, FnOkW n P w K mg base 3 fK fdK ["_law_number"] (spKdM n) := fun n => ok_kdM DK.fn DP DS n
  have bM := DM.fn.binds (ps := ["_law_cell_here", "_law_k"]) fun _ _ _ _ _ _ us hl => by obtain ⟨v0, v1, rfl⟩ := L2.ln2 hl; rfl
  have bK := DK.fn.binds (ps := ["_law_number"]) fun _ _ _ _ _ _ us hl => by obtain ⟨v0, rfl⟩ := L2.ln1 hl; rfl
  refine F.okM sc (fun vs H Q h => ?_) (fun cdv A outer s H vs Q hr h => ?_)
  · obtain ⟨c, cl, cs, n, rfl, _⟩ := h
    rfl
  · obtain ⟨c, cl, cs, n, rfl, hcl, cs7, cs12, cnd, n0, n4, q⟩ := h
    have hu : (A.deeper (envOfC "_law_tables" (defScope (top 24)) s.heap.objs.size f cdv)).units + 1 < cLine := hu_of hr
    refine ⟨_, psM_cons (PS.m (ps_set (i := 3) sc.nd rfl (Or.inl rfl) (pe_lst pa_nil)))
      (psM_cons (psM_forF PassesOwn.never rfl (pi_range1 rfl B.range (pa_cons (pv 2) pa_nil)) (pg_name (i := 4) sc.nd rfl (Or.inl rfl))
        (psM_cons (PS.m (ps_set (i := 5) sc.nd rfl (Or.inl rfl) pe_dnewK))
        (psM_cons (psM_forF PassesOwn.never rfl (pi_range1 rfl B.range (pa_cons (pe_op op_mod (pe_call GM hr (by rfl) DM.mg DM.fn.kp bM .nil pass0 (pa_cons (pv 0) (pa_cons (pv 4) pa_nil))) pe_int) pa_nil)) (pg_name (i := 6) sc.nd rfl (Or.inl rfl))
          (psM_one (psM_dput hu (pv 5) (pe_ix ix_list (pv 1) (pe_op op_add pe_int (pv 6)) (fun _ _ => rfl)) (ewn_callW GK hr (by rfl) DK.mg DK.fn.kp bK (pa_cons (pe_call GM hr (by rfl) DM.mg DM.fn.kp bM .nil pass0 (pa_cons (pv 0) (pa_cons (pe_op op_add (pe_op op_add (pe_op op_mul pe_int (pv 4)) (pv 6)) pe_int) pa_nil))) pa_nil)) rfl)))
        (psM_one (PS.m (ps_expr (pe_bm PySem.F.plainAttrs_list PySem.F.slot_list_append PySem.F.type_list_append mt_app (pv 3) (pa_cons (pv 5) pa_nil))))))))
      (psM_one (psM_ret (PE.ewn (pv 3))))), ?_⟩
    refine ⟨Nat.zero_le _, fun l hl => ?_⟩
    have T1 := Same.upd (o := .lst []) hl
    have e1 := upd_same (H := H) (a := l) (o := .lst [])
    generalize upd H l (.lst []) = H1 at *
    refine ⟨_, rfl, _, rfl, (by omega), (by omega), ?_⟩
    refine forF_range (fun i m1 σ H2 => m ≤ m1 ∧ Same H H2 ∧ (∃ u4 u5 u6, σ = [some (.int c), some (.ref cl), some (.int n), some (.ref l), u4, u5, u6]) ∧ ∃ tbs, RowsD (cut H H2) l tbs ∧ tbs.length = i ∧ ∀ tb ∈ tbs, TbOk H2 m1 tb ∧ tb.length ≤ 2 ∧ NoC cs tb) ?_ ?_ ?_
    · exact ⟨Nat.le_refl m, T1, ⟨_, _, _, rfl⟩, [], ⟨[], cut_at hl e1, rfl, .nil, fun j r row h => nomatch h⟩, rfl, fun tb h => nomatch h⟩
    · rintro i m1 σ H2 hi ⟨hm1, s2, ⟨u4, u5, u6, rfl⟩, tbs, rd, hlen, htb⟩
      refine fun d hd => ?_
      have T2 := Same.upd (o := .dK []) hd
      have e2 := upd_same (H := H2) (a := d) (o := .dK [])
      generalize upd H2 d (.dK []) = H3 at *
      refine ⟨_, rfl, _, rfl, _, _, rfl, fun k1 k10 k11 => ?_⟩
      have k30 := Int.emod_nonneg k1 (show (3 : Int) ≠ 0 by decide)
      have k31 := Int.emod_lt_of_pos k1 (show (0 : Int) < 3 by decide)
      refine ⟨_, _, rfl, rfl, (pos rfl), _, rfl, (by omega), (by omega), ?_⟩
      refine forF_range (fun j m2 σ H4 => m1 ≤ m2 ∧ Same H2 H4 ∧ (∃ u6, σ = [some (.int c), some (.ref cl), some (.int n), some (.ref l), some (.int (0 + (i : Int))), some (.ref d), u6]) ∧ ∃ tb, H4 d = some (.dK (rK tb)) ∧ TbOk H4 m2 tb ∧ tb.length ≤ j ∧ NoC cs tb) ?_ ?_ ?_
      · exact ⟨Nat.le_refl _, T2, ⟨_, rfl⟩, [], e2, ⟨.nil, (fun c h => nomatch h)⟩, Nat.le_refl _, (fun z _ h => nomatch h)⟩
      · rintro j m2 σ H4 hj ⟨hm2, s4, ⟨u6', rfl⟩, tb, e4, tok, tl, nc⟩
        have j3 : j < 3 := by omega
        refine ⟨_, rfl, _, rfl, _, _, rfl, rfl, .inl ⟨by decide, by decide⟩, _, rfl, _, _, rfl, rfl, _, _, rfl, rfl, _, _, rfl, fun k2 k20 k21 => ?_⟩
        refine ⟨_, rfl, fun a H5 u k hk s5 ha => ?_⟩
        have hcl5 := s5 _ _ (s4 _ _ (s2 _ _ hcl))
        have hjl : 1 + j < cs.length := by omega
        refine ⟨_, rfl, _, rfl, _, rfl, _, _, rfl, rfl, cl, _, _, .str (cs[1 + j]), rfl, rfl, SqL.of hcl5, ?_, d, _, rfl, DPut.k (k := .inr (cs[1 + j])) (s5 _ _ e4) (by rw [sizeLine_eq]; unfold rK; rw [List.length_map]; omega), ?_⟩
        · have := atI_nat (xs := cs.map V.str) (j := 1 + j) (v := .str (cs[1 + j])) (by rw [List.getElem?_map, List.getElem?_eq_getElem hjl]; rfl)
          rw [← this]
          congr 1
          omega
        rw [put_rK]
        have st : STu H5 (upd H5 d (.dK (rK (putR tb cs[1 + j] (.ref a))))) := STu.put (s5 _ _ e4) rfl
        refine ⟨by omega, (s4.trans s5).put hd, ⟨_, rfl⟩, _, upd_same, ((tok.st (st_of s5)).up hk).put ha |>.st st, Nat.le_trans putR_len (by omega), nc.put cnd hjl⟩
      · rintro m2 σ H4 ⟨hm2, s4, ⟨u6', rfl⟩, tb, e4, tok, tl, nc⟩
        obtain ⟨rs, r1, r2, r3, r4⟩ := rd
        have l4 : H4 l = some (.lst (rs.map V.ref)) := s4 _ _ (cut_sub _ _ r1)
        refine ⟨_, rfl, .inl ⟨rfl, _, SqL.of l4⟩, _, rfl, l, _, _, rfl, rfl, l4, (by rw [List.length_map, sizeLine_eq]; omega), ?_⟩
        have nl : H l = none := hl
        have st : STu H4 (upd H4 l (.lst (rs.map V.ref ++ [.ref d]))) := STu.put l4 rfl
        have dl : d ≠ l := fun e => by rw [e, l4] at e4; cases e4
        have nd : H d = none := none_of s2 hd
        refine ⟨by omega, (s2.trans s4).put hl, ⟨_, _, _, rfl⟩, tbs ++ [tb], ⟨rs ++ [d], cut_at hl (by rw [upd_same, List.map_append]; rfl), by rw [List.length_append, List.length_append, r2]; rfl, ?_, ?_⟩, by rw [List.length_append, hlen]; rfl, ?_⟩
        · rw [List.nodup_append]
          refine ⟨r3, by simp, fun a ha b hb => ?_⟩
          have e : b = d := by simpa using hb
          subst e
          intro e2
          subst e2
          obtain ⟨jj, hjj⟩ := List.getElem?_of_mem ha
          have hjl : jj < tbs.length := by rw [← r2]; exact (List.getElem?_eq_some_iff.mp hjj).1
          have := cut_sub _ _ (r4 jj a _ hjj (List.getElem?_eq_getElem hjl))
          rw [hd] at this
          cases this
        · intro jj r row h1 h2
          by_cases hjj : jj < rs.length
          · rw [List.getElem?_append_left hjj] at h1
            rw [List.getElem?_append_left (by rw [← r2]; exact hjj)] at h2
            have h3 := r4 jj r row h1 h2
            refine cut_eq h3 ?_
            have h4 := s4 _ _ (cut_sub _ _ h3)
            rw [upd_ne (fun e => by rw [e, l4] at h4; cases h4)]
            exact h4
          · have ej : jj = rs.length := by
              have := (List.getElem?_eq_some_iff.mp h1).1
              rw [List.length_append] at this
              simp at this
              omega
            subst ej
            rw [List.getElem?_append_right (Nat.le_refl _), Nat.sub_self] at h1
            rw [r2, List.getElem?_append_right (Nat.le_refl _), Nat.sub_self] at h2
            cases h1
            cases h2
            exact cut_at nd (by rw [upd_ne dl]; exact e4)
        · intro tb' htb'
          rcases List.mem_append.mp htb' with h | h
          · exact ⟨((htb tb' h).1.st (st_of s4) |>.up hm2).st st, (htb tb' h).2⟩
          · rw [List.mem_singleton.mp h]
            exact ⟨tok.st st, by omega, nc⟩
    · rintro m1 σ H2 ⟨hm1, s2, ⟨u4, u5, u6, rfl⟩, tbs, rd, hlen, htb⟩
      exact ⟨_, rfl, fun u k hk u' k' hk' => q l tbs H2 u' k' (by omega) s2 rd (by omega) fun tb h => ⟨(htb tb h).1.up (by omega), (htb tb h).2⟩⟩
end
end My

namespace L2
open PySem PySem.Spec PyProof.Rows
theorem sIx_p {n d : Nat} {k : Int} (h0 : 0 ≤ k) : HT.sIx n d (some k) = min k.toNat n := by
  have e := HT.clip_eq k n d
  rw [if_neg (by omega)] at e
  omega
theorem cut_from {xs : List V} {k : Int} (h0 : 0 ≤ k) : cutV xs (some k) none = xs.drop k.toNat := by
  unfold cutV
  rw [sIx_p h0, HT.sIx_none]
  by_cases h : k.toNat ≤ xs.length
  · rw [show min k.toNat xs.length = k.toNat by omega]
    exact List.take_of_length_le (by rw [List.length_drop]; omega)
  · rw [show min k.toNat xs.length = xs.length by omega, List.drop_of_length_le (Nat.le_refl _), List.drop_of_length_le (show xs.length ≤ k.toNat by omega)]
    exact List.take_nil
theorem sqL_same {K : PySem.W.Frag} {H H' : Hp} {a : Addr} {xs : List V} (h : SqL K H a xs) (s : Same H H') : SqL K H' a xs := h.imp (Rd.same s) id
end L2
namespace My
open PySem L2 PyProof.Rows
seal L2.PE L2.PT L2.PW L2.PS L2.PSs L2.PA L2.PI L2.PG L2.PGs L2.OpR L2.CallR L2.IxR L2.SlR L2.MtR L2.PIf L2.PO L2.MtM L2.PC L2.PSM L2.PSsM L2.EWn L2.PEk L2.PSk L2.PSsk
theorem same_upd2 {G G' : Hp} {r : Addr} {o : HO} (s : Same G G') : Same (upd G r o) (upd G' r o) := fun b u e => by
  by_cases h : b = r
  · subst h
    rw [upd_same] at e ⊢
    exact e
  · rw [upd_ne h] at e ⊢
    exact s _ _ e
theorem RowsD.pick {G : Hp} {l : Addr} {tbs : List Rw} {i : Nat} (h : RowsD G l tbs) (hi : i < tbs.length) : ∃ (rs : List Addr) (r : Addr), G l = some (.lst (rs.map V.ref)) ∧ rs.length = tbs.length ∧ rs[i]? = some r ∧ G r = some (.dK (rK tbs[i])) ∧ ∀ tb', RowsD (upd G r (.dK (rK tb'))) l (tbs.set i tb') := by
  obtain ⟨rs, r1, r2, r3, r4⟩ := h
  have hir : i < rs.length := by omega
  have e := r4 i rs[i] tbs[i] (List.getElem?_eq_getElem hir) (List.getElem?_eq_getElem hi)
  refine ⟨rs, rs[i], r1, r2, List.getElem?_eq_getElem hir, e, fun tb' => ⟨rs, ?_, by rw [List.length_set]; exact r2, r3, fun j r row h1 h2 => ?_⟩⟩
  · rw [upd_ne (fun z => by rw [z, e] at r1; cases r1)]
    exact r1
  · by_cases hj : j = i
    · subst hj
      rw [List.getElem?_eq_getElem hir] at h1
      cases h1
      rw [List.getElem?_set_self hi] at h2
      cases h2
      exact upd_same
    · have nr : r ≠ rs[i] := fun z => by
        obtain ⟨hj', ej⟩ := List.getElem?_eq_some_iff.mp h1
        exact hj ((List.getElem_inj r3).mp (ej.trans z))
      rw [upd_ne nr]
      rw [List.getElem?_set_ne (Ne.symm hj)] at h2
      exact r4 j r row h1 h2
structure GrAt (H : Hp) (m : Nat) (t nl cl tl : Addr) (sz at_ tn : Int) (zs cs : List Str) (tbs : List Rw) : Prop where
  ht : H t = some (.tup [.int sz, .ref nl, .ref cl, .int at_, .int tn, .ref tl])
  hn : H nl = some (.lst (zs.map V.str))
  hc : H cl = some (.lst (cs.map V.str))
  hz : 1 ≤ sz
  z12 : zs.length = 12
  znd : zs.Nodup
  zlen : ∀ z ∈ zs, 1 ≤ z.length ∧ z.length ≤ 8
  csz : ∀ z ∈ cs, z ∈ zs
  cnd : cs.Nodup
  c7 : 7 ≤ cs.length
  at0 : 0 ≤ at_
  at1 : at_ < tbs.length
  t4 : tbs.length ≤ 4
  tn0 : 0 ≤ tn
  tn1 : tn < 3
  rd : RowsD H tl tbs
  tb : ∀ tb ∈ tbs, TbOk H m tb ∧ tb.length ≤ 4
  free : ∀ tb, tbs[at_.toNat]? = some tb → NoC cs tb ∧ tb.length ≤ 2
def spGr (K : PySem.W.Frag) (m : Nat) : SpW := fun vs H Q => ∃ (a : Addr) (ns : List Int), vs = [.ref a] ∧ SqL K H a (ns.map V.int) ∧
  ∀ t nl cl tl sz at_ tn zs cs tbs H' u k, m ≤ k → Same H H' → GrAt H' k t nl cl tl sz at_ tn zs cs tbs → RowsD (cut H H') tl tbs → Q u k (.ref t) H'
def nGr : List Str := ["_law_script", "_law_names_here", "_law_cell_here", "_law_many", "_law_columns", "_law_at", "_law_tables_here", "_law_k", "_law_number", "_law_some"]
section
variable {P : Program} {w : World} {K : PySem.W.Frag} {mg : Str → Option Value} {base : Heap}
structure LG (H H2 : Hp) (m1 : Nat) (nl cl tl : Addr) (zs cs : List Str) (n : Int) (tbs : List Rw) (i : Nat) (at_ : Int) : Prop where
  sm : Same H H2
  hn : H2 nl = some (.lst (zs.map V.str))
  hc : H2 cl = some (.lst (cs.map V.str))
  rd : RowsD (cut H H2) tl tbs
  len : (tbs.length : Int) = n
  tb : ∀ j tb, tbs[j]? = some tb → TbOk H2 m1 tb ∧ tb.length ≤ 4 ∧ (i ≤ j → tb.length ≤ 2) ∧ (i ≤ j ∨ (j : Int) = at_ → NoC cs tb ∧ tb.length ≤ 2)
theorem ok_grM {f fN fC fT fK fP fM fS : Addr} {fd fdN fdC fdT fdK fdP fdM fdS : FuncData} (F : Fun K "_law_ground" "_law_ground" (top 27) f fd) (B : Bl mg) (DN : Df K mg "_law_names" (top 17) fN fdN) (DC : Df K mg "_law_cell" (top 13) fC fdC) (DT : Df K mg "_law_tables" (top 24) fT fdT) (DK : Df K mg "_law_kind" (top 23) fK fdK) (DP : Df K mg "_law_plain" (top 22) fP fdP) (DM : Df K mg "_law_mix" (top 14) fM fdM) (DS : Df K mg "_law_sign" (top 18) fS fdS) (m : Nat) : FnOkW m P w K mg base 5 f fd ["_law_script"] (spGr K m) := by
  have sc : FnScope nGr ["_law_script"] (defScope (top 27)) := ⟨rfl, rfl, rfl, by decide +kernel, rfl, by decide +kernel, by decide +kernel⟩
  have GN : FnOk P w K mg base CX0 4 fN fdN ["_law_cell_here", "_law_many"] spNames := (ok_names DN.fn B).mono (by omega)
  have GC : FnOk P w K mg base CX0 4 fC fdC ["_law_script", "_law_k"] (spCel K) := (ok_cel DC.fn B).mono (by omega)
  have GM : FnOk P w K mg base CX0 4 fM fdM ["_law_cell_here", "_law_k"] spMix := (ok_mix DM.fn).mono (by omega)
  have GK : ∀ n, FnOkW n P w K mg base 3 fK fdK ["_law_number"] (spKdM n) := fun n => ok_kdM DK.fn DP DS n
  have GT : ∀ n, FnOkW n P w K mg base 4 fT fdT ["_law_cell_here", "_law_columns", "_law_many"] (spTab n) := fun n => ok_tabM DT.fn B DK DP DM DS n
  have bN := DN.fn.binds (ps := ["_law_cell_here", "_law_many"]) fun _ _ _ _ _ _ us hl => by obtain ⟨v0, v1, rfl⟩ := L2.ln2 hl; rfl
  have bC := DC.fn.binds (ps := ["_law_script", "_law_k"]) fun _ _ _ _ _ _ us hl => by obtain ⟨v0, v1, rfl⟩ := L2.ln2 hl; rfl
  have bM := DM.fn.binds (ps := ["_law_cell_here", "_law_k"]) fun _ _ _ _ _ _ us hl => by obtain ⟨v0, v1, rfl⟩ := L2.ln2 hl; rfl
  have bK := DK.fn.binds (ps := ["_law_number"]) fun _ _ _ _ _ _ us hl => by obtain ⟨v0, rfl⟩ := L2.ln1 hl; rfl
  have bT := DT.fn.binds (ps := ["_law_cell_here", "_law_columns", "_law_many"]) fun _ _ _ _ _ _ us hl => by obtain ⟨v0, v1, v2, rfl⟩ := L2.ln3 hl; rfl
  refine F.okM sc (fun vs H Q h => ?_) (fun cdv A outer s H vs Q hr h => ?_)
  · obtain ⟨a, ns, rfl, _⟩ := h
    rfl
  · obtain ⟨a, ns, rfl, hs, q⟩ := h
    have hu : (A.deeper (envOfC "_law_ground" (defScope (top 27)) s.heap.objs.size f cdv)).units + 1 < cLine := hu_of hr
    refine ⟨_, psM_cons (PS.m (ps_set (i := 1) sc.nd rfl (Or.inl rfl) (pe_call GN hr (by rfl) DN.mg DN.fn.kp bN .nil pass0 (pa_cons (pe_call GC hr (by rfl) DC.mg DC.fn.kp bC .nil pass0 (pa_cons (pv 0) (pa_cons pe_int pa_nil))) (pa_cons pe_int pa_nil)))))
      (psM_cons (PS.m (ps_set (i := 2) sc.nd rfl (Or.inl rfl) (pe_call GC hr (by rfl) DC.mg DC.fn.kp bC .nil pass0 (pa_cons (pv 0) (pa_cons pe_int pa_nil)))))
      (psM_cons (PS.m (ps_set (i := 3) sc.nd rfl (Or.inl rfl) (pe_op op_add pe_int (pe_op op_mod (pe_op op_fdiv (pv 2) pe_int) pe_int))))
      (psM_cons (PS.m (ps_set (i := 4) sc.nd rfl (Or.inl rfl) (pe_slice sl_list (pv 1) (po_some (pe_op op_mod (pv 2) pe_int)) po_none)))
      (psM_cons (PS.m (ps_set (i := 5) sc.nd rfl (Or.inl rfl) (pe_op op_mod (pe_op op_fdiv (pv 2) pe_int) (pv 3))))
      (psM_cons (psM_set (i := 6) (ewn_callW GT hr (by rfl) DT.mg DT.fn.kp bT (pa_cons (pe_call GC hr (by rfl) DC.mg DC.fn.kp bC .nil pass0 (pa_cons (pv 0) (pa_cons pe_int pa_nil))) (pa_cons (pv 4) (pa_cons (pv 3) pa_nil)))) sc.nd rfl (Or.inl rfl))
      (psM_cons (psM_forF PassesOwn.never rfl (pi_range1 rfl B.range (pa_cons (pv 3) pa_nil)) (pg_name (i := 7) sc.nd rfl (Or.inl rfl))
        (psM_cons (PS.m (ps_set (i := 8) sc.nd rfl (Or.inl rfl) (pe_call GM hr (by rfl) DM.mg DM.fn.kp bM .nil pass0 (pa_cons (pe_call GC hr (by rfl) DC.mg DC.fn.kp bC .nil pass0 (pa_cons (pv 0) (pa_cons pe_int pa_nil))) (pa_cons (pe_op op_add pe_int (pv 7)) pa_nil)))))
        (psM_one (psM_if (PW.pt (pw_and (pt_cmpR op_ne (pv 7) (pv 5) (nomark _)) (pw_and1 (pt_cmpR op_eq (pe_op op_mod (pv 8) pe_int) pe_int (nomark _)))))
          (psM_cons (psM_set (i := 9) (ewn_lst3 (pe_tup (pa_cons pe_str pa_nil)) (pe_tup (pa_cons pe_str pa_nil)) (ewn_callW GK (hr.mono (by omega)) (by rfl) DK.mg DK.fn.kp bK (pa_cons (pe_op op_fdiv (pv 8) pe_int) pa_nil))) sc.nd rfl (Or.inl rfl))
          (psM_cons (PS.m (ps_dput hu (pe_ix ix_list (pv 6) (pv 7) (fun _ _ => rfl)) (pe_ix ix_list (pv 4) pe_int (fun _ _ => rfl)) (pe_ix ix_list (pv 9) (pe_op op_mod (pe_op op_fdiv (pv 8) pe_int) pe_int) (fun _ _ => rfl)) rfl))
          (psM_one (PS.m (ps_dput hu (pe_ix ix_list (pv 6) (pv 7) (fun _ _ => rfl)) (pe_ix ix_list (pv 4) pe_int (fun _ _ => rfl)) (pe_ix ix_list (pv 9) (pe_op op_mod (pe_op op_fdiv (pv 8) pe_int) pe_int) (fun _ _ => rfl)) rfl)))))
          psM_nil))))
      (psM_one (psM_ret (PE.ewn (pe_tup (pa_cons (pe_op op_add pe_int (pe_op op_mod (pe_call GC hr (by rfl) DC.mg DC.fn.kp bC .nil pass0 (pa_cons (pv 0) (pa_cons pe_int pa_nil))) (pe_op op_pow pe_int pe_int))) (pa_cons (pv 1) (pa_cons (pv 4) (pa_cons (pv 5) (pa_cons (pe_op op_mod (pe_op op_fdiv (pv 2) pe_int) pe_int) (pa_cons (pv 6) pa_nil)))))))))))))))), ?_⟩
    refine ⟨_, rfl, a, ns, 1, rfl, hs, by decide, fun c1 => ⟨c1, 12, rfl, by decide, by decide, fun nl zs H1 s1 nn e1 zl znd zb => ?_⟩⟩
    refine ⟨_, rfl, a, ns, 2, rfl, sqL_same hs s1, by decide, fun c2 => ?_⟩
    refine ⟨_, rfl, _, _, rfl, rfl, ⟨by decide, by decide⟩, _, _, rfl, rfl, (pos rfl), _, _, rfl, rfl, ?_⟩
    have n1 : 1 ≤ 1 + c2 / 6 % 4 ∧ 1 + c2 / 6 % 4 ≤ 4 := by omega
    have d0 : 0 ≤ c2 % 6 ∧ c2 % 6 < 6 := by omega
    have tn0 : 0 ≤ c2 / 96 % 3 ∧ c2 / 96 % 3 < 3 := by omega
    refine ⟨_, rfl, _, rfl, _, _, rfl, rfl, (pos rfl), _, rfl, nl, _, rfl, SqL.of e1, fun cl hcl => ?_⟩
    rw [cut_from d0.1, ← List.map_drop]
    have T2 := Same.upd (o := .lst ((zs.drop (c2 % 6).toNat).map V.str)) hcl
    have e2 := upd_same (H := H1) (a := cl) (o := .lst ((zs.drop (c2 % 6).toNat).map V.str))
    generalize upd H1 cl (.lst ((zs.drop (c2 % 6).toNat).map V.str)) = H2 at *
    have zl' : zs.length = 12 := by omega
    have cl7 : 7 ≤ (zs.drop (c2 % 6).toNat).length ∧ (zs.drop (c2 % 6).toNat).length ≤ 12 := by rw [List.length_drop]; omega
    have csz : ∀ z ∈ zs.drop (c2 % 6).toNat, z ∈ zs := fun z h => List.mem_of_mem_drop h
    have cnd : (zs.drop (c2 % 6).toNat).Nodup := znd.sublist (List.drop_sublist _ _)
    generalize zs.drop (c2 % 6).toNat = cs at *
    refine ⟨_, rfl, _, _, rfl, rfl, ⟨by decide, by decide⟩, _, rfl, _, _, rfl, rfl, (by show 0 < 1 + c2 / 6 % 4; omega), ?_⟩
    have at0 := Int.emod_nonneg (c2 / 24) (show (1 + c2 / 6 % 4 : Int) ≠ 0 by omega)
    have at1 := Int.emod_lt_of_pos (c2 / 24) (show (0 : Int) < 1 + c2 / 6 % 4 by omega)
    dsimp only
    generalize c2 / 24 % (1 + c2 / 6 % 4) = at_ at *
    refine ⟨_, rfl, a, ns, 3, rfl, sqL_same hs (s1.trans T2), by decide, fun c3 => ⟨_, rfl, _, rfl, c3, cl, cs, _, rfl, e2, cl7.1, cl7.2, cnd, (by omega), n1.2, fun tl tbs0 H3 u k hk s3 rd3 len3 tb3 => ?_⟩⟩
    generalize hn : 1 + c2 / 6 % 4 = n at *
    refine ⟨_, rfl, _, rfl, (by omega), (by omega), ?_⟩
    refine forF_range (fun i m1 σ H4 => m ≤ m1 ∧ (∃ u7 u8 u9, σ = [some (.ref a), some (.ref nl), some (.int c2), some (.int n), some (.ref cl), some (.int at_), some (.ref tl), u7, u8, u9]) ∧ ∃ tbs, LG H H4 m1 nl cl tl zs cs n tbs i at_) ?_ ?_ ?_
    · refine ⟨hk, ⟨_, _, _, rfl⟩, tbs0, (s1.trans T2).trans s3, s3 _ _ (T2 _ _ e1), s3 _ _ e2, ?_, len3, fun j tb h => ?_⟩
      · obtain ⟨rs, r1, r2, r3, r4⟩ := rd3
        have up : ∀ b o, cut H2 H3 b = some o → cut H H3 b = some o := fun b o e => cut_at (none_of (s1.trans T2) (cut_new e)) (cut_sub _ _ e)
        exact ⟨rs, up _ _ r1, r2, r3, fun j r row h1 h2 => up _ _ (r4 j r row h1 h2)⟩
      · have := tb3 tb (List.mem_of_getElem? h)
        exact ⟨this.1, by omega, fun _ => this.2.1, fun _ => ⟨this.2.2, this.2.1⟩⟩
    · rintro i m1 σ H4 hi ⟨hm1, ⟨u7, u8, u9, rfl⟩, tbs, L⟩
      have hin : i < tbs.length := by have := L.len; omega
      refine ⟨_, rfl, a, ns, 3, rfl, sqL_same hs L.sm, by decide, fun c3' => ⟨_, rfl, _, _, rfl, rfl, c3', _, rfl, fun nb nb0 nb1 => ?_⟩⟩
      have stay : LG H H4 m1 nl cl tl zs cs n tbs (i + 1) at_ := { L with tb := fun j tb h => let ⟨x, y, z, w⟩ := L.tb j tb h; ⟨x, y, fun h' => z (by omega), fun h' => w (by omega)⟩ }
      refine ⟨_, rfl, _, rfl, rfl, _, rfl, ?_⟩
      refine ite2 (fun hne => ?_) (fun _ => iteF ⟨hm1, ⟨_, _, _, rfl⟩, tbs, stay⟩)
      have nat : (i : Int) ≠ at_ := fun e => by
        rw [← e, Int.zero_add, decide_eq_true rfl] at hne
        cases hne
      refine ⟨_, rfl, _, _, rfl, rfl, (pos rfl), rfl, _, rfl, ?_⟩
      refine ite2 (fun _ => ?_) (fun _ => ⟨hm1, ⟨_, _, _, rfl⟩, tbs, stay⟩)
      refine ⟨(by decide), fun p1 h1 => ⟨(by decide), fun p2 h2 => ⟨_, rfl, _, _, rfl, rfl, ⟨by decide, by decide⟩, _, rfl, fun ka H5 u5 k5 hk5 s5 kd => fun sl hsl => ?_⟩⟩⟩
      have T1 := Same.upd (o := .tup [.str "whole"]) h1
      have T2' := Same.upd (o := .tup [.str "word"]) h2
      have T3 := Same.upd (o := .lst [.ref p1, .ref p2, .ref ka]) hsl
      have g1 := T3 _ _ (s5 _ _ (T2' _ _ (upd_same (H := H4) (a := p1) (o := .tup [.str "whole"]))))
      have g2 := T3 _ _ (s5 _ _ (upd_same (a := p2) (o := .tup [.str "word"])))
      have g3 := upd_same (H := H5) (a := sl) (o := .lst [.ref p1, .ref p2, .ref ka])
      have s6 := ((T1.trans T2').trans s5).trans T3
      have kd6 := kd.same T3
      dsimp only
      generalize upd H5 sl (.lst [.ref p1, .ref p2, .ref ka]) = H6 at *
      obtain ⟨rs, r, l1, rlen, ri, er, hset⟩ := L.rd.pick hin
      have nr : H r = none := cut_new er
      have l6 : H6 tl = some (.lst (rs.map V.ref)) := s6 _ _ (cut_sub _ _ l1)
      have r6 : H6 r = some (.dK (rK tbs[i])) := s6 _ _ (cut_sub _ _ er)
      have c6 := s6 _ _ L.hc
      have n6 := s6 _ _ L.hn
      have tbi := L.tb i tbs[i] (List.getElem?_eq_getElem hin)
      have tl2 := tbi.2.2.1 (Nat.le_refl _)
      have tk6 := (tbi.1.st (st_of s6)).up hk5
      have m30 : 0 ≤ nb / 2 % 3 ∧ nb / 2 % 3 < 3 := by omega
      have m20 : 0 ≤ nb / 6 % 2 ∧ nb / 6 % 2 < 3 := by omega
      have any : ∀ v ∈ [V.ref p1, .ref p2, .ref ka], ∃ a', v = .ref a' ∧ Kd H6 k5 a' := fun v hv => by
        have hv' : v = .ref p1 ∨ v = .ref p2 ∨ v = .ref ka := by simpa using hv
        rcases hv' with rfl | rfl | rfl
        · exact ⟨_, rfl, .pl (.whole g1)⟩
        · exact ⟨_, rfl, .pl (.word g2)⟩
        · exact ⟨_, rfl, kd6⟩
      obtain ⟨v1, ev1, hv1⟩ := at_mem (l := [.ref p1, .ref p2, .ref ka]) m30.1 m30.2
      obtain ⟨v2, ev2, hv2⟩ := at_mem (l := [.ref p1, .ref p2, .ref ka]) m20.1 m20.2
      obtain ⟨a1, rfl, kd1⟩ := any _ hv1
      obtain ⟨a2, rfl, kd2⟩ := any _ hv2
      have atr : atI (rs.map V.ref) (0 + (i : Int)) = some (.ref r) := by
        rw [Int.zero_add]
        exact atI_nat (by rw [List.getElem?_map, ri]; rfl)
      have c0l : 0 < cs.length := by omega
      have c3l : 3 < cs.length := by omega
      have at0c : atI (cs.map V.str) 0 = some (.str cs[0]) := atI_nat (j := 0) (by rw [List.getElem?_map, List.getElem?_eq_getElem c0l]; rfl)
      have at3c : atI (cs.map V.str) 3 = some (.str cs[3]) := atI_nat (j := 3) (by rw [List.getElem?_map, List.getElem?_eq_getElem c3l]; rfl)
      refine ⟨_, rfl, _, rfl, _, _, rfl, rfl, ⟨by decide, by decide⟩, _, _, rfl, rfl, (pos rfl), sl, _, _, _, rfl, rfl, SqL.of g3, ev1, _, rfl, _, rfl, tl, _, _, _, rfl, rfl, SqL.of l6, atr, _, rfl, cl, _, _, _, rfl, rfl, SqL.of c6, at0c, r, _, rfl, DPut.k (k := .inr cs[0]) r6 (by rw [sizeLine_eq]; unfold rK; rw [List.length_map]; omega), ?_⟩
      rw [put_rK]
      have ne : ∀ b o, H6 b = some (.lst o) → b ≠ r := fun b o e z => by rw [z, r6] at e; cases e
      have st7 : STu H6 (upd H6 r (.dK (rK (putR tbs[i] cs[0] (.ref a1))))) := STu.put r6 rfl
      have pl1 := putR_len (row := tbs[i]) (z := cs[0]) (v := .ref a1)
      have pl2 := putR_len (row := putR tbs[i] cs[0] (.ref a1)) (z := cs[3]) (v := .ref a2)
      refine ⟨_, rfl, _, rfl, _, _, rfl, rfl, ⟨by decide, by decide⟩, _, _, rfl, rfl, (pos rfl), sl, _, _, _, rfl, rfl, SqL.of ((upd_ne (ne _ _ g3)).trans g3), ev2, _, rfl, _, rfl, tl, _, _, _, rfl, rfl, SqL.of ((upd_ne (ne _ _ l6)).trans l6), atr, _, rfl, cl, _, _, _, rfl, rfl, SqL.of ((upd_ne (ne _ _ c6)).trans c6), at3c, r, _, rfl, DPut.k (k := .inr cs[3]) upd_same (by rw [sizeLine_eq]; unfold rK; rw [List.length_map]; omega), ?_⟩
      rw [put_rK, upd_upd]
      have st8 : STu H6 (upd H6 r (.dK (rK (putR (putR tbs[i] cs[0] (.ref a1)) cs[3] (.ref a2))))) := STu.put r6 rfl
      refine ⟨by omega, ⟨_, _, _, rfl⟩, tbs.set i (putR (putR tbs[i] cs[0] (.ref a1)) cs[3] (.ref a2)), (L.sm.trans s6).put nr, (upd_ne (ne _ _ n6)).trans n6, (upd_ne (ne _ _ c6)).trans c6, ?_, by rw [List.length_set]; exact L.len, fun j tb h => ?_⟩
      · rw [cut_put nr]
        exact (hset _).same (same_upd2 (cut_up s6))
      · by_cases hj : j = i
        · subst hj
          rw [List.getElem?_set_self hin] at h
          cases h
          exact ⟨((tk6.put kd1).put kd2).st st8, by omega, fun h' => by omega, fun h' => by rcases h' with h' | h' <;> omega⟩
        · rw [List.getElem?_set_ne (Ne.symm hj)] at h
          have := L.tb j tb h
          exact ⟨((this.1.st (st_of s6)).up hk5).st st8, this.2.1, fun h' => this.2.2.1 (by omega), fun h' => this.2.2.2 (by omega)⟩
    · rintro m1 σ H4 ⟨hm1, ⟨u7, u8, u9, rfl⟩, tbs, L⟩
      refine ⟨_, rfl, a, ns, 0, rfl, sqL_same hs L.sm, by decide, fun c0 => ⟨_, _, rfl, rfl, ⟨by decide, by decide, by decide⟩, _, _, rfl, rfl, (pos (by decide +kernel)), _, _, rfl, rfl, _, rfl, _, rfl, _, rfl, _, rfl, _, _, rfl, rfl, ⟨by decide, by decide⟩, _, _, rfl, rfl, (pos rfl), _, rfl, (show 6 ≤ sizeLine by decide), fun t ht u' k' hk' u'' k'' hk'' => ?_⟩⟩
      have T5 := Same.upd (H := H4) (o := .tup [.int (1 + c0 % (10 ^ (12 : Int).toNat)), .ref nl, .ref cl, .int at_, .int (c2 / 96 % 3), .ref tl]) ht
      refine q t nl cl tl _ at_ _ zs cs tbs _ u'' k'' (by omega) (L.sm.trans T5) ⟨upd_same, T5 _ _ L.hn, T5 _ _ L.hc, ?_, zl', znd, zb, csz, cnd, cl7.1, at0, by rw [L.len]; exact at1, by have := L.len; omega, tn0.1, tn0.2, (L.rd.same cut_sub).same T5, fun tb h => ?_, fun tb h => (L.tb _ tb h).2.2.2 (.inr (Int.toNat_of_nonneg at0))⟩ (L.rd.same (cut_up T5))
      · have := Int.emod_nonneg c0 (show (10 ^ (12 : Int).toNat : Int) ≠ 0 by decide +kernel)
        omega
      · obtain ⟨j, hj⟩ := List.getElem?_of_mem h
        have := L.tb j tb hj
        exact ⟨(this.1.st (st_of T5)).up (by omega), this.2.1⟩
end
end My

namespace L2
open PySem PySem.Spec PyProof.Rows
theorem cut_to1 {xs : List V} : cutV xs none (some 1) = xs.take 1 := by
  unfold cutV
  rw [sIx_p (by decide), HT.sIx_none, List.drop_zero, Nat.sub_zero]
  cases xs with
  | nil => rfl
  | cons x r => rw [show min (1 : Int).toNat (x :: r).length = 1 by rw [List.length_cons]; omega]
end L2
namespace My
open PySem L2 PyProof.Rows
seal L2.PE L2.PT L2.PW L2.PS L2.PSs L2.PA L2.PI L2.PG L2.PGs L2.OpR L2.CallR L2.IxR L2.SlR L2.MtR L2.PIf L2.PO L2.MtM L2.PC L2.PSM L2.PSsM L2.EWn L2.PEk L2.PSk L2.PSsk
/-! ### lists put in another order -/
theorem pk_perm {zs : List Str} {ix : List Nat} {n : Nat} (hp : ix.Perm (List.range n)) (hn : n = zs.length) : (ix.map fun i => zs.getD i "").Perm zs := by
  refine (hp.map _).trans (List.Perm.of_eq ?_)
  subst hn
  refine List.ext_getElem (by simp) fun i h1 h2 => ?_
  simp only [List.getElem_map, List.getElem_range, List.getD_eq_getElem?_getD, List.getElem?_eq_getElem h2]
  rfl
theorem pk_at {as : List Addr} {zs : List Str} {ix : List Nat} (hl : as.length = zs.length) (hp : ix.Perm (List.range as.length)) {j : Nat} {p : Addr} {z : Str} (h1 : (ix.map fun i => as.getD i 0)[j]? = some p) (h2 : (ix.map fun i => zs.getD i "")[j]? = some z) : ∃ i : Nat, as[i]? = some p ∧ zs[i]? = some z := by
  rw [List.getElem?_map] at h1 h2
  cases e : ix[j]? with
  | none => rw [e] at h1; cases h1
  | some i =>
    rw [e] at h1 h2
    have hi : i < as.length := List.mem_range.mp (hp.mem_iff.mp (List.mem_of_getElem? e))
    have hi2 : i < zs.length := by omega
    refine ⟨i, ?_, ?_⟩
    · rw [← h1]
      show as[i]? = some (as.getD i 0)
      rw [List.getD_eq_getElem?_getD, List.getElem?_eq_getElem hi]
      rfl
    · rw [← h2]
      show zs[i]? = some (zs.getD i "")
      rw [List.getD_eq_getElem?_getD, List.getElem?_eq_getElem hi2]
      rfl
/-! ### forms -/
def ColAt (H : Hp) (m : Nat) (q : Addr) (z : Str) : Prop := ∃ a, H q = some (.tup [.str z, .ref a]) ∧ Kd H m a
def ColsAt (H : Hp) (m : Nat) (c : Addr) (zs : List Str) : Prop := ∃ qs : List Addr, H c = some (.tup (qs.map V.ref)) ∧ qs.length = zs.length ∧ ∀ (j : Nat) (q : Addr) (z : Str), qs[j]? = some q → zs[j]? = some z → ColAt H m q z
def TabAt (H : Hp) (m : Nat) (R : Str → List Str → Prop) (p : Addr) (z : Str) : Prop := ∃ (so : Str) (c : Addr) (zs : List Str), H p = some (.tup [.str z, .str so, .ref c]) ∧ ColsAt H m c zs ∧ zs.Nodup ∧ zs.length ≤ 4 ∧ R z zs
def FrAt (H : Hp) (m : Nat) (R : Str → List Str → Prop) (fm : Addr) (sz : Int) (zs : List Str) : Prop := ∃ (T : Addr) (ps : List Addr), H fm = some (.tup [.int sz, .ref T]) ∧ H T = some (.tup (ps.map V.ref)) ∧ ps.length = zs.length ∧ ∀ (j : Nat) (p : Addr) (z : Str), ps[j]? = some p → zs[j]? = some z → TabAt H m R p z
/-- the columns of a table, by its name -/
def RT (zs : List Str) (tbs : List Rw) (z : Str) (ws : List Str) : Prop := ∃ (j : Nat) (tb : Rw), zs[j]? = some z ∧ tbs[j]? = some tb ∧ ws.Perm (tb.map (·.1))
theorem ColAt.st {H H' : Hp} {m : Nat} {q : Addr} {z : Str} (h : ColAt H m q z) (s : STu H H') : ColAt H' m q z := let ⟨a, e, k⟩ := h; ⟨a, s _ _ e rfl, k.st s⟩
theorem ColsAt.st {H H' : Hp} {m : Nat} {c : Addr} {zs : List Str} (h : ColsAt H m c zs) (s : STu H H') : ColsAt H' m c zs := let ⟨qs, e, l, k⟩ := h; ⟨qs, s _ _ e rfl, l, fun j q z a b => (k j q z a b).st s⟩
theorem TabAt.st {H H' : Hp} {m : Nat} {R : Str → List Str → Prop} {p : Addr} {z : Str} (h : TabAt H m R p z) (s : STu H H') : TabAt H' m R p z := let ⟨so, c, zs, e, k, n, l⟩ := h; ⟨so, c, zs, s _ _ e rfl, k.st s, n, l⟩
theorem FrAt.st {H H' : Hp} {m : Nat} {R : Str → List Str → Prop} {fm : Addr} {sz : Int} {zs : List Str} (h : FrAt H m R fm sz zs) (s : STu H H') : FrAt H' m R fm sz zs := let ⟨T, ps, e1, e2, l, k⟩ := h; ⟨T, ps, s _ _ e1 rfl, s _ _ e2 rfl, l, fun j p z a b => (k j p z a b).st s⟩
def spFr (m : Nat) : Sp := fun vs H Q _ => ∃ (sz tn : Int) (nl tl : Addr) (zs : List Str) (tbs : List Rw), vs = [.int sz, .ref nl, .ref tl, .int tn] ∧ H nl = some (.lst (zs.map V.str)) ∧ zs.length = 12 ∧ zs.Nodup ∧ RowsAt H tl tbs ∧ 1 ≤ tbs.length ∧ tbs.length ≤ 4 ∧ (∀ tb ∈ tbs, TbOk H m tb ∧ tb.length ≤ 4) ∧
  ∀ fm ns H', Same H H' → FrAt H' m (RT zs tbs) fm sz ns → ns.Perm (zs.take tbs.length) → Q (.ref fm) H'
def nFr : List Str := ["_law_size", "_law_names_here", "_law_tables_here", "_law_turn", "_law_rows", "_law_k", "_law_sort_here"]
theorem sortAt (i : Int) : ∃ so, atI [V.str "twin", .str "many", .str "some"] (i % 3) = some (.str so) := by
  obtain ⟨v, ev, hv⟩ := at_mem (l := [V.str "twin", .str "many", .str "some"]) (Int.emod_nonneg i (show (3 : Int) ≠ 0 by decide)) (Int.emod_lt_of_pos i (show (0 : Int) < 3 by decide))
  have hv' : v = .str "twin" ∨ v = .str "many" ∨ v = .str "some" := by simpa using hv
  rcases hv' with rfl | rfl | rfl <;> exact ⟨_, ev⟩
section
variable {P : Program} {w : World} {K : PySem.W.Frag} {mg : Str → Option Value} {base : Heap}
theorem ok_fr {f : Addr} {fd : FuncData} (F : Fun K "_law_form" "_law_form" (top 25) f fd) (B : Bl mg) (m : Nat) : FnOk P w K mg base CX0 1 f fd ["_law_size", "_law_names_here", "_law_tables_here", "_law_turn"] (spFr m) := by
  have sc : FnScope nFr ["_law_size", "_law_names_here", "_law_tables_here", "_law_turn"] (defScope (top 25)) := ⟨rfl, rfl, rfl, by decide +kernel, rfl, by decide +kernel, by decide +kernel⟩
  refine F.ok sc (fun vs H Q E h => ?_) (fun cdv A outer s H vs Q E hr h => ?_)
  · obtain ⟨sz, tn, nl, tl, zs, tbs, rfl, _⟩ := h
    rfl
  · obtain ⟨sz, tn, nl, tl, zs, tbs, rfl, hnl, z12, znd, ⟨rs, r1, r2, r3⟩, t1, t4, htb, q⟩ := h
    refine ⟨_, pss_cons (ps_set (i := 4) sc.nd rfl (Or.inl rfl) (pe_lst pa_nil))
      (pss_cons (ps_for PassesOwn.never rfl (pi_range1 rfl B.range (pa_cons (pe_callB call_len_seq (by rfl) B.len PySem.boot_len (pa_cons (pv 2) pa_nil)) pa_nil)) (pg_name (i := 5) sc.nd rfl (Or.inl rfl))
        (pss_cons (ps_set (i := 6) sc.nd rfl (Or.inl rfl) (pe_ix ix_list (pe_lst (pa_cons pe_str (pa_cons pe_str (pa_cons pe_str pa_nil)))) (pe_op op_mod (pe_op op_add (pv 5) (pv 3)) pe_int) (fun _ _ => rfl)))
        (pss_cons (ps_cut21 (ps_if (pt_cmpR op_eq (pv 5) pe_int (nomark _)) (pss_one (ps_set (i := 6) sc.nd rfl (Or.inl rfl) pe_str)) pss_nil))
        (pss_one (ps_expr (pe_bm PySem.F.plainAttrs_list PySem.F.slot_list_append PySem.F.type_list_append mt_app (pv 4) (pa_cons (pe_tup (pa_cons (pe_ix ix_list (pv 1) (pv 5) (fun _ _ => rfl)) (pa_cons (pv 6) (pa_cons (pe_callTy call_tuple_of (by rfl) B.tuple boot_tuple (pa_cons (pe_callB (call_sortedIt rfl) (by rfl) B.sorted boot_sorted (pa_cons (pe_bm0 PySem.F.plainAttrs_dict PySem.F.slot_dict_items PySem.F.type_dict_items mt_items (pe_ix ix_list (pv 2) (pv 5) (fun _ _ => rfl))) pa_nil)) pa_nil)) pa_nil)))) pa_nil)))))))
      (pss_one (ps_ret (pe_tup (pa_cons (pv 0) (pa_cons (pe_callTy call_tuple_of (by rfl) B.tuple boot_tuple (pa_cons (pe_op op_cat (pe_slice sl_list (pv 4) po_none (po_some pe_int)) (pe_callB call_sortedT (by rfl) B.sorted boot_sorted (pa_cons (pe_slice sl_list (pv 4) (po_some pe_int) po_none) pa_nil))) pa_nil)) pa_nil)))))), ?_⟩
    refine ⟨Nat.zero_le _, fun l hl => ?_⟩
    have T1 := Same.upd (o := .lst []) hl
    have e1 := upd_same (H := H) (a := l) (o := .lst [])
    generalize upd H l (.lst []) = H1 at *
    have rl : (rs.map V.ref).length = tbs.length := by rw [List.length_map, r2]
    refine ⟨_, rfl, _, _, rfl, .inl (SqL.of (T1 _ _ r1)), _, rfl, (by rw [rl]; omega), (by rw [rl]; omega), for_range (fun i σ H2 => Same H H2 ∧ (∃ u5 u6, σ = [some (.int sz), some (.ref nl), some (.ref tl), some (.int tn), some (.ref l), u5, u6]) ∧ ∃ ps : List Addr, H2 l = some (.lst (ps.map V.ref)) ∧ ps.length = i ∧ ∀ (j : Nat) (p : Addr) (z : Str), ps[j]? = some p → zs[j]? = some z → TabAt H2 m (RT zs tbs) p z) ⟨T1, ⟨_, _, rfl⟩, [], e1, rfl, fun j p z h => nomatch h⟩ ?_ ?_⟩
    · rintro i σ H2 hi ⟨sm, ⟨u5, u6, rfl⟩, ps, e2, pl, hps⟩
      have hit : i < tbs.length := by omega
      obtain ⟨so0, eso⟩ := sortAt (0 + (i : Int) + tn)
      refine ⟨(show 3 ≤ sizeLine by decide), fun sl hsl => ⟨_, rfl, _, rfl, _, _, rfl, rfl, _, _, rfl, rfl, (pos rfl), sl, _, _, _, rfl, rfl, SqL.of upd_same, eso, ?_⟩⟩
      have T2 := Same.upd (o := .lst [.str "twin", .str "many", .str "some"]) hsl
      generalize upd H2 sl (.lst [.str "twin", .str "many", .str "some"]) = H3 at *
      refine ⟨fun σ' H' => H' = H3 ∧ ∃ so, σ' = [some (.int sz), some (.ref nl), some (.ref tl), some (.int tn), some (.ref l), some (.int (0 + (i : Int))), some (.str so)], ?_, ?_⟩
      · refine ⟨_, rfl, rfl, _, rfl, ?_⟩
        exact ite2 (fun _ => ⟨rfl, _, rfl⟩) (fun _ => ⟨rfl, _, rfl⟩)
      rintro σ' H' ⟨rfl, so, rfl⟩
      have sm3 := sm.trans T2
      have hzi : i < zs.length := by omega
      have hri : i < rs.length := by omega
      have atz : atI (zs.map V.str) (0 + (i : Int)) = some (.str zs[i]) := by
        rw [Int.zero_add]
        exact atI_nat (by rw [List.getElem?_map, List.getElem?_eq_getElem hzi]; rfl)
      have atr : atI (rs.map V.ref) (0 + (i : Int)) = some (.ref rs[i]) := by
        rw [Int.zero_add]
        exact atI_nat (by rw [List.getElem?_map, List.getElem?_eq_getElem hri]; rfl)
      have dr := sm3 _ _ (r3 i rs[i] tbs[i] (List.getElem?_eq_getElem hri) (List.getElem?_eq_getElem hit))
      obtain ⟨tok, tl4⟩ := htb tbs[i] (List.getElem_mem hit)
      refine ⟨_, rfl, .inl ⟨rfl, _, SqL.of (T2 _ _ e2)⟩, _, rfl, _, rfl, nl, _, _, _, rfl, rfl, SqL.of (sm3 _ _ hnl), atz, _, rfl, _, rfl, _, rfl, tl, _, _, _, rfl, rfl, SqL.of (sm3 _ _ r1), atr, ?_, rs[i], _, rfl, rfl, .inl dr, fun pv hpv => ?_⟩
      · exact .inr (.inr (.inl ⟨rfl, .inl ⟨_, dr⟩⟩))
      have T3 := Same.upd (o := .ext (vwP pv rs[i])) hpv
      refine ⟨pv, rs[i], _, tbs[i].map (·.1), rfl, upd_same, .inl (T3 _ _ dr), ?_, tok.1, by rw [List.length_map]; omega, fun sl2 as ix H5 n1 n2 n3 nd len5 s5 g5 pm rise el => ?_⟩
      · unfold rK
        rw [List.map_map, List.map_map]
        rfl
      have kl : (rK tbs[i]).length = tbs[i].length := by unfold rK; rw [List.length_map]
      refine ⟨sl2, _, rfl, .inl ⟨SqL.of el, fun c hc => ⟨(show 3 ≤ sizeLine by decide), fun p hp => ?_⟩⟩⟩
      have T6 := Same.upd (o := .tup ((ix.map fun i => as.getD i 0).map V.ref)) hc
      have T7 := Same.upd (o := .tup [.str zs[i], .str so, .ref c]) hp
      have s7 := ((T2.trans (T3.trans s5)).trans T6).trans T7
      have l7 := s7 _ _ e2
      refine ⟨l, _, _, rfl, rfl, l7, (by rw [List.length_map, sizeLine_eq]; omega), ?_⟩
      have st8 : STu _ _ := STu.put (o' := .lst (ps.map V.ref ++ [.ref p])) l7 rfl
      refine ⟨(sm.trans s7).put hl, ⟨_, _, rfl⟩, ps ++ [p], by rw [upd_same, List.map_append]; rfl, by rw [List.length_append, pl]; rfl, fun j p' z h1 h2 => ?_⟩
      by_cases hj : j < ps.length
      · rw [List.getElem?_append_left hj] at h1
        exact ((hps j p' z h1 h2).st (st_of s7)).st st8
      · have ej : j = ps.length := by
          have := (List.getElem?_eq_some_iff.mp h1).1
          rw [List.length_append] at this
          simp at this
          omega
        subst ej
        rw [List.getElem?_append_right (Nat.le_refl _), Nat.sub_self] at h1
        cases h1
        rw [pl, List.getElem?_eq_getElem hzi] at h2
        cases h2
        refine TabAt.st ⟨so, c, ix.map fun i' => (tbs[i].map (·.1)).getD i' "", upd_same, ⟨ix.map fun i => as.getD i 0, T7 _ _ upd_same, by rw [List.length_map, List.length_map], fun j q z' h1 h2 => ?_⟩, ?_, ?_, ⟨i, tbs[i], List.getElem?_eq_getElem hzi, List.getElem?_eq_getElem hit, pk_perm (zs := tbs[i].map (·.1)) pm (by rw [len5, kl, List.length_map])⟩⟩ st8
        · obtain ⟨i', a1, a2⟩ := pk_at (zs := tbs[i].map (·.1)) (by rw [len5, kl, List.length_map]) pm h1 h2
          rw [List.getElem?_map] at a2
          cases e9 : tbs[i][i']? with
          | none => rw [e9] at a2; cases a2
          | some cv =>
            rw [e9] at a2
            cases a2
            obtain ⟨ka, ek, kd⟩ := tok.2 cv (List.mem_of_getElem? e9)
            have g := g5 i' q (.inr cv.1) cv.2 a1 (by unfold rK; rw [List.getElem?_map, e9]; rfl)
            rw [ek] at g
            exact ⟨ka, T7 _ _ (T6 _ _ g), kd.st (st_of (sm.trans s7))⟩
        · exact (pk_perm pm (by rw [len5, kl, List.length_map])).nodup_iff.mpr tok.1
        · rw [List.length_map, pm.length_eq, List.length_range, len5, kl]
          exact tl4
    · rintro σ H2 ⟨sm, ⟨u5, u6, rfl⟩, ps, e2, pl, hps⟩
      have plt : ps.length = tbs.length := by omega
      have nl1 : (zs.take tbs.length).length = ps.length := by rw [List.length_take]; omega
      have hps' : ∀ (j : Nat) (p : Addr) (z : Str), ps[j]? = some p → (zs.take tbs.length)[j]? = some z → TabAt H2 m (RT zs tbs) p z := fun j p z h1 h2 => by
        have hj : j < tbs.length := by rw [← plt]; exact (List.getElem?_eq_some_iff.mp h1).1
        rw [List.getElem?_take_of_lt hj] at h2
        exact hps j p z h1 h2
      have nnd : (zs.take tbs.length).Nodup := znd.sublist (List.take_sublist _ _)
      generalize hns : zs.take tbs.length = ns at *
      refine ⟨_, rfl, _, rfl, _, rfl, l, _, rfl, SqL.of e2, fun l1 h1 => ?_⟩
      rw [cut_to1, ← List.map_take]
      have T3 := Same.upd (o := .lst ((ps.take 1).map V.ref)) h1
      have e3 := upd_same (H := H2) (a := l1) (o := .lst ((ps.take 1).map V.ref))
      generalize upd H2 l1 (.lst ((ps.take 1).map V.ref)) = H3 at *
      refine ⟨_, rfl, _, rfl, l, _, rfl, SqL.of (T3 _ _ e2), fun l2 h2 => ?_⟩
      rw [cut_from (by decide), ← List.map_drop]
      have T4 := Same.upd (o := .lst ((ps.drop (1 : Int).toNat).map V.ref)) h2
      have e4 := upd_same (H := H3) (a := l2) (o := .lst ((ps.drop (1 : Int).toNat).map V.ref))
      generalize upd H3 l2 (.lst ((ps.drop (1 : Int).toNat).map V.ref)) = H4 at *
      have hd : ∀ (j : Nat) (p : Addr) (z : Str), (ps.drop (1 : Int).toNat)[j]? = some p → (ns.drop (1 : Int).toNat)[j]? = some z → TabAt H2 m (RT zs tbs) p z := fun j p z a1 a2 => by
        rw [List.getElem?_drop] at a1 a2
        exact hps' _ p z a1 a2
      have dl : (ps.drop (1 : Int).toNat).length = (ns.drop (1 : Int).toNat).length := by rw [List.length_drop, List.length_drop, nl1]
      have dn : (ns.drop (1 : Int).toNat).Nodup := nnd.sublist (List.drop_sublist _ _)
      refine ⟨l2, ps.drop (1 : Int).toNat, ns.drop (1 : Int).toNat, rfl, SqL.of e4, dl, fun j p z a1 a2 => ?_, dn, by rw [List.length_drop]; omega, fun l3 ix h3 pm _ => ?_⟩
      · obtain ⟨so, c, ws, g, _⟩ := hd j p z a1 a2
        exact ⟨_, SqT.of (T4 _ _ (T3 _ _ g))⟩
      have T5 := Same.upd (o := .lst ((ix.map fun i => (ps.drop (1 : Int).toNat).getD i 0).map V.ref)) h3
      have e5 := upd_same (H := H4) (a := l3) (o := .lst ((ix.map fun i => (ps.drop (1 : Int).toNat).getD i 0).map V.ref))
      generalize upd H4 l3 (.lst ((ix.map fun i => (ps.drop (1 : Int).toNat).getD i 0).map V.ref)) = H5 at *
      have ixl : ix.length = ps.length - 1 := by rw [pm.length_eq, List.length_range, List.length_drop]; rfl
      refine ⟨l1, l3, _, _, rfl, rfl, T5 _ _ (T4 _ _ e3), e5, (by rw [List.length_map, List.length_map, List.length_map, List.length_take, ixl, sizeLine_eq]; omega), fun l4 h4 => ?_⟩
      rw [← List.map_append]
      have T6 := Same.upd (o := .lst ((ps.take 1 ++ ix.map fun i => (ps.drop (1 : Int).toNat).getD i 0).map V.ref)) h4
      have e6 := upd_same (H := H5) (a := l4) (o := .lst ((ps.take 1 ++ ix.map fun i => (ps.drop (1 : Int).toNat).getD i 0).map V.ref))
      generalize upd H5 l4 (.lst ((ps.take 1 ++ ix.map fun i => (ps.drop (1 : Int).toNat).getD i 0).map V.ref)) = H6 at *
      refine ⟨l4, _, rfl, .inl ⟨SqL.of e6, fun T hT => ⟨(show 2 ≤ sizeLine by decide), fun fm hfm => ?_⟩⟩⟩
      have T7 := Same.upd (o := .tup ((ps.take 1 ++ ix.map fun i => (ps.drop (1 : Int).toNat).getD i 0).map V.ref)) hT
      have T8 := Same.upd (o := .tup [.int sz, .ref T]) hfm
      have s8 := (((T3.trans T4).trans T5).trans T6).trans (T7.trans T8)
      refine q fm (ns.take 1 ++ ix.map fun i => (ns.drop (1 : Int).toNat).getD i "") _ (sm.trans s8) ⟨T, _, upd_same, T8 _ _ upd_same, by rw [List.length_append, List.length_append, List.length_map, List.length_map, List.length_take, List.length_take, nl1], fun j p z a1 a2 => ?_⟩ ?_
      · refine TabAt.st ?_ (st_of s8)
        by_cases hj : j < (ps.take 1).length
        · have hj2 : j < (ns.take 1).length := by rw [List.length_take] at hj ⊢; omega
          have hj1 : j < 1 := by rw [List.length_take] at hj; omega
          rw [List.getElem?_append_left hj, List.getElem?_take_of_lt hj1] at a1
          rw [List.getElem?_append_left hj2, List.getElem?_take_of_lt hj1] at a2
          exact hps' j p z a1 a2
        · have hj2 : (ns.take 1).length ≤ j := by rw [List.length_take] at hj ⊢; omega
          have el : (ns.take 1).length = (ps.take 1).length := by rw [List.length_take, List.length_take, nl1]
          rw [List.getElem?_append_right (by omega)] at a1
          rw [List.getElem?_append_right hj2, el] at a2
          obtain ⟨i', b1, b2⟩ := pk_at dl pm a1 a2
          exact hd i' p z b1 b2
      · have p1 := (pk_perm pm dl).append_left (ns.take 1)
        rw [show (1 : Int).toNat = 1 from rfl, List.take_append_drop] at p1
        exact p1
end
end My

/-! enumerate OF A TUPLE (own work, on the pattern of the list's). -/
namespace L2
open PySem PySem.Spec PyProof.Rows
section
variable {prog : Program} {w : World} {A : Around} {E : Value → Shared → Prop} {s : Shared}
theorem enumT_item {z j t : Addr} {i : Nat} {xs : Array Value} {x old : Value} {Q : Value → Shared → Prop} (hz : IsEnum s.heap z j i old) (hj : s.heap.IsTupleIter j t i) (ht : s.heap.IsTuple t xs) (hx : xs[i]? = some x) (ne : z ≠ j)
    (hQ : ∀ h', IsEnumOut h' z j ((i : Int) + 1) x s.heap.objs.size → h'.IsTupleIter j t (i + 1) → h'.get? s.heap.objs.size = some { cls := .type "tuple", data := .seq #[.int i s.toks, x] } → h'.objs.size = s.heap.objs.size + 1 → (∀ b o, b ≠ z → b ≠ j → s.heap.get? b = some o → h'.get? b = some o) → Q (.ref s.heap.objs.size) { s with heap := h', toks := s.toks + 1 }) :
    wpAny (model prog w) A (Builtin.«enumerate.__next__» ⟨[.ref z], []⟩) (fun fin s' => ∃ v, fin = .done (.ret v) ∧ Q v s') E s := by
  obtain ⟨h0, gs, dr, tk, os⟩ := s
  show wpAny _ _ (field (.ref z) 2 >>= _) _ _ _
  refine wpAny_bind (wpAny_field hz rfl (x := .ref j) rfl (wpAny_bind (nextT_item hj ht hx fun h1 hj1 sb1 => ?_)))
  replace sb1 : Heap.SameBut j h0 h1 := sb1
  have z1 : IsEnum h1 z j i old := (sb1.2 z ne).trans hz
  show wpAny _ _ (field (.ref z) 3 >>= _) _ _ ⟨h1, gs, dr, tk, os⟩
  refine wpAny_bind (wpAny_field z1 rfl (x := rawInt i) rfl ?_)
  show wpAny _ _ (field (.ref z) 4 >>= _) _ _ ⟨h1, gs, dr, tk, os⟩
  refine wpAny_bind (wpAny_field z1 rfl (x := .none) rfl ?_)
  show wpAny _ _ (mkInt i >>= _) _ _ ⟨h1, gs, dr, tk, os⟩
  refine wpAny_bind (wpAny_mkInt ?_)
  show wpAny _ _ (setField (.ref z) 3 (rawInt ((i : Int) + 1)) >>= _) _ _ ⟨h1, gs, dr, tk + 1, os⟩
  refine wpAny_bind (wpAny_setField_rec z1 (by simp) fun h2 z2 sb2 => ?_)
  replace sb2 : Heap.SameBut z h1 h2 := sb2
  replace z2 : IsEnum h2 z j ((i : Int) + 1) old := z2
  show wpAny _ _ (setField (.ref z) 4 .none >>= _) _ _ ⟨h2, gs, dr, tk + 1, os⟩
  refine wpAny_bind (wpAny_setField_rec z2 (by simp) fun h3 z3 sb3 => ?_)
  replace sb3 : Heap.SameBut z h2 h3 := sb3
  replace z3 : IsEnum h3 z j ((i : Int) + 1) old := z3
  show wpAny _ _ (newTuple [.int i tk, x] >>= _) _ _ ⟨h3, gs, dr, tk + 1, os⟩
  refine wpAny_bind (wpAny_newTuple ?_)
  have size3 : h3.objs.size = h0.objs.size := by rw [sb3.1, sb2.1, sb1.1]
  have zlt : z < h0.objs.size := Heap.lt_size hz
  have z4 : IsEnum (h3.push { cls := .type "tuple", data := .seq #[.int i tk, x] }) z j ((i : Int) + 1) old := Heap.get?_push_of_some _ z3
  have g4 : (h3.push { cls := .type "tuple", data := .seq #[.int i tk, x] }).get? h0.objs.size = some { cls := .type "tuple", data := .seq #[.int i tk, x] } := by rw [← size3]; exact Heap.get?_push_size _ rfl
  have n4 : (h3.push { cls := .type "tuple", data := .seq #[.int i tk, x] }).objs.size = h0.objs.size + 1 := by rw [Heap.size_push, size3]
  have k4 : ∀ b o, b ≠ z → b ≠ j → h0.get? b = some o → (h3.push { cls := .type "tuple", data := .seq #[.int i tk, x] }).get? b = some o := fun b o bz bj e => Heap.get?_push_of_some _ (sb3.extBut b o bz (sb2.extBut b o bz (sb1.extBut b o bj e)))
  have j4 : (h3.push { cls := .type "tuple", data := .seq #[.int i tk, x] }).IsTupleIter j t (i + 1) := ((hj1.extBut sb2.extBut (Ne.symm ne)).extBut sb3.extBut (Ne.symm ne)).at fun o e => Heap.get?_push_of_some _ e
  rw [size3]
  generalize h3.push { cls := .type "tuple", data := .seq #[.int i tk, x] } = h4 at z4 g4 n4 k4 j4
  show wpAny _ _ (Builtin.SmallTypes.ownedTupleIsFree (.ref z) >>= _) _ _ ⟨h4, gs, dr, tk + 1, os⟩
  clear sb3 z3 sb2 z2 sb1 z1 hj1 size3
  refine wpAny_bind ?_
  unfold Builtin.SmallTypes.ownedTupleIsFree
  refine wpAny_bind (wpAny_field z4 rfl (x := .none) rfl (wpAny_pure ?_))
  simp only [if_true]
  refine wpAny_bind (wpAny_rule (wpAny_bind (wpAny_field z4 rfl (x := old) rfl (wpAny_bind (wpAny_setField_rec z4 (by simp) fun h5 z5 sb5 => ?_)))))
  replace sb5 : Heap.SameBut z h4 h5 := sb5
  replace z5 : IsEnum h5 z j ((i : Int) + 1) x := z5
  show wpAny _ _ (Builtin.SmallTypes.ownedTupleHandOut (.ref z) (.ref h0.objs.size) >>= _) _ _ ⟨h5, gs, dr, tk + 1, os⟩
  refine wpAny_bind ?_
  unfold Builtin.SmallTypes.ownedTupleHandOut
  refine wpAny_bind (wpAny_setField_rec z5 (by simp) fun h6 z6 sb6 => ?_)
  replace sb6 : Heap.SameBut z h5 h6 := sb6
  replace z6 : IsEnumOut h6 z j ((i : Int) + 1) x h0.objs.size := z6
  refine wpAny_setField_rec z6 (by simp) fun h7 z7 sb7 => ?_
  replace sb7 : Heap.SameBut z h6 h7 := sb7
  replace z7 : IsEnumOut h7 z j ((i : Int) + 1) x h0.objs.size := z7
  have k7 : ∀ b o, b ≠ z → h4.get? b = some o → h7.get? b = some o := fun b o bz e => sb7.extBut b o bz (sb6.extBut b o bz (sb5.extBut b o bz e))
  refine wpAny_bind (wpAny_letGo (wpAny_pure ⟨_, rfl, hQ h7 z7 (j4.at fun o e => k7 _ _ (Ne.symm ne) e) (k7 _ _ (Nat.ne_of_gt zlt) g4) (by rw [sb7.1, sb6.1, sb5.1, n4]) fun b o bz bj e => k7 b o bz (k4 b o bz bj e)⟩))
theorem enumT_next {z j t : Addr} {i : Nat} {xs : Array Value} {x old : Value} {Q : Option Value → Shared → Prop} (hz : IsEnum s.heap z j i old) (hj : s.heap.IsTupleIter j t i) (ht : s.heap.IsTuple t xs) (hx : xs[i]? = some x) (ne : z ≠ j)
    (hQ : ∀ h', IsEnumOut h' z j ((i : Int) + 1) x s.heap.objs.size → h'.IsTupleIter j t (i + 1) → h'.get? s.heap.objs.size = some { cls := .type "tuple", data := .seq #[.int i s.toks, x] } → h'.objs.size = s.heap.objs.size + 1 → (∀ b o, b ≠ z → b ≠ j → s.heap.get? b = some o → h'.get? b = some o) → Q (some (.ref s.heap.objs.size)) { s with heap := h', toks := s.toks + 1 }) :
    wpAny (model prog w) A (pyNext (.ref z)) Q E s := by
  have ty : s.TypeIs (.ref z) "enumerate" := ⟨_, hz, rfl⟩
  unfold pyNext
  exact wpAny_bind (wpAny_attempt (wpAny_callSpecial?_slot (name := Str.ofString "__next__") ty F.slot_enumerate_next (wpAny_call_entry F.slot_enumerate_next ty F.entry_enumerate_next (enumT_item hz hj ht hx ne fun h' a b c d k => wpAny_pure (hQ h' a b c d k)) (F.args_enumerate_next_1 _))))
theorem enumT_end {z j t : Addr} {i : Nat} {xs : Array Value} {old : Value} {Q : Option Value → Shared → Prop} (hh : A.handled = none) (hz : IsEnum s.heap z j i old) (hj : s.heap.IsTupleIter j t i) (ht : s.heap.IsTuple t xs) (hx : xs[i]? = none)
    (hQ : ∀ h', Heap.ExtBut j s.heap h' → Q none { s with heap := h' }) : wpAny (model prog w) A (pyNext (.ref z)) Q E s := by
  have ty : s.TypeIs (.ref z) "enumerate" := ⟨_, hz, rfl⟩
  unfold pyNext
  refine wpAny_bind (wpAny_attempt (wpAny_callSpecial?_slot (name := Str.ofString "__next__") ty F.slot_enumerate_next (wpAny_call_entry F.slot_enumerate_next ty F.entry_enumerate_next ?_ (F.args_enumerate_next_1 _))))
  show wpAny _ _ (field (.ref z) 2 >>= _) _ _ _
  refine wpAny_bind (wpAny_field hz rfl (x := .ref j) rfl (wpAny_bind (nextT_end hh hj ht hx fun h' e hb ⟨o, ho, hc⟩ => ?_)))
  exact wpAny_bind (wpAny_isInstance (T := "StopIteration") (b := true) ⟨o, ho, hc⟩ isSubtype_stop (wpAny_pure (hQ _ hb)))
theorem meets_enumT (t : Addr) (xs : Array Value) :
    Meets (Builtin.«enumerate.__new__» ⟨[.type "enumerate", .ref t], []⟩) (fun _ R s => s.heap.IsTuple t xs ∧
      R (.ok (.ret (.ref (s.heap.objs.size + 1)))) { s with heap := (s.heap.push { cls := .type "tuple_iterator", data := .fields #[.ref t, .int 0 0] }).push { cls := .type "enumerate", data := .fields #[.none, .bool false, .ref s.heap.objs.size, rawInt 0, .none, .none] } }) :=
  .of_wp fun prog w A R s h => by
    obtain ⟨h0, gs, dr, tk, os⟩ := s
    obtain ⟨ht, h⟩ := h
    obtain ⟨o, ho, hc, n, hd⟩ := id ht
    have hsub := sub_enumerate
    have hz : (h0.push { cls := .type "tuple_iterator", data := .fields #[.ref t, .int 0 0] }).objs.size = h0.objs.size + 1 := Heap.size_push ..
    rw [← hz] at h
    wp_walk using AutoSeq1.wpAny_loadPart' ho
    refine wpAny_stack_any fun st => wpAny_pure ?_
    split
    · rename_i c _ _ _ _ _
      cases (c == Value.type "enumerate")
      · wp_walk using AutoSeq1.wpAny_loadPart' ho, wpAny_pyIter_tuple ht
        exact ⟨_, rfl, h⟩
      · wp_walk using AutoSeq1.wpAny_loadPart' ho, wpAny_pyIter_tuple ht
        exact ⟨_, rfl, h⟩
    · wp_walk using AutoSeq1.wpAny_loadPart' ho, wpAny_pyIter_tuple ht
      exact ⟨_, rfl, h⟩
theorem call_enumT {t : Addr} {xs : Array Value} {Q : Value → Shared → Prop} (ht : s.heap.IsTuple t xs)
    (h : ∀ h', IsEnum h' (s.heap.objs.size + 1) s.heap.objs.size 0 .none → h'.IsTupleIter s.heap.objs.size t 0 → (∀ b o, s.heap.get? b = some o → h'.get? b = some o) → Q (.ref (s.heap.objs.size + 1)) { s with heap := h' }) :
    wpAny (model prog w) A (call (.type "enumerate") [.ref t]) Q E s := by
  refine callType_new F.called_enumerate (by decide) (F.typeCall_enumerate_1 _) (F.newCall_enumerate_1 _) (fun obj => F.args_object_init_2 obj _) F.entry_enumerate_new (meets_enumT t xs) ⟨ht, ?_⟩
  have hz : (s.heap.push { cls := .type "tuple_iterator", data := .fields #[.ref t, .int 0 0] }).objs.size = s.heap.objs.size + 1 := Heap.size_push ..
  have he : IsEnum ((s.heap.push { cls := .type "tuple_iterator", data := .fields #[.ref t, .int 0 0] }).push { cls := .type "enumerate", data := .fields #[.none, .bool false, .ref s.heap.objs.size, rawInt 0, .none, .none] }) (s.heap.objs.size + 1) s.heap.objs.size 0 .none := by
    rw [← hz]
    exact Heap.get?_push_size _ rfl
  exact ⟨⟨_, he, rfl⟩, h _ he ⟨_, Heap.get?_push_of_some _ (Heap.get?_push_size _ rfl), rfl, rfl⟩ fun b o x => Heap.get?_push_of_some _ (Heap.get?_push_of_some _ x)⟩
end
def IteT (K : PySem.W.Frag) (a : Addr) : It :=
  ⟨fun i H => ∃ xs x, SqT K H a xs ∧ xs[i]? = some x, fun i H x H' => ∃ y p, (∀ xs, SqT K H a xs → xs[i]? = some y) ∧ x = .ref p ∧ H p = none ∧ H' = upd H p (.tup [.int i, y]), fun i H => ∃ xs, SqT K H a xs ∧ xs.length ≤ i⟩
theorem turn_enumT {P : Program} {w : World} {K : PySem.W.Frag} {es : List Expr} {x1 : Nat} {tp : Pos} (a z j : Addr) (ne : z ≠ j) : Turn P w K (.Tuple es x1 tp) (IteT K a) [z, j] z (fun i h => (∃ old, IsEnum h z j i old) ∧ h.IsTupleIter j a i) where
  mem := by simp
  obj := fun i h st b hb => by
    obtain ⟨⟨old, s1⟩, s2⟩ := st
    rcases List.mem_cons.mp hb with e | e
    · subst e
      exact ⟨_, s1, fun v z => by cases z⟩
    · have e := List.mem_singleton.mp e
      subst e
      obtain ⟨o, g, c, d⟩ := s2
      exact ⟨o, g, fun v z => by rw [d] at z; cases z⟩
  keep := fun i h h' st k => by
    obtain ⟨⟨old, s1⟩, s2⟩ := st
    exact ⟨⟨old, k z (by simp) _ s1⟩, s2.at fun o g => k j (by simp) o g⟩
  item := by
    intro X hP hw hK hc i pins s σ H E I hf st hg
    subst hP hw hK
    obtain ⟨⟨old, s1⟩, s2⟩ := st
    obtain ⟨xs, x, hq, hx⟩ := hg
    obtain ⟨its, rv, p, hsz⟩ := I.tuple hq
    obtain ⟨u, hu, ru⟩ := rv.get hx
    have lz : z < s.heap.objs.size := Heap.lt_size s1
    have lj : j < s.heap.objs.size := by obtain ⟨o, g, _⟩ := s2; exact Heap.lt_size g
    refine enumT_next s1 s2 (show s.heap.IsTuple a its.toArray from p) (x := u) (by simpa using hu) ne fun h' st' si' ht hs' kp => ⟨_, rfl, ?_⟩
    refine wpAny_letOwnedTupleGo_enum (s := { s with heap := h', toks := s.toks + 1 }) st' fun h'' st'' sb => ?_
    have si'' : h''.IsTupleIter j a (i + 1) := si'.at fun o q => (sb.2 j (Ne.symm ne)).trans q
    have hp : H s.heap.objs.size = none := I.hok.fresh (Nat.le_refl _)
    obtain ⟨oj, ej, cj, dj⟩ := id si''
    obtain ⟨oj0, ej0, _⟩ := id s2
    obtain ⟨f0, f1, f2, f3, f4, f5⟩ := hf z (by simp)
    obtain ⟨g0, g1, g2, g3, g4, g5⟩ := hf j (by simp)
    have I0 : Inv X pins σ H { s with heap := s.heap.update z fun _ => { cls := .type "enumerate", dict := none, data := .fields #[.none, .bool false, .ref j, rawInt ((i : Int) + 1), .none, u], slots := #[] } } :=
      I.turned (t' := s.toks) (fun b ob hb q => (Heap.get?_update_ne _ _ _ _ hb).trans q) f0 f1 f3 f4 f5
    have I1 : Inv X pins σ H { s with heap := (s.heap.update z fun _ => { cls := .type "enumerate", dict := none, data := .fields #[.none, .bool false, .ref j, rawInt ((i : Int) + 1), .none, u], slots := #[] }).update j fun _ => oj } :=
      I0.turned (t' := s.toks) (fun b ob hb q => (Heap.get?_update_ne _ _ _ _ hb).trans q) g0 g1 g3 g4 g5
    have fj : oj.isFreed = false := (Heap.get?_some_iff.mp ej).2
    refine ⟨.ref s.heap.objs.size, upd H s.heap.objs.size (.tup [.int i, x]), I1.laid (t' := s.toks + 1) (h' := h'') (fun b ob q => ?_) (by rw [Heap.size_update, Heap.size_update]; exact Nat.le_refl _) ⟨(show 2 ≤ sizeLine by decide), [.int i s.toks, u], .cons ⟨_, rfl⟩ (.cons ru .nil), ⟨_, (sb.2 _ (Nat.ne_of_gt lz)).trans ht, rfl, _, rfl⟩⟩, rfl, ⟨x, _, fun ys hy => by rw [I.tuple_inj hy hq]; exact hx, rfl, hp, rfl⟩, ⟨⟨u, st''⟩, si''⟩, fun b hb => ?_⟩
    · by_cases hb : b = j
      · subst hb
        rw [Heap.get?_update_self _ (show (s.heap.update z _).get? b = some oj0 from (Heap.get?_update_ne _ _ _ _ (Ne.symm ne)).trans ej0) fj] at q
        exact ej.trans q
      · rw [Heap.get?_update_ne _ _ _ _ hb] at q
        by_cases hb2 : b = z
        · subst hb2
          rw [Heap.get?_update_self _ s1 rfl] at q
          exact st''.trans q
        · rw [Heap.get?_update_ne _ _ _ _ hb2] at q
          exact (sb.2 b hb2).trans (kp b ob hb2 hb q)
    · rcases List.mem_cons.mp hb with e | e
      · subst e
        rw [upd_ne (Nat.ne_of_lt lz)]
        exact (hf _ (by simp)).1
      · have e := List.mem_singleton.mp e
        subst e
        rw [upd_ne (Nat.ne_of_lt lj)]
        exact (hf _ (by simp)).1
  done := by
    intro X hP hw hK hc i pins s σ H E I hf st hg
    subst hP hw hK
    obtain ⟨⟨old, s1⟩, s2⟩ := st
    obtain ⟨xs, hq, hx⟩ := hg
    obtain ⟨its, rv, p, hsz⟩ := I.tuple hq
    obtain ⟨g0, g1, g2, g3, g4, g5⟩ := hf j (by simp)
    have hl := rv.length
    exact enumT_end (I.ok.hd hc) s1 s2 (show s.heap.IsTuple a its.toArray from p) (by simp; omega) fun h' eb => ⟨rfl, I.turned (t' := s.toks) (fun b o hb g => eb b o hb g) g0 g1 g3 g4 g5⟩
  self := fun A i s Q E st h => by
    obtain ⟨⟨old, s1⟩, _⟩ := st
    exact wpAny_pyIter_enum s1 h
section
variable {X : Cx}
def iEnumT (K : PySem.W.Frag) (ta : TA) : TI := fun σ H R => ta σ H fun vs H1 => ∃ a, vs = [.ref a] ∧ (∃ xs, SqT K H1 a xs) ∧ R (IteT K a) H1
theorem pi_enumT {es : List Expr} {x1 : Nat} {tp : Pos} {l : Expr} {ta : TA} {p pos : Pos} (hg : Gl X "enumerate") (hm : X.mg "enumerate" = none) (ha : PA X [l] ta) (hs : starEach [l] X.env = [(false, eval l X.env)] := by rfl) :
    PI X (.Tuple es x1 tp) (.Call (.Name "enumerate" p) [l] [] pos) (iEnumT X.K ta) := by
  intro pins s σ H R I h
  refine Call_ (ld_blt I hg hm boot_enum (PyProof.Rows.callWith_type1 (thn (ha pos pins s σ H _ I h) fun us s1 ⟨vs, H1, I1, r1, q1⟩ => ?_) hs rfl))
  obtain ⟨a, e, ⟨xs, hq⟩, q⟩ := q1
  subst e
  obtain ⟨u, rfl, rx⟩ := vals1 r1
  cases rx
  obtain ⟨its, rv, pl, hz⟩ := I1.tuple hq
  refine call_enumT (show s1.heap.IsTuple a its.toArray from pl) fun h' he hi hk => ?_
  have I2 : Inv X pins σ H1 { s1 with heap := h' } := I1.kept (t' := s1.toks) hk
  refine wpAny_pyIter_enum (s := { s1 with heap := h' }) he ?_
  refine ⟨s1.heap.objs.size + 1, [s1.heap.objs.size + 1, s1.heap.objs.size], _, _, H1, rfl, I2, turn_enumT a _ _ (Nat.succ_ne_self _), ⟨⟨_, he⟩, hi⟩, fun b hb => ?_, q⟩
  have nb : s1.heap.objs.size ≤ b := by
    rcases List.mem_cons.mp hb with z | z
    · rw [z]; exact Nat.le_succ _
    · rw [List.mem_singleton.mp z]; exact Nat.le_refl _
  exact I1.fpOk nb (I1.hok.fresh nb)
/-- the loop, with a count -/
theorem forF_enumT {K : PySem.W.Frag} {a : Addr} {xs : List V} {g : TG} {T : TSM} {D : EndsM} {m : Nat} {σ : St} {H : Hp} (Pv : Nat → Nat → St → Hp → Prop) (h0 : Pv 0 m σ H) (hl : ∀ i m σ H, i ≤ xs.length → Pv i m σ H → SqT K H a xs)
    (hs : ∀ i x p m σ H, xs[i]? = some x → Pv i m σ H → H p = none → g (.ref p) σ (upd H p (.tup [.int i, x])) fun σ2 H2 => T { D with nx := Pv (i + 1) } m σ2 H2) (hd : ∀ m σ H, Pv xs.length m σ H → D.nx m σ H) : ForM (IteT K a) g T D m σ H := by
  refine ⟨fun i k m σ H => k = xs.length - i ∧ i ≤ xs.length ∧ Pv i m σ H, ⟨xs.length, by simp, Nat.zero_le _, h0⟩, ?_⟩
  rintro i k m σ H ⟨rfl, hi, p⟩
  have q := hl i m σ H hi p
  by_cases hlt : i < xs.length
  · refine .inr ⟨⟨xs, xs[i], q, by simp [hlt]⟩, Pv (i + 1), fun m' σ' H' p' => ⟨xs.length - (i + 1), by omega, rfl, hlt, p'⟩, fun x H' y => ?_⟩
    obtain ⟨z, pa, hk, ex, hn, e⟩ := y
    subst e ex
    exact hs i z pa m σ H (hk xs q) p hn
  · have e : i = xs.length := by omega
    subst e
    exact .inl ⟨⟨xs, q, Nat.le_refl _⟩, hd m σ H p⟩
end
end L2

namespace My
open PySem L2 PyProof.Rows
seal L2.PE L2.PT L2.PW L2.PS L2.PSs L2.PA L2.PI L2.PG L2.PGs L2.OpR L2.CallR L2.IxR L2.SlR L2.MtR L2.PIf L2.PO L2.MtM L2.PC L2.PSM L2.PSsM L2.EWn L2.PEk L2.PSk L2.PSsk L2.ForM
theorem VOk.st {H H' : Hp} {v : V} (h : VOk H v) (s : STu H H') : VOk H' v := h.imp id fun ⟨a, xs, e1, e2, e3⟩ => ⟨a, xs, e1, s _ _ e2 rfl, e3⟩
theorem RwF.st {H H' : Hp} {row : Rw} (h : RwF H row) (s : STu H H') : RwF H' row := fun c hc => VOk.st (h c hc) s
/-- a row: keys that differ, at most so many, values flat or tuples -/
def RwG (H : Hp) (row : Rw) : Prop := (row.map (·.1)).Nodup ∧ row.length ≤ 4 ∧ RwF H row
theorem RwG.st {H H' : Hp} {row : Rw} (h : RwG H row) (s : STu H H') : RwG H' row := ⟨h.1, h.2.1, h.2.2.st s⟩
def spRow (m : Nat) : SpW := fun vs H Q => ∃ (c : Addr) (zs : List Str) (cell k z : Int), vs = [.ref c, .int cell, .int k, .int z] ∧ ColsAt H m c zs ∧ zs.length ≤ 4 ∧ 1 ≤ z ∧
  ∀ r row H' u k', Same H H' → cut H H' r = some (.dK (rK row)) → RwG H' row → (∀ c ∈ row, c.1 ∈ zs) → Q u k' (.ref r) H'
section
variable {P : Program} {w : World} {K : PySem.W.Frag} {mg : Str → Option Value} {base : Heap}
theorem ok_rowM {f fV fP fM fT fS : Addr} {fd fdV fdP fdM fdT fdS : FuncData} (F : Fun K "_law_row" "_law_row" (top 28) f fd) (B : Bl mg) (hmin : mg "min" = none) (DV : Df K mg "_law_value" (top 21) fV fdV) (DP : Df K mg "_law_plain_value" (top 20) fP fdP) (DM : Df K mg "_law_mix" (top 14) fM fdM) (DT : Df K mg "_law_text" (top 19) fT fdT) (DS : Df K mg "_law_sign" (top 18) fS fdS) (m : Nat) : FnOkW m P w K mg base 5 f fd ["_law_columns", "_law_cell_here", "_law_k", "_law_size"] (spRow m) := by
  have sc : FnScope ["_law_columns", "_law_cell_here", "_law_k", "_law_size", "_law_row_here", "_law_j"] ["_law_columns", "_law_cell_here", "_law_k", "_law_size"] (defScope (top 28)) := ⟨rfl, rfl, rfl, by decide +kernel, rfl, by decide +kernel, by decide +kernel⟩
  have GV : ∀ n, FnOkW n P w K mg base 4 fV fdV ["_law_kind_here", "_law_cell_here", "_law_k", "_law_size"] (toW (spVa n)) := fun n => ok_vaM DV.fn B hmin DP DM DT DS n
  have bV := DV.fn.binds (ps := ["_law_kind_here", "_law_cell_here", "_law_k", "_law_size"]) fun _ _ _ _ _ _ us hl => by obtain ⟨v0, v1, v2, v3, rfl⟩ := L2.ln4 hl; rfl
  refine F.okM sc (fun vs H Q h => ?_) (fun cdv A outer s H vs Q hr h => ?_)
  · obtain ⟨c, zs, cell, k, z, rfl, _⟩ := h
    rfl
  · obtain ⟨c, zs, cell, k, z, rfl, hc, z4, z1, q⟩ := h
    have hu : (A.deeper (envOfC "_law_row" (defScope (top 28)) s.heap.objs.size f cdv)).units + 1 < cLine := hu_of hr
    refine ⟨_, psM_cons (PS.m (ps_set (i := 4) sc.nd rfl (Or.inl rfl) pe_dnewK))
      (psM_cons (psM_forF PassesOwn.never rfl (pi_range1 rfl B.range (pa_cons (pe_callB call_len_seq (by rfl) B.len PySem.boot_len (pa_cons (pv 0) pa_nil)) pa_nil)) (pg_name (i := 5) sc.nd rfl (Or.inl rfl))
        (psM_one (psM_dput hu (pv 4) (pe_ix ix_tup (pe_ix ix_tup (pv 0) (pv 5) (fun _ _ => rfl)) pe_int (fun _ _ => rfl)) (EWn.ge (ewn_callW GV hr (by rfl) DV.mg DV.fn.kp bV (pa_cons (pe_ix ix_tup (pe_ix ix_tup (pv 0) (pv 5) (fun _ _ => rfl)) pe_int (fun _ _ => rfl)) (pa_cons (pv 1) (pa_cons (pe_op op_add (pe_op op_mul pe_int (pv 2)) (pv 5)) (pa_cons (pv 3) pa_nil)))))) rfl)))
      (psM_one (psM_ret (PE.ewn (pv 4))))), ?_⟩
    obtain ⟨qs, e1, l1, k1⟩ := hc
    refine fun r hr' => ?_
    have T1 := Same.upd (o := .dK []) hr'
    have e2 := upd_same (H := H) (a := r) (o := .dK [])
    generalize upd H r (.dK []) = H1 at *
    have ql : (qs.map V.ref).length = zs.length := by rw [List.length_map, l1]
    refine ⟨_, rfl, _, _, rfl, .inr (SqT.of (T1 _ _ e1)), _, rfl, (by rw [ql]; omega), (by rw [ql]; omega), ?_⟩
    refine forF_range (fun i m1 σ H2 => m ≤ m1 ∧ Same H H2 ∧ (∃ u5, σ = [some (.ref c), some (.int cell), some (.int k), some (.int z), some (.ref r), u5]) ∧ ∃ row : Rw, H2 r = some (.dK (rK row)) ∧ (row.map (·.1)).Nodup ∧ row.length ≤ i ∧ RwF H2 row ∧ ∀ c ∈ row, c.1 ∈ zs) ?_ ?_ ?_
    · exact ⟨Nat.le_refl _, T1, ⟨_, rfl⟩, [], e2, .nil, Nat.le_refl _, (fun c h => nomatch h), (fun c h => nomatch h)⟩
    · rintro i m1 σ H2 hi ⟨hm1, sm, ⟨u5, rfl⟩, row, er, nd, rl, rf, rz⟩
      have hiq : i < qs.length := by rw [ql] at hi; omega
      have hiz : i < zs.length := by omega
      obtain ⟨a, ea, ka⟩ := k1 i qs[i] zs[i] (List.getElem?_eq_getElem hiq) (List.getElem?_eq_getElem hiz)
      have atq : atI (qs.map V.ref) (0 + (i : Int)) = some (.ref qs[i]) := by
        rw [Int.zero_add]
        exact atI_nat (by rw [List.getElem?_map, List.getElem?_eq_getElem hiq]; rfl)
      refine ⟨_, rfl, _, rfl, c, _, _, _, rfl, rfl, SqT.of (sm _ _ e1), atq, _, _, _, _, rfl, rfl, SqT.of (sm _ _ ea), rfl, _, rfl, _, rfl, _, _, rfl, rfl, .inl ⟨by decide, by decide⟩, _, rfl, _, _, rfl, rfl, _, rfl, a, _, _, _, rfl, (ka.same sm).up hm1, z1, fun v H3 s3 hv _ u tk htk => ?_⟩
      have s2 := sm.trans s3
      refine ⟨_, rfl, _, rfl, _, rfl, c, _, _, _, rfl, rfl, SqT.of (s2 _ _ e1), atq, _, _, _, _, rfl, rfl, SqT.of (s2 _ _ ea), rfl, r, _, rfl, DPut.k (k := .inr zs[i]) (s3 _ _ er) (by rw [sizeLine_eq]; unfold rK; rw [List.length_map]; omega), ?_⟩
      rw [put_rK]
      have st : STu H3 (upd H3 r (.dK (rK (putR row zs[i] v)))) := STu.put (s3 _ _ er) rfl
      refine ⟨by omega, s2.put hr', ⟨_, rfl⟩, _, upd_same, putR_nd nd, Nat.le_trans putR_len (by omega), RwF.st (fun cv hcv => ?_) st, fun cv hcv => ?_⟩
      · rcases putR_mem hcv with h | rfl
        · exact VOk.st (rf cv h) (st_of s3)
        · exact hv
      · rcases putR_mem hcv with h | rfl
        · exact rz cv h
        · exact List.getElem_mem hiz
    · rintro m1 σ H2 ⟨hm1, sm, ⟨u5, rfl⟩, row, er, nd, rl, rf, rz⟩
      exact ⟨_, rfl, fun u k' hk' u' k'' hk'' => q r row H2 u' k'' sm (cut_at hr' er) ⟨nd, by rw [ql] at rl; omega, rf⟩ rz⟩
end
end My

namespace My
open PySem L2 PyProof.Rows
seal L2.PE L2.PT L2.PW L2.PS L2.PSs L2.PA L2.PI L2.PG L2.PGs L2.OpR L2.CallR L2.IxR L2.SlR L2.MtR L2.PIf L2.PO L2.MtM L2.PC L2.PSM L2.PSsM L2.EWn L2.PEk L2.PSk L2.PSsk L2.ForM
theorem cutV_int {cs : List Int} {lo hi : Option Int} : ∃ cs' : List Int, cutV (cs.map V.int) lo hi = cs'.map V.int ∧ cs'.length ≤ cs.length := by
  refine ⟨(cs.drop (HT.sIx (cs.map V.int).length 0 lo)).take (HT.sIx (cs.map V.int).length (cs.map V.int).length hi - HT.sIx (cs.map V.int).length 0 lo), ?_, ?_⟩
  · unfold cutV
    rw [List.map_take, List.map_drop]
  · rw [List.length_take, List.length_drop]
    omega
theorem ColAt.up {H : Hp} {m m' : Nat} {q : Addr} {z : Str} (h : ColAt H m q z) (s : m ≤ m') : ColAt H m' q z := let ⟨a, e, k⟩ := h; ⟨a, e, k.up s⟩
theorem ColsAt.up {H : Hp} {m m' : Nat} {c : Addr} {zs : List Str} (h : ColsAt H m c zs) (s : m ≤ m') : ColsAt H m' c zs := let ⟨qs, e, l, k⟩ := h; ⟨qs, e, l, fun j q z a b => (k j q z a b).up s⟩
def PcG (H : Hp) (pc : Pc) : Prop := ∀ t ∈ pc, t.2.length ≤ 100 ∧ ∀ row ∈ t.2, RwG H row
def PcR (R : Str → List Str → Prop) (pc : Pc) : Prop := ∀ t ∈ pc, ∃ ws, R t.1 ws ∧ ∀ row ∈ t.2, ∀ c ∈ row, c.1 ∈ ws
theorem PcG.st {H H' : Hp} {pc : Pc} (h : PcG H pc) (s : STu H H') : PcG H' pc := fun t ht => ⟨(h t ht).1, fun row hr => ((h t ht).2 row hr).st s⟩
def spPc (m : Nat) : SpW := fun vs H Q => ∃ (R : Str → List Str → Prop) (fm cl : Addr) (sz : Int) (ns : List Str) (nm : Str) (cs : List Int), vs = [.ref fm, .str nm, .ref cl] ∧ FrAt H m R fm sz ns ∧ ns.Nodup ∧ ns.length ≤ 4 ∧ 1 ≤ sz ∧ H cl = some (.lst (cs.map V.int)) ∧ cs.length ≤ 63 ∧
  ∀ p pc H' u k, Same H H' → PcD (cut H H') p pc → pc.map (·.1) = ns → PcG H' pc → PcR R pc → Q u k (.ref p) H'
def nPc : List Str := ["_law_form_here", "_law_name", "_law_cells", "_law_piece_here", "_law_k", "_law_table", "_law_some"]
def SmR (H3 : Hp) (fm cl p t : Addr) (nm : Str) (i : Nat) : L2.St → Hp → Prop := fun σ' H' => Same H3 H' ∧ ∃ (sl : Addr) (cs' : List Int), σ' = [some (.ref fm), some (.str nm), some (.ref cl), some (.ref p), some (.int (i : Int)), some (.ref t), some (.ref sl)] ∧ H' sl = some (.lst (cs'.map V.int)) ∧ cs'.length ≤ 64
structure LP (R : Str → List Str → Prop) (H H1 H2 : Hp) (p : Addr) (pc : Pc) (ns : List Str) (i : Nat) : Prop where
  sm : Same H H2
  at_ : ∃ ls : List Addr, H2 p = some (.dK (zK (pc.map (·.1)) ls)) ∧ ls.length = pc.length ∧ ∀ (j : Nat) (l : Addr) (t : Str × List Rw), ls[j]? = some l → pc[j]? = some t → RowsD (cut H1 H2) l t.2
  nm : pc.map (·.1) = ns.take i
  ok : PcG H2 pc
  kr : PcR R pc
section
variable {P : Program} {w : World} {K : PySem.W.Frag} {mg : Str → Option Value} {base : Heap}
theorem ok_pcM {f fR fV fP fM fT fS : Addr} {fd fdR fdV fdP fdM fdT fdS : FuncData} (F : Fun K "_law_piece" "_law_piece" (top 29) f fd) (B : Bl mg) (hmin : mg "min" = none) (DR : Df K mg "_law_row" (top 28) fR fdR) (DV : Df K mg "_law_value" (top 21) fV fdV) (DP : Df K mg "_law_plain_value" (top 20) fP fdP) (DM : Df K mg "_law_mix" (top 14) fM fdM) (DT : Df K mg "_law_text" (top 19) fT fdT) (DS : Df K mg "_law_sign" (top 18) fS fdS) (m : Nat) : FnOkW m P w K mg base 6 f fd ["_law_form_here", "_law_name", "_law_cells"] (spPc m) := by
  have sc : FnScope nPc ["_law_form_here", "_law_name", "_law_cells"] (defScope (top 29)) := ⟨rfl, rfl, rfl, by decide +kernel, rfl, by decide +kernel, by decide +kernel⟩
  have GR : ∀ n, FnOkW n P w K mg base 5 fR fdR ["_law_columns", "_law_cell_here", "_law_k", "_law_size"] (spRow n) := fun n => ok_rowM DR.fn B hmin DV DP DM DT DS n
  have bR := DR.fn.binds (ps := ["_law_columns", "_law_cell_here", "_law_k", "_law_size"]) fun _ _ _ _ _ _ us hl => by obtain ⟨v0, v1, v2, v3, rfl⟩ := L2.ln4 hl; rfl
  have ndA : (["_law_cell_here", "_law_form_here", "_law_k", "_law_table"] : List Str).Nodup := by decide +kernel
  refine F.okM sc (fun vs H Q h => ?_) (fun cdv A outer s H vs Q hr h => ?_)
  · obtain ⟨R, fm, cl, sz, ns, nm, cs, rfl, _⟩ := h
    rfl
  · obtain ⟨R, fm, cl, sz, ns, nm, cs, rfl, hf, nnd, n4, z1, hcl, c56, q⟩ := h
    have hu : (A.deeper (envOfC "_law_piece" (defScope (top 29)) s.heap.objs.size f cdv)).units + 1 < cLine := hu_of hr
    refine ⟨_, psM_cons (PS.m (ps_set (i := 3) sc.nd rfl (Or.inl rfl) pe_dnewK))
      (psM_cons (psM_forF PassesOwn.never rfl (pi_enumT (by rfl) B.enum (pa_cons (pe_ix ix_tup (pv 0) pe_int (fun _ _ => rfl)) pa_nil)) (pg_tup rfl (pgs_cons (pg_name (i := 4) sc.nd rfl (Or.inr rfl)) (pgs_cons (pg_name (i := 5) sc.nd rfl (Or.inr rfl)) pgs_nil)))
        (psM_cons (PS.m (ps_set (i := 6) sc.nd rfl (Or.inl rfl) (pe_slice sl_list (pv 2) po_none (po_some pe_int))))
        (psM_cons (PS.m (ps_cut21 (ps_if (pt_cmpR op_eq (pe_ix ix_tup (pv 5) pe_int (fun _ _ => rfl)) (pv 1) (nomark _)) (pss_one (ps_set (i := 6) sc.nd rfl (Or.inl rfl) (pe_callTy call_list_of (by rfl) B.list boot_list (pa_cons (pv 2) pa_nil)))) pss_nil)))
        (psM_cons (PS.m (ps_cut21 (ps_if (PW.pt (pw_and (pt_cmpR op_eq (pe_ix ix_tup (pv 5) pe_int (fun _ _ => rfl)) pe_str (nomark _)) (pw_and1 (pt_cmpR op_eq (pe_callB call_len_seq (by rfl) B.len PySem.boot_len (pa_cons (pv 6) pa_nil)) pe_int (nomark _))))) (pss_one (ps_set (i := 6) sc.nd rfl (Or.inl rfl) (pe_lst (pa_cons (pv 4) pa_nil)))) pss_nil)))
        (psM_cons (PS.m (ps_cut21 (ps_if (PW.pt (pw_or (pt_cmpR op_eq (pe_ix ix_tup (pv 5) pe_int (fun _ _ => rfl)) pe_str (nomark _)) (pw_or1 (pt_cmpR op_eq (pe_ix ix_tup (pv 5) pe_int (fun _ _ => rfl)) pe_str (nomark _))))) (pss_one (ps_set (i := 6) sc.nd rfl (Or.inl rfl) (pe_slice sl_list (pe_op op_cat (pe_callTy call_list_of (by rfl) B.list boot_list (pa_cons (pv 2) pa_nil)) (pe_lst (pa_cons (pv 4) pa_nil))) po_none (po_some pe_int)))) pss_nil)))
        (psM_one (psM_dput hu (pv 3) (pe_ix ix_tup (pv 5) pe_int (fun _ _ => rfl)) (PEk.ewn (fun n => pek_comp (osc := defScope (top 29)) (N0 := nPc) (xs := ["_law_cell_here"]) (fr := [0, 4, 5]) ⟨rfl, by decide +kernel, by decide +kernel, by decide +kernel, (fun j hj => by
              have e : j = 0 ∨ j = 4 ∨ j = 5 := by simpa using hj
              rcases e with rfl | rfl | rfl
              · exact ⟨_, rfl, by decide +kernel⟩
              · exact ⟨_, rfl, by decide +kernel⟩
              · exact ⟨_, rfl, by decide +kernel⟩), by decide +kernel⟩ rfl rfl rfl (pi_list (pv 6))
          (fun s H fp => pg_name (i := 0) ndA rfl (Or.inl rfl)) (fun s H fp => pif_nil)
          (fun s H fp => pek_callW (GR n) hr (by rfl) DR.mg DR.fn.kp bR (pa_cons (pe_ix (r := rIxT K) ix_tup (pv 3) pe_int (fun _ _ => rfl)) (pa_cons (pv 0) (pa_cons (pv 2) (pa_cons (pe_ix (r := rIxT K) ix_tup (pv 1) pe_int (fun _ _ => rfl)) pa_nil))))))) rfl)))))))
      (psM_one (psM_ret (PE.ewn (pv 3))))), ?_⟩
    obtain ⟨T, ps, f1, f2, f3, f4⟩ := hf
    refine fun p hp => ?_
    have T1 := Same.upd (o := .dK []) hp
    have e1 := upd_same (H := H) (a := p) (o := .dK [])
    have nH : ∀ b, b ≠ p → upd H p (.dK []) b = H b := fun b nb => upd_ne nb
    generalize upd H p (.dK []) = H1 at *
    refine ⟨_, rfl, fm, _, 1, _, rfl, rfl, SqT.of (T1 _ _ f1), rfl, T, rfl, ⟨_, SqT.of (T1 _ _ f2)⟩, ?_⟩
    refine forF_enumT (xs := ps.map V.ref) (fun i m1 σ H2 => m ≤ m1 ∧ (∃ u4 u5 u6, σ = [some (.ref fm), some (.str nm), some (.ref cl), some (.ref p), u4, u5, u6]) ∧ ∃ pc, LP R H H1 H2 p pc ns i) ?_ ?_ ?_ ?_
    · exact ⟨Nat.le_refl _, ⟨_, _, _, rfl⟩, [], T1, ⟨[], e1, rfl, (fun j l t h => nomatch h)⟩, rfl, (fun t h => nomatch h), (fun t h => nomatch h)⟩
    · rintro i m1 σ H2 _ ⟨_, _, pc, L⟩
      exact SqT.of (L.sm _ _ f2)
    · rintro i x tp m1 σ H2 hx ⟨hm1, ⟨u4, u5, u6, rfl⟩, pc, L⟩ htp
      have hip : i < ps.length := by have := (List.getElem?_eq_some_iff.mp hx).1; rw [List.length_map] at this; exact this
      rw [List.getElem?_map, List.getElem?_eq_getElem hip] at hx
      cases hx
      have hin : i < ns.length := by omega
      obtain ⟨so, c, ws, tE, cols, wnd, w4, rzw⟩ := f4 i ps[i] ns[i] (List.getElem?_eq_getElem hip) (List.getElem?_eq_getElem hin)
      refine ⟨tp, _, rfl, SqT.of upd_same, rfl, _, _, rfl, _, _, rfl, rfl, ?_⟩
      have T2 := Same.upd (o := .tup [.int (i : Int), .ref ps[i]]) htp
      generalize upd H2 tp (.tup [.int (i : Int), .ref ps[i]]) = H3 at *
      have s3 := L.sm.trans T2
      have c3 := s3 _ _ hcl
      have tE3 : SqT K H3 ps[i] [.str ns[i], .str so, .ref c] := SqT.of (s3 _ _ tE)
      refine ⟨_, rfl, _, rfl, cl, _, rfl, SqL.of c3, fun sl0 hsl0 => ?_⟩
      obtain ⟨cs0, ec0, lc0⟩ := cutV_int (cs := cs) (lo := none) (hi := some 2)
      rw [ec0] at *
      have R0 : SmR H3 fm cl p ps[i] nm i [some (.ref fm), some (.str nm), some (.ref cl), some (.ref p), some (.int (i : Int)), some (.ref ps[i]), some (.ref sl0)] (upd H3 sl0 (.lst (cs0.map V.int))) := ⟨Same.upd hsl0, sl0, cs0, rfl, upd_same, by omega⟩
      generalize upd H3 sl0 (.lst (cs0.map V.int)) = H4 at *
      refine ⟨SmR H3 fm cl p ps[i] nm i, ?_, ?_⟩
      · have sR := R0.1
        refine ⟨_, rfl, ps[i], _, 0, _, rfl, rfl, SqT.of (sR _ _ (s3 _ _ tE)), rfl, _, rfl, rfl, _, rfl, ?_⟩
        refine ite2 (fun _ => ⟨_, rfl, cl, _, rfl, .inl (SqL.of (sR _ _ c3)), fun l hl => ⟨sR.trans (Same.upd hl), l, cs, rfl, upd_same, by omega⟩⟩) (fun _ => R0)
      rintro σ1 H5 ⟨sR, sl1, cs1, rfl, e5, l5⟩
      refine ⟨SmR H3 fm cl p ps[i] nm i, ?_, ?_⟩
      · have keep : SmR H3 fm cl p ps[i] nm i [some (.ref fm), some (.str nm), some (.ref cl), some (.ref p), some (.int (i : Int)), some (.ref ps[i]), some (.ref sl1)] H5 := ⟨sR, sl1, cs1, rfl, e5, l5⟩
        refine ⟨_, rfl, ps[i], _, 1, _, rfl, rfl, SqT.of (sR _ _ (s3 _ _ tE)), rfl, rfl, _, rfl, ?_⟩
        refine ite2 (fun _ => ⟨_, rfl, _, _, rfl, .inl (SqL.of e5), rfl, _, rfl, ?_⟩) (fun _ => iteF keep)
        refine ite2 (fun _ => ⟨_, rfl, (show 1 ≤ sizeLine by decide), fun l hl => ⟨sR.trans (Same.upd hl), l, [(i : Int)], rfl, upd_same, by simp⟩⟩) (fun _ => keep)
      clear e5 l5
      rintro σ1 H5' ⟨sR, sl2, cs2, rfl, e5, l5⟩
      refine ⟨SmR H3 fm cl p ps[i] nm i, ?_, ?_⟩
      · have keep : SmR H3 fm cl p ps[i] nm i [some (.ref fm), some (.str nm), some (.ref cl), some (.ref p), some (.int (i : Int)), some (.ref ps[i]), some (.ref sl2)] H5' := ⟨sR, sl2, cs2, rfl, e5, l5⟩
        refine ⟨_, rfl, ps[i], _, 1, _, rfl, rfl, SqT.of (sR _ _ (s3 _ _ tE)), rfl, rfl, _, rfl, ?_⟩
        refine ite2 (fun _ => iteT ⟨_, rfl, cl, _, rfl, .inl (SqL.of (sR _ _ (c3))), fun l1 h1 => ⟨_, rfl, (show 1 ≤ sizeLine by decide), fun l2 h2 => ⟨l1, l2, _, _, rfl, rfl, Same.upd h2 _ _ upd_same, upd_same, (by rw [List.length_map, sizeLine_eq]; show cs.length + 1 ≤ _; omega), fun l3 h3 => ⟨_, rfl, l3, _, rfl, SqL.of upd_same, fun l4 h4 => ?_⟩⟩⟩⟩) (fun _ => ⟨_, rfl, ps[i], _, 1, _, rfl, rfl, SqT.of (sR _ _ (s3 _ _ tE)), rfl, rfl, _, rfl, ?_⟩)
        · rw [show cs.map V.int ++ [V.int (i : Int)] = (cs ++ [(i : Int)]).map V.int by rw [List.map_append]; rfl] at h4 ⊢
          obtain ⟨cs4, ec4, lc4⟩ := cutV_int (cs := cs ++ [(i : Int)]) (lo := none) (hi := some 1)
          rw [List.length_append] at lc4
          refine ⟨(((sR.trans (Same.upd h1)).trans (Same.upd h2)).trans (Same.upd h3)).trans (Same.upd h4), l4, cs4, rfl, by rw [ec4]; exact upd_same, by simp at lc4; omega⟩
        refine ite2 (fun _ => ⟨_, rfl, cl, _, rfl, .inl (SqL.of (sR _ _ (c3))), fun l1 h1 => ⟨_, rfl, (show 1 ≤ sizeLine by decide), fun l2 h2 => ⟨l1, l2, _, _, rfl, rfl, Same.upd h2 _ _ upd_same, upd_same, (by rw [List.length_map, sizeLine_eq]; show cs.length + 1 ≤ _; omega), fun l3 h3 => ⟨_, rfl, l3, _, rfl, SqL.of upd_same, fun l4 h4 => ?_⟩⟩⟩⟩) (fun _ => keep)
        · rw [show cs.map V.int ++ [V.int (i : Int)] = (cs ++ [(i : Int)]).map V.int by rw [List.map_append]; rfl] at h4 ⊢
          obtain ⟨cs4, ec4, lc4⟩ := cutV_int (cs := cs ++ [(i : Int)]) (lo := none) (hi := some 1)
          rw [List.length_append] at lc4
          refine ⟨(((sR.trans (Same.upd h1)).trans (Same.upd h2)).trans (Same.upd h3)).trans (Same.upd h4), l4, cs4, rfl, by rw [ec4]; exact upd_same, by simp at lc4; omega⟩
      rintro σ1 H6 ⟨s6, sl, cs', rfl, e6, l6⟩
      have s06 : Same H H6 := s3.trans s6
      obtain ⟨ls, a1, a2, a3⟩ := L.at_
      have p6 : H6 p = some (.dK (zK (pc.map (·.1)) ls)) := s6 _ _ (T2 _ _ a1)
      have nn : ∀ b, H6 b = none → H1 b = none := fun b hb => (nH b (fun e => by rw [e, p6] at hb; cases hb)).trans (none_of s06 hb)
      have s26 : Same H2 H6 := T2.trans s6
      refine ⟨_, rfl, sl, rfl, ⟨_, SqL.of e6⟩, fun D hD => ?_⟩
      refine compW_idx cs'.length (fun i' ys σ' Hc => (∃ t, σ' = [t, some (.ref fm), some (.int (i : Int)), some (.ref ps[i])]) ∧ Same H6 Hc ∧ ∃ (qs : List Addr) (rows : List Rw), ys = qs.map V.ref ∧ qs.Nodup ∧ qs.length = rows.length ∧ (∀ (j : Nat) (r : Addr) (row : Rw), qs[j]? = some r → rows[j]? = some row → H6 r = none ∧ r ≠ D ∧ Hc r = some (.dK (rK row))) ∧ (∀ row ∈ rows, RwG Hc row) ∧ ∀ row ∈ rows, ∀ c ∈ row, c.1 ∈ ws) (by rw [sizeLine_eq]; omega) ⟨⟨none, rfl⟩, Same.upd hD, [], [], rfl, .nil, rfl, (fun j r row h => nomatch h), (fun row h => nomatch h), (fun row h => nomatch h)⟩ upd_same ?_ ?_
      · rintro i' σ' Hc ys hi' ⟨⟨t, rfl⟩, sc', qs, rows, rfl, qnd, qlen, hqs, hrw, hrk⟩ hyl hD'
        refine ⟨⟨_, V.int cs'[i'], SqL.of (sc' _ _ e6), by rw [List.getElem?_map, List.getElem?_eq_getElem hi']; rfl⟩, ?_⟩
        rintro x H' ⟨rfl, hx'⟩
        have ex := hx' _ (SqL.of (sc' _ _ e6))
        rw [List.getElem?_map, List.getElem?_eq_getElem hi'] at ex
        cases ex
        have s0c := s06.trans sc'
        refine ⟨_, rfl, ps[i], _, 2, _, rfl, rfl, SqT.of (s0c _ _ tE), rfl, _, rfl, _, rfl, _, rfl, fm, _, 0, _, rfl, rfl, SqT.of (s0c _ _ f1), rfl, c, ws, _, _, sz, rfl, (cols.st (st_of s0c)).up hm1, w4, z1, fun r row H'' u k' s' cu rg rk => ?_⟩
        have nr := cut_new cu
        have er := cut_sub _ _ cu
        have rD : r ≠ D := fun e => by rw [e, hD'] at nr; cases nr
        have hD2 := s' _ _ hD'
        have st : STu H'' (upd H'' D (.lst (qs.map V.ref ++ [.ref r]))) := STu.put hD2 rfl
        refine ⟨hD2, ⟨_, rfl⟩, (sc'.trans s').put hD, qs ++ [r], rows ++ [row], by rw [List.map_append]; rfl, ?_, by rw [List.length_append, List.length_append, qlen]; rfl, fun j r' row' h1 h2 => ?_, fun row' h => ?_, fun row' h => ?_⟩
        · rw [List.nodup_append]
          refine ⟨qnd, by simp, fun a ha b hb e => ?_⟩
          rw [List.mem_singleton.mp hb] at e
          obtain ⟨j, hj⟩ := List.getElem?_of_mem ha
          have hjl : j < rows.length := by rw [← qlen]; exact (List.getElem?_eq_some_iff.mp hj).1
          have := (hqs j a _ hj (List.getElem?_eq_getElem hjl)).2.2
          rw [e, nr] at this
          cases this
        · by_cases hj : j < qs.length
          · rw [List.getElem?_append_left hj] at h1
            rw [List.getElem?_append_left (by omega)] at h2
            obtain ⟨x1, x2, x3⟩ := hqs j r' row' h1 h2
            exact ⟨x1, x2, (upd_ne x2).trans (s' _ _ x3)⟩
          · have ej : j = qs.length := by
              have := (List.getElem?_eq_some_iff.mp h1).1
              rw [List.length_append] at this
              simp at this
              omega
            subst ej
            rw [List.getElem?_append_right (Nat.le_refl _), Nat.sub_self] at h1
            rw [qlen, List.getElem?_append_right (Nat.le_refl _), Nat.sub_self] at h2
            cases h1
            cases h2
            exact ⟨none_of sc' nr, rD, (upd_ne rD).trans er⟩
        · rcases List.mem_append.mp h with h | h
          · exact ((hrw row' h).st (st_of s')).st st
          · rw [List.mem_singleton.mp h]
            exact rg.st st
        · rcases List.mem_append.mp h with h | h
          · exact hrk row' h
          · rw [List.mem_singleton.mp h]
            exact rk
      · rintro σ' Hc ys ⟨_, sc', qs, rows, rfl, qnd, qlen, hqs, hrw, hrk⟩ hDn hyl
        rw [List.length_map] at hyl
        have s0c := s06.trans sc'
        have pc_ := sc' _ _ p6
        have hnew : ns[i] ∉ pc.map (·.1) := fun hm => by
          rw [L.nm] at hm
          obtain ⟨j, hj, e⟩ := List.mem_take_iff_getElem.mp hm
          have := (List.getElem_inj nnd).mp e
          omega
        have klen : (zK (pc.map (·.1)) ls).length ≤ 4 := by
          rw [zK_len (by rw [List.length_map]; exact a2), L.nm, List.length_take]
          omega
        refine ⟨⟨_, SqL.of (sc' _ _ e6), by rw [List.length_map]; exact Nat.le_refl _⟩, fun u k hk => ⟨_, rfl, _, rfl, ps[i], _, 0, _, rfl, rfl, SqT.of (s0c _ _ tE), rfl, p, _, rfl, DPut.k (k := .inr ns[i]) pc_ (by rw [sizeLine_eq]; omega), ?_⟩⟩
        rw [putK_new _ (zK_new hnew), ← zK_snoc (by rw [List.length_map]; exact a2)]
        have nD : D ≠ p := fun e => by rw [e, p6] at hD; cases hD
        have st : STu Hc (upd Hc p (.dK (zK (pc.map (·.1) ++ [ns[i]]) (ls ++ [D])))) := STu.put pc_ rfl
        refine ⟨by omega, ⟨_, _, _, rfl⟩, pc ++ [(ns[i], rows)], s0c.put hp, ⟨ls ++ [D], by rw [upd_same, List.map_append]; rfl, by rw [List.length_append, List.length_append, a2]; rfl, fun j l t h1 h2 => ?_⟩, ?_, fun t ht => ?_, fun t ht => ?_⟩
        · by_cases hj : j < ls.length
          · rw [List.getElem?_append_left hj] at h1
            rw [List.getElem?_append_left (by omega)] at h2
            exact ((a3 j l t h1 h2).same (cut_up (s26.trans sc'))).same (cut_upd e1)
          · have ej : j = ls.length := by
              have := (List.getElem?_eq_some_iff.mp h1).1
              rw [List.length_append] at this
              simp at this
              omega
            subst ej
            rw [List.getElem?_append_right (Nat.le_refl _), Nat.sub_self] at h1
            rw [a2, List.getElem?_append_right (Nat.le_refl _), Nat.sub_self] at h2
            cases h1
            cases h2
            refine ⟨qs, cut_at (nn _ hD) ((upd_ne nD).trans hDn), qlen, qnd, fun j r row h1 h2 => ?_⟩
            obtain ⟨x1, x2, x3⟩ := hqs j r row h1 h2
            have np : r ≠ p := fun e => by rw [e, p6] at x1; cases x1
            exact cut_at (nn _ x1) ((upd_ne np).trans x3)
        · rw [List.map_append, L.nm]
          show ns.take i ++ [ns[i]] = _
          rw [List.take_append_getElem hin]
        · rcases List.mem_append.mp ht with h | h
          · have := (L.ok.st (st_of (s26.trans sc'))).st st
            exact this t h
          · rw [List.mem_singleton.mp h]
            exact ⟨by show rows.length ≤ 100; omega, fun row hr => (hrw row hr).st st⟩
        · rcases List.mem_append.mp ht with h | h
          · exact L.kr t h
          · rw [List.mem_singleton.mp h]
            exact ⟨ws, rzw, hrk⟩
    · rintro m1 σ H2 ⟨hm1, ⟨u4, u5, u6, rfl⟩, pc, L⟩
      obtain ⟨ls, a1, a2, a3⟩ := L.at_
      refine ⟨_, rfl, fun u k hk u' k' hk' => q p pc H2 u' k' L.sm ⟨ls, cut_at hp a1, a2, fun j l t h1 h2 => (a3 j l t h1 h2).same fun b o e => ?_⟩ ?_ L.ok L.kr⟩
      · exact cut_at (none_of T1 (cut_new e)) (cut_sub _ _ e)
      · rw [L.nm, List.take_of_length_le (by rw [List.length_map, f3]; exact Nat.le_refl _)]
end
end My

/-! for v in d.values(); d.pop(k) (own work). -/
namespace L2
open PySem PySem.Spec PyProof.Rows
section
variable {X : Cx}
end
end L2

/-! list(d.values()); d.update({k: v}) (own work). -/
namespace L2
open PySem PySem.Spec PyProof.Rows
theorem paired_of {α β : Type} {F : α → β → Prop} : ∀ {l₁ : List α} {l₂ : List β}, l₁.length = l₂.length → (∀ (i : Nat) (x : α) (y : β), l₁[i]? = some x → l₂[i]? = some y → F x y) → Paired F l₁ l₂
  | [], [], _, _ => .nil
  | [], _ :: _, h, _ => nomatch h
  | _ :: _, [], h, _ => nomatch h
  | a :: l, b :: m, h, f => .cons (f 0 a b rfl rfl) (paired_of (Nat.succ.inj h) fun i x y h1 h2 => f (i + 1) x y h1 h2)
def vvP (p d : Addr) (h : Heap) : Prop := h.IsValuesView p d
section
variable {X : Cx}
/-- d.values() -/
theorem mt_values : MtR X "dict.values" (fun x xs H Q => ∃ a kvs, x = .ref a ∧ xs = [] ∧ Rd H a (.dK kvs) ∧ ∀ p, H p = none → Q (.ref p) (upd H p (.ext (vvP p a)))) := by
  intro pins s σ H x xs v us Q I rx r h
  obtain ⟨a, kvs, rfl, rfl, e, q⟩ := h
  cases rx
  have hus := r.zero
  subst hus
  obtain ⟨_, lo, vs, kv, dd⟩ := e.ok I.hok
  refine call_meetsIn F.slot_dict_values dd.typeIs F.entry_dict_values (F.args_dict_values_1 _) (meets_dict_values (mixKind X.prog X.w) a lo) ⟨⟨vs, dd⟩, ?_⟩
  have hv : vvP s.heap.objs.size a (s.heap.push { cls := .type "dict_values", data := .fields #[.ref a] }) := ⟨_, Heap.get?_push_size _ rfl, rfl, rfl⟩
  refine ⟨.ref s.heap.objs.size, _, I.laid (t' := s.toks) (o := .ext (vvP s.heap.objs.size a)) (fun b ob e' => Heap.get?_push_of_some _ e') (Nat.le_refl _) ⟨hv, ?_, fun h1 h2 x k => ?_⟩, rfl, q _ (I.hok.fresh (Nat.le_refl _))⟩
  · obtain ⟨o, ho, _⟩ := hv
    exact ⟨o, ho⟩
  · obtain ⟨o, ho, r⟩ := x
    exact ⟨o, k o ho, r⟩
/-- list(d.values()) -/
theorem call_listV (hc : X.calm = true) : CallR X (.type "list") (fun xs H Q => ∃ (p d : Addr) (kvs : List (Key × V)), xs = [.ref p] ∧ H p = some (.ext (vvP p d)) ∧ Rd H d (.dK kvs) ∧ ∀ l, H l = none → Q (.ref l) (upd H l (.lst (kvs.map (·.2))))) := by
  intro pins s σ H xs us Q I r h
  obtain ⟨p, d, kvs, rfl, hp, hq, q⟩ := h
  obtain ⟨u, rfl, rx⟩ := vals1 r
  cases rx
  obtain ⟨hlen, lo, vs, kv, dd⟩ := hq.ok I.hok
  obtain ⟨ep, da⟩ := dd.dictAt
  obtain ⟨hv, _⟩ := I.hok p _ hp
  have hl := kv.len
  refine PySem.W.kdl_call (PySem.W.kdl_values (knd := mixKind X.prog X.w) (r := p) (d := d) (kvs := vs) (ep := ep)) (I.ok.hd hc) ⟨hv, da⟩ (by rw [← hl]; exact hlen) fun h' tk acc c hk hS hacc => ?_
  refine ⟨.ref s.heap.objs.size, _, I.laid (t' := tk) (o := .lst (kvs.map (·.2))) (h' := h') hk (Nat.le_refl _) ⟨by rw [List.length_map]; exact hlen, acc.toList, c, ?_, by rw [Array.toArray_toList]; exact hS⟩, rfl, q _ (I.hok.fresh (Nat.le_refl _))⟩
  have al : acc.toList.length = kvs.length := by rw [Array.length_toList, hacc.1, hl]
  refine paired_of (by rw [List.length_map, al]) fun i x u h1 h2 => ?_
  rw [List.getElem?_map] at h1
  cases e : kvs[i]? with
  | none => rw [e] at h1; cases h1
  | some kx =>
    rw [e] at h1
    cases h1
    obtain ⟨w', hw, rw'⟩ := kv_get kv e
    obtain ⟨k, hk2⟩ := hacc.2 i u (by rw [← Array.getElem?_toList]; exact h2)
    rw [hw] at hk2
    cases hk2
    exact rw'
/-- d.update({k: v}) -/
theorem mt_dupd1 : MtR X "dict.update" (fun x xs H Q => ∃ (a b : Addr) (kvs : List (Key × V)) (k : Key) (v : V), x = .ref a ∧ xs = [.ref b] ∧ a ≠ b ∧ H a = some (.dK kvs) ∧ H b = some (.dK [(k, v)]) ∧ kvs.length < sizeLine ∧ Q .non (upd H a (.dK (putK kvs k v)))) := by
  intro pins s σ H x xs u us Q I rx r h
  obtain ⟨a, b, kvs, k, v, rfl, rfl, nab, ea, eb, hl, q⟩ := h
  cases rx
  obtain ⟨u', rfl, ru⟩ := vals1 r
  cases ru
  obtain ⟨z, hd, vs, rel, dd⟩ := dk_of I.hok ea
  obtain ⟨z2, hd2, ws, rel2, dd2⟩ := dk_of I.hok eb
  have hz := rel.length
  have hz2 := rel2.length
  refine call_meetsIn F.slot_dict_update dd.typeIs F.entry_dict_update (F.args_dict_update_2 _ _) (meets_dict_update (mixKind X.prog X.w) a b nab hd2) ⟨vs, ws, dd, dd2, (by have e1 : ([(k, v)] : List (Key × V)).length = 1 := rfl; omega), fun h' dd' _ hs => ?_⟩
  cases rel2 with
  | @cons p q l1 l2 r1 r2 =>
    cases r2
    obtain ⟨k', w'⟩ := q
    have hl2 : (putK kvs k v).length ≤ sizeLine := by have := length_putK kvs k v; omega
    have he : ∃ q, h'.get? a = some q := let ⟨q, _, _, hq, _⟩ := dd'; ⟨q, hq⟩
    have e1 : k = k' := r1.1
    subst e1
    exact ⟨.non, _, d_write (t' := s.toks) I (by rw [ea]; exact True.intro) hs he (dk_new hl2 hd (rel.put k r1.2) dd'), rfl, q⟩
end
end L2

/-! TOKENS (own work): names set by a tuple; classes without an __init__ are made. -/
namespace L2
open PySem PySem.Spec PyProof.Rows
section
variable {X : Cx} {pos : Pos}
theorem psM_asg {tg e : Expr} {w : Nat → St → Hp → WK → Prop} {g : TG} (he : EWn X e w) (hg : PG X tg g) (hs : swapsWithSole [tg] e pos.line X.env = pure false := by rfl) (hw : swappedStores [tg] e X.env = pure none := by rfl)
    (h1 : (assignEach [tg] X.env).map (·.2) = [assign tg X.env] := by rfl) :
    PSM X (.Assign [tg] e pos) (fun D m σ H => w m σ H fun _ k v H1 => g v σ H1 fun σ2 H2 => D.nx k σ2 H2) := by
  intro pins s m σ H D hm I h
  refine wpAny_Assign_stores (thn (he pins s m σ H _ hm I h) fun v s1 ⟨x, H1, I1, r1, q1⟩ => ?_) hs hw
  rw [h1]
  exact thnk (Nat.le_refl s1.toks) (hg pins s1 σ H1 x v _ I1 r1 q1) fun _ s2 hm2 ⟨σ2, H2, I2, q2⟩ => ⟨s1.toks, σ2, H2, hm2, I2, q2⟩
end
end L2

namespace My
open PySem L2 PyProof.Rows
theorem mt_upd1 {X : Cx} : MtR X "dict.update" (fun x xs H Q => ∃ (a b : Addr) (kvs : List (Key × V)) (k : Key) (v : V), x = .ref a ∧ xs = [.ref b] ∧ a ≠ b ∧ H a = some (.dK kvs) ∧ H b = some (.dK [(k, v)]) ∧ kvs.length < sizeLine ∧ Q .non (upd H a (.dK (putK kvs k v)))) := mt_dupd1
seal L2.PE L2.PT L2.PW L2.PS L2.PSs L2.PA L2.PI L2.PG L2.PGs L2.OpR L2.CallR L2.IxR L2.SlR L2.MtR L2.PIf L2.PO L2.MtM L2.PC L2.PSM L2.PSsM L2.EWn L2.PEk L2.PSk L2.PSsk L2.ForM
def spSort : Sp := fun vs H Q _ => ∃ (m : Nat) (R : Str → List Str → Prop) (fm : Addr) (sz : Int) (ns : List Str) (nm : Str), vs = [.ref fm, .str nm] ∧ FrAt H m R fm sz ns ∧ ns.length ≤ 4 ∧ ∀ so : Str, Q (.str so) H
def spRs : Sp := fun vs H Q _ => ∃ (so : Str) (c : Int), vs = [.str so, .int c] ∧ ∀ n : Int, 0 ≤ n → n ≤ 60 → Q (.int n) H
/-- rows copied, one of them written -/
def spWith : Sp := fun vs H Q _ => ∃ (tl d : Addr) (at_ : Nat) (tbs : List Rw) (z : Str) (v : V) (hat : at_ < tbs.length), vs = [.ref tl, .int (at_ : Int), .ref d] ∧ RowsAt H tl tbs ∧ tbs.length ≤ 4 ∧ (∀ tb ∈ tbs, tb.length ≤ 4) ∧ H d = some (.dK [(.inr z, v)]) ∧
  ∀ l H', Same H H' → RowsAt H' l (tbs.set at_ (putR tbs[at_] z v)) → Q (.ref l) H'
section
variable {P : Program} {w : World} {K : PySem.W.Frag} {mg : Str → Option Value} {base : Heap}
theorem ok_pkM {f fP fS : Addr} {fd fdP fdS : FuncData} (F : Fun K "_law_put_kind" "_law_put_kind" (top 33) f fd) (DP : Df K mg "_law_plain" (top 22) fP fdP) (DS : Df K mg "_law_sign" (top 18) fS fdS) (m : Nat) : FnOkW m P w K mg base 3 f fd ["_law_number"] (spKdM m) := by
  have sc : FnScope ["_law_number", "_law_plain_here"] ["_law_number"] (defScope (top 33)) := ⟨rfl, rfl, rfl, by decide +kernel, rfl, by decide +kernel, by decide +kernel⟩
  have GP : ∀ n, FnOkW n P w K mg base 2 fP fdP ["_law_number"] (spPlM n) := fun n => ok_plM DP.fn DS n
  have bP := DP.fn.binds (ps := ["_law_number"]) fun _ _ _ _ _ _ us hl => by obtain ⟨v0, rfl⟩ := L2.ln1 hl; rfl
  refine F.okM sc (fun vs H Q h => ?_) (fun cdv A outer s H vs Q hr h => ?_)
  · obtain ⟨n, rfl, _⟩ := h
    rfl
  · obtain ⟨n, rfl, q⟩ := h
    refine ⟨_, psM_cons (psM_set (i := 1) (ewn_callW GP hr (by rfl) DP.mg DP.fn.kp bP (pa_cons (pe_op op_fdiv (pv 0) pe_int) pa_nil)) sc.nd rfl (Or.inl rfl))
      (psM_one (psM_ret (PE.ewn (pe_ix ix_list (pe_lst (pa_cons (pv 1) (pa_cons (pe_tup (pa_cons pe_str (pa_cons (pv 1) pa_nil))) (pa_cons (pe_tup (pa_cons pe_str (pa_cons (pv 1) pa_nil))) pa_nil)))) (pe_op op_mod (pv 0) pe_int) (fun _ _ => rfl))))), ?_⟩
    refine ⟨_, rfl, _, _, rfl, rfl, ⟨by decide, by decide⟩, _, rfl, fun a H1 u k hk s1 ha => ?_⟩
    refine ⟨_, rfl, _, rfl, (show 2 ≤ sizeLine by decide), fun p2 h2 => ⟨_, rfl, (show 2 ≤ sizeLine by decide), fun p3 h3 => ⟨(show 3 ≤ sizeLine by decide), fun l hl => ?_⟩⟩⟩
    have T2 := Same.upd (o := .tup [.str "list", .ref a]) h2
    have T3 := Same.upd (o := .tup [.str "some", .ref a]) h3
    have T5 := Same.upd (o := .lst [.ref a, .ref p2, .ref p3]) hl
    have g2 := T5 _ _ (T3 _ _ (upd_same (H := H1) (a := p2) (o := .tup [.str "list", .ref a])))
    have g3 := T5 _ _ (upd_same (a := p3) (o := .tup [.str "some", .ref a]))
    have sT := (T2.trans T3).trans T5
    have m5 := Int.emod_nonneg n (show (3 : Int) ≠ 0 by decide)
    have m6 := Int.emod_lt_of_pos n (show (0 : Int) < 3 by decide)
    obtain ⟨v, ev, hv⟩ := at_mem (l := [.ref a, .ref p2, .ref p3]) m5 m6
    refine ⟨_, rfl, _, _, rfl, rfl, (pos rfl), l, _, _, v, rfl, rfl, SqL.of upd_same, ev, fun u2 k2 hk2 u3 k3 hk3 => ?_⟩
    have hA := (ha.same sT).up (show k ≤ k3 by omega)
    have hv' : v = .ref a ∨ v = .ref p2 ∨ v = .ref p3 := by simpa using hv
    rcases hv' with rfl | rfl | rfl
    · exact q _ _ u3 k3 (by omega) (s1.trans sT) (.pl hA)
    · exact q _ _ u3 k3 (by omega) (s1.trans sT) (.more _ (.inl rfl) _ g2 hA)
    · exact q _ _ u3 k3 (by omega) (s1.trans sT) (.more _ (.inr (.inl rfl)) _ g3 hA)
theorem ok_sort {f : Addr} {fd : FuncData} (F : Fun K "_law_sort" "_law_sort" (top 32) f fd) : FnOk P w K mg base CX0 1 f fd ["_law_form_here", "_law_name"] spSort := by
  have sc : FnScope ["_law_form_here", "_law_name", "_law_table"] ["_law_form_here", "_law_name"] (defScope (top 32)) := ⟨rfl, rfl, rfl, by decide +kernel, rfl, by decide +kernel, by decide +kernel⟩
  refine F.ok sc (fun vs H Q E h => ?_) (fun cdv A outer s H vs Q E hr h => ?_)
  · obtain ⟨m, R, fm, sz, ns, nm, rfl, _⟩ := h
    rfl
  · obtain ⟨m, R, fm, sz, ns, nm, rfl, ⟨T, ps, f1, f2, f3, f4⟩, n4, q⟩ := h
    refine ⟨_, pss_cons (ps_for PassesOwn.never rfl (pi_tup (pe_ix ix_tup (pv 0) pe_int (fun _ _ => rfl))) (pg_name (i := 2) sc.nd rfl (Or.inl rfl)) (pss_one (ps_if (pt_cmpR op_eq (pe_ix ix_tup (pv 2) pe_int (fun _ _ => rfl)) (pv 1) (nomark _)) (pss_one (ps_ret (pe_ix ix_tup (pv 2) pe_int (fun _ _ => rfl)))) pss_nil)))
      (pss_one (ps_ret pe_str)), ?_⟩
    refine ⟨_, rfl, fm, _, 1, _, rfl, rfl, SqT.of f1, rfl, T, rfl, ⟨_, SqT.of f2⟩, ?_⟩
    refine for_tup (K := K) (xs := ps.map V.ref) (fun i σ H' => H' = H ∧ ∃ u, σ = [some (.ref fm), some (.str nm), u]) ⟨rfl, _, rfl⟩ (fun i σ H' _ p => by rw [p.1]; exact SqT.of f2) ?_ ?_
    · rintro i x σ H' hx ⟨rfl, u, rfl⟩
      have hip : i < ps.length := by have := (List.getElem?_eq_some_iff.mp hx).1; rw [List.length_map] at this; exact this
      rw [List.getElem?_map, List.getElem?_eq_getElem hip] at hx
      cases hx
      have hin : i < ns.length := by omega
      obtain ⟨so, c, ws, tE, _⟩ := f4 i ps[i] ns[i] (List.getElem?_eq_getElem hip) (List.getElem?_eq_getElem hin)
      refine ⟨_, rfl, ps[i], _, 0, _, rfl, rfl, SqT.of tE, rfl, _, rfl, rfl, _, rfl, ?_⟩
      exact ite2 (fun _ => ⟨_, rfl, ps[i], _, 1, _, rfl, rfl, SqT.of tE, rfl, q so⟩) (fun _ => ⟨rfl, _, rfl⟩)
    · rintro σ H' ⟨rfl, u, rfl⟩
      exact q ""
theorem ok_rs {f : Addr} {fd : FuncData} (F : Fun K "_law_rest_size" "_law_rest_size" (top 34) f fd) : FnOk P w K mg base CX0 1 f fd ["_law_sort_here", "_law_cell_here"] spRs := by
  have sc : FnScope ["_law_sort_here", "_law_cell_here"] ["_law_sort_here", "_law_cell_here"] (defScope (top 34)) := ⟨rfl, rfl, rfl, by decide +kernel, rfl, by decide +kernel, by decide +kernel⟩
  refine F.ok sc (fun vs H Q E h => ?_) (fun cdv A outer s H vs Q E hr h => ?_)
  · obtain ⟨so, c, rfl, _⟩ := h
    rfl
  · obtain ⟨so, c, rfl, q⟩ := h
    refine ⟨_, pss_cons (ps_if (PW.pt (pw_or (pt_cmpR op_eq (pv 0) pe_str (nomark _)) (pw_or1 (pt_cmpR op_eq (pv 0) pe_str (nomark _))))) (pss_one (ps_ret pe_int)) pss_nil)
      (pss_cons (ps_if (pt_cmpR op_eq (pv 0) pe_str (nomark _)) (pss_one (ps_ret (pe_op op_add pe_int (pe_op op_mod (pv 1) pe_int)))) pss_nil)
      (pss_one (ps_ret (pe_op op_mod (pv 1) pe_int)))), ?_⟩
    have a0 : 0 ≤ c % 60 ∧ c % 60 < 60 := by omega
    have b0 : 0 ≤ c % 61 ∧ c % 61 < 61 := by omega
    have rest : ∀ (G : Prop), G → G := fun _ g => g
    refine ⟨_, rfl, rfl, _, rfl, ?_⟩
    refine ite2 (fun _ => iteT (q 1 (by decide) (by decide))) (fun _ => ⟨_, rfl, rfl, _, rfl, ?_⟩)
    refine ite2 (fun _ => q 1 (by decide) (by decide)) (fun _ => ⟨_, rfl, rfl, _, rfl, ?_⟩)
    refine ite2 (fun _ => ⟨_, rfl, _, _, rfl, rfl, (pos rfl), _, _, rfl, rfl, q _ (by omega) (by omega)⟩) (fun _ => ⟨_, rfl, _, _, rfl, rfl, (pos rfl), q _ b0.1 (by omega)⟩)
theorem ok_with {f : Addr} {fd : FuncData} (F : Fun K "_law_with" "_law_with" (top 26) f fd) (B : Bl mg) : FnOk P w K mg base CX0 1 f fd ["_law_tables_here", "_law_at", "_law_more"] spWith := by
  have sc : FnScope ["_law_tables_here", "_law_at", "_law_more", "_law_made"] ["_law_tables_here", "_law_at", "_law_more"] (defScope (top 26)) := ⟨rfl, rfl, rfl, by decide +kernel, rfl, by decide +kernel, by decide +kernel⟩
  refine F.ok sc (fun vs H Q E h => ?_) (fun cdv A outer s H vs Q E hr h => ?_)
  · obtain ⟨tl, d, at_, tbs, z, v, hat, rfl, _⟩ := h
    rfl
  · obtain ⟨tl, d, at_, tbs, z, v, hat, rfl, ⟨rs, r1, r2, r3⟩, t4, tb4, hd, q⟩ := h
    refine ⟨_, pss_cons (ps_comp (i := 3) (osc := defScope (top 26)) (N0 := ["_law_tables_here", "_law_at", "_law_more", "_law_made"]) (xs := ["_law_columns"]) (fr := []) ⟨rfl, by decide +kernel, by decide +kernel, by decide +kernel, by decide, by decide +kernel⟩ rfl rfl rfl (pi_list (pv 0))
          (fun s H fp => pg_name (i := 0) (show (["_law_columns"] : List Str).Nodup by decide +kernel) rfl (Or.inl rfl)) (fun s H fp => pif_nil) (fun s H fp => pe_callTy call_dict_of (by rfl) B.dict boot_dict (pa_cons (pv 0) pa_nil)) sc.nd rfl (Or.inl rfl))
      (pss_cons (ps_expr (pe_bm PySem.F.plainAttrs_dict PySem.F.slot_dict_update PySem.F.type_dict_update mt_upd1 (pe_ix ix_list (pv 3) (pv 1) (fun _ _ => rfl)) (pa_cons (pv 2) pa_nil)))
      (pss_one (ps_ret (pv 3)))), ?_⟩
    refine ⟨_, rfl, tl, rfl, ⟨_, SqL.of r1⟩, fun D hD => ?_⟩
    refine compW_idx rs.length (fun i ys σ' Hc => (∃ t, σ' = [t]) ∧ Same H Hc ∧ ∃ qs : List Addr, ys = qs.map V.ref ∧ qs.Nodup ∧ qs.length = i ∧ ∀ (j : Nat) (r : Addr) (row : Rw), qs[j]? = some r → tbs[j]? = some row → H r = none ∧ r ≠ D ∧ Hc r = some (.dK (rK row))) (by rw [sizeLine_eq]; omega) ⟨⟨none, rfl⟩, Same.upd hD, [], rfl, .nil, rfl, (fun j r row h => nomatch h)⟩ upd_same ?_ ?_
    · rintro i σ' Hc ys hi ⟨⟨t, rfl⟩, sc', qs, rfl, qnd, ql, hqs⟩ hyl hD'
      have hit : i < tbs.length := by omega
      refine ⟨⟨_, V.ref rs[i], SqL.of (sc' _ _ r1), by rw [List.getElem?_map, List.getElem?_eq_getElem hi]; rfl⟩, ?_⟩
      rintro x H' ⟨rfl, hx'⟩
      have ex := hx' _ (SqL.of (sc' _ _ r1))
      rw [List.getElem?_map, List.getElem?_eq_getElem hi] at ex
      cases ex
      have r0 := r3 i rs[i] tbs[i] (List.getElem?_eq_getElem hi) (List.getElem?_eq_getElem hit)
      refine ⟨_, rfl, rs[i], _, rfl, .inl (sc' _ _ r0), fun r' hr' => ?_⟩
      have T2 := Same.upd (o := .dK (rK tbs[i])) hr'
      have rD : r' ≠ D := fun e => by rw [e, hD'] at hr'; cases hr'
      refine ⟨T2 _ _ hD', ⟨_, rfl⟩, (sc'.trans T2).put hD, qs ++ [r'], by rw [List.map_append]; rfl, ?_, by rw [List.length_append, ql]; rfl, fun j r row h1 h2 => ?_⟩
      · rw [List.nodup_append]
        refine ⟨qnd, by simp, fun a ha b hb e => ?_⟩
        rw [List.mem_singleton.mp hb] at e
        obtain ⟨j, hj⟩ := List.getElem?_of_mem ha
        have hjl : j < tbs.length := by have := (List.getElem?_eq_some_iff.mp hj).1; omega
        have := (hqs j a _ hj (List.getElem?_eq_getElem hjl)).2.2
        rw [e, hr'] at this
        cases this
      · by_cases hj : j < qs.length
        · rw [List.getElem?_append_left hj] at h1
          obtain ⟨e1, e2, e3⟩ := hqs j r row h1 h2
          exact ⟨e1, e2, (upd_ne e2).trans (T2 _ _ e3)⟩
        · have ej : j = qs.length := by
            have := (List.getElem?_eq_some_iff.mp h1).1
            rw [List.length_append] at this
            simp at this
            omega
          subst ej
          rw [List.getElem?_append_right (Nat.le_refl _), Nat.sub_self] at h1
          cases h1
          rw [ql, List.getElem?_eq_getElem hit] at h2
          cases h2
          exact ⟨none_of sc' hr', rD, (upd_ne rD).trans upd_same⟩
    · rintro σ' Hc ys ⟨_, sc', qs, rfl, qnd, ql, hqs⟩ hDn hyl
      refine ⟨⟨_, SqL.of (sc' _ _ r1), by rw [List.length_map]; exact Nat.le_refl _⟩, ?_⟩
      have haq : at_ < qs.length := by omega
      obtain ⟨x1, x2, x3⟩ := hqs at_ qs[at_] tbs[at_] (List.getElem?_eq_getElem haq) (List.getElem?_eq_getElem hat)
      have nd : qs[at_] ≠ d := fun e => by rw [e, hd] at x1; cases x1
      have tl4 := tb4 _ (List.getElem_mem hat)
      refine ⟨_, rfl, _, rfl, D, _, _, .ref qs[at_], rfl, rfl, SqL.of hDn, atI_nat (by rw [List.getElem?_map, List.getElem?_eq_getElem haq]; rfl), .inr (.inr (.inl ⟨rfl, .inl ⟨_, x3⟩⟩)), _, rfl, qs[at_], d, _, _, _, rfl, rfl, nd, x3, sc' _ _ hd, (by rw [sizeLine_eq]; unfold rK; rw [List.length_map]; omega), _, rfl, ?_⟩
      rw [put_rK]
      refine q D _ (sc'.put x1) ⟨qs, (upd_ne (Ne.symm x2)).trans hDn, by rw [List.length_set, ql, r2], fun j r row h1 h2 => ?_⟩
      by_cases hj : j = at_
      · subst hj
        rw [List.getElem?_eq_getElem haq] at h1
        cases h1
        rw [List.getElem?_set_self hat] at h2
        cases h2
        exact upd_same
      · have nr : r ≠ qs[at_] := fun e => by
          obtain ⟨hj', ej⟩ := List.getElem?_eq_some_iff.mp h1
          exact hj ((List.getElem_inj qnd).mp (ej.trans e))
        rw [List.getElem?_set_ne (Ne.symm hj)] at h2
        exact (upd_ne nr).trans (hqs j r row h1 h2).2.2
end
end My

namespace My
open PySem L2 PyProof.Rows
seal L2.PE L2.PT L2.PW L2.PS L2.PSs L2.PA L2.PI L2.PG L2.PGs L2.OpR L2.CallR L2.IxR L2.SlR L2.MtR L2.PIf L2.PO L2.MtM L2.PC L2.PSM L2.PSsM L2.EWn L2.PEk L2.PSk L2.PSsk L2.ForM
/-! ### owned: trees of tuples -/
/-- two of them alike -/
inductive Tr (H : Hp) : Nat → V → V → Prop
  | flat {n : Nat} {v : V} (h : flt v = true) : Tr H n v v
  | tup {n : Nat} {a b : Addr} {xs ys : List V} (e : Rd H a (.tup xs)) (e' : Rd H b (.tup ys)) (hl : xs.length = ys.length) (h : ∀ (i : Nat) (x y : V), xs[i]? = some x → ys[i]? = some y → Tr H n x y) : Tr H (n + 1) (.ref a) (.ref b)
theorem Tq.tr {H : Hp} {n : Nat} {v : V} (h : Tq H n v) : Tr H n v v := by
  induction h with
  | flat h => exact .flat h
  | tup e hl _ ih =>
    refine .tup e e rfl fun i x y h1 h2 => ?_
    rw [h1] at h2
    cases h2
    exact ih x (List.mem_of_getElem? h1)
theorem rd_st {H H' : Hp} (s : STu H H') {a : Addr} {xs : List V} (e : Rd H a (.tup xs)) : Rd H' a (.tup xs) := by
  rcases e with e | ⟨o, e⟩
  · exact .inl (s _ _ e rfl)
  · exact .inr ⟨o, s _ _ e rfl⟩
theorem Tr.st {H H' : Hp} (s : STu H H') {n : Nat} {x y : V} (h : Tr H n x y) : Tr H' n x y := by
  induction h with
  | flat h => exact .flat h
  | tup e e' hl _ ih => exact .tup (rd_st s e) (rd_st s e') hl ih
def spOw (n : Nat) : Sp := fun vs H Q _ => ∃ (v : V) (d : Int), vs = [v, .int d] ∧ Tq H n v ∧ ∀ v' H', Same H H' → Tr H' n v' v → Q v' H'
theorem flt_ty {K : PySem.W.Frag} {H : Hp} {v : V} (h : flt v = true) : ∃ n, TyOf K H v (.type n) ∧ kitTy n "list" = some false ∧ kitTy n "tuple" = some false ∧ kitTy n "dict" = some false := by
  cases v with
  | non => exact ⟨"NoneType", .non, by decide +kernel, by decide +kernel, by decide +kernel⟩
  | bl b => exact ⟨"bool", .bl b, by decide +kernel, by decide +kernel, by decide +kernel⟩
  | int i => exact ⟨"int", .int i, by decide +kernel, by decide +kernel, by decide +kernel⟩
  | str z => exact ⟨"str", .str z, by decide +kernel, by decide +kernel, by decide +kernel⟩
  | _ => cases h
section
variable {P : Program} {w : World} {K : PySem.W.Frag} {mg : Str → Option Value} {base : Heap}
theorem ok_ow {f : Addr} {fd : FuncData} (F : FunX K "owned" "owned" (top 11) f fd) (B : Bl mg) (mO : mg "owned" = some (.ref f)) (bO : Binds K fd ["thing", "depth"] []) : ∀ n : Nat, FnOk P w K mg base CX0 (n + 1) f fd ["thing", "depth"] (spOw n) := by
  have sc : FnScope ["thing", "depth"] ["thing", "depth"] (defScope (top 11)) := ⟨rfl, rfl, rfl, by decide +kernel, rfl, by decide +kernel, by decide +kernel⟩
  intro n
  induction n with
  | zero =>
    refine F.ok sc (fun vs H Q E h => ?_) (fun cdv A outer s H vs Q E hr h => ?_)
    · obtain ⟨v, d, rfl, _⟩ := h
      rfl
    · obtain ⟨v, d, rfl, hv, q⟩ := h
      have hf : flt v = true := by cases hv; assumption
      obtain ⟨ty, t1, t2, t3, t4⟩ := flt_ty (K := K) (H := H) hf
      refine ⟨_, pss_cons (ps_if (pt_cmpR op_eq (pv 1) pe_int (nomark _)) (pss_one (ps_ret (pv 0))) pss_nil)
        (pss_cons (ps_if (pt_val (pe_callB call_isi5 (by rfl) B.isi boot_isi (pa_cons (pv 0) (pa_cons (pe_bltn (v := .ty "list") (by rfl) B.list boot_list rfl) pa_nil)))) pss_never pss_nil)
        (pss_cons (ps_if (pt_val (pe_callB call_isi5 (by rfl) B.isi boot_isi (pa_cons (pv 0) (pa_cons (pe_bltn (v := .ty "tuple") (by rfl) B.tuple boot_tuple rfl) pa_nil)))) pss_never pss_nil)
        (pss_cons (ps_if (pt_val (pe_callB call_isi5 (by rfl) B.isi boot_isi (pa_cons (pv 0) (pa_cons (pe_bltn (v := .ty "dict") (by rfl) B.dict boot_dict rfl) pa_nil)))) pss_never pss_nil)
        (pss_one (ps_ret (pv 0)))))), ?_⟩
      refine ⟨_, rfl, rfl, _, rfl, ite2 (fun _ => ⟨_, rfl, q v H (Same.refl H) hv.tr⟩) (fun _ => ?_)⟩
      refine ⟨_, rfl, _, _, _, _, rfl, .inl t1, kq t2, _, rfl, iteF ?_⟩
      refine ⟨_, rfl, _, _, _, _, rfl, .inl t1, kq t3, _, rfl, iteF ?_⟩
      refine ⟨_, rfl, _, _, _, _, rfl, .inl t1, kq t4, _, rfl, iteF ?_⟩
      exact ⟨_, rfl, q v H (Same.refl H) hv.tr⟩
  | succ n ih =>
    refine F.ok sc (fun vs H Q E h => ?_) (fun cdv A outer s H vs Q E hr h => ?_)
    · obtain ⟨v, d, rfl, _⟩ := h
      rfl
    · obtain ⟨v, d, rfl, hv, q⟩ := h
      refine ⟨_, pss_cons (ps_if (pt_cmpR op_eq (pv 1) pe_int (nomark _)) (pss_one (ps_ret (pv 0))) pss_nil)
        (pss_cons (ps_if (pt_val (pe_callB call_isi5 (by rfl) B.isi boot_isi (pa_cons (pv 0) (pa_cons (pe_bltn (v := .ty "list") (by rfl) B.list boot_list rfl) pa_nil)))) pss_never pss_nil)
        (pss_cons (ps_if (pt_val (pe_callB call_isi5 (by rfl) B.isi boot_isi (pa_cons (pv 0) (pa_cons (pe_bltn (v := .ty "tuple") (by rfl) B.tuple boot_tuple rfl) pa_nil)))) (pss_one (ps_ret (pe_callTy call_tuple_of (by rfl) B.tuple boot_tuple (pa_cons (pe_comp (osc := defScope (top 11)) (N0 := ["thing", "depth"]) (xs := ["part"]) (fr := [1]) ⟨rfl, by decide +kernel, by decide +kernel, by decide +kernel, (fun j hj => by
              have e : j = 1 := by simpa using hj
              subst e
              exact ⟨_, rfl, by decide +kernel⟩), by decide +kernel⟩ rfl rfl rfl (pi_tup (pv 0))
            (fun s H fp => pg_name (i := 0) (show (["part", "depth"] : List Str).Nodup by decide +kernel) rfl (Or.inl rfl)) (fun s H fp => pif_nil)
            (fun s H fp => pe_call ih hr (by rfl) mO F.kp bO .nil pass0 (pa_cons (pv 0) (pa_cons (pe_op op_sub (pv 1) pe_int) pa_nil)))) pa_nil)))) pss_nil)
        (pss_cons (ps_if (pt_val (pe_callB call_isi5 (by rfl) B.isi boot_isi (pa_cons (pv 0) (pa_cons (pe_bltn (v := .ty "dict") (by rfl) B.dict boot_dict rfl) pa_nil)))) pss_never pss_nil)
        (pss_one (ps_ret (pv 0)))))), ?_⟩
      refine ⟨_, rfl, rfl, _, rfl, ite2 (fun _ => ⟨_, rfl, q v H (Same.refl H) hv.tr⟩) (fun _ => ?_)⟩
      cases hv with
      | flat hf =>
        obtain ⟨ty, t1, t2, t3, t4⟩ := flt_ty (K := K) (H := H) hf
        refine ⟨_, rfl, _, _, _, _, rfl, .inl t1, kq t2, _, rfl, iteF ?_⟩
        refine ⟨_, rfl, _, _, _, _, rfl, .inl t1, kq t3, _, rfl, iteF ?_⟩
        refine ⟨_, rfl, _, _, _, _, rfl, .inl t1, kq t4, _, rfl, iteF ?_⟩
        exact ⟨_, rfl, q v H (Same.refl H) (.flat hf)⟩
      | @tup _ a xs rd hl hx =>
        refine ⟨_, rfl, _, _, _, _, rfl, .inr ⟨_, _, rfl, rd, rfl⟩, kq (show kitTy "tuple" "list" = some false by decide +kernel), _, rfl, iteF ?_⟩
        refine ⟨_, rfl, _, _, _, _, rfl, .inr ⟨_, _, rfl, rd, rfl⟩, kq (show kitTy "tuple" "tuple" = some true by decide +kernel), _, rfl, iteT ?_⟩
        refine ⟨_, rfl, a, rfl, ⟨_, SqT.rd rd⟩, fun D hD => ?_⟩
        refine compW_idx xs.length (fun i ys σ' Hc => (∃ t, σ' = [t, some (.int d)]) ∧ Same H Hc ∧ ys.length = i ∧ ∀ (j : Nat) (y x : V), ys[j]? = some y → xs[j]? = some x → Tr Hc n y x) (by rw [sizeLine_eq]; omega) ⟨⟨none, rfl⟩, Same.upd hD, rfl, (fun j y x h => nomatch h)⟩ upd_same ?_ ?_
        · rintro i σ' Hc ys hi ⟨⟨t, rfl⟩, sc', yl, hys⟩ hyl hD'
          refine ⟨⟨_, xs[i], SqT.rd (rd.same sc'), List.getElem?_eq_getElem hi⟩, ?_⟩
          rintro x H' ⟨rfl, hx'⟩
          have ex := hx' _ (SqT.rd (rd.same sc'))
          rw [List.getElem?_eq_getElem hi] at ex
          cases ex
          refine ⟨_, rfl, _, rfl, _, _, rfl, rfl, _, _, rfl, (hx _ (List.getElem_mem hi)).same sc', fun v' H2 s2 lq2 => ?_⟩
          have hD2 := s2 _ _ hD'
          have st : STu H2 (upd H2 D (.lst (ys ++ [v']))) := STu.put hD2 rfl
          refine ⟨hD2, ⟨_, rfl⟩, (sc'.trans s2).put hD, by rw [List.length_append, yl]; rfl, fun j y x h1 h2 => ?_⟩
          by_cases hj : j < ys.length
          · rw [List.getElem?_append_left hj] at h1
            exact ((hys j y x h1 h2).st (st_of s2)).st st
          · have ej : j = ys.length := by
              have := (List.getElem?_eq_some_iff.mp h1).1
              rw [List.length_append] at this
              simp at this
              omega
            subst ej
            rw [List.getElem?_append_right (Nat.le_refl _), Nat.sub_self] at h1
            cases h1
            rw [yl, List.getElem?_eq_getElem hi] at h2
            cases h2
            exact lq2.st st
        · rintro σ' Hc ys ⟨_, sc', yl, hys⟩ hDn hyl
          refine ⟨⟨_, SqT.rd (rd.same sc'), Nat.le_refl _⟩, D, ys, rfl, .inl ⟨SqL.of hDn, fun l hl' => ?_⟩⟩
          have T := Same.upd (o := .tup ys) hl'
          refine q _ _ (sc'.trans T) (.tup (.inl upd_same) (rd.same (sc'.trans T)) yl fun i x y h1 h2 => (hys i x y h1 h2).st (st_of T))
end
end My

namespace My
open PySem L2 PyProof.Rows
seal L2.PE L2.PT L2.PW L2.PS L2.PSs L2.PA L2.PI L2.PG L2.PGs L2.OpR L2.CallR L2.IxR L2.SlR L2.MtR L2.PIf L2.PO L2.MtM L2.PC L2.PSM L2.PSsM L2.EWn L2.PEk L2.PSk L2.PSsk L2.ForM
/-- a rest: None, or a list -/
def RestAt (K : PySem.W.Frag) (H : Hp) (r : V) (xs : List V) : Prop := (r = .non ∧ xs = []) ∨ ∃ a, r = .ref a ∧ H a = some (.lst xs)
def spAp (K : PySem.W.Frag) : Sp := fun vs H Q _ => ∃ (r : V) (xs : List V) (i : Nat) (o : V), vs = [r, .int (i : Int), o] ∧ RestAt K H r xs ∧ Q (xs.getD i o) H
def dropR (row : Rw) (z : Str) : Rw := row.filter fun c => decide (c.1 ≠ z)
theorem drop_rK {row : Rw} {z : Str} : dropK (rK row) (.inr z) = rK (dropR row z) := by
  unfold dropK rK dropR
  rw [List.filter_map]
  congr 1
  refine List.filter_congr fun c _ => ?_
  show decide ((Sum.inr c.1 : Key) ≠ .inr z) = decide (c.1 ≠ z)
  rw [Bool.eq_iff_iff, decide_eq_true_iff, decide_eq_true_iff]
  exact ⟨fun h e => h (by rw [e]), fun h e => h (by injection e)⟩
theorem putR_new {row : Rw} {z : Str} {v : V} (h : z ∉ row.map (·.1)) : putR row z v = row ++ [(z, v)] := by
  unfold putR
  rw [if_neg]
  intro e
  obtain ⟨c, hc, ec⟩ := List.any_eq_true.mp e
  exact h (List.mem_map.mpr ⟨c, hc, of_decide_eq_true ec⟩)
theorem drop_put {row : Rw} {z : Str} {v : V} (h : z ∉ row.map (·.1)) : dropR (putR row z v) z = row := by
  rw [putR_new h]
  unfold dropR
  have e1 : row.filter (fun c => decide (c.1 ≠ z)) = row := List.filter_eq_self.mpr fun c hc => decide_eq_true fun e => h (List.mem_map.mpr ⟨c, hc, e⟩)
  rw [List.filter_append, e1]
  simp
theorem val_put {row : Rw} {z : Str} {v : V} : valV (rK (putR row z v)) (.inr z) = some v := by
  rw [← put_rK, valV_put, if_pos rfl]
def spWo : Sp := fun vs H Q _ => ∃ (r : Addr) (row : Rw) (z : Str) (v : V), vs = [.ref r, .str z] ∧ H r = some (.dK (rK row)) ∧ valV (rK row) (.inr z) = some v ∧ ∀ r' H', Same H H' → cut H H' r' = some (.dK (rK (dropR row z))) → Q (.ref r') H'
def spVi : Sp := fun vs H Q _ => ∃ (p : Addr) (pc : Pc) (i : Nat) (z c : Str) (t : Str × List Rw) (ws : List V), vs = [.ref p, .str z, .str c] ∧ PcAt H p pc ∧ (pc.map (·.1)).Nodup ∧ pc[i]? = some t ∧ t.1 = z ∧ t.2.length ≤ 1000 ∧ ws.length = t.2.length ∧ (∀ (j : Nat) (row : Rw) (v : V), t.2[j]? = some row → ws[j]? = some v → valV (rK row) (.inr c) = some v) ∧
  ∀ l H', Same H H' → cut H H' l = some (.lst ws) → Q (.ref l) H'
section
variable {P : Program} {w : World} {K : PySem.W.Frag} {mg : Str → Option Value} {base : Heap}
theorem ok_ap {f : Addr} {fd : FuncData} (F : Fun K "at_place" "at_place" (top 10) f fd) (B : Bl mg) : FnOk P w K mg base CX0 1 f fd ["rest", "place", "other"] (spAp K) := by
  have sc : FnScope ["rest", "place", "other"] ["rest", "place", "other"] (defScope (top 10)) := ⟨rfl, rfl, rfl, by decide +kernel, rfl, by decide +kernel, by decide +kernel⟩
  refine F.ok sc (fun vs H Q E h => ?_) (fun cdv A outer s H vs Q E hr h => ?_)
  · obtain ⟨r, xs, i, o, rfl, _⟩ := h
    rfl
  · obtain ⟨r, xs, i, o, rfl, hr', q⟩ := h
    refine ⟨_, pss_cons (ps_if (PW.pt (pw_or (pt_cmpR op_isN (pv 0) pe_non (nomark _)) (pw_or1 (pt_cmpR op_ge (pv 1) (pe_callB call_len_seq (by rfl) B.len PySem.boot_len (pa_cons (pv 0) pa_nil)) (nomark _))))) (pss_one (ps_ret (pv 2))) pss_nil)
      (pss_one (ps_ret (pe_ix ix_list (pv 0) (pv 1) (fun _ _ => rfl)))), ?_⟩
    rcases hr' with ⟨rfl, rfl⟩ | ⟨a, rfl, e⟩
    · exact ⟨_, rfl, rfl, _, rfl, iteB (decide_eq_true rfl) (iteT ⟨_, rfl, q⟩)⟩
    · refine ⟨_, rfl, rfl, _, rfl, iteC (decide_eq_false fun e => by cases e) ⟨_, rfl, _, rfl, _, _, rfl, .inl (SqL.of e), _, _, rfl, rfl, _, rfl, ?_⟩⟩
      refine ite2 (fun hc => ?_) (fun hc => ?_)
      · have hc' : ((xs.length : Nat) : Int) ≤ (i : Int) := of_decide_eq_true hc
        refine ⟨_, rfl, ?_⟩
        have hi : xs.length ≤ i := by omega
        rw [List.getD_eq_getElem?_getD, List.getElem?_eq_none hi] at q
        exact q
      · have hi : i < xs.length := by
          have : ¬ ((xs.length : Nat) : Int) ≤ (i : Int) := fun h => hc (decide_eq_true h)
          omega
        rw [List.getD_eq_getElem?_getD, List.getElem?_eq_getElem hi] at q
        exact ⟨_, rfl, _, rfl, a, _, _, _, rfl, rfl, SqL.of e, atI_nat (List.getElem?_eq_getElem hi), q⟩
theorem ok_wo {f : Addr} {fd : FuncData} (F : Fun K "without_column" "without_column" (top 9) f fd) (B : Bl mg) : FnOk P w K mg base CX0 1 f fd ["row", "column"] spWo := by
  have sc : FnScope ["row", "column", "fresh"] ["row", "column"] (defScope (top 9)) := ⟨rfl, rfl, rfl, by decide +kernel, rfl, by decide +kernel, by decide +kernel⟩
  refine F.ok sc (fun vs H Q E h => ?_) (fun cdv A outer s H vs Q E hr h => ?_)
  · obtain ⟨r, row, z, v, rfl, _⟩ := h
    rfl
  · obtain ⟨r, row, z, v, rfl, e, hv, q⟩ := h
    refine ⟨_, pss_cons (ps_set (i := 2) sc.nd rfl (Or.inl rfl) (pe_callTy call_dict_of (by rfl) B.dict boot_dict (pa_cons (pv 0) pa_nil)))
      (pss_cons (ps_expr (pe_dpop1 (pv 2) (pv 1) ⟨rfl, rfl, rfl, rfl⟩)) (pss_one (ps_ret (pv 2)))), ?_⟩
    refine ⟨_, rfl, r, _, rfl, .inl e, fun r' hr' => ?_⟩
    refine ⟨_, rfl, r', rfl, .inl ⟨_, .inl upd_same⟩, _, rfl, _, .inr z, v, upd_same, rfl, hv, ?_⟩
    rw [upd_upd, drop_rK]
    exact ⟨_, rfl, q r' _ (Same.upd hr') (cut_at hr' upd_same)⟩
theorem ok_vi {f : Addr} {fd : FuncData} (F : Fun K "values_in" "values_in" (top 8) f fd) : FnOk P w K mg base CX0 1 f fd ["piece", "table", "column"] spVi := by
  have sc : FnScope ["piece", "table", "column"] ["piece", "table", "column"] (defScope (top 8)) := ⟨rfl, rfl, rfl, by decide +kernel, rfl, by decide +kernel, by decide +kernel⟩
  refine F.ok sc (fun vs H Q E h => ?_) (fun cdv A outer s H vs Q E hr h => ?_)
  · obtain ⟨p, pc, i, z, c, t, ws, rfl, _⟩ := h
    rfl
  · obtain ⟨p, pc, i, z, c, t, ws, rfl, ⟨ls, a1, a2, a3⟩, nd, ht, rfl, t1000, wl, hw, q⟩ := h
    have hu : (A.deeper (envOfC "values_in" (defScope (top 8)) s.heap.objs.size f cdv)).units + 1 < cLine := hu_of hr
    refine ⟨_, pss_one (ps_ret (pe_comp (osc := defScope (top 8)) (N0 := ["piece", "table", "column"]) (xs := ["row"]) (fr := [2]) ⟨rfl, by decide +kernel, by decide +kernel, by decide +kernel, (fun j hj => by
              have e : j = 2 := by simpa using hj
              subst e
              exact ⟨_, rfl, by decide +kernel⟩), by decide +kernel⟩ rfl rfl rfl (pi_list (pe_dget hu (pv 0) (pv 1) (fun _ _ => rfl)))
            (fun s H fp => pg_name (i := 0) (show (["row", "column"] : List Str).Nodup by decide +kernel) rfl (Or.inl rfl)) (fun s H fp => pif_nil)
            (fun s H fp => pe_dget hu (pv 0) (pv 1) (fun _ _ => rfl)))), ?_⟩
    have hip : i < pc.length := (List.getElem?_eq_some_iff.mp ht).1
    have hil : i < ls.length := by omega
    obtain ⟨rs, b1, b2, b3⟩ := a3 i ls[i] t (List.getElem?_eq_getElem hil) ht
    have vz : valV (zK (pc.map (·.1)) ls) (.inr t.1) = some (.ref ls[i]) := zw_val nd (by rw [List.getElem?_map, ht]; rfl) (by rw [List.getElem?_map, List.getElem?_eq_getElem hil]; rfl)
    refine ⟨_, rfl, _, rfl, p, .ref ls[i], rfl, .inl ⟨_, .inr t.1, .inl a1, rfl, vz.symm⟩, ls[i], rfl, ⟨_, SqL.of b1⟩, fun D hD => ?_⟩
    refine compW_idx rs.length (fun j ys σ' Hc => (∃ u, σ' = [u, some (.str c)]) ∧ Same H Hc ∧ (∀ b, b ≠ D → Hc b = H b) ∧ ys = ws.take j) (by rw [sizeLine_eq]; omega) ⟨⟨none, rfl⟩, Same.upd hD, fun b nb => upd_ne nb, rfl⟩ upd_same ?_ ?_
    · rintro j σ' Hc ys hj ⟨⟨u, rfl⟩, sc', only, rfl⟩ hyl hD'
      have hjt : j < t.2.length := by omega
      have hjw : j < ws.length := by omega
      refine ⟨⟨_, V.ref rs[j], SqL.of (sc' _ _ b1), by rw [List.getElem?_map, List.getElem?_eq_getElem hj]; rfl⟩, ?_⟩
      rintro x H' ⟨rfl, hx'⟩
      have ex := hx' _ (SqL.of (sc' _ _ b1))
      rw [List.getElem?_map, List.getElem?_eq_getElem hj] at ex
      cases ex
      have er := sc' _ _ (b3 j rs[j] t.2[j] (List.getElem?_eq_getElem hj) (List.getElem?_eq_getElem hjt))
      have hv := hw j t.2[j] ws[j] (List.getElem?_eq_getElem hjt) (List.getElem?_eq_getElem hjw)
      refine ⟨_, rfl, _, rfl, rs[j], ws[j], rfl, .inl ⟨_, .inr c, .inl er, rfl, hv.symm⟩, hD', ⟨_, rfl⟩, sc'.put hD, fun b nb => (upd_ne nb).trans (only b nb), ?_⟩
      rw [List.take_append_getElem hjw]
    · rintro σ' Hc ys ⟨_, sc', only, rfl⟩ hDn hyl
      refine ⟨⟨_, SqL.of (sc' _ _ b1), by rw [List.length_map]; exact Nat.le_refl _⟩, q D Hc sc' (cut_at hD ?_)⟩
      rw [hDn, List.take_of_length_le (by omega)]
end
end My

namespace My
open PySem L2 PyProof.Rows
seal L2.PE L2.PT L2.PW L2.PS L2.PSs L2.PA L2.PI L2.PG L2.PGs L2.OpR L2.CallR L2.IxR L2.SlR L2.MtR L2.PIf L2.PO L2.MtM L2.PC L2.PSM L2.PSsM L2.EWn L2.PEk L2.PSk L2.PSsk L2.ForM
theorem cut_none {H0 H : Hp} {b : Addr} {o : HO} (e : H0 b = some o) : cut H0 H b = none := by unfold cut; rw [e]
theorem zK_put {zs : List Str} {ls : List Addr} {i : Nat} {z : Str} {l : Addr} (nd : zs.Nodup) (hl : ls.length = zs.length) (hi : zs[i]? = some z) : putK (zK zs ls) (.inr z) (.ref l) = zK zs (ls.set i l) := by
  have hil : i < zs.length := (List.getElem?_eq_some_iff.mp hi).1
  have hill : i < ls.length := by omega
  have hm : ((.inr z : Key), V.ref ls[i]) ∈ zK zs ls := zK_mem hi (List.getElem?_eq_getElem hill)
  unfold putK
  rw [if_pos (List.any_eq_true.mpr ⟨_, hm, decide_eq_true rfl⟩)]
  refine List.ext_getElem? fun j => ?_
  rw [List.getElem?_map]
  unfold zK
  rw [zw_get, zw_get, List.getElem?_map, List.getElem?_map]
  by_cases hj : j = i
  · subst hj
    rw [hi, List.getElem?_set_self hill, List.getElem?_eq_getElem hill]
    show some (if (Sum.inr z : Key) = .inr z then ((Sum.inr z : Key), V.ref l) else _) = _
    rw [if_pos rfl]
    rfl
  · rw [List.getElem?_set_ne (Ne.symm hj)]
    cases e1 : zs[j]? with
    | none => rfl
    | some y =>
      cases e2 : ls[j]? with
      | none => rfl
      | some k =>
        have ny : y ≠ z := fun e => by
          obtain ⟨hj', ej⟩ := List.getElem?_eq_some_iff.mp e1
          obtain ⟨_, ei⟩ := List.getElem?_eq_some_iff.mp hi
          exact hj ((List.getElem_inj nd).mp (ej.trans (e.trans ei.symm)))
        show some (if (Sum.inr y : Key) = .inr z then _ else ((Sum.inr y : Key), V.ref k)) = _
        rw [if_neg (fun e => ny (by injection e))]
        rfl
theorem set_map {pc : Pc} {i : Nat} {t : Str × List Rw} (ht : pc[i]? = some t) {rows : List Rw} : (pc.set i (t.1, rows)).map (·.1) = pc.map (·.1) := by
  refine List.ext_getElem? fun j => ?_
  rw [List.getElem?_map, List.getElem?_map]
  by_cases hj : j = i
  · subst hj
    rw [List.getElem?_set_self (List.getElem?_eq_some_iff.mp ht).1, ht]
    rfl
  · rw [List.getElem?_set_ne (Ne.symm hj)]
/-- with_rows: the rows are new since G -/
def spWr : Sp := fun vs H Q _ => ∃ (G : Hp) (p lr : Addr) (pc : Pc) (i : Nat) (t : Str × List Rw) (rows : List Rw), vs = [.ref p, .str t.1, .ref lr] ∧ Same G H ∧ PcAt H p pc ∧ PcOk H pc ∧ pc[i]? = some t ∧ RowsD (cut G H) lr rows ∧
  ∀ p' H', Same H H' → PcD (cut G H') p' (pc.set i (t.1, rows)) → Q (.ref p') H'
def putAll (rows : List Rw) (c : Str) (ws : List V) : List Rw := rows.zipWith (fun row v => putR row c v) ws
def spWv (K : PySem.W.Frag) : Sp := fun vs H Q _ => ∃ (p vl : Addr) (pc : Pc) (i : Nat) (t : Str × List Rw) (c : Str) (ws : List V), vs = [.ref p, .str t.1, .str c, .ref vl] ∧ PcAt H p pc ∧ PcOk H pc ∧ pc[i]? = some t ∧ H vl = some (.lst ws) ∧ ws.length = t.2.length ∧
  ∀ p' H', Same H H' → PcE (cut H H') p' (pc.set i (t.1, putAll t.2 c ws)) → Q (.ref p') H'
section
variable {P : Program} {w : World} {K : PySem.W.Frag} {mg : Str → Option Value} {base : Heap}
theorem ok_wr {f fC : Addr} {fd fdC : FuncData} (F : Fun K "with_rows" "with_rows" (top 6) f fd) (B : Bl mg) (DC : Df K mg "copied" (top 2) fC fdC) : FnOk P w K mg base CX0 2 f fd ["piece", "table", "rows"] spWr := by
  have sc : FnScope ["piece", "table", "rows", "fresh"] ["piece", "table", "rows"] (defScope (top 6)) := ⟨rfl, rfl, rfl, by decide +kernel, rfl, by decide +kernel, by decide +kernel⟩
  have GC : FnOk P w K mg base CX0 1 fC fdC ["piece"] spCopied := ok_copied DC.fn B
  have bC := DC.fn.binds (ps := ["piece"]) fun _ _ _ _ _ _ us hl => by obtain ⟨v0, rfl⟩ := L2.ln1 hl; rfl
  refine F.ok sc (fun vs H Q E h => ?_) (fun cdv A outer s H vs Q E hr h => ?_)
  · obtain ⟨G, p, lr, pc, i, t, rows, rfl, _⟩ := h
    rfl
  · obtain ⟨G, p, lr, pc, i, t, rows, rfl, sG, hp, ok, ht, rd, q⟩ := h
    have hu : (A.deeper (envOfC "with_rows" (defScope (top 6)) s.heap.objs.size f cdv)).units + 1 < cLine := hu_of hr
    refine ⟨_, pss_cons (ps_set (i := 3) sc.nd rfl (Or.inl rfl) (pe_call GC hr (by rfl) DC.mg DC.fn.kp bC .nil pass0 (pa_cons (pv 0) pa_nil)))
      (pss_cons (ps_dput hu (pv 3) (pv 1) (pv 2) rfl) (pss_one (ps_ret (pv 3)))), ?_⟩
    refine ⟨_, rfl, p, pc, rfl, hp, ok, fun p' H1 s1 d1 => ?_⟩
    obtain ⟨ls, ow, a1, a2, a3⟩ := d1
    have hit : (pc.map (·.1))[i]? = some t.1 := by rw [List.getElem?_map, ht]; rfl
    have hip : i < pc.length := (List.getElem?_eq_some_iff.mp ht).1
    have e1 := cut_sub _ _ a1
    refine ⟨_, rfl, _, rfl, _, rfl, p', _, rfl, DPut.k (k := .inr t.1) e1 (by rw [zK_len (by rw [List.length_map]; exact a2), List.length_map, sizeLine_eq]; have := ok.le; omega), ?_⟩
    rw [zK_put ok.nd (by rw [List.length_map]; exact a2) hit]
    have np : H p' = none := cut_new a1
    have npG : G p' = none := none_of sG np
    refine ⟨_, rfl, q p' _ (s1.put np) ⟨ls.set i lr, cut_at npG (by rw [upd_same, set_map ht]), by rw [List.length_set, List.length_set, a2], fun j l t' h1 h2 => ?_⟩⟩
    have keep : ∀ b o, H1 b = some o → b ≠ p' → upd H1 p' (.dK (zK (pc.map (·.1)) (ls.set i lr))) b = some o := fun b o e nb => (upd_ne nb).trans e
    by_cases hj : j = i
    · subst hj
      rw [List.getElem?_set_self (by omega)] at h1
      rw [List.getElem?_set_self hip] at h2
      cases h1
      cases h2
      refine rd.same fun b o e => cut_at (cut_new e) (keep b o (s1 _ _ (cut_sub _ _ e)) fun z => ?_)
      rw [z] at e
      rw [cut_sub _ _ e] at np
      cases np
    · rw [List.getElem?_set_ne (Ne.symm hj)] at h1 h2
      obtain ⟨rs, b1, b2, b3, b4, _⟩ := a3 j l t' h1 h2
      refine ⟨rs, cut_at (none_of sG (cut_new b1)) (keep _ _ (cut_sub _ _ b1) fun z => by rw [z, a1] at b1; cases b1), b2, b3, fun j' r row c1 c2 => ?_⟩
      have b5 := b4 j' r row c1 c2
      refine cut_at (none_of sG (cut_new b5)) (keep _ _ (cut_sub _ _ b5) fun z => ?_)
      rw [z, a1] at b5
      injection b5 with x1
      injection x1 with x2
      have hm : ((.inr t'.1 : Key), V.ref l) ∈ zK (pc.map (·.1)) ls := zK_mem (j := j) (by rw [List.getElem?_map, h2]; rfl) h1
      rw [x2] at hm
      exact rK_flat (ok.rw_ t' (List.mem_of_getElem? h2) row (List.mem_of_getElem? c2)) (fun xs h => by rw [cut_new b1] at h; cases h) hm
theorem ok_wv {f fC : Addr} {fd fdC : FuncData} (F : Fun K "with_values" "with_values" (top 7) f fd) (B : Bl mg) (hz : mg "zip" = none) (DC : Df K mg "copied" (top 2) fC fdC) : FnOk P w K mg base CX0 2 f fd ["piece", "table", "column", "values"] (spWv K) := by
  have sc : FnScope ["piece", "table", "column", "values", "fresh", "row", "value"] ["piece", "table", "column", "values"] (defScope (top 7)) := ⟨rfl, rfl, rfl, by decide +kernel, rfl, by decide +kernel, by decide +kernel⟩
  have GC : FnOk P w K mg base CX0 1 fC fdC ["piece"] spCopied := ok_copied DC.fn B
  have bC := DC.fn.binds (ps := ["piece"]) fun _ _ _ _ _ _ us hl => by obtain ⟨v0, rfl⟩ := L2.ln1 hl; rfl
  refine F.ok sc (fun vs H Q E h => ?_) (fun cdv A outer s H vs Q E hr h => ?_)
  · obtain ⟨p, vl, pc, i, t, c, ws, rfl, _⟩ := h
    rfl
  · obtain ⟨p, vl, pc, i, t, c, ws, rfl, hp, ok, ht, hvl, wl, q⟩ := h
    have hu : (A.deeper (envOfC "with_values" (defScope (top 7)) s.heap.objs.size f cdv)).units + 1 < cLine := hu_of hr
    refine ⟨_, pss_cons (ps_set (i := 4) sc.nd rfl (Or.inl rfl) (pe_call GC hr (by rfl) DC.mg DC.fn.kp bC .nil pass0 (pa_cons (pv 0) pa_nil)))
      (pss_cons (ps_for PassesOwn.never rfl (pi_zipL (by rfl) hz (pa_cons (pe_dget hu (pv 4) (pv 1) (fun _ _ => rfl)) (pa_cons (pv 3) pa_nil))) (pg_tup rfl (pgs_cons (pg_name (i := 5) sc.nd rfl (Or.inl rfl)) (pgs_cons (pg_name (i := 6) sc.nd rfl (Or.inl rfl)) pgs_nil)))
        (pss_one (ps_dput hu (pv 5) (pv 2) (pv 6) rfl))) (pss_one (ps_ret (pv 4)))), ?_⟩
    refine ⟨_, rfl, p, pc, rfl, hp, ok, fun p' H1 s1 d1 => ?_⟩
    obtain ⟨ls, ow, a1, a2, a3⟩ := d1
    have hip : i < pc.length := (List.getElem?_eq_some_iff.mp ht).1
    have hil : i < ls.length := by omega
    obtain ⟨rs, b1, b2, b3, b4, b5⟩ := a3 i ls[i] t (List.getElem?_eq_getElem hil) ht
    have vz : valV (zK (pc.map (·.1)) ls) (.inr t.1) = some (.ref ls[i]) := zw_val ok.nd (by rw [List.getElem?_map, ht]; rfl) (by rw [List.getElem?_map, List.getElem?_eq_getElem hil]; rfl)
    have t1000 := ok.rl t (List.mem_of_getElem? ht)
    refine ⟨_, rfl, _, rfl, p', .ref ls[i], rfl, .inl ⟨_, .inr t.1, .inl (cut_sub _ _ a1), rfl, vz.symm⟩, _, rfl, ls[i], vl, rfl, ⟨_, SqL.of (cut_sub _ _ b1)⟩, ⟨_, SqL.of (s1 _ _ hvl)⟩, ?_⟩
    have nvl : cut H H1 vl = none := cut_none hvl
    refine for_zipL (K := K) (xs := rs.map V.ref) (ys := ws) (fun j σ H2 => (∃ u5 u6, σ = [some (.ref p), some (.str t.1), some (.str c), some (.ref vl), some (.ref p'), u5, u6]) ∧ Same H H2 ∧ (∀ b o, cut H H1 b = some o → b ∉ rs → H2 b = some o) ∧ ∀ (j' : Nat) (r : Addr) (row : Rw), rs[j']? = some r → t.2[j']? = some row → H2 r = some (.dK (rK (if j' < j then putR row c (ws.getD j' .non) else row)))) (by rw [List.length_map, b2, wl]) ⟨⟨_, _, rfl⟩, s1, fun b o e _ => cut_sub _ _ e, fun j' r row h1 h2 => cut_sub _ _ (b4 j' r row h1 h2)⟩ (fun j σ H2 _ ⟨_, sm, kp, _⟩ => ⟨SqL.of (kp _ _ b1 fun hm => ?_), SqL.of (sm _ _ hvl)⟩) ?_ ?_
    · obtain ⟨j', hj'⟩ := List.getElem?_of_mem hm
      have hjt : j' < t.2.length := by have := (List.getElem?_eq_some_iff.mp hj').1; omega
      have := b4 j' _ _ hj' (List.getElem?_eq_getElem hjt)
      rw [b1] at this
      cases this
    · rintro j x y tp σ H2 hx hy ⟨⟨u5, u6, rfl⟩, sm, kp, rq⟩ htp
      have hjr : j < rs.length := by have := (List.getElem?_eq_some_iff.mp hx).1; rw [List.length_map] at this; exact this
      have hjt : j < t.2.length := by omega
      rw [List.getElem?_map, List.getElem?_eq_getElem hjr] at hx
      cases hx
      have er := rq j rs[j] t.2[j] (List.getElem?_eq_getElem hjr) (List.getElem?_eq_getElem hjt)
      rw [if_neg (Nat.lt_irrefl j)] at er
      have T := Same.upd (o := .tup [.ref rs[j], y]) htp
      refine ⟨tp, _, rfl, SqT.of upd_same, rfl, _, _, rfl, _, _, rfl, rfl, ?_⟩
      have row12 := (ok.rw_ t (List.mem_of_getElem? ht) t.2[j] (List.getElem_mem hjt)).1.2
      refine ⟨_, rfl, _, rfl, _, rfl, rs[j], _, rfl, DPut.k (k := .inr c) (T _ _ er) (by rw [sizeLine_eq]; unfold rK; rw [List.length_map]; omega), ?_⟩
      rw [put_rK]
      have nr : H rs[j] = none := cut_new (b4 j rs[j] t.2[j] (List.getElem?_eq_getElem hjr) (List.getElem?_eq_getElem hjt))
      refine ⟨⟨_, _, rfl⟩, (sm.trans T).put nr, fun b o e hb => ?_, fun j' r row h1 h2 => ?_⟩
      · rw [upd_ne (fun (z : b = rs[j]) => hb (by rw [z]; exact List.getElem_mem hjr))]
        exact T _ _ (kp b o e hb)
      · by_cases hj' : j' = j
        · subst hj'
          rw [List.getElem?_eq_getElem hjr] at h1
          rw [List.getElem?_eq_getElem hjt] at h2
          cases h1
          cases h2
          rw [upd_same, if_pos (Nat.lt_succ_self _), List.getD_eq_getElem?_getD, hy]
          rfl
        · have nr' : r ≠ rs[j] := fun e => by
            obtain ⟨hj1, ej⟩ := List.getElem?_eq_some_iff.mp h1
            exact hj' ((List.getElem_inj b3).mp (ej.trans e))
          rw [upd_ne nr']
          have := T _ _ (rq j' r row h1 h2)
          rw [this]
          by_cases hlt : j' < j
          · rw [if_pos hlt, if_pos (by omega)]
          · rw [if_neg hlt, if_neg (by omega)]
    · rintro σ H2 ⟨⟨u5, u6, rfl⟩, sm, kp, rq⟩
      have nrs : ∀ r ∈ rs, cut H H1 r ≠ none ∧ ow r = i := fun r hr' => by
        obtain ⟨j', hj'⟩ := List.getElem?_of_mem hr'
        have hjt : j' < t.2.length := by have := (List.getElem?_eq_some_iff.mp hj').1; omega
        exact ⟨by rw [b4 j' r _ hj' (List.getElem?_eq_getElem hjt)]; simp, b5 r hr'⟩
      have isd : ∀ r ∈ rs, ∃ row, row ∈ t.2 ∧ cut H H1 r = some (.dK (rK row)) := fun r hr' => by
        obtain ⟨j', hj'⟩ := List.getElem?_of_mem hr'
        have hjt : j' < t.2.length := by have := (List.getElem?_eq_some_iff.mp hj').1; omega
        exact ⟨_, List.getElem_mem hjt, b4 j' r _ hj' (List.getElem?_eq_getElem hjt)⟩
      have npr : p' ∉ rs := fun hm => by
        obtain ⟨row, hrow, e⟩ := isd p' hm
        rw [a1] at e
        injection e with x1
        injection x1 with x2
        have hm' : ((.inr t.1 : Key), V.ref ls[i]) ∈ zK (pc.map (·.1)) ls := zK_mem (j := i) (by rw [List.getElem?_map, ht]; rfl) (List.getElem?_eq_getElem hil)
        rw [x2] at hm'
        exact rK_flat (ok.rw_ t (List.mem_of_getElem? ht) row hrow) (fun xs h => by rw [cut_new b1] at h; cases h) hm'
      refine ⟨_, rfl, q p' H2 sm ⟨ls, ow, cut_at (cut_new a1) (by rw [set_map ht]; exact kp _ _ a1 npr), by rw [List.length_set, a2], fun j l t' h1 h2 => ?_⟩⟩
      by_cases hj : j = i
      · subst hj
        rw [List.getElem?_eq_getElem hil] at h1
        rw [List.getElem?_set_self hip] at h2
        cases h1
        cases h2
        refine ⟨rs, cut_at (cut_new b1) (kp _ _ b1 fun hm => ?_), ?_, b3, fun j' r row h1 h2 => ?_, b5⟩
        · obtain ⟨row, _, e⟩ := isd _ hm
          rw [b1] at e
          cases e
        · show rs.length = (putAll t.2 c ws).length
          unfold putAll
          rw [List.length_zipWith, wl, Nat.min_self, b2]
        · have hjr : j' < rs.length := (List.getElem?_eq_some_iff.mp h1).1
          have hjt : j' < t.2.length := by omega
          have hjw : j' < ws.length := by omega
          have er := rq j' r t.2[j'] h1 (List.getElem?_eq_getElem hjt)
          rw [if_pos (by rw [List.length_map]; exact hjr), List.getD_eq_getElem?_getD, List.getElem?_eq_getElem hjw] at er
          have h2' : (putAll t.2 c ws)[j']? = some row := h2
          unfold putAll at h2'
          rw [List.getElem?_zipWith, List.getElem?_eq_getElem hjt, List.getElem?_eq_getElem hjw] at h2'
          cases h2'
          exact cut_at (cut_new (b4 j' r _ h1 (List.getElem?_eq_getElem hjt))) er
      · rw [List.getElem?_set_ne (Ne.symm hj)] at h2
        obtain ⟨rs', g1, g2, g3, g4, g5⟩ := a3 j l t' h1 h2
        have out : ∀ b o, cut H H1 b = some o → b ∉ rs → cut H H2 b = some o := fun b o e hb => cut_at (cut_new e) (kp b o e hb)
        refine ⟨rs', out _ _ g1 fun hm => ?_, g2, g3, fun j' r row c1 c2 => out _ _ (g4 j' r row c1 c2) fun hm => ?_, g5⟩
        · obtain ⟨row, _, e⟩ := isd _ hm
          rw [g1] at e
          cases e
        · have x1 := (nrs r hm).2
          have x2 := g5 r (List.mem_of_getElem? c1)
          omega
end
end My

namespace My
open PySem L2 PyProof.Rows
seal L2.PE L2.PT L2.PW L2.PS L2.PSs L2.PA L2.PI L2.PG L2.PGs L2.OpR L2.CallR L2.IxR L2.SlR L2.MtR L2.PIf L2.PO L2.MtM L2.PC L2.PSM L2.PSsM L2.EWn L2.PEk L2.PSk L2.PSsk L2.ForM
theorem Tq.st {H H' : Hp} (s : STu H H') {n : Nat} {v : V} (h : Tq H n v) : Tq H' n v := by
  induction h with
  | flat h => exact .flat h
  | tup e hl _ ih => exact .tup (rd_st s e) hl ih
abbrev pu (i : Nat) : Stmt := inClass (top 5) i
structure ClU (K : PySem.W.Frag) (C : Addr) : Prop where
  cl : Cls K C
  nT : NoAttr K C "table"
  nC : NoAttr K C "column"
  nK : NoAttr K C "kind"
  nV : NoAttr K C "value"
  nO : NoAttr K C "told"
def pfs (z c : Str) (k v t : V) : List (Str × V) := putF "told" t (putF "value" v (putF "kind" k (putF "column" (.str c) (putF "table" (.str z) []))))
structure PuAt (C : Addr) (H : Hp) (a : Addr) (z c : Str) (v : V) : Prop where
  ex : ∃ dx k t, H a = some (.ins C dx (pfs z c k v t))
theorem PuAt.same {C : Addr} {H H' : Hp} {a : Addr} {z c : Str} {v : V} (h : PuAt C H a z c v) (s : Same H H') : PuAt C H' a z c v := let ⟨dx, k, t, e⟩ := h.ex; ⟨dx, k, t, s _ _ e⟩
section
variable {z c : Str} {k v t : V}
theorem pfs_t : (pfs z c k v t).lookup ("table" : Str) = some (V.str z) := by unfold pfs; rw [lookup_putF, if_neg (by decide), lookup_putF, if_neg (by decide), lookup_putF, if_neg (by decide), lookup_putF, if_neg (by decide), lookup_putF, if_pos rfl]
theorem pfs_c : (pfs z c k v t).lookup ("column" : Str) = some (V.str c) := by unfold pfs; rw [lookup_putF, if_neg (by decide), lookup_putF, if_neg (by decide), lookup_putF, if_neg (by decide), lookup_putF, if_pos rfl]
theorem pfs_v : (pfs z c k v t).lookup ("value" : Str) = some v := by unfold pfs; rw [lookup_putF, if_neg (by decide), lookup_putF, if_pos rfl]
theorem pfs_no {m : Str} (h : m = "forth" ∨ m = "back" ∨ m = "left" ∨ m = "right") : (pfs z c k v t).lookup m = none := by
  unfold pfs
  rcases h with rfl | rfl | rfl | rfl <;> (rw [lookup_putF, if_neg (by decide), lookup_putF, if_neg (by decide), lookup_putF, if_neg (by decide), lookup_putF, if_neg (by decide), lookup_putF, if_neg (by decide)]; rfl)
end
def spPuI (C : Addr) : Sp := fun vs H Q _ => ∃ (x dx ka : Addr) (z c : Str) (v : V), vs = [.ref x, .str z, .str c, .ref ka, v] ∧ H x = some (.ins C dx []) ∧ Tq H 2 (.ref ka) ∧ Tq H 2 v ∧ ∀ H', (∀ b o, b ≠ x → H b = some o → H' b = some o) → PuAt C H' x z c v → Q .non H'
def spPf (C : Addr) : Sp := fun vs H Q _ => ∃ (x p vl : Addr) (y : V) (pc : Pc) (i : Nat) (t : Str × List Rw) (c : Str) (v : V) (ws : List V), vs = [.ref x, y, .ref p, .ref vl] ∧ PuAt C H x t.1 c v ∧ PcAt H p pc ∧ PcOk H pc ∧ pc[i]? = some t ∧ H vl = some (.lst ws) ∧ ws.length = t.2.length ∧
  ∀ tp p' H', Same H H' → PcE (cut H H') p' (pc.set i (t.1, putAll t.2 c ws)) → cut H H' tp = some (.tup [.ref p', .non]) → Q (.ref tp) H'
def spPb (C : Addr) : Sp := fun vs H Q _ => ∃ (x p : Addr) (y r : V) (pc : Pc) (i : Nat) (t : Str × List Rw) (c : Str) (v : V) (ws : List V), vs = [.ref x, y, .ref p, r] ∧ PuAt C H x t.1 c v ∧ PcAt H p pc ∧ PcOk H pc ∧ pc[i]? = some t ∧ ws.length = t.2.length ∧ (∀ (j : Nat) (row : Rw) (v : V), t.2[j]? = some row → ws[j]? = some v → valV (rK row) (.inr c) = some v) ∧
  ∀ tp p' wl Hm H', Same H Hm → Same Hm H' → PcD (cut H Hm) p' (pc.set i (t.1, t.2.map fun row => dropR row c)) → cut Hm H' wl = some (.lst ws) → cut Hm H' tp = some (.tup [.ref p', .ref wl]) → Q (.ref tp) H'
def spPl (K : PySem.W.Frag) (C : Addr) : Sp := fun vs H Q _ => ∃ (x p : Addr) (y r : V) (pc : Pc) (i : Nat) (t : Str × List Rw) (c : Str) (v : V) (xs : List V), vs = [.ref x, y, .ref p, r] ∧ PuAt C H x t.1 c v ∧ PcAt H p pc ∧ (pc.map (·.1)).Nodup ∧ pc[i]? = some t ∧ t.2.length ≤ 1000 ∧ RestAt K H r xs ∧
  ∀ l H', Same H H' → cut H H' l = some (.lst ((List.range t.2.length).map fun j => xs.getD j v)) → Q (.ref l) H'
def spNon4 : Sp := fun vs H Q _ => ∃ x y z r : V, vs = [x, y, z, r] ∧ Q .non H
section
variable {P : Program} {w : World} {K : PySem.W.Frag} {mg : Str → Option Value} {base : Heap}
theorem ok_right {f : Addr} {fd : FuncData} (F : FunX K "right" "Move.right" (inClass (top 4) 5) f fd) : FnOk P w K mg base CX0 1 f fd ["self", "form", "piece", "rest"] spNon4 := by
  have sc : FnScope ["self", "form", "piece", "rest"] ["self", "form", "piece", "rest"] (defScope (inClass (top 4) 5)) := ⟨rfl, rfl, rfl, by decide +kernel, rfl, by decide +kernel, by decide +kernel⟩
  refine F.ok sc (fun vs H Q E h => ?_) (fun cdv A outer s H vs Q E hr h => ?_)
  · obtain ⟨x, y, z, r, rfl, _⟩ := h
    rfl
  · obtain ⟨x, y, z, r, rfl, q⟩ := h
    exact ⟨_, pss_one (ps_ret pe_non), q⟩
theorem ok_puI {f fO C : Addr} {fd fdO : FuncData} {tk : Tok} (F : Fun K "__init__" "Put.__init__" (pu 0) f fd) (L : ClU K C) (mO : mg "owned" = some (.ref fO)) (kO : PySem.W.keepIn K (.ref fO) = true) (GO : FnOk P w K mg base CX0 4 fO fdO ["thing", "depth"] (spOw 3)) (bO1 : Binds K fdO ["thing", "depth"] [.int 20 tk]) : FnOk P w K mg base CX0 5 f fd ["self", "table", "column", "kind", "value"] (spPuI C) := by
  have sc : FnScope ["self", "table", "column", "kind", "value"] ["self", "table", "column", "kind", "value"] (defScope (pu 0)) := ⟨rfl, rfl, rfl, by decide +kernel, rfl, by decide +kernel, by decide +kernel⟩
  refine F.ok sc (fun vs H Q E h => ?_) (fun cdv A outer s H vs Q E hr h => ?_)
  · obtain ⟨x, dx, ka, z, c, v, rfl, _⟩ := h
    rfl
  · obtain ⟨x, dx, ka, z, c, v, rfl, e, hk, hv, q⟩ := h
    refine ⟨_, pss_cons (ps_fld (pv 0) (pv 1) rfl) (pss_cons (ps_fld (pv 0) (pv 2) rfl) (pss_cons (ps_fld (pv 0) (pv 3) rfl) (pss_cons (ps_fld (pv 0) (pv 4) rfl)
      (pss_one (ps_fld (pv 0) (pe_call GO hr (by rfl) mO kO bO1 (show Vals [V.int 20] [Value.int 20 tk] from .cons ⟨tk, rfl⟩ .nil) pass0 (pa_cons (pe_tup (pa_cons pe_str (pa_cons (pv 1) (pa_cons (pv 2) (pa_cons (pv 3) (pa_cons (pv 4) pa_nil)))))) pa_nil)) rfl))))), ?_⟩
    refine ⟨_, rfl, _, rfl, x, C, dx, _, rfl, e, L.cl, L.nT, (by decide), ?_⟩
    have l1 := length_putF "table" (.str z) []
    have l2 := length_putF "column" (.str c) (putF "table" (.str z) [])
    have l3 := length_putF "kind" (.ref ka) (putF "column" (.str c) (putF "table" (.str z) []))
    have l4 := length_putF "value" (v) (putF "kind" (.ref ka) (putF "column" (.str c) (putF "table" (.str z) [])))
    rw [List.length_nil] at l1
    refine ⟨_, rfl, _, rfl, x, C, dx, _, rfl, upd_same, L.cl, L.nC, (by omega), ?_⟩
    rw [upd_upd]
    refine ⟨_, rfl, _, rfl, x, C, dx, _, rfl, upd_same, L.cl, L.nK, (by omega), ?_⟩
    rw [upd_upd]
    refine ⟨_, rfl, _, rfl, x, C, dx, _, rfl, upd_same, L.cl, L.nV, (by omega), ?_⟩
    rw [upd_upd]
    have st : STu H (upd H x (.ins C dx (putF "value" v (putF "kind" (.ref ka) (putF "column" (.str c) (putF "table" (.str z) [])))))) := STu.put e rfl
    have keep : ∀ b o, b ≠ x → H b = some o → upd H x (.ins C dx (putF "value" v (putF "kind" (.ref ka) (putF "column" (.str c) (putF "table" (.str z) []))))) b = some o := fun b o nb eb => (upd_ne nb).trans eb
    have ex := upd_same (H := H) (a := x) (o := .ins C dx (putF "value" v (putF "kind" (.ref ka) (putF "column" (.str c) (putF "table" (.str z) [])))))
    generalize upd H x (.ins C dx (putF "value" v (putF "kind" (.ref ka) (putF "column" (.str c) (putF "table" (.str z) []))))) = H1 at *
    refine ⟨_, rfl, _, rfl, _, rfl, _, rfl, (show 5 ≤ sizeLine by decide), fun tp htp => ?_⟩
    have T := Same.upd (o := .tup [.str "put", .str z, .str c, .ref ka, v]) htp
    have tq : Tq (upd H1 tp (.tup [.str "put", .str z, .str c, .ref ka, v])) 3 (.ref tp) := .tup (.inl upd_same) (show 5 ≤ 1000 by decide) fun y hy => by
      have hy' : y = .str "put" ∨ y = .str z ∨ y = .str c ∨ y = .ref ka ∨ y = v := by simpa using hy
      rcases hy' with rfl | rfl | rfl | rfl | rfl
      · exact .flat rfl
      · exact .flat rfl
      · exact .flat rfl
      · exact (Tq.st st hk).same T
      · exact (Tq.st st hv).same T
    refine ⟨_, _, rfl, tq, fun v' H2 s2 _ => ?_⟩
    refine ⟨_, rfl, x, C, dx, _, rfl, s2 _ _ (T _ _ ex), L.cl, L.nO, (by omega), ?_⟩
    exact q _ (fun b o nb eb => (upd_ne nb).trans (s2 _ _ (T _ _ (keep b o nb eb)))) ⟨dx, _, _, upd_same⟩
end
end My

namespace My
open PySem L2 PyProof.Rows
seal L2.PE L2.PT L2.PW L2.PS L2.PSs L2.PA L2.PI L2.PG L2.PGs L2.OpR L2.CallR L2.IxR L2.SlR L2.MtR L2.PIf L2.PO L2.MtM L2.PC L2.PSM L2.PSsM L2.EWn L2.PEk L2.PSk L2.PSsk L2.ForM
section
variable {P : Program} {w : World} {K : PySem.W.Frag} {mg : Str → Option Value} {base : Heap}
theorem ok_pf {f fW fC C : Addr} {fd fdW fdC : FuncData} (F : Fun K "forth" "Put.forth" (pu 4) f fd) (B : Bl mg) (L : ClU K C) (hz : mg "zip" = none) (DW : Df K mg "with_values" (top 7) fW fdW) (DC : Df K mg "copied" (top 2) fC fdC) : FnOk P w K mg base CX0 3 f fd ["self", "form", "piece", "rest"] (spPf C) := by
  have sc : FnScope ["self", "form", "piece", "rest"] ["self", "form", "piece", "rest"] (defScope (pu 4)) := ⟨rfl, rfl, rfl, by decide +kernel, rfl, by decide +kernel, by decide +kernel⟩
  have GW : FnOk P w K mg base CX0 2 fW fdW ["piece", "table", "column", "values"] (spWv K) := ok_wv DW.fn B hz DC
  have bW := DW.fn.binds (ps := ["piece", "table", "column", "values"]) fun _ _ _ _ _ _ us hl => by obtain ⟨v0, v1, v2, v3, rfl⟩ := L2.ln4 hl; rfl
  refine F.ok sc (fun vs H Q E h => ?_) (fun cdv A outer s H vs Q E hr h => ?_)
  · obtain ⟨x, p, vl, y, pc, i, t, c, v, ws, rfl, _⟩ := h
    rfl
  · obtain ⟨x, p, vl, y, pc, i, t, c, v, ws, rfl, ⟨dx, k, tt, e⟩, hp, ok, ht, hvl, wl, q⟩ := h
    refine ⟨_, pss_one (ps_ret (pe_tup (pa_cons (pe_call GW hr (by rfl) DW.mg DW.fn.kp bW .nil pass0 (pa_cons (pv 2) (pa_cons (pe_fld (pv 0) rfl) (pa_cons (pe_fld (pv 0) rfl) (pa_cons (pv 3) pa_nil))))) (pa_cons pe_non pa_nil)))), ?_⟩
    refine ⟨_, rfl, _, rfl, x, C, dx, _, _, rfl, e, L.cl, L.nT, pfs_t, _, rfl, x, C, dx, _, _, rfl, e, L.cl, L.nC, pfs_c, _, rfl, p, vl, pc, i, t, c, ws, rfl, hp, ok, ht, hvl, wl, fun p' H1 s1 d1 => ⟨(show 2 ≤ sizeLine by decide), fun tp htp => ?_⟩⟩
    have T := Same.upd (o := .tup [.ref p', .non]) htp
    exact q tp p' _ (s1.trans T) (d1.same (cut_up T)) (cut_at (none_of s1 htp) upd_same)
theorem ok_pl {f fA C : Addr} {fd fdA : FuncData} (F : FunX K "left" "Put.left" (pu 6) f fd) (B : Bl mg) (L : ClU K C) (DA : Df K mg "at_place" (top 10) fA fdA) : FnOk P w K mg base CX0 2 f fd ["self", "form", "piece", "rest"] (spPl K C) := by
  have sc : FnScope ["self", "form", "piece", "rest"] ["self", "form", "piece", "rest"] (defScope (pu 6)) := ⟨rfl, rfl, rfl, by decide +kernel, rfl, by decide +kernel, by decide +kernel⟩
  have GA : FnOk P w K mg base CX0 1 fA fdA ["rest", "place", "other"] (spAp K) := ok_ap DA.fn B
  have bA := DA.fn.binds (ps := ["rest", "place", "other"]) fun _ _ _ _ _ _ us hl => by obtain ⟨v0, v1, v2, rfl⟩ := L2.ln3 hl; rfl
  have ndA : (["place", "self", "rest"] : List Str).Nodup := by decide +kernel
  refine F.ok sc (fun vs H Q E h => ?_) (fun cdv A outer s H vs Q E hr h => ?_)
  · obtain ⟨x, p, y, r, pc, i, t, c, v, xs, rfl, _⟩ := h
    rfl
  · obtain ⟨x, p, y, r, pc, i, t, c, v, xs, rfl, ⟨dx, k, tt, e⟩, ⟨ls, a1, a2, a3⟩, nd, ht, t1000, hr', q⟩ := h
    have hu : (A.deeper (envOfC "Put.left" (defScope (pu 6)) s.heap.objs.size f cdv)).units + 1 < cLine := hu_of hr
    refine ⟨_, pss_one (ps_ret (pe_comp (te := tCall (spAp K) [] E0 (tCons (tVar 2) (tCons (tVar 0) (tCons (tFld K (tVar 1) "value") tNil)))) (osc := defScope (pu 6)) (N0 := ["self", "form", "piece", "rest"]) (xs := ["place"]) (fr := [0, 3]) ⟨rfl, by decide +kernel, by decide +kernel, by decide +kernel, (fun j hj => by
              have e : j = 0 ∨ j = 3 := by simpa using hj
              rcases e with rfl | rfl
              · exact ⟨_, rfl, by decide +kernel⟩
              · exact ⟨_, rfl, by decide +kernel⟩), by decide +kernel⟩ rfl rfl rfl (pi_range1 rfl B.range (pa_cons (pe_callB call_len_seq (by rfl) B.len PySem.boot_len (pa_cons (pe_dget hu (pv 2) (pe_fld (pv 0) rfl) (fun _ _ => rfl)) pa_nil)) pa_nil))
            (fun s H fp => pg_name (i := 0) ndA rfl (Or.inl rfl)) (fun s H fp => pif_nil)
            (fun s H fp => pe_call GA hr (by rfl) DA.mg DA.fn.kp bA .nil pass0 (pa_cons (pv 2) (pa_cons (pv 0) (pa_cons (pe_fld (pv 1) rfl) pa_nil)))))), ?_⟩
    have hip : i < pc.length := (List.getElem?_eq_some_iff.mp ht).1
    have hil : i < ls.length := by omega
    obtain ⟨rs, b1, b2, b3⟩ := a3 i ls[i] t (List.getElem?_eq_getElem hil) ht
    have vz : valV (zK (pc.map (·.1)) ls) (.inr t.1) = some (.ref ls[i]) := zw_val nd (by rw [List.getElem?_map, ht]; rfl) (by rw [List.getElem?_map, List.getElem?_eq_getElem hil]; rfl)
    have rl : (rs.map V.ref).length = t.2.length := by rw [List.length_map, b2]
    refine ⟨_, rfl, _, rfl, x, C, dx, _, _, rfl, e, L.cl, L.nT, pfs_t, p, .ref ls[i], rfl, .inl ⟨_, .inr t.1, .inl a1, rfl, vz.symm⟩, _, _, rfl, .inl (SqL.of b1), _, rfl, (by rw [rl]; omega), (by rw [rl]; omega), fun D hD => ?_⟩
    refine compW_idx (((rs.map V.ref).length : Int)).toNat (fun j ys σ' Hc => (∃ u, σ' = [u, some (.ref x), some r]) ∧ Same H Hc ∧ ys = (List.range j).map fun j => xs.getD j v) (by rw [rl, sizeLine_eq]; omega) ⟨⟨none, rfl⟩, Same.upd hD, rfl⟩ upd_same ?_ ?_
    · rintro j σ' Hc ys hj ⟨⟨u, rfl⟩, sc', rfl⟩ hyl hD'
      refine ⟨hj, ?_⟩
      rintro y' H' ⟨rfl, rfl⟩
      have hrr : RestAt K _ r xs := hr'.imp id fun ⟨a, e1, e2⟩ => ⟨a, e1, sc' _ _ e2⟩
      rw [Int.zero_add]
      refine ⟨_, rfl, _, rfl, _, rfl, x, C, dx, _, _, rfl, sc' _ _ e, L.cl, L.nV, pfs_v, r, xs, j, v, rfl, hrr, hD', ⟨_, rfl⟩, sc'.put hD, ?_⟩
      rw [List.range_succ, List.map_append]
      rfl
    · rintro σ' Hc ys ⟨_, sc', rfl⟩ hDn hyl
      refine ⟨Nat.le_refl _, q D Hc sc' (cut_at hD ?_)⟩
      rw [hDn, rl]
      rfl
theorem ok_pb {f fW fC fO fV C : Addr} {fd fdW fdC fdO fdV : FuncData} (F : Fun K "back" "Put.back" (pu 5) f fd) (B : Bl mg) (L : ClU K C) (DW : Df K mg "with_rows" (top 6) fW fdW) (DC : Df K mg "copied" (top 2) fC fdC) (DO : Df K mg "without_column" (top 9) fO fdO) (DV : Df K mg "values_in" (top 8) fV fdV) : FnOk P w K mg base CX0 3 f fd ["self", "form", "piece", "rest"] (spPb C) := by
  have sc : FnScope ["self", "form", "piece", "rest", "rows"] ["self", "form", "piece", "rest"] (defScope (pu 5)) := ⟨rfl, rfl, rfl, by decide +kernel, rfl, by decide +kernel, by decide +kernel⟩
  have GW : FnOk P w K mg base CX0 2 fW fdW ["piece", "table", "rows"] spWr := ok_wr DW.fn B DC
  have GO : FnOk P w K mg base CX0 1 fO fdO ["row", "column"] spWo := ok_wo DO.fn B
  have GV : FnOk P w K mg base CX0 1 fV fdV ["piece", "table", "column"] spVi := ok_vi DV.fn
  have bW := DW.fn.binds (ps := ["piece", "table", "rows"]) fun _ _ _ _ _ _ us hl => by obtain ⟨v0, v1, v2, rfl⟩ := L2.ln3 hl; rfl
  have bO := DO.fn.binds (ps := ["row", "column"]) fun _ _ _ _ _ _ us hl => by obtain ⟨v0, v1, rfl⟩ := L2.ln2 hl; rfl
  have bV := DV.fn.binds (ps := ["piece", "table", "column"]) fun _ _ _ _ _ _ us hl => by obtain ⟨v0, v1, v2, rfl⟩ := L2.ln3 hl; rfl
  have ndA : (["row", "self"] : List Str).Nodup := by decide +kernel
  refine F.ok sc (fun vs H Q E h => ?_) (fun cdv A outer s H vs Q E hr h => ?_)
  · obtain ⟨x, p, y, r, pc, i, t, c, v, ws, rfl, _⟩ := h
    rfl
  · obtain ⟨x, p, y, r, pc, i, t, c, v, ws, rfl, ⟨dx, k, tt, e⟩, hp, ok, ht, wl, hw, q⟩ := h
    have hr1 : Room 1 _ := hr.mono (by decide)
    have hu : (A.deeper (envOfC "Put.back" (defScope (pu 5)) s.heap.objs.size f cdv)).units + 1 < cLine := hu_of hr
    refine ⟨_, pss_cons (ps_comp (i := 4) (te := tCall spWo [] E0 (tCons (tVar 0) (tCons (tFld K (tVar 1) "column") tNil))) (osc := defScope (pu 5)) (N0 := ["self", "form", "piece", "rest", "rows"]) (xs := ["row"]) (fr := [0]) ⟨rfl, by decide +kernel, by decide +kernel, by decide +kernel, (fun j hj => by
              have e : j = 0 := by simpa using hj
              subst e
              exact ⟨_, rfl, by decide +kernel⟩), by decide +kernel⟩ rfl rfl rfl (pi_list (pe_dget hu (pv 2) (pe_fld (pv 0) rfl) (fun _ _ => rfl)))
            (fun s H fp => pg_name (i := 0) ndA rfl (Or.inl rfl)) (fun s H fp => pif_nil)
            (fun s H fp => pe_call GO hr1 (by rfl) DO.mg DO.fn.kp bO .nil pass0 (pa_cons (pv 0) (pa_cons (pe_fld (pv 1) rfl) pa_nil))) sc.nd rfl (Or.inl rfl))
      (pss_one (ps_ret (pe_tup (pa_cons (pe_call GW hr (by rfl) DW.mg DW.fn.kp bW .nil pass0 (pa_cons (pv 2) (pa_cons (pe_fld (pv 0) rfl) (pa_cons (pv 4) pa_nil)))) (pa_cons (pe_call GV hr1 (by rfl) DV.mg DV.fn.kp bV .nil pass0 (pa_cons (pv 2) (pa_cons (pe_fld (pv 0) rfl) (pa_cons (pe_fld (pv 0) rfl) pa_nil)))) pa_nil))))), ?_⟩
    have hp0 := hp
    obtain ⟨ls, a1, a2, a3⟩ := hp
    have nd := ok.nd
    have hip : i < pc.length := (List.getElem?_eq_some_iff.mp ht).1
    have hil : i < ls.length := by omega
    obtain ⟨rs, b1, b2, b3⟩ := a3 i ls[i] t (List.getElem?_eq_getElem hil) ht
    have vz : valV (zK (pc.map (·.1)) ls) (.inr t.1) = some (.ref ls[i]) := zw_val nd (by rw [List.getElem?_map, ht]; rfl) (by rw [List.getElem?_map, List.getElem?_eq_getElem hil]; rfl)
    have t1000 := ok.rl t (List.mem_of_getElem? ht)
    refine ⟨_, rfl, _, rfl, x, C, dx, _, _, rfl, e, L.cl, L.nT, pfs_t, p, .ref ls[i], rfl, .inl ⟨_, .inr t.1, .inl a1, rfl, vz.symm⟩, ls[i], rfl, ⟨_, SqL.of b1⟩, fun D hD => ?_⟩
    refine compW_idx rs.length (fun j ys σ' Hc => (∃ u, σ' = [u, some (.ref x)]) ∧ Same H Hc ∧ ∃ qs : List Addr, ys = qs.map V.ref ∧ qs.Nodup ∧ qs.length = j ∧ ∀ (j' : Nat) (r : Addr) (row : Rw), qs[j']? = some r → t.2[j']? = some row → H r = none ∧ r ≠ D ∧ Hc r = some (.dK (rK (dropR row c)))) (by rw [sizeLine_eq]; omega) ⟨⟨none, rfl⟩, Same.upd hD, [], rfl, .nil, rfl, (fun j r row h => nomatch h)⟩ upd_same ?_ ?_
    · rintro j σ' Hc ys hj ⟨⟨u, rfl⟩, sc', qs, rfl, qnd, ql, hqs⟩ hyl hD'
      have hjt : j < t.2.length := by omega
      have hjw : j < ws.length := by omega
      refine ⟨⟨_, V.ref rs[j], SqL.of (sc' _ _ b1), by rw [List.getElem?_map, List.getElem?_eq_getElem hj]; rfl⟩, ?_⟩
      rintro x' H' ⟨rfl, hx'⟩
      have ex := hx' _ (SqL.of (sc' _ _ b1))
      rw [List.getElem?_map, List.getElem?_eq_getElem hj] at ex
      cases ex
      have er := sc' _ _ (b3 j rs[j] t.2[j] (List.getElem?_eq_getElem hj) (List.getElem?_eq_getElem hjt))
      have hv := hw j t.2[j] ws[j] (List.getElem?_eq_getElem hjt) (List.getElem?_eq_getElem hjw)
      refine ⟨_, rfl, _, rfl, x, C, dx, _, _, rfl, sc' _ _ e, L.cl, L.nC, pfs_c, rs[j], t.2[j], c, ws[j], rfl, er, hv, fun r' H2 s2 cu => ?_⟩
      have nr := cut_new cu
      have rD : r' ≠ D := fun z => by rw [z, hD'] at nr; cases nr
      refine ⟨s2 _ _ hD', ⟨_, rfl⟩, (sc'.trans s2).put hD, qs ++ [r'], by rw [List.map_append]; rfl, ?_, by rw [List.length_append, ql]; rfl, fun j' r row h1 h2 => ?_⟩
      · rw [List.nodup_append]
        refine ⟨qnd, by simp, fun a ha b hb z => ?_⟩
        rw [List.mem_singleton.mp hb] at z
        obtain ⟨j', hj'⟩ := List.getElem?_of_mem ha
        have hjl : j' < t.2.length := by have := (List.getElem?_eq_some_iff.mp hj').1; omega
        have := (hqs j' a _ hj' (List.getElem?_eq_getElem hjl)).2.2
        rw [z, nr] at this
        cases this
      · by_cases hj' : j' < qs.length
        · rw [List.getElem?_append_left hj'] at h1
          obtain ⟨x1, x2, x3⟩ := hqs j' r row h1 h2
          exact ⟨x1, x2, (upd_ne x2).trans (s2 _ _ x3)⟩
        · have ej : j' = qs.length := by
            have := (List.getElem?_eq_some_iff.mp h1).1
            rw [List.length_append] at this
            simp at this
            omega
          subst ej
          rw [List.getElem?_append_right (Nat.le_refl _), Nat.sub_self] at h1
          cases h1
          rw [ql, List.getElem?_eq_getElem hjt] at h2
          cases h2
          exact ⟨none_of sc' nr, rD, (upd_ne rD).trans (cut_sub _ _ cu)⟩
    · rintro σ' Hc ys ⟨_, sc', qs, rfl, qnd, ql, hqs⟩ hDn hyl
      refine ⟨⟨_, SqL.of (sc' _ _ b1), by rw [List.length_map]; exact Nat.le_refl _⟩, ?_⟩
      have rd : RowsD (cut H Hc) D (t.2.map fun row => dropR row c) := ⟨qs, cut_at hD hDn, by rw [List.length_map, ql, b2], qnd, fun j r row h1 h2 => by
        rw [List.getElem?_map] at h2
        cases e2 : t.2[j]? with
        | none => rw [e2] at h2; cases h2
        | some row0 =>
          rw [e2] at h2
          cases h2
          obtain ⟨x1, x2, x3⟩ := hqs j r row0 h1 e2
          exact cut_at x1 x3⟩
      have okc : PcOk Hc pc := ⟨ok.nd, ok.le, ok.rl, fun t ht row hr => ⟨(ok.rw_ t ht row hr).1, fun c hc => ((ok.rw_ t ht row hr).2 c hc).imp id fun ⟨a, xs, e1, e2⟩ => ⟨a, xs, e1, sc' _ _ e2⟩⟩⟩
      refine ⟨_, rfl, _, rfl, x, C, dx, _, _, rfl, sc' _ _ e, L.cl, L.nT, pfs_t, _, rfl, H, p, D, pc, i, t, _, rfl, sc', hp0.same sc', okc, ht, rd, fun p' H2 s2 d2 => ?_⟩
      have s02 := sc'.trans s2
      refine ⟨_, rfl, _, rfl, x, C, dx, _, _, rfl, s02 _ _ e, L.cl, L.nT, pfs_t, _, rfl, x, C, dx, _, _, rfl, s02 _ _ e, L.cl, L.nC, pfs_c, p, pc, i, t.1, c, t, ws, rfl, hp0.same s02, nd, ht, rfl, t1000, wl, hw, fun wl' H3 s3 e3 => ⟨(show 2 ≤ sizeLine by decide), fun tp htp => ?_⟩⟩
      have T := Same.upd (o := .tup [.ref p', .ref wl']) htp
      have s03 := s02.trans s3
      exact q tp p' wl' H2 _ s02 (s3.trans T) d2 (cut_up T _ _ e3) (cut_at (none_of s3 htp) upd_same)
end
end My

namespace My
open PySem L2 PyProof.Rows
theorem mt_clr {X : Cx} : MtR X "list.clear" rClear := mt_clear
seal L2.PE L2.PT L2.PW L2.PS L2.PSs L2.PA L2.PI L2.PG L2.PGs L2.OpR L2.CallR L2.IxR L2.SlR L2.MtR L2.PIf L2.PO L2.MtM L2.PC L2.PSM L2.PSsM L2.EWn L2.PEk L2.PSk L2.PSsk L2.ForM
/-- what stays while other things are written -/
structure Kq (A B H : Hp) : Prop where
  a : Same A H
  b : Same B H
theorem Kq.put {A B H : Hp} {r : Addr} {o : HO} (h : Kq A B H) (ha : A r = none) (hb : B r = none) : Kq A B (upd H r o) := ⟨h.a.put ha, h.b.put hb⟩
theorem Kq.same {A B H H' : Hp} (h : Kq A B H) (s : Same H H') : Kq A B H' := ⟨h.a.trans s, h.b.trans s⟩
/-- a list of rows that may be written -/
def LoW (A B H : Hp) (l : Addr) : Prop := (A l = none ∧ B l = none) ∧ ∃ rs : List Addr, H l = some (.lst (rs.map V.ref)) ∧ rs.length ≤ 1000 ∧ ∀ r ∈ rs, (A r = none ∧ B r = none) ∧ ∃ kv : List (Key × V), H r = some (.dK kv)
theorem LoW.same {A B H H' : Hp} {l : Addr} (h : LoW A B H l) (s : Same H H') : LoW A B H' l := let ⟨w, rs, e, n, k⟩ := h; ⟨w, rs, s _ _ e, n, fun r hr => let ⟨w, kv, e⟩ := k r hr; ⟨w, kv, s _ _ e⟩⟩
theorem LoW.dput {A B H : Hp} {l r : Addr} {kv kw : List (Key × V)} (h : LoW A B H l) (hr : H r = some (.dK kv)) : LoW A B (upd H r (.dK kw)) l := by
  obtain ⟨w, rs, e, n, k⟩ := h
  refine ⟨w, rs, (upd_ne (fun z => by rw [z, hr] at e; cases e)).trans e, n, fun r' hr' => ?_⟩
  obtain ⟨w', kv', e'⟩ := k r' hr'
  by_cases z : r' = r
  · subst z
    exact ⟨w', kw, upd_same⟩
  · exact ⟨w', kv', (upd_ne z).trans e'⟩
theorem LoW.lput {A B H : Hp} {l l' : Addr} {xs : List V} (h : LoW A B H l) (hl : H l' = some (.lst xs)) : LoW A B (upd H l' (.lst [])) l := by
  obtain ⟨w, rs, e, n, k⟩ := h
  have kk : ∀ r ∈ rs, (A r = none ∧ B r = none) ∧ ∃ kv : List (Key × V), upd H l' (.lst []) r = some (.dK kv) := fun r hr => by
    obtain ⟨w', kv', e'⟩ := k r hr
    exact ⟨w', kv', (upd_ne (fun z => by rw [z, hl] at e'; cases e')).trans e'⟩
  by_cases z : l = l'
  · subst z
    exact ⟨w, [], upd_same, by decide, fun r hr => nomatch hr⟩
  · exact ⟨w, rs, (upd_ne z).trans e, n, kk⟩
def spBl : Sp := fun vs H Q _ => ∃ (A B : Hp) (p : Addr) (zs : List Str) (ls : List Addr), vs = [.ref p] ∧ Kq A B H ∧ (A p = none ∧ B p = none) ∧ H p = some (.dK (zK zs ls)) ∧ ls.length = zs.length ∧ ls.length ≤ 8 ∧ (∀ l ∈ ls, LoW A B H l) ∧ ∀ H', Kq A B H' → Q .non H'
section
variable {P : Program} {w : World} {K : PySem.W.Frag} {mg : Str → Option Value} {base : Heap}
theorem ok_bl {f : Addr} {fd : FuncData} (F : Fun K "_law_blotted" "_law_blotted" (top 36) f fd) (B : Bl mg) : FnOk P w K mg base CX0 1 f fd ["_law_piece_here"] spBl := by
  have sc : FnScope ["_law_piece_here", "_law_rows", "_law_row_here"] ["_law_piece_here"] (defScope (top 36)) := ⟨rfl, rfl, rfl, by decide +kernel, rfl, by decide +kernel, by decide +kernel⟩
  refine F.ok sc (fun vs H Q E h => ?_) (fun cdv A outer s H vs Q E hr h => ?_)
  · obtain ⟨A', B', p, zs, ls, rfl, _⟩ := h
    rfl
  · obtain ⟨A', B', p, zs, ls, rfl, kq, wp, hp, hl, l8, hls, q⟩ := h
    refine ⟨_, pss_cons (ps_for PassesOwn.never rfl (pi_list (pe_callTy (call_listV rfl) (by rfl) B.list boot_list (pa_cons (pe_bm0 PySem.F.plainAttrs_dict PySem.F.slot_dict_values PySem.F.type_dict_values mt_values (pv 0)) pa_nil))) (pg_name (i := 1) sc.nd rfl (Or.inl rfl))
        (pss_cons (ps_for PassesOwn.never rfl (pi_list (pv 1)) (pg_name (i := 2) sc.nd rfl (Or.inl rfl)) (pss_one (ps_expr (pe_bm0 PySem.F.plainAttrs_dict PySem.F.slot_dict_clear PySem.F.type_dict_clear mt_dclear (pv 2)))))
        (pss_one (ps_expr (pe_bm0 PySem.F.plainAttrs_list PySem.F.slot_list_clear PySem.F.type_list_clear mt_clr (pv 1))))))
      (pss_one (ps_expr (pe_bm0 PySem.F.plainAttrs_dict PySem.F.slot_dict_clear PySem.F.type_dict_clear mt_dclear (pv 0)))), ?_⟩
    refine ⟨_, rfl, .inr (.inr (.inl ⟨rfl, .inl ⟨_, hp⟩⟩)), p, _, rfl, rfl, .inl hp, fun vw hvw => ?_⟩
    have T1 := Same.upd (o := .ext (vvP vw p)) hvw
    refine ⟨vw, p, _, rfl, upd_same, .inl (T1 _ _ hp), fun lv hlv => ?_⟩
    have ev : (zK zs ls).map (·.2) = ls.map V.ref := by
      refine List.ext_getElem? fun j => ?_
      rw [List.getElem?_map, List.getElem?_map]
      unfold zK
      rw [zw_get, List.getElem?_map]
      cases e2 : ls[j]? with
      | none =>
        cases zs[j]? <;> rfl
      | some k =>
        have hj : j < zs.length := by rw [← hl]; exact (List.getElem?_eq_some_iff.mp e2).1
        rw [List.getElem?_eq_getElem hj]
        rfl
    rw [ev] at *
    have T2 := T1.trans (Same.upd (o := .lst (ls.map V.ref)) hlv)
    have lv2 := upd_same (H := upd H vw (.ext (vvP vw p))) (a := lv) (o := .lst (ls.map V.ref))
    have nlv : ∀ b o, H b = some o → b ≠ lv := fun b o e z => by rw [z, none_of T1 hlv] at e; cases e
    generalize upd (upd H vw (.ext (vvP vw p))) lv (.lst (ls.map V.ref)) = H2 at *
    refine ⟨lv, rfl, ⟨_, SqL.of lv2⟩, ?_⟩
    refine for_list (K := K) (xs := ls.map V.ref) (fun i σ H' => (∃ u1 u2, σ = [some (.ref p), u1, u2]) ∧ Kq A' B' H' ∧ H' lv = some (.lst (ls.map V.ref)) ∧ (∃ kv : List (Key × V), H' p = some (.dK kv)) ∧ ∀ l ∈ ls, LoW A' B' H' l ∧ l ≠ lv) ⟨⟨_, _, rfl⟩, kq.same T2, lv2, ⟨_, T2 _ _ hp⟩, fun l hl' => ⟨(hls l hl').same T2, let ⟨_, rs, e, _⟩ := hls l hl'; nlv _ _ e⟩⟩ (fun i σ H' _ q => SqL.of q.2.2.1) ?_ ?_
    · rintro i x σ H' hx ⟨⟨u1, u2, rfl⟩, k1, k2, ⟨kvp, k3⟩, k4⟩
      obtain ⟨l, hlm, rfl⟩ := List.mem_map.mp (List.mem_of_getElem? hx)
      obtain ⟨⟨wl, rs, el, rl, hrs⟩, nl⟩ := k4 l hlm
      refine ⟨_, rfl, l, rfl, ⟨_, SqL.of el⟩, ?_⟩
      refine for_list (K := K) (xs := rs.map V.ref) (fun j σ H'' => (∃ u2, σ = [some (.ref p), some (.ref l), u2]) ∧ Kq A' B' H'' ∧ (H'' lv = some (.lst (ls.map V.ref)) ∧ H'' l = some (.lst (rs.map V.ref))) ∧ (∃ kv : List (Key × V), H'' p = some (.dK kv)) ∧ (∀ r ∈ rs, (A' r = none ∧ B' r = none) ∧ ∃ kv : List (Key × V), H'' r = some (.dK kv)) ∧ ∀ l ∈ ls, LoW A' B' H'' l ∧ l ≠ lv) ⟨⟨_, rfl⟩, k1, ⟨k2, el⟩, ⟨kvp, k3⟩, hrs, k4⟩ (fun j σ H'' _ q => SqL.of q.2.2.1.2) ?_ ?_
      · rintro j y σ H'' hy ⟨⟨u2', rfl⟩, g1, ⟨g2, g3⟩, ⟨kv4, g4⟩, g5, g6⟩
        obtain ⟨r, hrm, rfl⟩ := List.mem_map.mp (List.mem_of_getElem? hy)
        obtain ⟨wr, kv, er⟩ := g5 r hrm
        have ne : ∀ b xs, H'' b = some (.lst xs) → upd H'' r (.dK []) b = some (.lst xs) := fun b xs e => (upd_ne (fun z => by rw [z, er] at e; cases e)).trans e
        have dk : ∀ b, (∃ kv : List (Key × V), H'' b = some (.dK kv)) → ∃ kv : List (Key × V), upd H'' r (.dK []) b = some (.dK kv) := fun b ⟨kv, e⟩ => by
          by_cases z : b = r
          · subst z
            exact ⟨[], upd_same⟩
          · exact ⟨kv, (upd_ne z).trans e⟩
        exact ⟨_, rfl, .inr (.inr (.inl ⟨rfl, .inl ⟨_, er⟩⟩)), r, kv, rfl, rfl, er, ⟨_, rfl⟩, g1.put wr.1 wr.2, ⟨ne _ _ g2, ne _ _ g3⟩, dk p ⟨kv4, g4⟩, fun r' hr' => ⟨(g5 r' hr').1, dk r' (g5 r' hr').2⟩, fun l' hl' => ⟨(g6 l' hl').1.dput er, (g6 l' hl').2⟩⟩
      · rintro σ H'' ⟨⟨u2', rfl⟩, g1, ⟨g2, g3⟩, ⟨kv4, g4⟩, g5, g6⟩
        refine ⟨_, rfl, .inl ⟨rfl, _, SqL.of g3⟩, l, _, rfl, rfl, g3, ⟨_, _, rfl⟩, g1.put wl.1 wl.2, ?_, ⟨kv4, ?_⟩, fun l' hl' => ⟨(g6 l' hl').1.lput g3, (g6 l' hl').2⟩⟩
        · rw [upd_ne (Ne.symm nl)]
          exact g2
        · rw [upd_ne (fun z => by rw [z, g3] at g4; cases g4)]
          exact g4
    · rintro σ H' ⟨⟨u1, u2, rfl⟩, k1, k2, ⟨kvp, k3⟩, k4⟩
      exact ⟨_, rfl, .inr (.inr (.inl ⟨rfl, .inl ⟨_, k3⟩⟩)), p, kvp, rfl, rfl, k3, q _ (k1.put wp.1 wp.2)⟩
theorem ok_np {f fC : Addr} {fd fdC : FuncData} (F : Fun K "_law_new_piece" "_law_new_piece" (top 35) f fd) (B : Bl mg) (DC : Df K mg "_law_copy" (top 30) fC fdC) : FnOk P w K mg base CX0 2 f fd ["_law_piece_here", "_law_table", "_law_column", "_law_values"] (spWv K) := by
  have sc : FnScope ["_law_piece_here", "_law_table", "_law_column", "_law_values", "_law_made", "_law_k"] ["_law_piece_here", "_law_table", "_law_column", "_law_values"] (defScope (top 35)) := ⟨rfl, rfl, rfl, by decide +kernel, rfl, by decide +kernel, by decide +kernel⟩
  have GC : FnOk P w K mg base CX0 1 fC fdC ["_law_piece_here"] spCopied := ok_copy DC.fn B
  have bC := DC.fn.binds (ps := ["_law_piece_here"]) fun _ _ _ _ _ _ us hl => by obtain ⟨v0, rfl⟩ := L2.ln1 hl; rfl
  refine F.ok sc (fun vs H Q E h => ?_) (fun cdv A outer s H vs Q E hr h => ?_)
  · obtain ⟨p, vl, pc, i, t, c, ws, rfl, _⟩ := h
    rfl
  · obtain ⟨p, vl, pc, i, t, c, ws, rfl, hp, ok, ht, hvl, wl, q⟩ := h
    have hu : (A.deeper (envOfC "_law_new_piece" (defScope (top 35)) s.heap.objs.size f cdv)).units + 1 < cLine := hu_of hr
    refine ⟨_, pss_cons (ps_set (i := 4) sc.nd rfl (Or.inl rfl) (pe_call GC hr (by rfl) DC.mg DC.fn.kp bC .nil pass0 (pa_cons (pv 0) pa_nil)))
      (pss_cons (ps_for PassesOwn.never rfl (pi_range1 rfl B.range (pa_cons (pe_callB call_len_seq (by rfl) B.len PySem.boot_len (pa_cons (pv 3) pa_nil)) pa_nil)) (pg_name (i := 5) sc.nd rfl (Or.inl rfl))
        (pss_one (ps_dput hu (pe_ix ix_list (pe_dget hu (pv 4) (pv 1) (fun _ _ => rfl)) (pv 5) (fun _ _ => rfl)) (pv 2) (pe_ix ix_list (pv 3) (pv 5) (fun _ _ => rfl)) rfl))) (pss_one (ps_ret (pv 4)))), ?_⟩
    refine ⟨_, rfl, p, pc, rfl, hp, ok, fun p' H1 s1 d1 => ?_⟩
    obtain ⟨ls, ow, a1, a2, a3⟩ := d1
    have hip : i < pc.length := (List.getElem?_eq_some_iff.mp ht).1
    have hil : i < ls.length := by omega
    obtain ⟨rs, b1, b2, b3, b4, b5⟩ := a3 i ls[i] t (List.getElem?_eq_getElem hil) ht
    have vz : valV (zK (pc.map (·.1)) ls) (.inr t.1) = some (.ref ls[i]) := zw_val ok.nd (by rw [List.getElem?_map, ht]; rfl) (by rw [List.getElem?_map, List.getElem?_eq_getElem hil]; rfl)
    have t1000 := ok.rl t (List.mem_of_getElem? ht)
    have isd : ∀ r ∈ rs, ∃ row, row ∈ t.2 ∧ cut H H1 r = some (.dK (rK row)) := fun r hr' => by
      obtain ⟨j', hj'⟩ := List.getElem?_of_mem hr'
      have hjt : j' < t.2.length := by have := (List.getElem?_eq_some_iff.mp hj').1; omega
      exact ⟨_, List.getElem_mem hjt, b4 j' r _ hj' (List.getElem?_eq_getElem hjt)⟩
    have nlr : ls[i] ∉ rs := fun hm => by
      obtain ⟨row, _, e⟩ := isd _ hm
      rw [b1] at e
      cases e
    have npr : p' ∉ rs := fun hm => by
      obtain ⟨row, hrow, e⟩ := isd p' hm
      rw [a1] at e
      injection e with x1
      injection x1 with x2
      have hm' : ((.inr t.1 : Key), V.ref ls[i]) ∈ zK (pc.map (·.1)) ls := zK_mem (j := i) (by rw [List.getElem?_map, ht]; rfl) (List.getElem?_eq_getElem hil)
      rw [x2] at hm'
      exact rK_flat (ok.rw_ t (List.mem_of_getElem? ht) row hrow) (fun xs h => by rw [cut_new b1] at h; cases h) hm'
    refine ⟨_, rfl, _, _, rfl, .inl (SqL.of (s1 _ _ hvl)), _, rfl, (by omega), (by omega), for_range (fun j σ H2 => (∃ u5, σ = [some (.ref p), some (.str t.1), some (.str c), some (.ref vl), some (.ref p'), u5]) ∧ Same H H2 ∧ (∀ b o, cut H H1 b = some o → b ∉ rs → H2 b = some o) ∧ ∀ (j' : Nat) (r : Addr) (row : Rw), rs[j']? = some r → t.2[j']? = some row → H2 r = some (.dK (rK (if j' < j then putR row c (ws.getD j' .non) else row)))) ⟨⟨_, rfl⟩, s1, fun b o e _ => cut_sub _ _ e, fun j' r row h1 h2 => cut_sub _ _ (b4 j' r row h1 h2)⟩ ?_ ?_⟩
    · rintro j σ H2 hj ⟨⟨u5, rfl⟩, sm, kp, rq⟩
      have hjw : j < ws.length := by omega
      have hjr : j < rs.length := by omega
      have hjt : j < t.2.length := by omega
      have er := rq j rs[j] t.2[j] (List.getElem?_eq_getElem hjr) (List.getElem?_eq_getElem hjt)
      rw [if_neg (Nat.lt_irrefl j)] at er
      have row12 := (ok.rw_ t (List.mem_of_getElem? ht) t.2[j] (List.getElem_mem hjt)).1.2
      have atw : atI ws (0 + (j : Int)) = some ws[j] := by
        rw [Int.zero_add]
        exact atI_nat (List.getElem?_eq_getElem hjw)
      have atr : atI (rs.map V.ref) (0 + (j : Int)) = some (.ref rs[j]) := by
        rw [Int.zero_add]
        exact atI_nat (by rw [List.getElem?_map, List.getElem?_eq_getElem hjr]; rfl)
      refine ⟨_, rfl, _, rfl, vl, _, _, _, rfl, rfl, SqL.of (sm _ _ hvl), atw, _, rfl, _, rfl, p', .ref ls[i], rfl, .inl ⟨_, .inr t.1, .inl (kp _ _ a1 npr), rfl, vz.symm⟩, _, rfl, ls[i], _, _, _, rfl, rfl, SqL.of (kp _ _ b1 nlr), atr, _, rfl, rs[j], _, rfl, DPut.k (k := .inr c) er (by rw [sizeLine_eq]; unfold rK; rw [List.length_map]; omega), ?_⟩
      rw [put_rK]
      have nr : H rs[j] = none := cut_new (b4 j rs[j] t.2[j] (List.getElem?_eq_getElem hjr) (List.getElem?_eq_getElem hjt))
      refine ⟨⟨_, rfl⟩, sm.put nr, fun b o e hb => ?_, fun j' r row h1 h2 => ?_⟩
      · rw [upd_ne (fun (z : b = rs[j]) => hb (by rw [z]; exact List.getElem_mem hjr))]
        exact kp b o e hb
      · by_cases hj' : j' = j
        · subst hj'
          rw [List.getElem?_eq_getElem hjr] at h1
          rw [List.getElem?_eq_getElem hjt] at h2
          cases h1
          cases h2
          rw [upd_same, if_pos (Nat.lt_succ_self _), List.getD_eq_getElem?_getD, List.getElem?_eq_getElem hjw]
          rfl
        · have nr' : r ≠ rs[j] := fun e => by
            obtain ⟨hj1, ej⟩ := List.getElem?_eq_some_iff.mp h1
            exact hj' ((List.getElem_inj b3).mp (ej.trans e))
          rw [upd_ne nr', rq j' r row h1 h2]
          by_cases hlt : j' < j
          · rw [if_pos hlt, if_pos (by omega)]
          · rw [if_neg hlt, if_neg (by omega)]
    · rintro σ H2 ⟨⟨u5, rfl⟩, sm, kp, rq⟩
      have nrs : ∀ r ∈ rs, cut H H1 r ≠ none ∧ ow r = i := fun r hr' => by
        obtain ⟨j', hj'⟩ := List.getElem?_of_mem hr'
        have hjt : j' < t.2.length := by have := (List.getElem?_eq_some_iff.mp hj').1; omega
        exact ⟨by rw [b4 j' r _ hj' (List.getElem?_eq_getElem hjt)]; simp, b5 r hr'⟩
      refine ⟨_, rfl, q p' H2 sm ⟨ls, ow, cut_at (cut_new a1) (by rw [set_map ht]; exact kp _ _ a1 npr), by rw [List.length_set, a2], fun j l t' h1 h2 => ?_⟩⟩
      by_cases hj : j = i
      · subst hj
        rw [List.getElem?_eq_getElem hil] at h1
        rw [List.getElem?_set_self hip] at h2
        cases h1
        cases h2
        refine ⟨rs, cut_at (cut_new b1) (kp _ _ b1 fun hm => ?_), ?_, b3, fun j' r row h1 h2 => ?_, b5⟩
        · obtain ⟨row, _, e⟩ := isd _ hm
          rw [b1] at e
          cases e
        · show rs.length = (putAll t.2 c ws).length
          unfold putAll
          rw [List.length_zipWith, wl, Nat.min_self, b2]
        · have hjr : j' < rs.length := (List.getElem?_eq_some_iff.mp h1).1
          have hjt : j' < t.2.length := by omega
          have hjw : j' < ws.length := by omega
          have er := rq j' r t.2[j'] h1 (List.getElem?_eq_getElem hjt)
          rw [if_pos (by omega), List.getD_eq_getElem?_getD, List.getElem?_eq_getElem hjw] at er
          have h2' : (putAll t.2 c ws)[j']? = some row := h2
          unfold putAll at h2'
          rw [List.getElem?_zipWith, List.getElem?_eq_getElem hjt, List.getElem?_eq_getElem hjw] at h2'
          cases h2'
          exact cut_at (cut_new (b4 j' r _ h1 (List.getElem?_eq_getElem hjt))) er
      · rw [List.getElem?_set_ne (Ne.symm hj)] at h2
        obtain ⟨rs', g1, g2, g3, g4, g5⟩ := a3 j l t' h1 h2
        have out : ∀ b o, cut H H1 b = some o → b ∉ rs → cut H H2 b = some o := fun b o e hb => cut_at (cut_new e) (kp b o e hb)
        refine ⟨rs', out _ _ g1 fun hm => ?_, g2, g3, fun j' r row c1 c2 => out _ _ (g4 j' r row c1 c2) fun hm => ?_, g5⟩
        · obtain ⟨row, _, e⟩ := isd _ hm
          rw [g1] at e
          cases e
        · have x1 := (nrs r hm).2
          have x2 := g5 r (List.mem_of_getElem? c1)
          omega
end
end My

namespace My
open PySem L2 PyProof.Rows
seal L2.PE L2.PT L2.PW L2.PS L2.PSs L2.PA L2.PI L2.PG L2.PGs L2.OpR L2.CallR L2.IxR L2.SlR L2.MtR L2.PIf L2.PO L2.MtM L2.PC L2.PSM L2.PSsM L2.EWn L2.PEk L2.PSk L2.PSsk L2.ForM
/-- a method, what it promises -/
def Me (P : Program) (w : World) (K : PySem.W.Frag) (mg : Str → Option Value) (base : Heap) (C : Addr) (m : Str) (ps : List Str) (ds : List Value) (k : Nat) (sp : Sp) : Prop := ∃ f fd, Meth K C m f ∧ FnOk P w K mg base CX0 k f fd ps sp ∧ Binds K fd ps ds
def PcV (H : Hp) (pc : Pc) : Prop := ∀ t ∈ pc, t.2.length ≤ 1000 ∧ ∀ row ∈ t.2, (row.map (·.1)).Nodup ∧ row.length ≤ 12 ∧ RwF H row
theorem PcV.st {H H' : Hp} {pc : Pc} (h : PcV H pc) (s : STu H H') : PcV H' pc := fun t ht => ⟨(h t ht).1, fun row hr => ⟨((h t ht).2 row hr).1, ((h t ht).2 row hr).2.1, ((h t ht).2 row hr).2.2.st s⟩⟩
theorem PcV.ok {H : Hp} {pc : Pc} (h : PcV H pc) (nd : (pc.map (·.1)).Nodup) (le : pc.length ≤ 8) : PcOk H pc := ⟨nd, le, fun t ht => (h t ht).1, fun t ht row hr => ⟨⟨((h t ht).2 row hr).1, ((h t ht).2 row hr).2.1⟩, fun c hc => (((h t ht).2 row hr).2.2 c hc).imp id fun ⟨a, xs, e1, e2, _⟩ => ⟨a, xs, e1, e2⟩⟩⟩
theorem pc_lq4 {H : Hp} {p p' : Addr} {pc : Pc} (nd : (pc.map (·.1)).Nodup) (ok : PcV H pc) (h1 : PcAt H p pc) (h2 : PcAt H p' pc) : Lq H 4 (.ref p) (.ref p') :=
  pc_lq (n := 0) nd (fun t ht row hr => ((ok t ht).2 row hr).1) (fun t ht row hr => ((ok t ht).2 row hr).2.2) h1 h2
theorem vals_lq {H : Hp} {n : Nat} {a b : Addr} {ws : List V} (h : ∀ v ∈ ws, VOk H v) (e1 : H a = some (.lst ws)) (e2 : H b = some (.lst ws)) : Lq H (n + 2) (.ref a) (.ref b) := by
  refine .lst e1 e2 rfl fun i x y h1 h2 => ?_
  rw [h1] at h2
  cases h2
  exact val_lq (h x (List.mem_of_getElem? h1))
theorem putAll_mem {rows : List Rw} {c : Str} {ws : List V} {row : Rw} (h : row ∈ putAll rows c ws) : ∃ r ∈ rows, ∃ v ∈ ws, row = putR r c v := by
  unfold putAll at h
  obtain ⟨j, hj⟩ := List.getElem?_of_mem h
  rw [List.getElem?_zipWith] at hj
  cases e1 : rows[j]? with
  | none => rw [e1] at hj; cases hj
  | some r =>
    cases e2 : ws[j]? with
    | none => rw [e1, e2] at hj; cases hj
    | some v =>
      rw [e1, e2] at hj
      cases hj
      exact ⟨r, List.mem_of_getElem? e1, v, List.mem_of_getElem? e2, rfl⟩
theorem PcV.put {H : Hp} {pc : Pc} {i : Nat} {t : Str × List Rw} {c : Str} {ws : List V} (h : PcV H pc) (ht : pc[i]? = some t) (h11 : ∀ row ∈ t.2, row.length ≤ 11) (hv : ∀ v ∈ ws, VOk H v) : PcV H (pc.set i (t.1, putAll t.2 c ws)) := fun t' ht' => by
  rcases List.mem_or_eq_of_mem_set ht' with h' | rfl
  · exact h t' h'
  · have ht0 := h t (List.mem_of_getElem? ht)
    refine ⟨by show (putAll t.2 c ws).length ≤ 1000; unfold putAll; rw [List.length_zipWith]; have := ht0.1; omega, fun row hr => ?_⟩
    obtain ⟨r, hr', v, hv', rfl⟩ := putAll_mem hr
    have r0 := ht0.2 r hr'
    refine ⟨putR_nd r0.1, Nat.le_trans putR_len (by have := h11 r hr'; omega), fun cv hcv => ?_⟩
    rcases putR_mem hcv with h' | rfl
    · exact r0.2.2 cv h'
    · exact hv v hv'
theorem drop_all {rows : List Rw} {c : Str} {ws : List V} (hl : ws.length = rows.length) (h : ∀ row ∈ rows, c ∉ row.map (·.1)) : (putAll rows c ws).map (fun row => dropR row c) = rows := by
  unfold putAll
  refine List.ext_getElem? fun j => ?_
  rw [List.getElem?_map, List.getElem?_zipWith]
  cases e1 : rows[j]? with
  | none => rfl
  | some r =>
    have hj : j < ws.length := by rw [hl]; exact (List.getElem?_eq_some_iff.mp e1).1
    rw [List.getElem?_eq_getElem hj]
    show some (dropR (putR r c ws[j]) c) = some r
    rw [drop_put (h r (List.mem_of_getElem? e1))]
theorem set_back {pc : Pc} {i : Nat} {t : Str × List Rw} {rows : List Rw} (ht : pc[i]? = some t) : (pc.set i (t.1, rows)).set i (t.1, t.2) = pc := by
  rw [List.set_set]
  refine List.ext_getElem? fun j => ?_
  by_cases hj : j = i
  · subst hj
    rw [List.getElem?_set_self (List.getElem?_eq_some_iff.mp ht).1, ht]
  · rw [List.getElem?_set_ne (Ne.symm hj)]
theorem PcD.low {G H A B : Hp} {p : Addr} {pc : Pc} (d : PcD G p pc) (s : Same G H) (w : ∀ b o, G b = some o → A b = none ∧ B b = none) (hl : ∀ t ∈ pc, t.2.length ≤ 1000) : ∃ ls : List Addr, H p = some (.dK (zK (pc.map (·.1)) ls)) ∧ (A p = none ∧ B p = none) ∧ ls.length = (pc.map (·.1)).length ∧ ∀ l ∈ ls, LoW A B H l := by
  obtain ⟨ls, a1, a2, a3⟩ := d
  refine ⟨ls, s _ _ a1, w _ _ a1, by rw [List.length_map]; exact a2, fun l hm => ?_⟩
  obtain ⟨j, hj⟩ := List.getElem?_of_mem hm
  have hjp : j < pc.length := by rw [← a2]; exact (List.getElem?_eq_some_iff.mp hj).1
  obtain ⟨rs, b1, b2, b3, b4⟩ := a3 j l pc[j] hj (List.getElem?_eq_getElem hjp)
  refine ⟨w _ _ b1, rs, s _ _ b1, by rw [b2]; exact hl _ (List.getElem_mem hjp), fun r hr => ?_⟩
  obtain ⟨n, hn⟩ := List.getElem?_of_mem hr
  have hnp : n < pc[j].2.length := by rw [← b2]; exact (List.getElem?_eq_some_iff.mp hn).1
  have b5 := b4 n r pc[j].2[n] hn (List.getElem?_eq_getElem hnp)
  exact ⟨w _ _ b5, _, s _ _ b5⟩
def jn (A B : Hp) : Hp := fun b => match A b with | some o => some o | none => B b
theorem jn_l {A B : Hp} : Same A (jn A B) := fun b o e => by unfold jn; rw [e]
theorem jn_r {A B : Hp} {b : Addr} (h : A b = none) : jn A B b = B b := by unfold jn; rw [h]
theorem jn_same {A B H : Hp} (a : Same A H) (b : Same B H) : Same (jn A B) H := fun x o e => by
  unfold jn at e
  split at e
  · rename_i o' e'
    cases e
    exact a _ _ e'
  · exact b _ _ e
def spLed (C : Addr) : Sp := fun vs H Q _ => ∃ (mv p md du : Addr) (y1 y2 : V) (pc : Pc) (i : Nat) (t : Str × List Rw) (c : Str) (v : V) (ws : List V), vs = [.ref mv, y1, y2, .ref p, .ref md, .ref du] ∧ PuAt C H mv t.1 c v ∧ PcAt H p pc ∧ PcAt H md (pc.set i (t.1, putAll t.2 c ws)) ∧ H du = some (.lst ws) ∧ (pc.map (·.1)).Nodup ∧ pc.length ≤ 8 ∧ PcV H pc ∧ (∀ row ∈ t.2, row.length ≤ 11 ∧ c ∉ row.map (·.1)) ∧ pc[i]? = some t ∧ ws.length = t.2.length ∧ (∀ v ∈ ws, VOk H v) ∧ ∀ H', Same H H' → Q (.bl true) H'
def nLed : List Str := ["_law_move", "_law_old", "_law_new", "_law_piece_here", "_law_made", "_law_due", "_law_handed", "_law_rest", "_law_forth", "_law_back"]
section
variable {P : Program} {w : World} {K : PySem.W.Frag} {mg : Str → Option Value} {base : Heap}
theorem ok_led {f C fCp fSm fPr fBl : Addr} {fd fdCp fdSm fdPr fdBl : FuncData} (F : Fun K "_law_led" "_law_led" (top 37) f fd) (B : Bl mg) (L : ClU K C) (DCp : Df K mg "_law_copy" (top 30) fCp fdCp) (DSm : Df K mg "_law_same" (top 15) fSm fdSm) (DPr : Df K mg "_law_pair" (top 31) fPr fdPr) (DBl : Df K mg "_law_blotted" (top 36) fBl fdBl)
    (GS : FnOk P w K mg base CX0 9 fSm fdSm ["_law_found", "_law_due"] (spSm 4)) (eF : Me P w K mg base C "forth" ["self", "form", "piece", "rest"] [] 3 (spPf C)) (eB : Me P w K mg base C "back" ["self", "form", "piece", "rest"] [] 3 (spPb C)) :
    FnOk P w K mg base CX0 11 f fd ["_law_move", "_law_old", "_law_new", "_law_piece_here", "_law_made", "_law_due"] (spLed C) := by
  have sc : FnScope nLed ["_law_move", "_law_old", "_law_new", "_law_piece_here", "_law_made", "_law_due"] (defScope (top 37)) := ⟨rfl, rfl, rfl, by decide +kernel, rfl, by decide +kernel, by decide +kernel⟩
  have GCp : FnOk P w K mg base CX0 1 fCp fdCp ["_law_piece_here"] spCopied := ok_copy DCp.fn B
  have GBl : FnOk P w K mg base CX0 1 fBl fdBl ["_law_piece_here"] spBl := ok_bl DBl.fn B
  have GPr : FnOk P w K mg base CX0 10 fPr fdPr ["_law_found", "_law_piece_here", "_law_rest"] (spPair 4) := ok_pair DPr.fn B DSm 4 GS
  have bCp := DCp.fn.binds (ps := ["_law_piece_here"]) fun _ _ _ _ _ _ us hl => by obtain ⟨v0, rfl⟩ := L2.ln1 hl; rfl
  have bBl := DBl.fn.binds (ps := ["_law_piece_here"]) fun _ _ _ _ _ _ us hl => by obtain ⟨v0, rfl⟩ := L2.ln1 hl; rfl
  have bSm := DSm.fn.binds (ps := ["_law_found", "_law_due"]) fun _ _ _ _ _ _ us hl => by obtain ⟨v0, v1, rfl⟩ := L2.ln2 hl; rfl
  have bPr := DPr.fn.binds (ps := ["_law_found", "_law_piece_here", "_law_rest"]) fun _ _ _ _ _ _ us hl => by obtain ⟨v0, v1, v2, rfl⟩ := L2.ln3 hl; rfl
  obtain ⟨_, _, mF, gF, bF⟩ := eF
  obtain ⟨_, _, mB, gB, bB⟩ := eB
  refine F.ok sc (fun vs H Q E h => ?_) (fun cdv A outer s H vs Q E hr h => ?_)
  · obtain ⟨mv, p, md, du, y1, y2, pc, i, t, c, v, ws, rfl, _⟩ := h
    rfl
  · obtain ⟨mv, p, md, du, y1, y2, pc, i, t, c, v, ws, rfl, pu0, hp, hm, hdu, nd, le, ok, hrow, ht, wl, hws, q⟩ := h
    refine ⟨_, (pss_cons (ps_set (i := 6) sc.nd rfl (Or.inl rfl) (pe_call GCp (hr.mono (by decide)) (by rfl) DCp.mg DCp.fn.kp bCp .nil pass0 (pa_cons (pv 3) pa_nil)))
      (pss_cons (ps_set (i := 7) sc.nd rfl (Or.inl rfl) (pe_callTy call_list_of (by rfl) B.list boot_list (pa_cons (pv 5) pa_nil)))
      (pss_cons (ps_set (i := 8) sc.nd rfl (Or.inl rfl) (pe_meth (pv 0) L.cl mF gF (hr.mono (by decide)) bF .nil pass0 (pa_cons (pv 1) (pa_cons (pv 6) (pa_cons (pv 7) pa_nil)))))
      (pss_cons (ps_set (i := 9) sc.nd rfl (Or.inl rfl) (pe_meth (pv 0) L.cl mB gB (hr.mono (by decide)) bB .nil pass0 (pa_cons (pv 2) (pa_cons (pv 4) (pa_cons pe_non pa_nil)))))
      (pss_cons (ps_if (PW.pt (pw_or (pt_not (pt_val (pe_call GS (hr.mono (by decide)) (by rfl) DSm.mg DSm.fn.kp bSm .nil pass0 (pa_cons (pv 7) (pa_cons (pv 5) pa_nil))))) (pw_or1 (pt_not (pt_val (pe_call GS (hr.mono (by decide)) (by rfl) DSm.mg DSm.fn.kp bSm .nil pass0 (pa_cons (pv 6) (pa_cons (pv 3) pa_nil)))))))) pss_never pss_nil)
      (pss_cons (ps_expr (pe_call GBl (hr.mono (by decide)) (by rfl) DBl.mg DBl.fn.kp bBl .nil pass0 (pa_cons (pv 6) pa_nil)))
      (pss_cons (ps_expr (pe_bm0 PySem.F.plainAttrs_list PySem.F.slot_list_clear PySem.F.type_list_clear mt_clr (pv 7)))
      (pss_cons (ps_if (PW.pt (pw_or (pt_not (pt_val (pe_call GPr hr (by rfl) DPr.mg DPr.fn.kp bPr .nil pass0 (pa_cons (pv 8) (pa_cons (pv 4) (pa_cons pe_non pa_nil)))))) (pw_or1 (pt_not (pt_val (pe_call GPr hr (by rfl) DPr.mg DPr.fn.kp bPr .nil pass0 (pa_cons (pv 9) (pa_cons (pv 3) (pa_cons (pv 5) pa_nil))))))))) pss_never pss_nil)
      (pss_cons (ps_expr (pe_call GBl (hr.mono (by decide)) (by rfl) DBl.mg DBl.fn.kp bBl .nil pass0 (pa_cons (pe_ix ix_tup (pv 9) pe_int (fun _ _ => rfl)) pa_nil)))
      (pss_cons (ps_expr (pe_bm0 PySem.F.plainAttrs_list PySem.F.slot_list_clear PySem.F.type_list_clear mt_clr (pe_ix ix_tup (pv 9) pe_int (fun _ _ => rfl))))
      (pss_one (ps_ret (pe_and (pe_call GPr hr (by rfl) DPr.mg DPr.fn.kp bPr .nil pass0 (pa_cons (pe_meth (pv 0) L.cl mB gB (hr.mono (by decide)) bB .nil pass0 (pa_cons (pv 2) (pa_cons (pe_ix ix_tup (pv 8) pe_int (fun _ _ => rfl)) (pa_cons pe_non pa_nil)))) (pa_cons (pv 3) (pa_cons (pv 5) pa_nil)))) (pe_one (pe_call GPr hr (by rfl) DPr.mg DPr.fn.kp bPr .nil pass0 (pa_cons (pv 8) (pa_cons (pv 4) (pa_cons pe_non pa_nil)))))))))))))))))), ?_⟩
    have okA := ok.ok nd le
    have hip : i < pc.length := (List.getElem?_eq_some_iff.mp ht).1
    have ok' : PcV H (pc.set i (t.1, putAll t.2 c ws)) := ok.put ht (fun row hr' => (hrow row hr').1) hws
    have nd' : ((pc.set i (t.1, putAll t.2 c ws)).map (·.1)).Nodup := by rw [set_map ht]; exact nd
    have le' : (pc.set i (t.1, putAll t.2 c ws)).length ≤ 8 := by rw [List.length_set]; exact le
    have ht' : (pc.set i (t.1, putAll t.2 c ws))[i]? = some (t.1, putAll t.2 c ws) := List.getElem?_set_self hip
    have pal : (putAll t.2 c ws).length = t.2.length := by unfold putAll; rw [List.length_zipWith, wl, Nat.min_self]
    have bk : (pc.set i (t.1, putAll t.2 c ws)).set i (t.1, (putAll t.2 c ws).map fun row => dropR row c) = pc := by
      rw [drop_all wl fun row hr' => (hrow row hr').2]
      exact set_back ht
    have vw : ∀ (j : Nat) (row : Rw) (v : V), (putAll t.2 c ws)[j]? = some row → ws[j]? = some v → valV (rK row) (.inr c) = some v := fun j row v h1 h2 => by
      unfold putAll at h1
      rw [List.getElem?_zipWith] at h1
      cases e1 : t.2[j]? with
      | none => rw [e1] at h1; cases h1
      | some r =>
        rw [e1, h2] at h1
        cases h1
        exact val_put
    refine ⟨_, rfl, p, pc, rfl, hp, okA, fun hd H1 s1 d1 => ?_⟩
    refine ⟨_, rfl, du, ws, rfl, .inl (SqL.of (s1 _ _ hdu)), fun rt hrt => ?_⟩
    have T2 := Same.upd (o := .lst ws) hrt
    have e2 := upd_same (H := H1) (a := rt) (o := .lst ws)
    generalize upd H1 rt (.lst ws) = H2 at *
    have s02 := s1.trans T2
    obtain ⟨dx, kk, tt, em⟩ := pu0.ex
    have hd2 : PcAt H2 hd pc := (d1.same (fun b o e => T2 _ _ (cut_sub _ _ e))).d.pc
    refine ⟨_, rfl, mv, dx, _, rfl, s02 _ _ em, pfs_no (.inl rfl), _, rfl, _, rfl, _, rfl, mv, hd, rt, _, pc, i, t, c, v, ws, rfl, pu0.same s02, hd2, (ok.st (st_of s02)).ok nd le, ht, e2, wl, fun t1 p1 H3 s3 d3 e3 => ?_⟩
    have s03 := s02.trans s3
    refine ⟨_, rfl, mv, dx, _, rfl, s03 _ _ em, pfs_no (.inr (.inl rfl)), _, rfl, _, rfl, mv, md, _, _, _, i, (t.1, putAll t.2 c ws), c, v, ws, rfl, pu0.same s03, hm.same s03, (ok'.st (st_of s03)).ok nd' le', ht', wl.trans pal.symm, vw, fun t2 p2 wl2 Hm H4 s3m sm4 d4 w4 e4 => ?_⟩
    rw [bk] at d4
    have s4 := s3m.trans sm4
    have s04 := s03.trans s4
    have s24 := s3.trans s4
    have hws4 : ∀ v ∈ ws, VOk H4 v := fun v hv => (hws v hv).same s04
    refine ⟨_, rfl, _, rfl, _, _, rfl, vals_lq hws4 (s24 _ _ e2) (s04 _ _ hdu), fun H5 s5 => ⟨_, rfl, iteF ?_⟩⟩
    refine ⟨_, rfl, _, rfl, _, _, rfl, pc_lq4 nd (ok.st (st_of (s04.trans s5))) (hd2.same (s24.trans s5)) (hp.same (s04.trans s5)), fun H6 s6 => ⟨_, rfl, iteF ?_⟩⟩
    have s46 := s5.trans s6
    have s26 := s24.trans s46
    have s06 := s04.trans s46
    have s12 : Same H1 H6 := T2.trans s26
    obtain ⟨ls, g1, g2, g3, g4⟩ := d1.d.low (H := H6) (A := H) (B := cut H1 H6) (fun b o e => s12 _ _ (cut_sub _ _ e)) (fun b o e => ⟨cut_new e, cut_none (cut_sub _ _ e)⟩) (fun t' h' => (ok t' h').1)
    refine ⟨_, rfl, H, cut H1 H6, hd, _, ls, rfl, ⟨s06, cut_sub⟩, g2, g1, g3, by rw [g3, List.length_map]; exact le, g4, fun H7 k7 => ?_⟩
    have rt7 : H7 rt = some (.lst ws) := k7.b _ _ (cut_at hrt (s26 _ _ e2))
    refine ⟨_, rfl, .inl ⟨rfl, _, SqL.of rt7⟩, rt, ws, rfl, rfl, rt7, ?_⟩
    have up2 : Same (cut H2 H6) (cut H1 H6) := fun b o e => cut_at (none_of T2 (cut_new e)) (cut_sub _ _ e)
    have k8 : Kq H (cut H2 H6) (upd H7 rt (.lst [])) := (⟨k7.a, up2.trans k7.b⟩ : Kq H (cut H2 H6) H7).put (none_of s1 hrt) (cut_none e2)
    generalize upd H7 rt (.lst []) = H8 at *
    have up3 : Same (cut H2 H3) (cut H2 H6) := cut_up (s4.trans s46)
    have up4 : Same (cut H3 Hm) (cut H2 H6) := fun b o e => cut_at (none_of s3 (cut_new e)) ((sm4.trans s46) _ _ (cut_sub _ _ e))
    have upm : Same (cut Hm H4) (cut H2 H6) := fun b o e => cut_at (none_of (s3.trans s3m) (cut_new e)) (s46 _ _ (cut_sub _ _ e))
    have f8 : PcAt H8 p1 (pc.set i (t.1, putAll t.2 c ws)) := d3.d.pc.same (up3.trans k8.b)
    have b8 : PcAt H8 p2 pc := d4.pc.same (up4.trans k8.b)
    refine ⟨_, rfl, _, rfl, t1, _, _, _, _, rfl, k8.b _ _ (up3 _ _ e3), pc_lq4 nd' (ok'.st (st_of k8.a)) f8 (hm.same k8.a), .non, fun H9 s9 => ⟨_, rfl, iteF ?_⟩⟩
    have k9 := k8.same s9
    have hwsH : ∀ {G : Hp}, Same H G → ∀ v ∈ ws, VOk G v := fun s v hv => (hws v hv).same s
    refine ⟨_, rfl, _, rfl, _, rfl, t2, _, _, _, _, rfl, k9.b _ _ (upm _ _ e4), pc_lq4 nd (ok.st (st_of k9.a)) (b8.same s9) (hp.same k9.a), vals_lq (hwsH k9.a) (k9.b _ _ (upm _ _ w4)) (k9.a _ _ hdu), fun Ha sa => ⟨_, rfl, iteF ?_⟩⟩
    have ka := k9.same sa
    have t2a := ka.b _ _ (upm _ _ e4)
    have j3 : ∀ b o, cut Hm H4 b = some o → cut H2 H3 b = none := fun b o e => none_of cut_sub (none_of s3m (cut_new e))
    obtain ⟨ls2, q1, q2, q3, q4⟩ := d4.low (H := Ha) (A := H) (B := jn (cut H2 H3) (cut Hm H4)) (up4.trans ka.b) (fun b o e => ⟨none_of s03 (cut_new e), (jn_r (none_of cut_sub (cut_new e))).trans (cut_none (cut_sub _ _ e))⟩) (fun t' h' => (ok t' h').1)
    refine ⟨_, rfl, t2, _, 0, _, rfl, rfl, SqT.of t2a, rfl, H, jn (cut H2 H3) (cut Hm H4), p2, _, ls2, rfl, ⟨ka.a, jn_same (up3.trans ka.b) (upm.trans ka.b)⟩, q2, q1, q3, by rw [q3, List.length_map]; exact le, q4, fun Hb kb => ?_⟩
    have t2b := kb.b _ _ ((jn_r (j3 _ _ e4)).trans e4)
    have wlb := kb.b _ _ ((jn_r (j3 _ _ w4)).trans w4)
    refine ⟨_, rfl, t2, _, 1, .ref wl2, rfl, rfl, SqT.of t2b, rfl, .inl ⟨rfl, _, SqL.of wlb⟩, wl2, ws, rfl, rfl, wlb, ?_⟩
    have kc : Kq H (cut H2 H3) (upd Hb wl2 (.lst [])) := (⟨kb.a, jn_l.trans kb.b⟩ : Kq H (cut H2 H3) Hb).put (none_of (s03.trans s3m) (cut_new w4)) (j3 _ _ w4)
    generalize upd Hb wl2 (.lst []) = Hc at *
    obtain ⟨dx', kk', tt', em'⟩ := (pu0.same kc.a).ex
    have t1c := kc.b _ _ e3
    have f_c : PcAt Hc p1 (pc.set i (t.1, putAll t.2 c ws)) := d3.d.pc.same kc.b
    refine ⟨_, rfl, mv, dx', _, rfl, em', pfs_no (.inr (.inl rfl)), _, rfl, _, rfl, t1, _, 0, _, rfl, rfl, SqT.of t1c, rfl, mv, p1, _, _, _, i, (t.1, putAll t.2 c ws), c, v, ws, rfl, pu0.same kc.a, f_c, (ok'.st (st_of kc.a)).ok nd' le', ht', wl.trans pal.symm, vw, fun t3 p3 wl3 Hn Hd scn snd d5 w5 e5 => ?_⟩
    rw [bk] at d5
    have scd := scn.trans snd
    have s0d := kc.a.trans scd
    refine ⟨_, rfl, _, rfl, t3, _, _, _, _, rfl, cut_sub _ _ e5, pc_lq4 nd (ok.st (st_of s0d)) ((d5.same cut_sub).pc.same snd) (hp.same s0d), vals_lq (hwsH s0d) (cut_sub _ _ w5) (s0d _ _ hdu), fun He se => ⟨_, rfl, iteT ?_⟩⟩
    have s0e := s0d.trans se
    exact ⟨_, rfl, _, rfl, t1, _, _, _, _, rfl, (scd.trans se) _ _ t1c, pc_lq4 nd' (ok'.st (st_of s0e)) (f_c.same (scd.trans se)) (hm.same s0e), .non, fun Hf sf => q Hf (s0e.trans sf)⟩
end
end My

namespace My
open PySem L2 PyProof.Rows
seal L2.PE L2.PT L2.PW L2.PS L2.PSs L2.PA L2.PI L2.PG L2.PGs L2.OpR L2.CallR L2.IxR L2.SlR L2.MtR L2.PIf L2.PO L2.MtM L2.PC L2.PSM L2.PSsM L2.EWn L2.PEk L2.PSk L2.PSsk L2.ForM
def spLawK (K : PySem.W.Frag) : SpK := fun vs H Q => ∃ (a : Addr) (ns : List Int), vs = [.ref a] ∧ SqL K H a (ns.map V.int) ∧ ns.length ≤ 63 ∧ ∀ H', Q (.bl true) H'
def nLaw : List Str := ["_law_script", "_law_size", "_law_names_here", "_law_columns", "_law_at", "_law_turn", "_law_tables_here", "_law_kind_here", "_law_value_here", "_law_table", "_law_old", "_law_new", "_law_piece_here", "_law_many", "_law_early", "_law_count", "_law_due", "_law_move", "_law_fresh", "_law_rest", "_law_found", "_law_made"]
theorem Pl.tq {H : Hp} {m : Nat} {a : Addr} (h : Pl H m a) : Tq H 1 (.ref a) := by
  obtain ⟨x, r, e, _, rl, hr⟩ := h.rd
  refine .tup e (by rw [List.length_cons]; omega) fun y hy => ?_
  rcases List.mem_cons.mp hy with rfl | hy
  · exact .flat rfl
  · exact .flat (hr y hy)
theorem Tq.up {H : Hp} {n : Nat} {v : V} (h : Tq H n v) : Tq H (n + 1) v := by
  induction h with
  | flat h => exact .flat h
  | tup e hl _ ih => exact .tup e hl ih
theorem Kd.tq {H : Hp} {m : Nat} {a : Addr} (h : Kd H m a) : Tq H 2 (.ref a) := by
  cases h with
  | pl h => exact h.tq.up
  | key h =>
    refine .tup (.inl h) (by decide) fun y hy => ?_
    rw [List.mem_singleton.mp hy]
    exact .flat rfl
  | more so hs b h hp =>
    refine .tup (.inl h) (show 2 ≤ 1000 by decide) fun y hy => ?_
    have hy' : y = .str so ∨ y = .ref b := by simpa using hy
    rcases hy' with rfl | rfl
    · exact .flat rfl
    · exact hp.tq
theorem rep1 {n : Nat} {v : V} : (List.replicate n [v]).flatten = List.replicate n v := by
  induction n with
  | zero => rfl
  | succ n ih => rw [List.replicate_succ, List.flatten_cons, ih, List.replicate_succ]; rfl
theorem cut_upto {xs : List V} {k : Nat} : cutV xs none (some (k : Int)) = xs.take k := by
  unfold cutV
  rw [sIx_p (by omega), HT.sIx_none, List.drop_zero, Nat.sub_zero, Int.toNat_natCast]
  by_cases h : k ≤ xs.length
  · rw [Nat.min_eq_left h]
  · rw [Nat.min_eq_right (by omega), List.take_of_length_le (Nat.le_refl _), List.take_of_length_le (by omega)]
/-- the values due, by places -/
def dueV (es : List V) (n : Nat) (v : V) : List V := (List.range n).map fun j => es.getD j v
theorem due_take {es : List V} {n : Nat} {v : V} : (es ++ List.replicate n v).take n = dueV es n v := by
  unfold dueV
  refine List.ext_getElem? fun j => ?_
  rw [List.getElem?_map]
  by_cases hj : j < n
  · rw [List.getElem?_take_of_lt hj, List.getElem?_range hj]
    show _ = some (es.getD j v)
    rw [List.getD_eq_getElem?_getD]
    by_cases hl : j < es.length
    · rw [List.getElem?_append_left hl, List.getElem?_eq_getElem hl]
      rfl
    · rw [List.getElem?_append_right (by omega), List.getElem?_replicate, if_pos (by omega), List.getElem?_eq_none (by omega)]
      rfl
  · rw [List.getElem?_eq_none (by rw [List.length_take]; omega), List.getElem?_eq_none (by rw [List.length_range]; omega)]
    rfl
theorem due_nil {n : Nat} {v : V} : dueV [] n v = List.replicate n v := by rw [← due_take, List.nil_append, List.take_of_length_le (by rw [List.length_replicate]; exact Nat.le_refl _)]
theorem due_len {es : List V} {n : Nat} {v : V} : (dueV es n v).length = n := by unfold dueV; rw [List.length_map, List.length_range]
theorem due_ok {H : Hp} {es : List V} {n : Nat} {v : V} (h : ∀ x ∈ es, VOk H x) (hv : VOk H v) : ∀ x ∈ dueV es n v, VOk H x := fun x hx => by
  unfold dueV at hx
  obtain ⟨j, _, rfl⟩ := List.mem_map.mp hx
  rw [List.getD_eq_getElem?_getD]
  cases e : es[j]? with
  | none => exact hv
  | some y => exact h y (List.mem_of_getElem? e)
theorem two_lq {H : Hp} {a b f0 f1 g0 g1 : Addr} (e1 : H a = some (.lst [.ref f0, .ref f1])) (e2 : H b = some (.lst [.ref g0, .ref g1])) (h0 : Lq H 3 (.ref f0) (.ref g0)) (h1 : Lq H 3 (.ref f1) (.ref g1)) : Lq H 4 (.ref a) (.ref b) := by
  refine .lst e1 e2 rfl fun i x y hx hy => ?_
  match i with
  | 0 => cases hx; cases hy; exact h0
  | 1 => cases hx; cases hy; exact h1
  | n + 2 => cases hx
/-- what stands behind the ninth statement -/
structure MB (K : PySem.W.Frag) (H : Hp) (a nl cl ka fo fn p el : Addr) (sz at_ : Int) (z c : Str) (v : V) (i : Nat) (pc : Pc) (t : Str × List Rw) (cs : List Str) (es : List V) : Prop where
  hc : H cl = some (.lst (cs.map V.str))
  c0 : cs[0]? = some c
  kd : Tq H 2 (.ref ka)
  vo : VOk H v
  vt : Tq H 2 v
  hp : PcAt H p pc
  nd : (pc.map (·.1)).Nodup
  le : pc.length ≤ 8
  ok : PcV H pc
  ht : pc[i]? = some t
  tz : t.1 = z
  row : ∀ row ∈ t.2, row.length ≤ 11 ∧ c ∉ row.map (·.1)
  t100 : t.2.length ≤ 100
  he : H el = some (.lst es)
  e60 : es.length ≤ 60
  eo : ∀ x ∈ es, VOk H x
theorem MB.same {K : PySem.W.Frag} {H H' : Hp} {a nl cl ka fo fn p el : Addr} {sz at_ : Int} {z c : Str} {v : V} {i : Nat} {pc : Pc} {t : Str × List Rw} {cs : List Str} {es : List V} (h : MB K H a nl cl ka fo fn p el sz at_ z c v i pc t cs es) (s : Same H H') : MB K H' a nl cl ka fo fn p el sz at_ z c v i pc t cs es :=
  { h with hc := s _ _ h.hc, kd := h.kd.same s, vo := h.vo.same s, vt := h.vt.same s, hp := h.hp.same s, ok := h.ok.st (st_of s), he := s _ _ h.he, eo := fun x hx => (h.eo x hx).same s }
section
variable {P : Program} {w : World} {K : PySem.W.Frag} {mg : Str → Option Value} {base : Heap}
theorem ok_law {f C fI fG fN fT fK fPl fV fPv fM fTx fS fF fP fR fC fPk fSo fRs fWi fNp fLe fSm : Addr} {fd fdI fdG fdN fdT fdK fdPl fdV fdPv fdM fdTx fdS fdF fdP fdR fdC fdPk fdSo fdRs fdWi fdNp fdLe fdSm : FuncData} (F : Fun K "law" "law" (top 38) f fd) (B : Bl mg) (hmin : mg "min" = none)
    (DG : Df K mg "_law_ground" (top 27) fG fdG) (DN : Df K mg "_law_names" (top 17) fN fdN) (DT : Df K mg "_law_tables" (top 24) fT fdT) (DK : Df K mg "_law_kind" (top 23) fK fdK) (DPl : Df K mg "_law_plain" (top 22) fPl fdPl) (DV : Df K mg "_law_value" (top 21) fV fdV) (DPv : Df K mg "_law_plain_value" (top 20) fPv fdPv) (DM : Df K mg "_law_mix" (top 14) fM fdM) (DTx : Df K mg "_law_text" (top 19) fTx fdTx) (DS : Df K mg "_law_sign" (top 18) fS fdS)
    (DF : Df K mg "_law_form" (top 25) fF fdF) (DP : Df K mg "_law_piece" (top 29) fP fdP) (DR : Df K mg "_law_row" (top 28) fR fdR) (DC : Df K mg "_law_cell" (top 13) fC fdC) (DPk : Df K mg "_law_put_kind" (top 33) fPk fdPk) (DSo : Df K mg "_law_sort" (top 32) fSo fdSo) (DRs : Df K mg "_law_rest_size" (top 34) fRs fdRs) (DWi : Df K mg "_law_with" (top 26) fWi fdWi) (DNp : Df K mg "_law_new_piece" (top 35) fNp fdNp) (DLe : Df K mg "_law_led" (top 37) fLe fdLe) (DSm : Df K mg "_law_same" (top 15) fSm fdSm)
    (GS : FnOk P w K mg base CX0 9 fSm fdSm ["_law_found", "_law_due"] (spSm 4))
    (GNp : FnOk P w K mg base CX0 2 fNp fdNp ["_law_piece_here", "_law_table", "_law_column", "_law_values"] (spWv K))
    (GLe : FnOk P w K mg base CX0 11 fLe fdLe ["_law_move", "_law_old", "_law_new", "_law_piece_here", "_law_made", "_law_due"] (spLed C))
    (mC : mg "Put" = some (.ref C)) (mk : Mk K C fI) (GI : FnOk P w K mg base CX0 5 fI fdI ["self", "table", "column", "kind", "value"] (spPuI C)) (bI : Binds K fdI ["self", "table", "column", "kind", "value"] []) (L : ClU K C)
    (eL : Me P w K mg base C "left" ["self", "form", "piece", "rest"] [] 2 (spPl K C)) (eL1 : Me P w K mg base C "left" ["self", "form", "piece", "rest"] [.none] 2 (spPl K C))
    (eR : Me P w K mg base C "right" ["self", "form", "piece", "rest"] [] 1 spNon4) (eR1 : Me P w K mg base C "right" ["self", "form", "piece", "rest"] [.none] 1 spNon4) :
    FnOkW 0 P w K mg base 12 f fd ["_law_script"] (toW (spLawK K)) := by
  have sc : FnScope nLaw ["_law_script"] (defScope (top 38)) := ⟨rfl, rfl, rfl, by decide +kernel, rfl, by decide +kernel, by decide +kernel⟩
  have GG : ∀ n, FnOkW n P w K mg base 5 fG fdG ["_law_script"] (spGr K n) := fun n => ok_grM DG.fn B DN DC DT DK DPl DM DS n
  have GF : ∀ n, FnOk P w K mg base CX0 1 fF fdF ["_law_size", "_law_names_here", "_law_tables_here", "_law_turn"] (spFr n) := fun n => ok_fr DF.fn B n
  have GP : ∀ n, FnOkW n P w K mg base 6 fP fdP ["_law_form_here", "_law_name", "_law_cells"] (spPc n) := fun n => ok_pcM DP.fn B hmin DR DV DPv DM DTx DS n
  have GK : ∀ n, FnOkW n P w K mg base 3 fPk fdPk ["_law_number"] (spKdM n) := fun n => ok_pkM DPk.fn DPl DS n
  have GV : ∀ n, FnOkW n P w K mg base 4 fV fdV ["_law_kind_here", "_law_cell_here", "_law_k", "_law_size"] (toW (spVa n)) := fun n => ok_vaM DV.fn B hmin DPv DM DTx DS n
  have GM : FnOk P w K mg base CX0 1 fM fdM ["_law_cell_here", "_law_k"] spMix := ok_mix DM.fn
  have GC : FnOk P w K mg base CX0 1 fC fdC ["_law_script", "_law_k"] (spCel K) := ok_cel DC.fn B
  have GSo : FnOk P w K mg base CX0 1 fSo fdSo ["_law_form_here", "_law_name"] spSort := ok_sort DSo.fn
  have GRs : FnOk P w K mg base CX0 1 fRs fdRs ["_law_sort_here", "_law_cell_here"] spRs := ok_rs DRs.fn
  have GWi : FnOk P w K mg base CX0 1 fWi fdWi ["_law_tables_here", "_law_at", "_law_more"] spWith := ok_with DWi.fn B
  have bG := DG.fn.binds (ps := ["_law_script"]) fun _ _ _ _ _ _ us hl => by obtain ⟨v0, rfl⟩ := L2.ln1 hl; rfl
  have bF := DF.fn.binds (ps := ["_law_size", "_law_names_here", "_law_tables_here", "_law_turn"]) fun _ _ _ _ _ _ us hl => by obtain ⟨v0, v1, v2, v3, rfl⟩ := L2.ln4 hl; rfl
  have bP := DP.fn.binds (ps := ["_law_form_here", "_law_name", "_law_cells"]) fun _ _ _ _ _ _ us hl => by obtain ⟨v0, v1, v2, rfl⟩ := L2.ln3 hl; rfl
  have bK := DPk.fn.binds (ps := ["_law_number"]) fun _ _ _ _ _ _ us hl => by obtain ⟨v0, rfl⟩ := L2.ln1 hl; rfl
  have bV := DV.fn.binds (ps := ["_law_kind_here", "_law_cell_here", "_law_k", "_law_size"]) fun _ _ _ _ _ _ us hl => by obtain ⟨v0, v1, v2, v3, rfl⟩ := L2.ln4 hl; rfl
  have bM := DM.fn.binds (ps := ["_law_cell_here", "_law_k"]) fun _ _ _ _ _ _ us hl => by obtain ⟨v0, v1, rfl⟩ := L2.ln2 hl; rfl
  have bC := DC.fn.binds (ps := ["_law_script", "_law_k"]) fun _ _ _ _ _ _ us hl => by obtain ⟨v0, v1, rfl⟩ := L2.ln2 hl; rfl
  have bSo := DSo.fn.binds (ps := ["_law_form_here", "_law_name"]) fun _ _ _ _ _ _ us hl => by obtain ⟨v0, v1, rfl⟩ := L2.ln2 hl; rfl
  have bRs := DRs.fn.binds (ps := ["_law_sort_here", "_law_cell_here"]) fun _ _ _ _ _ _ us hl => by obtain ⟨v0, v1, rfl⟩ := L2.ln2 hl; rfl
  have bWi := DWi.fn.binds (ps := ["_law_tables_here", "_law_at", "_law_more"]) fun _ _ _ _ _ _ us hl => by obtain ⟨v0, v1, v2, rfl⟩ := L2.ln3 hl; rfl
  have bNp := DNp.fn.binds (ps := ["_law_piece_here", "_law_table", "_law_column", "_law_values"]) fun _ _ _ _ _ _ us hl => by obtain ⟨v0, v1, v2, v3, rfl⟩ := L2.ln4 hl; rfl
  have bLe := DLe.fn.binds (ps := ["_law_move", "_law_old", "_law_new", "_law_piece_here", "_law_made", "_law_due"]) fun _ _ _ _ _ _ us hl => match us, hl with | [_, _, _, _, _, _], _ => rfl
  have bSm := DSm.fn.binds (ps := ["_law_found", "_law_due"]) fun _ _ _ _ _ _ us hl => by obtain ⟨v0, v1, rfl⟩ := L2.ln2 hl; rfl
  obtain ⟨_, _, mL, gL, bL⟩ := eL
  obtain ⟨_, _, mL1, gL1, bL1⟩ := eL1
  obtain ⟨_, _, mR, gR, bR⟩ := eR
  obtain ⟨_, _, mR1, gR1, bR1⟩ := eR1
  refine F.okM sc (fun vs H Q h => ?_) (fun cdv A outer s H vs Q hr h => ?_)
  · obtain ⟨a, ns, rfl, _⟩ := h
    rfl
  · obtain ⟨a, ns, rfl, hsc, h63, q⟩ := h
    have hu : (A.deeper (envOfC "law" (defScope (top 38)) s.heap.objs.size f cdv)).units + 1 < cLine := hu_of hr
    have ndA : (["_law_k", "_law_script", "_law_size", "_law_kind_here"] : List Str).Nodup := by decide +kernel
    refine psM_split 9 (fun m σ' H' => ∃ nl cl tl ka fo fn p el sz at_ tn many z c v i pc t cs es, σ' = [some (.ref a), some (.int sz), some (.ref nl), some (.ref cl), some (.int at_), some (.int tn), some (.ref tl), some (.ref ka), some v, some (.str z), some (.ref fo), some (.ref fn), some (.ref p), some (.int many), some (.ref el), none, none, none, none, none, none, none] ∧ MB K H' a nl cl ka fo fn p el sz at_ z c v i pc t cs es) ?_ ?_
    · refine ⟨_, (psM_cons (psM_asg (ewn_callW GG (hr.mono (by decide)) (by rfl) DG.mg DG.fn.kp bG (pa_cons (pv 0) pa_nil)) (pg_tup rfl (pgs_cons (pg_name (i := 1) sc.nd rfl (Or.inr rfl)) (pgs_cons (pg_name (i := 2) sc.nd rfl (Or.inl rfl)) (pgs_cons (pg_name (i := 3) sc.nd rfl (Or.inl rfl)) (pgs_cons (pg_name (i := 4) sc.nd rfl (Or.inl rfl)) (pgs_cons (pg_name (i := 5) sc.nd rfl (Or.inl rfl)) (pgs_cons (pg_name (i := 6) sc.nd rfl (Or.inl rfl)) pgs_nil))))))))
        (psM_cons (psM_set (i := 7) (ewn_callW GK (hr.mono (by decide)) (by rfl) DPk.mg DPk.fn.kp bK (pa_cons (pe_call GM (hr.mono (by decide)) (by rfl) DM.mg DM.fn.kp bM .nil pass0 (pa_cons (pe_call GC (hr.mono (by decide)) (by rfl) DC.mg DC.fn.kp bC .nil pass0 (pa_cons (pv 0) (pa_cons pe_int pa_nil))) (pa_cons pe_int pa_nil))) pa_nil)) sc.nd rfl (Or.inr rfl))
        (psM_cons (psM_set (i := 8) (EWn.ge (ewn_callW GV (hr.mono (by decide)) (by rfl) DV.mg DV.fn.kp bV (pa_cons (pv 7) (pa_cons (pe_call GC (hr.mono (by decide)) (by rfl) DC.mg DC.fn.kp bC .nil pass0 (pa_cons (pv 0) (pa_cons pe_int pa_nil))) (pa_cons pe_int (pa_cons (pv 1) pa_nil)))))) sc.nd rfl (Or.inl rfl))
        (psM_cons (PS.m (ps_set (i := 9) sc.nd rfl (Or.inl rfl) (pe_ix ix_list (pv 2) (pv 4) (fun _ _ => rfl))))
        (psM_cons (PSk.m fun n => PS.k (ps_set (i := 10) sc.nd rfl (Or.inl rfl) (pe_call (GF n) (hr.mono (by decide)) (by rfl) DF.mg DF.fn.kp bF .nil pass0 (pa_cons (pv 1) (pa_cons (pv 2) (pa_cons (pv 6) (pa_cons (pv 5) pa_nil)))))))
        (psM_cons (PSk.m fun n => PS.k (ps_set (i := 11) sc.nd rfl (Or.inl rfl) (pe_call (GF n) (hr.mono (by decide)) (by rfl) DF.mg DF.fn.kp bF .nil pass0 (pa_cons (pv 1) (pa_cons (pv 2) (pa_cons (pe_call GWi (hr.mono (by decide)) (by rfl) DWi.mg DWi.fn.kp bWi .nil pass0 (pa_cons (pv 6) (pa_cons (pv 4) (pa_cons (pe_disp (pps_cons (pe_ix ix_list (pv 3) pe_int (fun _ _ => rfl)) (pv 7) pps_nil) rfl rfl (by simp) (by decide)) pa_nil)))) (pa_cons (pv 5) pa_nil)))))))
        (psM_cons (psM_set (i := 12) (EWn.ge (ewn_callW GP (hr.mono (by decide)) (by rfl) DP.mg DP.fn.kp bP (pa_cons (pv 10) (pa_cons (pv 9) (pa_cons (pe_slice sl_list (pv 0) (po_some pe_int) (po_some pe_int)) pa_nil))))) sc.nd rfl (Or.inl rfl))
        (psM_cons (PS.m (ps_set (i := 13) sc.nd rfl (Or.inl rfl) (pe_call GRs (hr.mono (by decide)) (by rfl) DRs.mg DRs.fn.kp bRs .nil pass0 (pa_cons (pe_call GSo (hr.mono (by decide)) (by rfl) DSo.mg DSo.fn.kp bSo .nil pass0 (pa_cons (pv 10) (pa_cons (pv 9) pa_nil))) (pa_cons (pe_call GC (hr.mono (by decide)) (by rfl) DC.mg DC.fn.kp bC .nil pass0 (pa_cons (pv 0) (pa_cons pe_int pa_nil))) pa_nil)))))
        (psM_one (PSk.m fun n => psk_comp (i := 14) (osc := defScope (top 38)) (N0 := nLaw) (xs := ["_law_k"]) (fr := [0, 1, 7]) ⟨rfl, by decide +kernel, by decide +kernel, by decide +kernel, (fun j hj => by
              have e : j = 0 ∨ j = 1 ∨ j = 7 := by simpa using hj
              rcases e with rfl | rfl | rfl
              · exact ⟨_, rfl, by decide +kernel⟩
              · exact ⟨_, rfl, by decide +kernel⟩
              · exact ⟨_, rfl, by decide +kernel⟩), by decide +kernel⟩ rfl rfl rfl (pi_range1 rfl B.range (pa_cons (pv 13) pa_nil))
          (fun s H fp => pg_name (i := 0) ndA rfl (Or.inl rfl)) (fun s H fp => pif_nil)
          (fun s H fp => pek_callW (GV n) (hr.mono (by decide)) (by rfl) DV.mg DV.fn.kp bV (pa_cons (pv 3) (pa_cons (pe_call GC (hr.mono (by decide)) (by rfl) DC.mg DC.fn.kp bC .nil pass0 (pa_cons (pv 1) (pa_cons pe_int pa_nil))) (pa_cons (pe_op op_add pe_int (pv 0)) (pa_cons (pv 2) pa_nil))))) sc.nd rfl (Or.inl rfl))))))))))), ?_⟩
      refine ⟨_, rfl, a, ns, rfl, hsc, fun tt nl cl tl sz at_ tn zs cs tbs H1 u k hk s1 gr rd => ?_⟩
      refine ⟨tt, _, rfl, SqT.of gr.ht, rfl, _, _, rfl, _, _, rfl, _, _, rfl, _, _, rfl, _, _, rfl, _, _, rfl, rfl, ?_⟩
      obtain ⟨an, ean⟩ := Int.eq_ofNat_of_zero_le gr.at0
      subst ean
      have at1 := gr.at1
      have hat : an < tbs.length := by omega
      have atz : an < zs.length := by have := gr.z12; have := gr.t4; omega
      refine ⟨_, rfl, a, ns, 4, rfl, sqL_same hsc s1, by decide, fun c4 => ⟨_, _, rfl, fun k4 _ _ => ⟨_, rfl, fun ka H2 u2 k2 hk2 s2 kd => ?_⟩⟩⟩
      have s02 := s1.trans s2
      refine ⟨_, rfl, _, rfl, a, ns, 5, rfl, sqL_same hsc s02, by decide, fun c5 => ⟨_, rfl, ka, _, _, _, rfl, kd, gr.hz, fun v H3 s3 vo vt u3 k3 hk3 => ?_⟩⟩
      have s03 := s02.trans s3
      have s13 := s2.trans s3
      refine ⟨_, rfl, _, rfl, nl, _, _, .str zs[an], rfl, rfl, SqL.of (s13 _ _ gr.hn), atI_nat (by rw [List.getElem?_map, List.getElem?_eq_getElem atz]; rfl), ?_⟩
      have hk13 : k ≤ k3 := Nat.le_trans hk2 hk3
      refine ⟨_, rfl, _, rfl, _, rfl, _, rfl, sz, tn, nl, tl, zs, tbs, rfl, s13 _ _ gr.hn, gr.z12, gr.znd, gr.rd.rows.same s13, by omega, gr.t4, (fun tb h => ⟨((gr.tb tb h).1.st (st_of s13)).up hk13, (gr.tb tb h).2⟩), fun fo nms H4 s4 fr pm => ?_⟩
      have s14 := s13.trans s4
      have c0l : 0 < cs.length := by have := gr.c7; omega
      refine ⟨_, rfl, _, rfl, _, rfl, _, rfl, fun d hd => ?_⟩
      have T5 := Same.upd (o := .dK []) hd
      refine ⟨_, rfl, cl, _, 0, .str cs[0], rfl, rfl, SqL.of (T5 _ _ (s14 _ _ gr.hc)), atI_nat (j := 0) (by rw [List.getElem?_map, List.getElem?_eq_getElem c0l]; rfl), _, rfl, upd_same, [(.inr cs[0], .ref ka)], rfl, (show 1 ≤ 15 by decide), ?_⟩
      rw [upd_upd, show mergeK [] [((.inr cs[0] : Key), V.ref ka)] = [(.inr cs[0], .ref ka)] from rfl]
      have T6 := Same.upd (o := .dK [(.inr cs[0], .ref ka)]) hd
      have d6 := upd_same (H := H4) (a := d) (o := .dK [(.inr cs[0], .ref ka)])
      generalize upd H4 d (.dK [(.inr cs[0], .ref ka)]) = H5 at *
      have s15 := s14.trans T6
      obtain ⟨ncf, l2f⟩ := gr.free tbs[an] (by rw [Int.toNat_natCast]; exact List.getElem?_eq_getElem hat)
      refine ⟨tl, d, an, tbs, cs[0], .ref ka, hat, rfl, gr.rd.rows.same s15, gr.t4, (fun tb h => (gr.tb tb h).2), d6, fun wl H6 s6 rw6 => ?_⟩
      have s16 := s15.trans s6
      have kd6 := ((kd.same s3).same ((s4.trans T6).trans s6)).up hk3
      refine ⟨_, rfl, sz, tn, nl, wl, zs, _, rfl, s16 _ _ gr.hn, gr.z12, gr.znd, rw6, by rw [List.length_set]; omega, by rw [List.length_set]; exact gr.t4, (fun tb h => ?_), fun fn nms2 H7 s7 _ _ => ?_⟩
      · rcases List.mem_or_eq_of_mem_set h with h | rfl
        · exact ⟨((gr.tb tb h).1.st (st_of s16)).up hk13, (gr.tb tb h).2⟩
        · exact ⟨(((gr.tb tbs[an] (List.getElem_mem hat)).1.st (st_of s16)).up hk13).put kd6, Nat.le_trans putR_len (by omega)⟩
      have s17 := s16.trans s7
      have s07 := s1.trans s17
      have s37 := ((s4.trans T6).trans s6).trans s7
      have s47 := (T6.trans s6).trans s7
      have nnd : nms.Nodup := pm.nodup_iff.mpr (gr.znd.sublist (List.take_sublist _ _))
      have nle : nms.length ≤ 4 := by rw [pm.length_eq, List.length_take]; have := gr.t4; omega
      refine ⟨_, rfl, _, rfl, _, rfl, _, rfl, _, rfl, a, _, rfl, sqL_same hsc s07, fun cl2 hcl2 => ?_⟩
      obtain ⟨cs2, ec2, lc2⟩ := cutV_int (cs := ns) (lo := some 8) (hi := some 64)
      rw [ec2] at *
      have T8 := Same.upd (o := .lst (cs2.map V.int)) hcl2
      have e8 := upd_same (H := H7) (a := cl2) (o := .lst (cs2.map V.int))
      generalize upd H7 cl2 (.lst (cs2.map V.int)) = H8 at *
      have fr8 := fr.st (st_of (s47.trans T8))
      refine ⟨_, fo, cl2, sz, nms, zs[an], cs2, rfl, fr8, nnd, nle, gr.hz, e8, by omega, fun p pc H9 u9 k9 s9 pd nm9 ok9 kr9 hk9 => ?_⟩
      have s79 := T8.trans s9
      have s09 := s07.trans s79
      refine ⟨_, rfl, _, rfl, _, _, fo, sz, nms, zs[an], rfl, fr8.st (st_of s9), nle, fun so => ⟨_, rfl, a, ns, 6, rfl, sqL_same hsc s09, by decide, fun c6 => ⟨so, c6, rfl, fun many m0 m60 => ?_⟩⟩⟩
      refine ⟨_, rfl, _, rfl, (by omega), (by omega), fun D hD => ?_⟩
      have s39 := s37.trans s79
      have kd9 := (((kd.same s3).same s39).up hk3).up hk9
      refine compW_idx many.toNat (fun j ys σ' Hc => (∃ t0, σ' = [t0, some (.ref a), some (.int sz), some (.ref ka)]) ∧ Same H9 Hc ∧ ∀ x ∈ ys, VOk Hc x) (by rw [sizeLine_eq]; omega) ⟨⟨none, rfl⟩, Same.upd hD, (fun x h => nomatch h)⟩ upd_same ?_ ?_
      · rintro j σ' Hc ys hj ⟨⟨t0, rfl⟩, sm, hys⟩ hyl hD'
        refine ⟨hj, ?_⟩
        rintro x H' ⟨rfl, rfl⟩
        refine ⟨_, rfl, _, rfl, a, ns, 7, rfl, sqL_same hsc (s09.trans sm), by decide, fun c7 => ⟨_, rfl, _, _, rfl, rfl, _, rfl, ka, _, _, _, rfl, kd9.same sm, gr.hz, fun y H'' s'' vo'' _ u'' k'' => ?_⟩⟩
        have hD2 := s'' _ _ hD'
        have st : STu H'' (upd H'' D (.lst (ys ++ [y]))) := STu.put hD2 rfl
        refine ⟨hD2, ⟨_, rfl⟩, (sm.trans s'').put hD, fun x hx => ?_⟩
        rcases List.mem_append.mp hx with h | h
        · exact ((hys x h).same s'').st st
        · rw [List.mem_singleton.mp h]
          exact vo''.st st
      · rintro σ' Hc ys ⟨_, sm, hys⟩ hDn hyl
        refine ⟨Nat.le_refl _, nl, cl, tl, ka, fo, fn, p, D, sz, (an : Int), tn, many, zs[an], cs[0], v, ?_⟩
        have hm : zs[an] ∈ nms := pm.mem_iff.mpr (List.mem_take_iff_getElem.mpr ⟨an, by omega, rfl⟩)
        obtain ⟨i, hi⟩ := List.getElem?_of_mem hm
        have hi' := hi
        rw [← nm9, List.getElem?_map] at hi'
        cases ep : pc[i]? with
        | none => rw [ep] at hi'; cases hi'
        | some t =>
          rw [ep] at hi'
          have tz : t.1 = zs[an] := Option.some.inj hi'
          have htm := List.mem_of_getElem? ep
          have s3c := s39.trans sm
          have okc := ok9.st (st_of sm)
          refine ⟨i, pc, t, cs, ys, rfl, ?_⟩
          refine { hc := sm _ _ (s79 _ _ (s17 _ _ gr.hc)), c0 := List.getElem?_eq_getElem c0l, kd := (kd9.same sm).tq, vo := vo.same s3c, vt := (vt.same s3c).up, hp := ((pd.same cut_sub).pc).same sm, nd := by rw [nm9]; exact nnd, le := by have := congrArg List.length nm9; rw [List.length_map] at this; omega, ok := fun t' ht' => ⟨Nat.le_trans (okc t' ht').1 (by decide), fun row hr' => ⟨((okc t' ht').2 row hr').1, Nat.le_trans ((okc t' ht').2 row hr').2.1 (by decide), ((okc t' ht').2 row hr').2.2⟩⟩, ht := ep, tz := tz, row := fun row hr' => ⟨Nat.le_trans ((okc t htm).2 row hr').2.1 (by decide), fun hc' => ?_⟩, t100 := (okc t htm).1, he := hDn, e60 := by omega, eo := hys }
          obtain ⟨ws, ⟨j, tb, hj1, hj2, hpm⟩, hall⟩ := kr9 t htm
          rw [tz] at hj1
          obtain ⟨cc, hcc, ecc⟩ := List.mem_map.mp hc'
          have hw := hall row hr' cc hcc
          rw [ecc] at hw
          have jn_ : j = an := by
            obtain ⟨hj', ej⟩ := List.getElem?_eq_some_iff.mp hj1
            exact (List.getElem_inj gr.znd).mp ej
          subst jn_
          rw [List.getElem?_eq_getElem hat] at hj2
          cases hj2
          exact ncf cs[0] (List.getElem?_eq_getElem c0l) (hpm.mem_iff.mp hw)
    · rintro m σ1 H1 ⟨nl, cl, tl, ka, fo, fn, p, el, sz, at_, tn, many, z, c, v, i, pc, t, cs, es, rfl, M⟩
      refine ⟨_, PSs.m (pss_cons (ps_set (i := 15) sc.nd rfl (Or.inl rfl) (pe_callB call_len_seq (by rfl) B.len PySem.boot_len (pa_cons (pe_dget hu (pv 12) (pv 9) (fun _ _ => rfl)) pa_nil)))
        (pss_cons (ps_set (i := 16) sc.nd rfl (Or.inl rfl) (pe_slice sl_list (pe_op op_cat (pv 14) (pe_op op_rep (pe_lst (pa_cons (pv 8) pa_nil)) (pv 15))) po_none (po_some (pv 15))))
        (pss_cons (ps_set (i := 17) sc.nd rfl (Or.inl rfl) (pe_make mk GI (hr.mono (by decide)) (by rfl) mC bI .nil pass0 (pa_cons (pv 9) (pa_cons (pe_ix ix_list (pv 3) pe_int (fun _ _ => rfl)) (pa_cons (pv 7) (pa_cons (pv 8) pa_nil))))))
        (pss_cons (ps_set (i := 18) sc.nd rfl (Or.inl rfl) (pe_lst (pa_cons (pe_meth (pv 17) L.cl mL1 gL1 (hr.mono (by decide)) bL1 (show Vals [V.non] [Value.none] from .cons rfl .nil) pass0 (pa_cons (pv 10) (pa_cons (pv 12) pa_nil))) (pa_cons (pe_meth (pv 17) L.cl mL gL (hr.mono (by decide)) bL .nil pass0 (pa_cons (pv 10) (pa_cons (pv 12) (pa_cons pe_non pa_nil)))) pa_nil))))
        (pss_cons (ps_if (pt_not (pt_val (pe_call GS (hr.mono (by decide)) (by rfl) DSm.mg DSm.fn.kp bSm .nil pass0 (pa_cons (pv 18) (pa_cons (pe_lst (pa_cons (pe_op op_rep (pe_lst (pa_cons (pv 8) pa_nil)) (pv 15)) (pa_cons (pe_op op_rep (pe_lst (pa_cons (pv 8) pa_nil)) (pv 15)) pa_nil))) pa_nil))))) pss_never pss_nil)
        (pss_cons (ps_set (i := 19) sc.nd rfl (Or.inl rfl) (pe_callTy call_list_of (by rfl) B.list boot_list (pa_cons (pv 14) pa_nil)))
        (pss_cons (ps_set (i := 20) sc.nd rfl (Or.inl rfl) (pe_meth (pv 17) L.cl mL gL (hr.mono (by decide)) bL .nil pass0 (pa_cons (pv 10) (pa_cons (pv 12) (pa_cons (pv 19) pa_nil)))))
        (pss_cons (ps_if (PW.pt (pw_or (pt_not (pt_val (pe_call GS (hr.mono (by decide)) (by rfl) DSm.mg DSm.fn.kp bSm .nil pass0 (pa_cons (pv 20) (pa_cons (pv 16) pa_nil))))) (pw_or1 (pt_not (pt_val (pe_call GS (hr.mono (by decide)) (by rfl) DSm.mg DSm.fn.kp bSm .nil pass0 (pa_cons (pv 19) (pa_cons (pv 14) pa_nil)))))))) pss_never pss_nil)
        (pss_cons (ps_expr (pe_bm PySem.F.plainAttrs_list PySem.F.slot_list_append PySem.F.type_list_append mt_app (pv 19) (pa_cons (pv 8) pa_nil)))
        (pss_cons (ps_expr (pe_bm PySem.F.plainAttrs_list PySem.F.slot_list_append PySem.F.type_list_append mt_app (pe_ix ix_list (pv 18) pe_int (fun _ _ => rfl)) (pa_cons (pv 8) pa_nil)))
        (pss_cons (ps_if (PW.pt (pw_or (pt_not (pt_val (pe_call GS (hr.mono (by decide)) (by rfl) DSm.mg DSm.fn.kp bSm .nil pass0 (pa_cons (pv 20) (pa_cons (pv 16) pa_nil))))) (pw_or1 (pt_not (pt_val (pe_call GS (hr.mono (by decide)) (by rfl) DSm.mg DSm.fn.kp bSm .nil pass0 (pa_cons (pe_ix ix_list (pv 18) pe_int (fun _ _ => rfl)) (pa_cons (pe_op op_rep (pe_lst (pa_cons (pv 8) pa_nil)) (pv 15)) pa_nil)))))))) pss_never pss_nil)
        (pss_cons (ps_set (i := 21) sc.nd rfl (Or.inl rfl) (pe_call GNp (hr.mono (by decide)) (by rfl) DNp.mg DNp.fn.kp bNp .nil pass0 (pa_cons (pv 12) (pa_cons (pv 9) (pa_cons (pe_ix ix_list (pv 3) pe_int (fun _ _ => rfl)) (pa_cons (pv 16) pa_nil))))))
        (pss_cons (ps_if (pt_not (pt_val (pe_call GLe hr (by rfl) DLe.mg DLe.fn.kp bLe .nil pass0 (pa_cons (pv 17) (pa_cons (pv 10) (pa_cons (pv 11) (pa_cons (pv 12) (pa_cons (pv 21) (pa_cons (pv 20) pa_nil))))))))) pss_never pss_nil)
        (pss_one (ps_ret (pe_call GS (hr.mono (by decide)) (by rfl) DSm.mg DSm.fn.kp bSm .nil pass0 (pa_cons (pe_lst (pa_cons (pe_meth (pv 17) L.cl mR1 gR1 (hr.mono (by decide)) bR1 (show Vals [V.non] [Value.none] from .cons rfl .nil) pass0 (pa_cons (pv 11) (pa_cons (pv 21) pa_nil))) (pa_cons (pe_meth (pv 17) L.cl mR gR (hr.mono (by decide)) bR .nil pass0 (pa_cons (pv 11) (pa_cons (pv 21) (pa_cons pe_non pa_nil)))) pa_nil))) (pa_cons (pe_lst (pa_cons pe_non (pa_cons pe_non pa_nil))) pa_nil)))))))))))))))))), ?_⟩
      have tz := M.tz
      subst tz
      obtain ⟨ls, a1, a2, a3⟩ := id M.hp
      have hip : i < pc.length := (List.getElem?_eq_some_iff.mp M.ht).1
      have hil : i < ls.length := by omega
      obtain ⟨rs, b1, b2, b3⟩ := a3 i ls[i] t (List.getElem?_eq_getElem hil) M.ht
      have vz : valV (zK (pc.map (·.1)) ls) (.inr t.1) = some (.ref ls[i]) := zw_val M.nd (by rw [List.getElem?_map, M.ht]; rfl) (by rw [List.getElem?_map, List.getElem?_eq_getElem hil]; rfl)
      have n100 := M.t100
      have e60 := M.e60
      have atc : ∀ {G : Hp}, Same H1 G → SqL K G cl (cs.map V.str) := fun s => SqL.of (s _ _ M.hc)
      have at0 : atI (cs.map V.str) 0 = some (.str c) := atI_nat (j := 0) (by rw [List.getElem?_map, M.c0]; rfl)
      have rl : (rs.map V.ref).length = t.2.length := by rw [List.length_map, b2]
      refine ⟨_, rfl, _, rfl, p, .ref ls[i], rfl, .inl ⟨_, .inr t.1, .inl a1, rfl, vz.symm⟩, _, _, rfl, .inl (SqL.of b1), ?_⟩
      rw [rl]
      have nn : (0 : Int) ≤ (t.2.length : Int) := by omega
      refine ⟨_, rfl, _, rfl, (show 1 ≤ sizeLine by decide), fun l1 h1 => ⟨_, rfl, l1, _, _, rfl, rfl, upd_same, (by omega), (by omega), (by show 1 * (t.2.length : Int).toNat ≤ sizeLine; rw [sizeLine_eq]; omega), fun l2 h2 => ?_⟩⟩
      rw [Int.toNat_natCast, rep1] at *
      have T1 := (Same.upd (o := .lst [v]) h1).trans (Same.upd (o := .lst (List.replicate t.2.length v)) h2)
      have g2 := upd_same (H := upd H1 l1 (.lst [v])) (a := l2) (o := .lst (List.replicate t.2.length v))
      generalize upd (upd H1 l1 (.lst [v])) l2 (.lst (List.replicate t.2.length v)) = H2 at *
      refine ⟨el, l2, _, _, rfl, rfl, T1 _ _ M.he, g2, (by rw [List.length_replicate, sizeLine_eq]; omega), fun l3 h3 => ⟨_, rfl, _, rfl, l3, _, rfl, SqL.of upd_same, fun du hdu => ?_⟩⟩
      rw [cut_upto, due_take] at *
      have T3 := (Same.upd (o := .lst (es ++ List.replicate t.2.length v)) h3).trans (Same.upd (o := .lst (dueV es t.2.length v)) hdu)
      have edu := upd_same (H := upd H2 l3 (.lst (es ++ List.replicate t.2.length v))) (a := du) (o := .lst (dueV es t.2.length v))
      generalize upd (upd H2 l3 (.lst (es ++ List.replicate t.2.length v))) du (.lst (dueV es t.2.length v)) = H3 at *
      have s13 := T1.trans T3
      refine ⟨_, rfl, _, rfl, cl, _, 0, .str c, rfl, rfl, atc s13, at0, _, rfl, _, rfl, fun mv dx n1 n2 nmd => ?_⟩
      have T4 := (Same.upd (o := .own mv) n2).trans (Same.upd (o := .ins C dx []) ((upd_ne (Ne.symm nmd)).trans n1))
      have e4 := upd_same (H := upd H3 dx (.own mv)) (a := mv) (o := .ins C dx [])
      generalize upd (upd H3 dx (.own mv)) mv (.ins C dx []) = H4 at *
      have M4 := M.same (s13.trans T4)
      refine ⟨mv, dx, ka, t.1, c, v, rfl, e4, M4.kd, M4.vt, fun H5 keep pu5 => ⟨rfl, ?_⟩⟩
      have s35 : Same H3 H5 := fun b o e => keep b o (fun z => by rw [z, n1] at e; cases e) (T4 _ _ e)
      have s15 := s13.trans s35
      have M5 := M.same s15
      clear keep
      obtain ⟨dx5, k5, t5, em5⟩ := id pu5.ex
      refine ⟨_, rfl, mv, dx5, _, rfl, em5, pfs_no (.inr (.inr (.inl rfl))), _, rfl, _, rfl, mv, p, _, _, pc, i, t, c, v, [], rfl, pu5, M5.hp, M5.nd, M5.ht, by omega, .inl ⟨rfl, rfl⟩, fun f0 H6 s6 e6 => ?_⟩
      have s16 := s15.trans s6
      have M6 := M.same s16
      refine ⟨_, rfl, mv, dx5, _, rfl, s6 _ _ em5, pfs_no (.inr (.inr (.inl rfl))), _, rfl, _, rfl, mv, p, _, _, pc, i, t, c, v, [], rfl, pu5.same s6, M6.hp, M6.nd, M6.ht, by omega, .inl ⟨rfl, rfl⟩, fun f1 H7 s7 e7 => ⟨(show 2 ≤ sizeLine by decide), fun fr hfr => ?_⟩⟩
      have e6' : cut H5 H6 f0 = some (.lst (List.replicate t.2.length v)) := by rw [← due_nil]; exact e6
      have e7' : cut H6 H7 f1 = some (.lst (List.replicate t.2.length v)) := by rw [← due_nil]; exact e7
      have T8 := Same.upd (o := .lst [.ref f0, .ref f1]) hfr
      have e8 := upd_same (H := H7) (a := fr) (o := .lst [.ref f0, .ref f1])
      generalize upd H7 fr (.lst [.ref f0, .ref f1]) = H8 at *
      have s68 := s7.trans T8
      have s18 := s16.trans s68
      refine ⟨_, rfl, _, rfl, (show 1 ≤ sizeLine by decide), fun m1 j1 => ⟨_, rfl, m1, _, _, rfl, rfl, upd_same, (by omega), (by omega), (by show 1 * (t.2.length : Int).toNat ≤ sizeLine; rw [sizeLine_eq]; omega), fun m2 j2 => ?_⟩⟩
      rw [Int.toNat_natCast, rep1] at *
      have U1 := (Same.upd (o := .lst [v]) j1).trans (Same.upd (o := .lst (List.replicate t.2.length v)) j2)
      have w2 := upd_same (H := upd H8 m1 (.lst [v])) (a := m2) (o := .lst (List.replicate t.2.length v))
      generalize upd (upd H8 m1 (.lst [v])) m2 (.lst (List.replicate t.2.length v)) = H9 at *
      refine ⟨_, rfl, (show 1 ≤ sizeLine by decide), fun m3 j3 => ⟨_, rfl, m3, _, _, rfl, rfl, upd_same, (by omega), (by omega), (by show 1 * (t.2.length : Int).toNat ≤ sizeLine; rw [sizeLine_eq]; omega), fun m4 j4 => ⟨(show 2 ≤ sizeLine by decide), fun m5 j5 => ?_⟩⟩⟩
      rw [Int.toNat_natCast, rep1] at *
      have U2 := ((Same.upd (o := .lst [v]) j3).trans (Same.upd (o := .lst (List.replicate t.2.length v)) j4)).trans (Same.upd (o := .lst [.ref m2, .ref m4]) j5)
      have w4 := Same.upd (o := .lst [.ref m2, .ref m4]) j5 _ _ (upd_same (H := upd H9 m3 (.lst [v])) (a := m4) (o := .lst (List.replicate t.2.length v)))
      have w5 := upd_same (H := upd (upd H9 m3 (.lst [v])) m4 (.lst (List.replicate t.2.length v))) (a := m5) (o := .lst [.ref m2, .ref m4])
      generalize upd (upd (upd H9 m3 (.lst [v])) m4 (.lst (List.replicate t.2.length v))) m5 (.lst [.ref m2, .ref m4]) = Ha at *
      have s8a := U1.trans U2
      have s1a := s18.trans s8a
      have s6a := s68.trans s8a
      have Ma := M.same s1a
      have rok : ∀ {G : Hp}, Same H1 G → ∀ x ∈ List.replicate t.2.length v, VOk G x := fun s x hx => by
        rw [List.eq_of_mem_replicate hx]
        exact M.vo.same s
      refine ⟨_, _, rfl, two_lq (s8a _ _ e8) w5 (vals_lq (n := 1) (rok s1a) (s6a _ _ (cut_sub _ _ e6')) (U2 _ _ w2)) (vals_lq (n := 1) (rok s1a) ((T8.trans s8a) _ _ (cut_sub _ _ e7')) w4), fun Hb sb => ⟨_, rfl, iteF ?_⟩⟩
      have s8b := s8a.trans sb
      have s6b := s6a.trans sb
      have s1b := s1a.trans sb
      refine ⟨_, rfl, el, es, rfl, .inl (SqL.of (s1b _ _ M.he)), fun rt hrt => ?_⟩
      have Tc := Same.upd (o := .lst es) hrt
      have ec := upd_same (H := Hb) (a := rt) (o := .lst es)
      generalize upd Hb rt (.lst es) = Hc at *
      have s5c := (s6.trans s6b).trans Tc
      have s1c := s1b.trans Tc
      have Mc := M.same s1c
      refine ⟨_, rfl, mv, dx5, _, rfl, s5c _ _ em5, pfs_no (.inr (.inr (.inl rfl))), _, rfl, _, rfl, _, rfl, mv, p, _, _, pc, i, t, c, v, es, rfl, pu5.same s5c, Mc.hp, Mc.nd, Mc.ht, by omega, .inr ⟨rt, rfl, ec⟩, fun fo' Hd sd ed => ?_⟩
      have ed' : cut Hc Hd fo' = some (.lst (dueV es t.2.length v)) := ed
      have s1d := s1c.trans sd
      have sbd := Tc.trans sd
      have dok : ∀ {G : Hp}, Same H1 G → ∀ x ∈ dueV es t.2.length v, VOk G x := fun s => due_ok (fun x hx => (M.eo x hx).same s) (M.vo.same s)
      have s3b : Same H3 Hb := s35.trans (s6.trans s6b)
      refine ⟨_, rfl, _, rfl, _, _, rfl, vals_lq (n := 2) (dok s1d) (cut_sub _ _ ed') ((s3b.trans sbd) _ _ edu), fun He se => ⟨_, rfl, iteF ?_⟩⟩
      have s1e := s1d.trans se
      refine ⟨_, rfl, _, rfl, _, _, rfl, vals_lq (n := 2) (fun x hx => (M.eo x hx).same s1e) ((sd.trans se) _ _ ec) (s1e _ _ M.he), fun Hf sf => ⟨_, rfl, iteF ?_⟩⟩
      have scf := (sd.trans se).trans sf
      have sbf := Tc.trans scf
      have rtf := scf _ _ ec
      refine ⟨_, rfl, .inl ⟨rfl, _, SqL.of rtf⟩, _, rfl, rt, _, _, rfl, rfl, rtf, (by rw [sizeLine_eq]; omega), ?_⟩
      have kg : Kq Hb (cut Hc Hf) (upd Hf rt (.lst (es ++ [v]))) := (⟨sbf, cut_sub⟩ : Kq Hb (cut Hc Hf) Hf).put hrt (cut_none ec)
      generalize upd Hf rt (.lst (es ++ [v])) = Hg at *
      have fog : Hg fo' = some (.lst (dueV es t.2.length v)) := kg.b _ _ (cut_up (se.trans sf) _ _ ed')
      have f0b := s6b _ _ (cut_sub _ _ e6')
      have f0g := kg.a _ _ f0b
      have frg := kg.a _ _ (s8b _ _ e8)
      have f1g := kg.a _ _ ((T8.trans s8b) _ _ (cut_sub _ _ e7'))
      refine ⟨_, rfl, fr, _, 0, .ref f0, rfl, rfl, SqL.of frg, rfl, .inl ⟨rfl, _, SqL.of f0g⟩, _, rfl, f0, _, _, rfl, rfl, f0g, (by rw [List.length_replicate, sizeLine_eq]; omega), ?_⟩
      have nfr : fr ≠ f0 := fun z => by rw [z, s7 _ _ (cut_sub _ _ e6')] at hfr; cases hfr
      have nf1 : f1 ≠ f0 := fun z => by have := cut_new e7'; rw [z, cut_sub _ _ e6'] at this; cases this
      have nfo : fo' ≠ f0 := fun z => by have := cut_new ed'; rw [z, Tc _ _ f0b] at this; cases this
      have s5h : Same H5 (upd Hg f0 (.lst (List.replicate t.2.length v ++ [v]))) := ((s6.trans s6b).trans kg.a).put (cut_new e6')
      have frh := (upd_ne (H := Hg) (o := .lst (List.replicate t.2.length v ++ [v])) nfr).trans frg
      have f1h := (upd_ne (H := Hg) (o := .lst (List.replicate t.2.length v ++ [v])) nf1).trans f1g
      have foh := (upd_ne (H := Hg) (o := .lst (List.replicate t.2.length v ++ [v])) nfo).trans fog
      generalize upd Hg f0 (.lst (List.replicate t.2.length v ++ [v])) = Hh at *
      have s1h := s15.trans s5h
      have s3h := s35.trans s5h
      refine ⟨_, rfl, _, rfl, _, _, rfl, vals_lq (n := 2) (dok s1h) foh (s3h _ _ edu), fun Hi si => ⟨_, rfl, iteF ?_⟩⟩
      refine ⟨_, rfl, fr, _, 1, .ref f1, rfl, rfl, SqL.of (si _ _ frh), rfl, _, rfl, (show 1 ≤ sizeLine by decide), fun q1 r1 => ⟨_, rfl, q1, _, _, rfl, rfl, upd_same, (by omega), (by omega), (by show 1 * (t.2.length : Int).toNat ≤ sizeLine; rw [sizeLine_eq]; omega), fun q2 r2 => ?_⟩⟩
      rw [Int.toNat_natCast, rep1] at *
      have V1 := (Same.upd (o := .lst [v]) r1).trans (Same.upd (o := .lst (List.replicate t.2.length v)) r2)
      have y2 := upd_same (H := upd Hi q1 (.lst [v])) (a := q2) (o := .lst (List.replicate t.2.length v))
      generalize upd (upd Hi q1 (.lst [v])) q2 (.lst (List.replicate t.2.length v)) = Hj at *
      have shj := si.trans V1
      have s1j := s1h.trans shj
      refine ⟨_, _, rfl, vals_lq (n := 2) (rok s1j) (shj _ _ f1h) y2, fun Hk sk => ⟨_, rfl, iteF ?_⟩⟩
      have shk := shj.trans sk
      have s1k := s1h.trans shk
      have Mk' := M.same s1k
      have s5k := s5h.trans shk
      refine ⟨_, rfl, _, rfl, _, rfl, cl, _, 0, .str c, rfl, rfl, atc s1k, at0, _, rfl, p, du, pc, i, t, c, _, rfl, Mk'.hp, Mk'.ok.ok Mk'.nd Mk'.le, Mk'.ht, (s35.trans s5k) _ _ edu, due_len, fun md Hl sl dl => ?_⟩
      have s1l := s1k.trans sl
      have Ml := M.same s1l
      have s5l := s5k.trans sl
      refine ⟨_, rfl, _, rfl, _, rfl, _, rfl, _, rfl, _, rfl, mv, p, md, fo', _, _, pc, i, t, c, v, dueV es t.2.length v, rfl, pu5.same s5l, Ml.hp, (dl.same cut_sub).d.pc, (shk.trans sl) _ _ foh, Ml.nd, Ml.le, Ml.ok, Ml.row, Ml.ht, due_len, dok s1l, fun Hm sm => ⟨_, rfl, iteF ?_⟩⟩
      have em := (s5l.trans sm) _ _ em5
      refine ⟨_, rfl, mv, dx5, _, rfl, em, pfs_no (.inr (.inr (.inr rfl))), _, rfl, _, rfl, _, _, _, _, rfl, _, rfl, mv, dx5, _, rfl, em, pfs_no (.inr (.inr (.inr rfl))), _, rfl, _, rfl, _, _, _, _, rfl, (show 2 ≤ sizeLine by decide), fun z1 w1 => ⟨(show 2 ≤ sizeLine by decide), fun z2 w2' => ⟨_, _, rfl, vals_lq (n := 2) (ws := [.non, .non]) (fun x hx => .inl ?_) ((Same.upd w2') _ _ upd_same) upd_same, fun Hn sn => fun u tk _ => q Hn u tk⟩⟩⟩
      have hx' : x = .non := by simpa using hx
      rw [hx']
      rfl
end
end My

namespace L2
open PySem PySem.Spec PyProof.Rows
/-- a method of a class, as the top has made it -/
def MethIn (K : PySem.W.Frag) (C : Addr) (m qual : Str) (st : Stmt) : Prop := ∃ f fd, Fun K m qual st f fd ∧ Meth K C m f
theorem methIn_mk {K : PySem.W.Frag} {C f : Addr} {m qual : Str} {st : Stmt} {oc : Value} {od an : Option Addr} {osl : Array (Option Value)} {kV doc pm cdv ct : Value} (a : PySem.W.findIn K (.ref C) m = some (some (.ref f))) (i : PySem.W.isFn K (.ref f) = true)
    (l : K.lookup f = some ⟨oc, od, .func (PySem.W.fnOf m qual (defArgs st) (defBody st) (defScope st) .none kV doc pm an cdv ct), osl⟩) (c : PySem.W.codeIn K cdv qual = true) (k : PySem.W.keepIn K (.ref f) = true) : MethIn K C m qual st :=
  ⟨f, _, fun_mk l c k, ⟨a, i, k⟩⟩
end L2
namespace My
open PySem L2
theorem all_mk {l : PySem.W.OpenLaw} {w : World} {K : PySem.W.Frag} {h : Heap} {mg : Str → Option Value} {fa CM fA fB fO : Addr} {tk : Tok} {ocA dVA kVA docA pmA cdA ctA ocB dVB kVB docB pmB cdB ctB ocO dVO kVO docO pmO cdO ctO : Value} {odA anA odB anB odO anO : Option Addr} {slA slB slO : Array (Option Value)} (X : K.In h) (G : h.Ns mainGlobals mg) (hfa : mg "law" = some (.ref fa))
    (aM : PySem.W.nsIn K mainGlobals "Put" = some (some (.ref CM)))
    (pg : PySem.W.plainGet K CM Str.empty = true)
    (hd : PySem.W.hasDictIn K CM = true)
    (po : PySem.W.plainOver K CM = true)
    (psa : PySem.W.findIn K (.ref CM) "__setattr__" = some (some (.builtin "object.__setattr__")))
    (mk : PySem.W.makesIn K CM = true)
    (kc : PySem.W.keepIn K (.ref CM) = true)
    (nT : PySem.W.findIn K (.ref CM) "table" = some none)
    (nC : PySem.W.findIn K (.ref CM) "column" = some none)
    (nK : PySem.W.findIn K (.ref CM) "kind" = some none)
    (nV : PySem.W.findIn K (.ref CM) "value" = some none)
    (nO : PySem.W.findIn K (.ref CM) "told" = some none)
    (iA : PySem.W.findIn K (.ref CM) "left" = some (some (.ref fA)))
    (jA : PySem.W.isFn K (.ref fA) = true)
    (lA : K.lookup fA = some ⟨ocA, odA, .func (PySem.W.fnOf "left" "Put.left" (defArgs (pu 6)) (defBody (pu 6)) (defScope (pu 6)) dVA kVA docA pmA anA cdA ctA), slA⟩)
    (cA : PySem.W.codeIn K cdA "Put.left" = true)
    (kA : PySem.W.keepIn K (.ref fA) = true)
    (pA : ∀ (u v x y : Value) (S : Setting), PySem.W.peek K S (bindArgs (PySem.W.fnOf "left" "Put.left" (defArgs (pu 6)) (defBody (pu 6)) (defScope (pu 6)) dVA kVA docA pmA anA cdA ctA) ⟨[u, v, x, y], []⟩) = some ([("self", u), ("form", v), ("piece", x), ("rest", y)] : List (Str × Value)))
    (qA : ∀ (u v x : Value) (S : Setting), PySem.W.peek K S (bindArgs (PySem.W.fnOf "left" "Put.left" (defArgs (pu 6)) (defBody (pu 6)) (defScope (pu 6)) dVA kVA docA pmA anA cdA ctA) ⟨[u, v, x], []⟩) = some ([("self", u), ("form", v), ("piece", x), ("rest", .none)] : List (Str × Value)))
    (iB : PySem.W.findIn K (.ref CM) "right" = some (some (.ref fB)))
    (jB : PySem.W.isFn K (.ref fB) = true)
    (lB : K.lookup fB = some ⟨ocB, odB, .func (PySem.W.fnOf "right" "Move.right" (defArgs (inClass (top 4) 5)) (defBody (inClass (top 4) 5)) (defScope (inClass (top 4) 5)) dVB kVB docB pmB anB cdB ctB), slB⟩)
    (cB : PySem.W.codeIn K cdB "Move.right" = true)
    (kB : PySem.W.keepIn K (.ref fB) = true)
    (pB : ∀ (u v x y : Value) (S : Setting), PySem.W.peek K S (bindArgs (PySem.W.fnOf "right" "Move.right" (defArgs (inClass (top 4) 5)) (defBody (inClass (top 4) 5)) (defScope (inClass (top 4) 5)) dVB kVB docB pmB anB cdB ctB) ⟨[u, v, x, y], []⟩) = some ([("self", u), ("form", v), ("piece", x), ("rest", y)] : List (Str × Value)))
    (qB : ∀ (u v x : Value) (S : Setting), PySem.W.peek K S (bindArgs (PySem.W.fnOf "right" "Move.right" (defArgs (inClass (top 4) 5)) (defBody (inClass (top 4) 5)) (defScope (inClass (top 4) 5)) dVB kVB docB pmB anB cdB ctB) ⟨[u, v, x], []⟩) = some ([("self", u), ("form", v), ("piece", x), ("rest", .none)] : List (Str × Value)))
    (iO : PySem.W.nsIn K mainGlobals "owned" = some (some (.ref fO)))
    (lO : K.lookup fO = some ⟨ocO, odO, .func (PySem.W.fnOf "owned" "owned" (defArgs (top 11)) (defBody (top 11)) (defScope (top 11)) dVO kVO docO pmO anO cdO ctO), slO⟩)
    (cO : PySem.W.codeIn K cdO "owned" = true)
    (kO : PySem.W.keepIn K (.ref fO) = true)
    (pO : ∀ (u v : Value) (S : Setting), PySem.W.peek K S (bindArgs (PySem.W.fnOf "owned" "owned" (defArgs (top 11)) (defBody (top 11)) (defScope (top 11)) dVO kVO docO pmO anO cdO ctO) ⟨[u, v], []⟩) = some ([("thing", u), ("depth", v)] : List (Str × Value)))
    (qO : ∀ (u : Value) (S : Setting), PySem.W.peek K S (bindArgs (PySem.W.fnOf "owned" "owned" (defArgs (top 11)) (defBody (top 11)) (defScope (top 11)) dVO kVO docO pmO anO cdO ctO) ⟨[u], []⟩) = some ([("thing", u), ("depth", .int 20 tk)] : List (Str × Value)))
    (h0 : MethIn K CM "__init__" "Put.__init__" (pu 0))
    (h4 : MethIn K CM "forth" "Put.forth" (pu 4))
    (h5 : MethIn K CM "back" "Put.back" (pu 5))
    (d2 : DefIn K "copied" (top 2))
    (d6 : DefIn K "with_rows" (top 6))
    (d7 : DefIn K "with_values" (top 7))
    (d8 : DefIn K "values_in" (top 8))
    (d9 : DefIn K "without_column" (top 9))
    (d10 : DefIn K "at_place" (top 10))
    (d13 : DefIn K "_law_cell" (top 13))
    (d14 : DefIn K "_law_mix" (top 14))
    (d15 : DefIn K "_law_same" (top 15))
    (d16 : DefIn K "_law_each" (top 16))
    (d17 : DefIn K "_law_names" (top 17))
    (d18 : DefIn K "_law_sign" (top 18))
    (d19 : DefIn K "_law_text" (top 19))
    (d20 : DefIn K "_law_plain_value" (top 20))
    (d21 : DefIn K "_law_value" (top 21))
    (d22 : DefIn K "_law_plain" (top 22))
    (d23 : DefIn K "_law_kind" (top 23))
    (d24 : DefIn K "_law_tables" (top 24))
    (d25 : DefIn K "_law_form" (top 25))
    (d26 : DefIn K "_law_with" (top 26))
    (d27 : DefIn K "_law_ground" (top 27))
    (d28 : DefIn K "_law_row" (top 28))
    (d29 : DefIn K "_law_piece" (top 29))
    (d30 : DefIn K "_law_copy" (top 30))
    (d31 : DefIn K "_law_pair" (top 31))
    (d32 : DefIn K "_law_sort" (top 32))
    (d33 : DefIn K "_law_put_kind" (top 33))
    (d34 : DefIn K "_law_rest_size" (top 34))
    (d35 : DefIn K "_law_new_piece" (top 35))
    (d36 : DefIn K "_law_blotted" (top 36))
    (d37 : DefIn K "_law_led" (top 37))
    (d38 : DefIn K "law" (top 38))
    (zb : BlK K) (zz : PySem.W.nsIn K mainGlobals "zip" = some none) (zm : PySem.W.nsIn K mainGlobals "min" = some none) :
    ∃ fd : FuncData, (∀ (s : Shared) (v : Value), BindsTo s fd ⟨[v], []⟩ [("_law_script", v)]) ∧ ∀ base : Heap, K.In base → base.Ns mainGlobals mg → FnOk l.prog w K mg base CX0 12 fa fd ["_law_script"] (spLaw K) := by
  have B : Bl mg := zb.bl X G
  have hz : mg "zip" = none := PySem.W.mg_none_of X G zz
  have hM : mg "min" = none := PySem.W.mg_none_of X G zm
  have L6 := funX_mk (st := pu 6) lA cA kA
  have LR := funX_mk (st := inClass (top 4) 5) lB cB kB
  have LO := funX_mk (st := top 11) lO cO kO
  have mO : mg "owned" = some (.ref fO) := PySem.W.mg_of X G iO
  have bA0 : Binds K (PySem.W.fnOf "left" "Put.left" (defArgs (pu 6)) (defBody (pu 6)) (defScope (pu 6)) dVA kVA docA pmA anA cdA ctA) ["self", "form", "piece", "rest"] [] := fun s us kin hl => by
    have h1 : us.length = 4 := by simpa using hl
    match us, h1 with
    | [u, v, x, y], _ => exact PySem.W.kp_binds kin (pA u v x y)
  have bA1 : Binds K (PySem.W.fnOf "left" "Put.left" (defArgs (pu 6)) (defBody (pu 6)) (defScope (pu 6)) dVA kVA docA pmA anA cdA ctA) ["self", "form", "piece", "rest"] [.none] := fun s us kin hl => by
    have h1 : us.length = 3 := by simpa using hl
    match us, h1 with
    | [u, v, x], _ => exact PySem.W.kp_binds kin (qA u v x)
  have bB0 : Binds K (PySem.W.fnOf "right" "Move.right" (defArgs (inClass (top 4) 5)) (defBody (inClass (top 4) 5)) (defScope (inClass (top 4) 5)) dVB kVB docB pmB anB cdB ctB) ["self", "form", "piece", "rest"] [] := fun s us kin hl => by
    have h1 : us.length = 4 := by simpa using hl
    match us, h1 with
    | [u, v, x, y], _ => exact PySem.W.kp_binds kin (pB u v x y)
  have bB1 : Binds K (PySem.W.fnOf "right" "Move.right" (defArgs (inClass (top 4) 5)) (defBody (inClass (top 4) 5)) (defScope (inClass (top 4) 5)) dVB kVB docB pmB anB cdB ctB) ["self", "form", "piece", "rest"] [.none] := fun s us kin hl => by
    have h1 : us.length = 3 := by simpa using hl
    match us, h1 with
    | [u, v, x], _ => exact PySem.W.kp_binds kin (qB u v x)
  have bO0 : Binds K (PySem.W.fnOf "owned" "owned" (defArgs (top 11)) (defBody (top 11)) (defScope (top 11)) dVO kVO docO pmO anO cdO ctO) ["thing", "depth"] [] := fun s us kin hl => by
    have h1 : us.length = 2 := by simpa using hl
    match us, h1 with
    | [u, v], _ => exact PySem.W.kp_binds kin (pO u v)
  have bO1 : Binds K (PySem.W.fnOf "owned" "owned" (defArgs (top 11)) (defBody (top 11)) (defScope (top 11)) dVO kVO docO pmO anO cdO ctO) ["thing", "depth"] [.int 20 tk] := fun s us kin hl => by
    have h1 : us.length = 1 := by simpa using hl
    match us, h1 with
    | [u], _ => exact PySem.W.kp_binds kin (qO u)
  have M6 : Meth K CM "left" fA := ⟨iA, jA, kA⟩
  have MR : Meth K CM "right" fB := ⟨iB, jB, kB⟩
  have L : ClU K CM := ⟨⟨pg, hd, po, psa⟩, nT, nC, nK, nV, nO⟩
  obtain ⟨g0, gd0, F0, M0⟩ := h0
  obtain ⟨g4, gd4, F4, M4⟩ := h4
  obtain ⟨g5, gd5, F5, M5⟩ := h5
  have b0 := F0.binds (ps := ["self", "table", "column", "kind", "value"]) fun _ _ _ _ _ _ us hl => match us, hl with | [_, _, _, _, _], _ => rfl
  have b4 := F4.binds (ps := ["self", "form", "piece", "rest"]) fun _ _ _ _ _ _ us hl => by obtain ⟨v0, v1, v2, v3, rfl⟩ := L2.ln4 hl; rfl
  have b5 := F5.binds (ps := ["self", "form", "piece", "rest"]) fun _ _ _ _ _ _ us hl => by obtain ⟨v0, v1, v2, v3, rfl⟩ := L2.ln4 hl; rfl
  obtain ⟨f2, fd2, D2⟩ := d2.df X G
  obtain ⟨f6, fd6, D6⟩ := d6.df X G
  obtain ⟨f7, fd7, D7⟩ := d7.df X G
  obtain ⟨f8, fd8, D8⟩ := d8.df X G
  obtain ⟨f9, fd9, D9⟩ := d9.df X G
  obtain ⟨f10, fd10, D10⟩ := d10.df X G
  obtain ⟨f13, fd13, D13⟩ := d13.df X G
  obtain ⟨f14, fd14, D14⟩ := d14.df X G
  obtain ⟨f15, fd15, D15⟩ := d15.df X G
  obtain ⟨f16, fd16, D16⟩ := d16.df X G
  obtain ⟨f17, fd17, D17⟩ := d17.df X G
  obtain ⟨f18, fd18, D18⟩ := d18.df X G
  obtain ⟨f19, fd19, D19⟩ := d19.df X G
  obtain ⟨f20, fd20, D20⟩ := d20.df X G
  obtain ⟨f21, fd21, D21⟩ := d21.df X G
  obtain ⟨f22, fd22, D22⟩ := d22.df X G
  obtain ⟨f23, fd23, D23⟩ := d23.df X G
  obtain ⟨f24, fd24, D24⟩ := d24.df X G
  obtain ⟨f25, fd25, D25⟩ := d25.df X G
  obtain ⟨f26, fd26, D26⟩ := d26.df X G
  obtain ⟨f27, fd27, D27⟩ := d27.df X G
  obtain ⟨f28, fd28, D28⟩ := d28.df X G
  obtain ⟨f29, fd29, D29⟩ := d29.df X G
  obtain ⟨f30, fd30, D30⟩ := d30.df X G
  obtain ⟨f31, fd31, D31⟩ := d31.df X G
  obtain ⟨f32, fd32, D32⟩ := d32.df X G
  obtain ⟨f33, fd33, D33⟩ := d33.df X G
  obtain ⟨f34, fd34, D34⟩ := d34.df X G
  obtain ⟨f35, fd35, D35⟩ := d35.df X G
  obtain ⟨f36, fd36, D36⟩ := d36.df X G
  obtain ⟨f37, fd37, D37⟩ := d37.df X G
  obtain ⟨f, oc, od, kV, doc, pm, an, cdv, ct, osl, a, lk, c, k⟩ := d38
  have e := hfa.symm.trans (PySem.W.mg_of X G a)
  cases e
  refine ⟨PySem.W.fnOf "law" "law" (defArgs (top 38)) (defBody (top 38)) (defScope (top 38)) .none kV doc pm an cdv ct, fun s v => .of_eq rfl, fun base _ _ => ?_⟩
  have GS := (ok_both (P := l.prog) (w := w) (base := base) D15 D16 B hz 4).1
  have eF : Me l.prog w K mg base CM "forth" ["self", "form", "piece", "rest"] [] 3 (spPf CM) := ⟨_, _, M4, ok_pf F4 B L hz D7 D2, b4⟩
  have eB : Me l.prog w K mg base CM "back" ["self", "form", "piece", "rest"] [] 3 (spPb CM) := ⟨_, _, M5, ok_pb F5 B L D6 D2 D9 D8, b5⟩
  exact FnOkW.plain (ok_law (fun_mk lk c k) B hM D27 D17 D24 D23 D22 D21 D20 D14 D19 D18 D25 D29 D28 D13 D33 D32 D34 D26 D35 D37 D15 GS (ok_np D35.fn B D30) (ok_led D37.fn B L D30 D15 D31 D36 GS eF eB) (PySem.W.mg_of X G aM) ⟨mk, M0.at_, M0.fn, kc⟩ (ok_puI F0 L mO kO (ok_ow LO B mO bO0 3) bO1) b0 L
    ⟨_, _, M6, ok_pl L6 B L D10, bA0⟩ ⟨_, _, M6, ok_pl L6 B L D10, bA1⟩ ⟨_, _, MR, ok_right LR, bB0⟩ ⟨_, _, MR, ok_right LR, bB1⟩) (fun vs H Q ⟨a, ns, h1, h2, h3, h4⟩ => ⟨a, ns, h1, h2, h3, fun H' _ _ => h4 H'⟩)
end My

namespace PySem.W.Fast
def tw1374955956709625834 : Unit := ()
def tw17280708609635547946 : Unit := ()
def tw6303134899105040214 : Unit := ()
def tw5833811931417070524 : Unit := ()
def tw4120114532322927535 : Unit := ()
def tw4823271490500744971 : Unit := ()
def tw15044681650843680875 : Unit := ()
def tw11555719772991652008 : Unit := ()
def tw9579303852597051913 : Unit := ()
def tw10189901779092020713 : Unit := ()
def tw1621438057467368582 : Unit := ()
def tw13667778844596759977 : Unit := ()
def tw9198801284548738254 : Unit := ()
def tw11335026242977743516 : Unit := ()
def tw10528426196292167304 : Unit := ()
def tw6437103654796248030 : Unit := ()
def tw8612252331057741169 : Unit := ()
def tw3027905275321972915 : Unit := ()
def tw9957702466589242013 : Unit := ()
def tw1074120333765972639 : Unit := ()
def tw1851368857785233406 : Unit := ()
def tw6625242141272033900 : Unit := ()
def tw8582207016797332052 : Unit := ()
def tw18107047126125566049 : Unit := ()
def tw16233255861390439730 : Unit := ()
def tw8352980274708673769 : Unit := ()
def tw5234284136977977482 : Unit := ()
def tw14628591030999345859 : Unit := ()
def tw14308603824093879719 : Unit := ()
def tw2964347186780362546 : Unit := ()
def tw17690886450911435682 : Unit := ()
def tw848918810610699041 : Unit := ()
def tw8648336469115622227 : Unit := ()
def tw13804214942114818981 : Unit := ()
def tw5308652123009757318 : Unit := ()
def tw15575619327086791628 : Unit := ()
end PySem.W.Fast
open PySem PySem.W PyProof.Rows
set_option maxRecDepth 100000 in
set_option maxHeartbeats 0 in
theorem PySem.Challenge.cw_halfmoved_k23_a_column_put_into_pieces_holds : PySem.Challenge.rw_halfmoved_k23_a_column_put_into_pieces.Holds := by
  w_on; o_law; k_head; (case hw => w_witness2)
  k_fill
  refine My.walk 12 (l := PySem.Challenge.rw_halfmoved_k23_a_column_put_into_pieces) ⟨rfl, by decide, by decide⟩ rfl rfl (fun w h Y => PySem.W.kIn_of Y) ?F
  case F =>
    intro w mg fa h KX G hmg
    refine' My.all_mk KX G hmg ?aM ?pg ?hd ?po ?psa ?mk ?kc ?nT ?nC ?nK ?nV ?nO ?iA ?jA ?lA ?cA ?kA ?pA ?qA ?iB ?jB ?lB ?cB ?kB ?pB ?qB ?iO ?lO ?cO ?kO ?pO ?qO ?h0 ?h4 ?h5 ?d2 ?d6 ?d7 ?d8 ?d9 ?d10 ?d13 ?d14 ?d15 ?d16 ?d17 ?d18 ?d19 ?d20 ?d21 ?d22 ?d23 ?d24 ?d25 ?d26 ?d27 ?d28 ?d29 ?d30 ?d31 ?d32 ?d33 ?d34 ?d35 ?d36 ?d37 ?d38 ?zb ?zz ?zm
    (case aM => k_is)
    (case pg => k_is)
    (case hd => k_is)
    (case po => k_is)
    (case psa => k_is)
    (case mk => k_is)
    (case kc => k_is)
    (case nT => k_is)
    (case nC => k_is)
    (case nK => k_is)
    (case nV => k_is)
    (case nO => k_is)
    (case iA => k_is)
    (case jA => k_is)
    (case lA => k_is)
    (case cA => k_is)
    (case kA => k_is)
    (case pA => intro u v x y S; rfl)
    (case qA => intro u v x S; rfl)
    (case iB => k_is)
    (case jB => k_is)
    (case lB => k_is)
    (case cB => k_is)
    (case kB => k_is)
    (case pB => intro u v x y S; rfl)
    (case qB => intro u v x S; rfl)
    (case iO => k_is)
    (case lO => k_is)
    (case cO => k_is)
    (case kO => k_is)
    (case pO => intro u v S; rfl)
    (case qO => intro u S; rfl)
    (case h0 => refine' L2.methIn_mk ?a ?i ?l ?c ?k; (case a => k_is); (case i => k_is); (case l => k_is); (case c => k_is); (case k => k_is))
    (case h4 => refine' L2.methIn_mk ?a ?i ?l ?c ?k; (case a => k_is); (case i => k_is); (case l => k_is); (case c => k_is); (case k => k_is))
    (case h5 => refine' L2.methIn_mk ?a ?i ?l ?c ?k; (case a => k_is); (case i => k_is); (case l => k_is); (case c => k_is); (case k => k_is))
    (case d2 => refine' L2.defIn_mk ?a ?l ?c ?k; (case a => k_is); (case l => k_is); (case c => k_is); (case k => k_is))
    (case d6 => refine' L2.defIn_mk ?a ?l ?c ?k; (case a => k_is); (case l => k_is); (case c => k_is); (case k => k_is))
    (case d7 => refine' L2.defIn_mk ?a ?l ?c ?k; (case a => k_is); (case l => k_is); (case c => k_is); (case k => k_is))
    (case d8 => refine' L2.defIn_mk ?a ?l ?c ?k; (case a => k_is); (case l => k_is); (case c => k_is); (case k => k_is))
    (case d9 => refine' L2.defIn_mk ?a ?l ?c ?k; (case a => k_is); (case l => k_is); (case c => k_is); (case k => k_is))
    (case d10 => refine' L2.defIn_mk ?a ?l ?c ?k; (case a => k_is); (case l => k_is); (case c => k_is); (case k => k_is))
    (case d13 => refine' L2.defIn_mk ?a ?l ?c ?k; (case a => k_is); (case l => k_is); (case c => k_is); (case k => k_is))
    (case d14 => refine' L2.defIn_mk ?a ?l ?c ?k; (case a => k_is); (case l => k_is); (case c => k_is); (case k => k_is))
    (case d15 => refine' L2.defIn_mk ?a ?l ?c ?k; (case a => k_is); (case l => k_is); (case c => k_is); (case k => k_is))
    (case d16 => refine' L2.defIn_mk ?a ?l ?c ?k; (case a => k_is); (case l => k_is); (case c => k_is); (case k => k_is))
    (case d17 => refine' L2.defIn_mk ?a ?l ?c ?k; (case a => k_is); (case l => k_is); (case c => k_is); (case k => k_is))
    (case d18 => refine' L2.defIn_mk ?a ?l ?c ?k; (case a => k_is); (case l => k_is); (case c => k_is); (case k => k_is))
    (case d19 => refine' L2.defIn_mk ?a ?l ?c ?k; (case a => k_is); (case l => k_is); (case c => k_is); (case k => k_is))
    (case d20 => refine' L2.defIn_mk ?a ?l ?c ?k; (case a => k_is); (case l => k_is); (case c => k_is); (case k => k_is))
    (case d21 => refine' L2.defIn_mk ?a ?l ?c ?k; (case a => k_is); (case l => k_is); (case c => k_is); (case k => k_is))
    (case d22 => refine' L2.defIn_mk ?a ?l ?c ?k; (case a => k_is); (case l => k_is); (case c => k_is); (case k => k_is))
    (case d23 => refine' L2.defIn_mk ?a ?l ?c ?k; (case a => k_is); (case l => k_is); (case c => k_is); (case k => k_is))
    (case d24 => refine' L2.defIn_mk ?a ?l ?c ?k; (case a => k_is); (case l => k_is); (case c => k_is); (case k => k_is))
    (case d25 => refine' L2.defIn_mk ?a ?l ?c ?k; (case a => k_is); (case l => k_is); (case c => k_is); (case k => k_is))
    (case d26 => refine' L2.defIn_mk ?a ?l ?c ?k; (case a => k_is); (case l => k_is); (case c => k_is); (case k => k_is))
    (case d27 => refine' L2.defIn_mk ?a ?l ?c ?k; (case a => k_is); (case l => k_is); (case c => k_is); (case k => k_is))
    (case d28 => refine' L2.defIn_mk ?a ?l ?c ?k; (case a => k_is); (case l => k_is); (case c => k_is); (case k => k_is))
    (case d29 => refine' L2.defIn_mk ?a ?l ?c ?k; (case a => k_is); (case l => k_is); (case c => k_is); (case k => k_is))
    (case d30 => refine' L2.defIn_mk ?a ?l ?c ?k; (case a => k_is); (case l => k_is); (case c => k_is); (case k => k_is))
    (case d31 => refine' L2.defIn_mk ?a ?l ?c ?k; (case a => k_is); (case l => k_is); (case c => k_is); (case k => k_is))
    (case d32 => refine' L2.defIn_mk ?a ?l ?c ?k; (case a => k_is); (case l => k_is); (case c => k_is); (case k => k_is))
    (case d33 => refine' L2.defIn_mk ?a ?l ?c ?k; (case a => k_is); (case l => k_is); (case c => k_is); (case k => k_is))
    (case d34 => refine' L2.defIn_mk ?a ?l ?c ?k; (case a => k_is); (case l => k_is); (case c => k_is); (case k => k_is))
    (case d35 => refine' L2.defIn_mk ?a ?l ?c ?k; (case a => k_is); (case l => k_is); (case c => k_is); (case k => k_is))
    (case d36 => refine' L2.defIn_mk ?a ?l ?c ?k; (case a => k_is); (case l => k_is); (case c => k_is); (case k => k_is))
    (case d37 => refine' L2.defIn_mk ?a ?l ?c ?k; (case a => k_is); (case l => k_is); (case c => k_is); (case k => k_is))
    (case d38 => refine' L2.defIn_mk ?a ?l ?c ?k; (case a => k_is); (case l => k_is); (case c => k_is); (case k => k_is))
    (case zb => refine' My.BlK.mk ?b0 ?b1 ?b2 ?b3 ?b4 ?b5 ?b6 ?b7 ?b8 ?b9 ?b10 ?b11 ?b12 ?b13 ?b14 ?b15; (case b0 => k_is); (case b1 => k_is); (case b2 => k_is); (case b3 => k_is); (case b4 => k_is); (case b5 => k_is); (case b6 => k_is); (case b7 => k_is); (case b8 => k_is); (case b9 => k_is); (case b10 => k_is); (case b11 => k_is); (case b12 => k_is); (case b13 => k_is); (case b14 => k_is); (case b15 => k_is))
    (case zz => k_is)
    (case zm => k_is)
#print axioms PySem.Challenge.cw_halfmoved_k23_a_column_put_into_pieces_holds

