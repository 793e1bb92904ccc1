import PyProof.Rows.All
import Wide.All
import OpenK.AllK
import Wide.FinOn
import Lean
import PyProof.EqAt
import PyProof.EqKinds
import PyProof.TupleCall
import KE.KDictSum
import PyProof.EnumMake
import PyProof.EnumStmt
import PyProof.StationsW
import PyProof.RulesTry
import PyProof.InstStoreFacts
import PyProof.ExcBaseAll.ValueError
import PyProof.ExcAttrAll.ValueError
import PyProof.NsDelKeeps
import PyProof.ZipIter
import PyProof.TupleIter
import PyProof.ListRange
import KE.KPar
import KE.KSortTup
import PyProof.NeKinds
import PyProof.AttrMissSeq
import KE.KDictOf
import KE.KItemsList
import KE.KLam
import KE.KNestM
import KE.KSortKey
import PyProof.StrBlock
import PyProof.StrBlockL
import PyProof.Rows.StrJoin2
import KE.KIntText
import PySem.Challenge.RW_halfmoved_k33_pointers_renumbered
set_option Elab.async false
set_option linter.all false
set_option maxRecDepth 100000
set_option maxHeartbeats 4000000

/-! THE HAND LAYER, for ints, bools, texts, own classes, LISTS and tuples (index, slices, in, append, pop ..), calls, loops. Paste it whole ahead of your own text; what your proof does not reach may be deleted. -/
namespace L2
theorem ln0 {α : Type} {l : List α} (h : l.length = 0) : l = [] := List.eq_nil_of_length_eq_zero h
theorem ln1 {α : Type} {l : List α} (h : l.length = 1) : ∃ a, l = [a] := List.length_eq_one_iff.mp h
theorem ln2 {α : Type} {l : List α} (h : l.length = 2) : ∃ a b, l = [a, b] := by
  cases l with
  | nil => cases h
  | cons a r => obtain ⟨b, rfl⟩ := ln1 (Nat.succ.inj h); exact ⟨a, b, rfl⟩
theorem ln3 {α : Type} {l : List α} (h : l.length = 3) : ∃ a b c, l = [a, b, c] := by
  cases l with
  | nil => cases h
  | cons a r => obtain ⟨b, c, rfl⟩ := ln2 (Nat.succ.inj h); exact ⟨a, b, c, rfl⟩
theorem ln4 {α : Type} {l : List α} (h : l.length = 4) : ∃ a b c d, l = [a, b, c, d] := by
  cases l with
  | nil => cases h
  | cons a r => obtain ⟨b, c, d, rfl⟩ := ln3 (Nat.succ.inj h); exact ⟨a, b, c, d, rfl⟩
end L2
namespace L2
open PySem PySem.Spec PyProof.Rows

/-- a key: an int or a str -/
abbrev Key := Sum Int Str
def keyIs : Key → Value → Bool
  | .inl k, v => Value.isInt k v
  | .inr x, v => Value.isStrOf x v
def keyH (w : World) : Key → Int
  | .inl k => hashInt k
  | .inr x => hashStr w x
theorem keyIs_shape : ∀ {k : Key} {v : Value}, keyIs k v = true → (∃ i t, k = Sum.inl i ∧ v = Value.int i t) ∨ (∃ x t, k = Sum.inr x ∧ v = Value.str x t)
  | .inl i, v, h => by
    obtain ⟨t, e⟩ := Value.isInt_shape (k := i) (v := v) h
    exact .inl ⟨i, t, rfl, e⟩
  | .inr x, v, h => by
    obtain ⟨t, e⟩ := Value.isStrOf_shape (x := x) (v := v) h
    exact .inr ⟨x, t, rfl, e⟩
theorem keyIs_int (i : Int) (t : Tok) : keyIs (.inl i) (.int i t) = true := by simp [keyIs, Value.isInt]
theorem keyIs_str (x : Str) (t : Tok) : keyIs (.inr x) (.str x t) = true := by simp [keyIs, Value.isStrOf]
theorem key_ll (a b : Int) : decide ((Sum.inl a : Key) = Sum.inl b) = (a == b) := by
  by_cases e : a = b
  · subst e; simp
  · have h : ¬ (Sum.inl a : Key) = Sum.inl b := fun q => e (Sum.inl.inj q)
    rw [decide_eq_false h]
    exact (beq_eq_false_iff_ne.mpr e).symm
theorem key_rr (a b : Str) : decide ((Sum.inr a : Key) = Sum.inr b) = decide (a = b) := by
  by_cases e : a = b
  · subst e; simp
  · have h : ¬ (Sum.inr a : Key) = Sum.inr b := fun q => e (Sum.inr.inj q)
    rw [decide_eq_false h, decide_eq_false e]
theorem key_lr (a : Int) (b : Str) : decide ((Sum.inl a : Key) = Sum.inr b) = false := decide_eq_false (fun q => nomatch q)
theorem key_rl (a : Str) (b : Int) : decide ((Sum.inr a : Key) = Sum.inl b) = false := decide_eq_false (fun q => nomatch q)

def mixKind (prog : Program) (w : World) : PySem.KeyKind prog w Key where
  is := keyIs
  hash := keyH w
  inj := fun v a b ha hb => by
    rcases keyIs_shape ha with ⟨i, t, rfl, rfl⟩ | ⟨x, t, rfl, rfl⟩
    · rcases keyIs_shape hb with ⟨j, u, rfl, e⟩ | ⟨y, u, rfl, e⟩
      · injection e with e1 _; rw [e1]
      · exact nomatch e
    · rcases keyIs_shape hb with ⟨j, u, rfl, e⟩ | ⟨y, u, rfl, e⟩
      · exact nomatch e
      · injection e with e1 _; rw [e1]
  byValue := fun k v h => by
    rcases keyIs_shape h with ⟨i, t, rfl, rfl⟩ | ⟨x, t, rfl, rfl⟩ <;> rfl
  pyHash := fun hv h => by
    rcases keyIs_shape hv with ⟨i, t, rfl, rfl⟩ | ⟨x, t, rfl, rfl⟩
    · exact wpAny_pyHash_int h
    · exact wpAny_pyHash_str h
  eqBool := fun hu hv h => by
    rcases keyIs_shape hu with ⟨i, t, rfl, rfl⟩ | ⟨x, t, rfl, rfl⟩
    · rcases keyIs_shape hv with ⟨j, u, rfl, rfl⟩ | ⟨y, u, rfl, rfl⟩
      · rw [key_ll] at h; exact wpAny_eqBool_int h
      · rw [key_lr] at h; exact SeqAt.EqAt.int_str i t y u _ _ _ _ h
    · rcases keyIs_shape hv with ⟨j, u, rfl, rfl⟩ | ⟨y, u, rfl, rfl⟩
      · rw [key_rl] at h; exact SeqAt.EqAt.str_int x t j u _ _ _ _ h
      · rw [key_rr] at h; exact wpAny_eqBool_str h
  «strs» := fun k x t v h => by
    rcases keyIs_shape h with ⟨i, u, rfl, e⟩ | ⟨y, u, rfl, e⟩
    · exact nomatch e
    · injection e with e1 _
      subst e1
      cases v <;> rfl

theorem mixKind_int (prog : Program) (w : World) (i : Int) (t : Tok) : (mixKind prog w).is (.inl i) (.int i t) = true := keyIs_int i t
theorem mixKind_str (prog : Program) (w : World) (x : Str) (t : Tok) : (mixKind prog w).is (.inr x) (.str x t) = true := keyIs_str x t
end L2

namespace L2
open PySem PySem.Spec PyProof.Rows

/-- a value, without the heap -/
inductive V where
  | non | bl (b : Bool) | int (i : Int) | str (x : Str) | byt (b : Array UInt8) | flt (b : UInt64) | ref (a : Addr) | ty (n : String)
  deriving DecidableEq

def RelV : V → Value → Prop
  | .non, u => u = Value.none
  | .bl b, u => u = Value.bool b
  | .int i, u => ∃ t, u = Value.int i t
  | .str x, u => ∃ t, u = Value.str x t
  | .byt b, u => ∃ t, u = Value.bytes b t
  | .flt b, u => ∃ t, u = Value.float b t
  | .ref a, u => u = Value.ref a
  | .ty n, u => u = Value.type n

abbrev Vals : List V → List Value → Prop := Paired RelV
theorem Vals.length {xs : List V} {us : List Value} (r : Vals xs us) : xs.length = us.length := Paired.length r
theorem Vals.get : ∀ {xs : List V} {us : List Value} {i : Nat} {x : V}, Vals xs us → xs[i]? = some x → ∃ u, us[i]? = some u ∧ RelV x u
  | _, _, _, _, .nil, e => by simp at e
  | _, _, 0, _, .cons r _, e => by simp at e; subst e; exact ⟨_, rfl, r⟩
  | _, _, i + 1, x, .cons _ t, e => by
    obtain ⟨u, h1, h2⟩ := Vals.get (i := i) (x := x) t (by simpa using e)
    exact ⟨u, by simpa using h1, h2⟩
theorem Vals.append : ∀ {xs ys : List V} {us ws : List Value}, Vals xs us → Vals ys ws → Vals (xs ++ ys) (us ++ ws)
  | _, _, _, _, .nil, s => s
  | _, _, _, _, .cons r t, s => .cons r (Vals.append t s)
theorem Vals.take : ∀ {xs : List V} {us : List Value} (n : Nat), Vals xs us → Vals (xs.take n) (us.take n)
  | _, _, 0, _ => .nil
  | _, _, _ + 1, .nil => .nil
  | _, _, n + 1, .cons r t => .cons r (Vals.take n t)
theorem Vals.drop : ∀ {xs : List V} {us : List Value} (n : Nat), Vals xs us → Vals (xs.drop n) (us.drop n)
  | _, _, 0, r => r
  | _, _, _ + 1, .nil => .nil
  | _, _, n + 1, .cons _ t => Vals.drop n t
def RelO : Option V → Option Value → Prop
  | some v, some u => RelV v u
  | none, none => True
  | _, _ => False
def KV {κ : Type} : List (κ × V) → List (κ × Value) → Prop := Paired fun (p : κ × V) (q : κ × Value) => p.1 = q.1 ∧ RelV p.2 q.2

/-- a key of a dict (00_mix): an int or a text -/
def kV : Key → V
  | .inl i => .int i
  | .inr x => .str x

/-- what stands at a tracked address -/
inductive HO where
  /-- a list -/
  | lst (xs : List V)
  /-- a tuple (never changes) -/
  | tup (xs : List V)
  /-- a dict whose keys are ints and texts; one whose keys are tuples of ints and texts (the empty one is both) -/
  | dK (kvs : List (Key × V)) | dT (kvs : List (List Key × V))
  /-- a set of ints: its members, its size -/
  | set (S : Int → Bool) (n : Nat)
  /-- an instance of the class at C, its dict at dx, its attributes -/
  | ins (C dx : Addr) (fs : List (Str × V))
  /-- the dict of the instance at x -/
  | own (x : Addr)
  /-- the dict of an exception -/
  | xd (fs : List (Str × V))
  /-- a bound method, f of x -/
  | met (f x : Addr)
  /-- a range object lo, lo + 1, .. below hi -/
  | rng (lo hi : Int)
  /-- a thing that is known to the object (the script; a dict while a loop walks it): read, never written while it is so -/
  | frz (o : Obj) (u : HO)
  /-- a code object's table -/
  | tbl (ps : Array Value)
  /-- any other thing, by what is true of its one object (a def of one's own: SetO a S n := HO.ext fun h => ..) -/
  | ext (φ : Heap → Prop)

abbrev Hp := Addr → Option HO
def upd (H : Hp) (a : Addr) (o : HO) : Hp := fun b => if b = a then some o else H b
theorem upd_same {H : Hp} {a : Addr} {o : HO} : upd H a o a = some o := by unfold upd; rw [if_pos rfl]
theorem upd_ne {H : Hp} {a b : Addr} {o : HO} (h : b ≠ a) : upd H a o b = H b := by unfold upd; rw [if_neg h]
/-- two objects of different content stand apart -/
theorem ne_of {H : Hp} {a b : Addr} {o u : HO} (h : H a = some o) (h' : H b = some u) (d : o ≠ u) : a ≠ b := by
  intro e; subst e; rw [h] at h'; exact d (Option.some.inj h')
theorem ne_of_none {H : Hp} {a b : Addr} {o : HO} (h : H a = some o) (h' : H b = none) : a ≠ b := by
  intro e; subst e; rw [h] at h'; cases h'

section
variable (P : Program) (w : World)
def ObjOk (H : Hp) (h : Heap) (a : Addr) : HO → Prop
  | .lst xs => xs.length ≤ sizeLine ∧ ∃ (its : List Value) (n : Nat), Vals xs its ∧ h.get? a = some { cls := .type "list", data := .seq its.toArray n }
  | .tup xs => xs.length ≤ sizeLine ∧ ∃ its : List Value, Vals xs its ∧ IsTup h a its.toArray
  | .dK kvs => kvs.length ≤ sizeLine ∧ (a == sysModules) = false ∧ ∃ vs, KV kvs vs ∧ h.DictOf (mixKind P w) a vs
  | .dT kvs => kvs.length ≤ sizeLine ∧ (a == sysModules) = false ∧ ∃ xs : List (List Key × Addr × Value),
      Paired (fun (p : List Key × V) (q : List Key × Addr × Value) => p.1 = q.1 ∧ H q.2.1 = some (.tup (p.1.map kV)) ∧ RelV p.2 q.2.2) kvs xs ∧
      ∃ o es ep, h.get? a = some o ∧ o.ExactDict ∧ o.data = .dict es ep ∧ es.toList = xs.map (entryOfKey (tupleKind (mixKind P w))) ∧ (xs.map (·.1)).Nodup
  | .set S n => h.SetOf (intKind P w) a S n
  | .ins C dx fs => H dx = some (.own a) ∧ fs.length ≤ 1000 ∧ dx ≠ a ∧ h.get? a = some (PySem.W.instObj C dx) ∧
      ∃ mA, h.Ns1 dx mA ∧ (∀ f, RelO (fs.lookup f) (mA f)) ∧ PySem.Within mA (fs.map (·.1))
  | .own _ => ∃ o, h.get? a = some o
  | .xd fs => ∃ mA, h.Ns1 a mA ∧ ∀ f, RelO (fs.lookup f) (mA f)
  | .rng lo hi => ∃ t u v, h.get? a = some { cls := .type "range", data := .fields #[.int lo t, .int hi u, .int 1 v] }
  | .frz o u => h.get? a = some o ∧ ObjOk H h a u
  | .tbl ps => h.get? a = some { cls := .none, data := .fields ps }
  | .met f x => h.get? a = some (PySem.W.methodObj (.ref f) (.ref x))
  | .ext φ => φ h ∧ (∃ o, h.get? a = some o) ∧ ∀ h1 h2 : Heap, φ h1 → (∀ o, h1.get? a = some o → h2.get? a = some o) → φ h2
/-- the abstract heap is held -/
def HOk (H : Hp) (h : Heap) : Prop := ∀ a o, H a = some o → ObjOk P w H h a o
end

section
variable {P : Program} {w : World} {H H' : Hp} {h h' : Heap} {a : Addr} {o : HO}
theorem ObjOk.lt (x : ObjOk P w H h a o) : a < h.objs.size := by
  cases o with
  | lst xs => obtain ⟨_, _, _, _, e⟩ := x; exact Heap.lt_size e
  | tup xs => obtain ⟨_, _, _, p⟩ := x; exact p.lt
  | dK kvs => obtain ⟨_, _, _, _, o, _, _, e, _⟩ := x; exact Heap.lt_size e
  | dT kvs => obtain ⟨_, _, _, _, o, _, _, e, _⟩ := x; exact Heap.lt_size e
  | set S n => obtain ⟨o, _, _, _, e, _⟩ := x; exact Heap.lt_size e
  | ins C dx fs => obtain ⟨_, _, _, e, _⟩ := x; exact Heap.lt_size e
  | own y => obtain ⟨_, e⟩ := x; exact Heap.lt_size e
  | xd fs => obtain ⟨_, ⟨_, _, _, e, _⟩, _⟩ := x; exact Heap.lt_size e
  | rng lo hi => obtain ⟨_, _, _, e⟩ := x; exact Heap.lt_size e
  | frz ob u => obtain ⟨e, _⟩ := x; exact Heap.lt_size e
  | tbl ps => exact Heap.lt_size (show h.get? a = some _ from x)
  | met f y => exact Heap.lt_size (show h.get? a = some _ from x)
  | ext φ => obtain ⟨_, ⟨_, e⟩, _⟩ := x; exact Heap.lt_size e
theorem Paired.mapP {α β : Type} {F G : α → β → Prop} : ∀ {l₁ : List α} {l₂ : List β}, Paired F l₁ l₂ → (∀ a b, F a b → G a b) → Paired G l₁ l₂
  | _, _, .nil, _ => .nil
  | _, _, .cons r t, f => .cons (f _ _ r) (Paired.mapP t f)
/-- what an object's description leans on: its own object, its own dict, the tuples -/
theorem ObjOk.stay (x : ObjOk P w H h a o) (k : ∀ b u, (b = a ∨ H b = some (.own a)) → h.get? b = some u → h'.get? b = some u)
    (ho : ∀ b, H b = some (.own a) → H' b = some (.own a)) (ht : ∀ b xs, H b = some (.tup xs) → H' b = some (.tup xs)) : ObjOk P w H' h' a o := by
  induction o with
  | lst xs => obtain ⟨z, its, n, r, e⟩ := x; exact ⟨z, its, n, r, k _ _ (.inl rfl) e⟩
  | tup xs => obtain ⟨z, its, r, ob, e, c⟩ := x; exact ⟨z, its, r, ob, k _ _ (.inl rfl) e, c⟩
  | dK kvs => obtain ⟨z, y, vs, r, ob, es, ep, e, c⟩ := x; exact ⟨z, y, vs, r, ob, es, ep, k _ _ (.inl rfl) e, c⟩
  | dT kvs =>
    obtain ⟨z, y, xs, r, ob, es, ep, e, c⟩ := x
    exact ⟨z, y, xs, Paired.mapP r fun p q z => ⟨z.1, ht _ _ z.2.1, z.2.2⟩, ob, es, ep, k _ _ (.inl rfl) e, c⟩
  | set S n => obtain ⟨ob, es, ep, t, e, c⟩ := x; exact ⟨ob, es, ep, t, k _ _ (.inl rfl) e, c⟩
  | ins C dx fs =>
    obtain ⟨d, z, ne, e, mA, ⟨od, es, ep, e2, c⟩, r⟩ := x
    exact ⟨ho _ d, z, ne, k _ _ (.inl rfl) e, mA, ⟨od, es, ep, k _ _ (.inr d) e2, c⟩, r⟩
  | own y => obtain ⟨ob, e⟩ := x; exact ⟨ob, k _ _ (.inl rfl) e⟩
  | xd fs => obtain ⟨mA, ⟨od, es, ep, e, c⟩, r⟩ := x; exact ⟨mA, ⟨od, es, ep, k _ _ (.inl rfl) e, c⟩, r⟩
  | rng lo hi => obtain ⟨t, u, v, e⟩ := x; exact ⟨t, u, v, k _ _ (.inl rfl) e⟩
  | frz ob u ih => obtain ⟨e, q⟩ := x; exact ⟨k _ _ (.inl rfl) e, ih q⟩
  | tbl ps =>
    have e : h.get? a = some { cls := .none, data := .fields ps } := x
    show h'.get? a = some { cls := .none, data := .fields ps }
    exact k a _ (.inl rfl) e
  | met f y =>
    have e : h.get? a = some (PySem.W.methodObj (.ref f) (.ref y)) := x
    show h'.get? a = some (PySem.W.methodObj (.ref f) (.ref y))
    exact k a _ (.inl rfl) e
  | ext φ => obtain ⟨p, ⟨o, e⟩, st⟩ := x; exact ⟨st _ _ p fun o q => k _ _ (.inl rfl) q, ⟨o, k _ _ (.inl rfl) e⟩, st⟩
theorem HOk.lt (x : HOk P w H h) (e : H a = some o) : a < h.objs.size := (x a o e).lt
theorem HOk.fresh (x : HOk P w H h) (e : h.objs.size ≤ a) : H a = none := by
  cases q : H a with
  | none => rfl
  | some u => exact absurd (Nat.lt_of_lt_of_le (x.lt q) e) (Nat.lt_irrefl _)
/-- every object of the heap is kept -/
theorem HOk.kept (x : HOk P w H h) (k : ∀ b u, h.get? b = some u → h'.get? b = some u) : HOk P w H h' := fun a o e =>
  (x a o e).stay (fun b u _ q => k b u q) (fun _ q => q) fun _ _ q => q
/-- a new object is laid and tracked -/
theorem HOk.laid (x : HOk P w H h) (k : ∀ b u, h.get? b = some u → h'.get? b = some u) (hp : h.objs.size ≤ a) (new : ObjOk P w (upd H a o) h' a o) : HOk P w (upd H a o) h' := fun b u e => by
  have hn := x.fresh hp
  by_cases hb : b = a
  · subst hb; rw [upd_same] at e; cases e; exact new
  · rw [upd_ne hb] at e
    exact (x b u e).stay (fun c v _ q => k c v q) (fun c q => by rw [upd_ne (ne_of_none q hn)]; exact q) fun c xs q => by rw [upd_ne (ne_of_none q hn)]; exact q
end

/-- what may be read as u: it is u, or a known u -/
def Rd (H : Hp) (a : Addr) (u : HO) : Prop := H a = some u ∨ ∃ o, H a = some (.frz o u)
theorem Rd.ok {P : Program} {w : World} {H : Hp} {h : Heap} {a : Addr} {u : HO} (r : Rd H a u) (x : HOk P w H h) : ObjOk P w H h a u := by
  rcases r with r | ⟨o, r⟩
  · exact x a u r
  · obtain ⟨_, q⟩ := x a _ r
    exact q
/-- what may be written -/
def Mut : Option HO → Prop
  | some (.lst _) => True
  | some (.dK _) => True
  | some (.dT _) => True
  | some (.set _ _) => True
  | some (.ins _ _ _) => True
  | some (.ext _) => True
  | _ => False
section
variable {P : Program} {w : World} {H : Hp} {h h' : Heap} {x e : Addr} {o' : HO}
/-- the object at e is changed: x itself, or the dict of the instance x -/
theorem HOk.write (ok : HOk P w H h) (mu : Mut (H x)) (he : e = x ∨ H e = some (.own x)) (k : ∀ b u, b ≠ e → h.get? b = some u → h'.get? b = some u) (heo : ∃ u, h'.get? e = some u)
    (new : ObjOk P w (upd H x o') h' x o') : HOk P w (upd H x o') h' := fun b u q => by
  have nown : ∀ c y, H c = some (.own y) → c ≠ x := fun c y r z => by subst z; rw [r] at mu; exact mu
  have ntup : ∀ c xs, H c = some (.tup xs) → c ≠ x := fun c xs r z => by subst z; rw [r] at mu; exact mu
  by_cases hb : b = x
  · subst hb; rw [upd_same] at q; cases q; exact new
  · rw [upd_ne hb] at q
    by_cases hbe : b = e
    · have q' : H b = some (.own x) := by
        rcases he with z | z
        · exact absurd (hbe.trans z) hb
        · rw [hbe]; exact z
      rw [q] at q'; cases q'
      obtain ⟨v, hv⟩ := heo
      exact ⟨v, by rw [hbe]; exact hv⟩
    · refine (ok b u q).stay (fun c v hc r => k c v ?_ r) (fun c r => by rw [upd_ne (nown c b r)]; exact r) fun c xs r => by rw [upd_ne (ntup c xs r)]; exact r
      rcases hc with rfl | hc
      · exact hbe
      · rintro rfl
        rcases he with z | z
        · exact nown c b hc z
        · rw [hc] at z; cases z; exact hb rfl
end

/-! ### kept unless tracked; of the frames at fs (the callers') the slots may change (an exception that passes writes there); of the records at ex (iterators) nothing is said -/
structure Un (fs ex : List Addr) (H H' : Hp) (h h' : Heap) : Prop where
  keep : ∀ b o, h.get? b = some o → H b = none → b ∉ fs → b ∉ ex → h'.get? b = some o
  slot : ∀ b o, h.get? b = some o → H b = none → b ∈ fs → b ∉ ex → ∃ sl, h'.get? b = some { o with slots := sl }
  free : ∀ b o, h.get? b = some o → H b = none → b ∉ ex → H' b = none
  there : ∀ b o, h.get? b = some o → b ∉ ex → ∃ o', h'.get? b = some o'
  tups : ∀ b xs, H b = some (.tup xs) → H' b = some (.tup xs)
  frzs : ∀ b o u, H b = some (.frz o u) → H' b = some (.frz o u)
  tbls : ∀ b ps, H b = some (.tbl ps) → ∃ more, H' b = some (.tbl (ps ++ more))
section
variable {fs fs' ex ex' : List Addr} {H H1 H2 : Hp} {h h1 h2 h' : Heap} {a x e : Addr} {o : HO}
theorem Un.any (u : Un fs ex H H1 h h1) {b : Addr} {ob : Obj} (q : h.get? b = some ob) (n : H b = none) (hx : b ∉ ex) : ∃ sl, h1.get? b = some { ob with slots := sl } := by
  by_cases hb : b ∈ fs
  · exact u.slot b ob q n hb hx
  · exact ⟨ob.slots, u.keep b ob q n hb hx⟩
theorem Un.kept (k : ∀ b u, h.get? b = some u → h'.get? b = some u) : Un fs ex H H h h' :=
  ⟨fun b ob q _ _ _ => k b ob q, fun b ob q _ _ _ => ⟨ob.slots, k b ob q⟩, fun _ _ _ n _ => n, fun b ob q _ => ⟨ob, k b ob q⟩, fun _ _ q => q, fun _ _ _ q => q, fun _ ps q => ⟨#[], by rw [q]; simp⟩⟩
theorem Un.refl : Un fs ex H H h h := Un.kept fun _ _ q => q
theorem Un.laid (k : ∀ b u, h.get? b = some u → h'.get? b = some u) (hp : h.objs.size ≤ a) (hn : H a = none) : Un fs ex H (upd H a o) h h' where
  keep := fun b u q _ _ _ => k b u q
  slot := fun b u q _ _ _ => ⟨u.slots, k b u q⟩
  free := fun b u q n _ => by rw [upd_ne (Nat.ne_of_lt (Nat.lt_of_lt_of_le (Heap.lt_size q) hp))]; exact n
  there := fun b u q _ => ⟨u, k b u q⟩
  tups := fun b xs q => by rw [upd_ne (ne_of_none q hn)]; exact q
  frzs := fun b u xs q => by rw [upd_ne (ne_of_none q hn)]; exact q
  tbls := fun b ps q => ⟨#[], by rw [upd_ne (ne_of_none q hn), q]; simp⟩
theorem Un.write (mu : Mut (H x)) (he : e = x ∨ H e = some (.own x)) (k : ∀ b u, b ≠ e → h.get? b = some u → h'.get? b = some u) (heo : ∃ u, h'.get? e = some u) : Un fs ex H (upd H x o) h h' := by
  have hx : ∀ b, H b = none → b ≠ x := fun b n z => by subst z; rw [n] at mu; exact mu
  have hb : ∀ b, H b = none → b ≠ e := fun b n z => by
    subst z
    rcases he with r | r
    · exact hx b n r
    · rw [n] at r; cases r
  have hm : ∀ b u, H b = some u → ¬ Mut (some u) → b ≠ x := fun b u q nm z => by subst z; rw [q] at mu; exact nm mu
  refine ⟨fun b u q n _ _ => k b u (hb b n) q, fun b u q n _ _ => ⟨u.slots, k b u (hb b n) q⟩, fun b u q n _ => by rw [upd_ne (hx b n)]; exact n, fun b u q _ => ?_,
    fun b xs q => by rw [upd_ne (hm b _ q fun z => z)]; exact q, fun b u xs q => by rw [upd_ne (hm b _ q fun z => z)]; exact q, fun b ps q => ⟨#[], by rw [upd_ne (hm b _ q fun z => z), q]; simp⟩⟩
  by_cases hbe : b = e
  · subst hbe; exact heo
  · exact ⟨u, k b u hbe q⟩
end

/-! ### the heap without what is tracked -/
def trk (h : Heap) (H : Hp) : List Addr := (List.range h.objs.size).filter fun a => (H a).isSome
def hidT (h : Heap) (H : Hp) : Heap := PySem.W.hideAll h (trk h H)
theorem hidT_size (h : Heap) (H : Hp) : (hidT h H).objs.size = h.objs.size := PySem.W.hideAll_size _ _
theorem hidT_get {h : Heap} {H : Hp} {b : Addr} {o : Obj} (e : h.get? b = some o) (n : H b = none) : (hidT h H).get? b = some o :=
  PySem.W.hideAll_get _ e fun hm => by
    have q : (H b).isSome = true := (List.mem_filter.mp hm).2
    rw [n] at q; simp at q
theorem of_hidT {h : Heap} {H : Hp} {b : Addr} {o : Obj} (e : (hidT h H).get? b = some o) : h.get? b = some o ∧ H b = none := by
  have e' : h.get? b = some o := PySem.W.of_hideAll (trk h H) e
  refine ⟨e', ?_⟩
  cases q : H b with
  | none => rfl
  | some x =>
    have hm : b ∈ trk h H := List.mem_filter.mpr ⟨List.mem_range.mpr (Heap.lt_size e'), by simp [q]⟩
    have z : (hidT h H).get? b = none := PySem.W.hideAll_none (trk h H) hm
    rw [z] at e; cases e

/-! ### OpenK's ledger, filled with every new object but one -/
end L2

namespace L2
open PySem PySem.Spec PyProof.Rows

/-- the module's facts, over the base: the heap at the law's entry without what is tracked there -/
structure Mod (K : PySem.W.Frag) (mg : Str → Option Value) (base : Heap) : Prop where
  kin : K.In base
  glob : base.Ns mainGlobals mg
  blt : ∃ mb, base.Ns builtinsNs mb ∧ ∀ x : Str, x ≠ "__name__" → mb x = bootBuiltins x
  nolimit : base.NoLimit

/-- the context: a def's body (or a comprehension's block) running. base: fixed through the whole law; s₀, H₀: the entry; outer: the frames whose slots others may change (a def's callers); stack: all frames that run;
   ex: iterators that were made ahead of the entry and are walked here (a comprehension's); fn: the names whose cells were made at the entry (a def: all; a comprehension's block: its own); calm: not within an except suite; pn: pins that every state bears; xe: what is wanted of an exception that leaves the code -/
structure Cx where
  prog : Program
  w : World
  K : PySem.W.Frag
  mg : Str → Option Value
  base : Heap
  A : Around
  N : List Str
  s₀ : Shared
  H₀ : Hp
  env : Env
  outer : List Env
  stack : List Env
  ex : List Addr
  fn : Str → Bool
  calm : Bool
  pn : List (Addr × Obj)
  xe : Value → Shared → Prop
/-- the callers' frames -/
def frs (l : List Env) : List Addr := l.filterMap (·.frame)
abbrev Cx.fs (X : Cx) : List Addr := frs X.outer

def Vis (sc : Scope) (x : Str) : Prop := sc.names.lookup x = some .local ∨ sc.names.lookup x = some .cell ∨ sc.names.lookup x = some .free
def Loc (sc : Scope) (x : Str) : Prop := sc.names.lookup x = some .local ∨ sc.names.lookup x = some .cell
def Look (env : Env) (h : Heap) (m : Str → Option Value) (x : Str) (u : Value) : Prop :=
  (env.kindOf x = some .local ∧ m x = some u) ∨ ((env.kindOf x = some .cell ∨ env.kindOf x = some .free) ∧ ∃ c, env.cells.lookup x = some c ∧ h.IsCell c (some u))

structure Cx.Ok (X : Cx) : Prop where
  mod : Mod X.K X.mg X.base
  kind : X.env.scope.kind = .function
  glob : X.env.globals = mainGlobals
  blt : X.env.builtins = builtinsNs
  above : X.s₀.heap.objs.size ≤ X.env.locals
  inj : ∀ x y c, X.env.cells.lookup x = some c → X.env.cells.lookup y = some c → x = y
  has : ∀ x, (X.env.kindOf x = some .cell ∨ X.env.kindOf x = some .free) → ∃ c, X.env.cells.lookup x = some c
  cab : ∀ x c, X.fn x = true → X.env.cells.lookup x = some c → X.s₀.heap.objs.size ≤ c
  hd : X.calm = true → X.A.handled = none
  frames : X.A.frames = some X.stack
  stk : X.stack = X.outer ∨ (X.stack = X.env :: X.outer ∧ X.env.frame = some X.env.locals)
  exf : ∀ b ∈ X.ex, b ≠ X.env.locals ∧ ∀ x c, X.env.cells.lookup x = some c → c ≠ b
  bs : ∀ b o, X.base.get? b = some o → X.s₀.heap.get? b = some o ∧ X.H₀ b = none
  bsz : X.base.objs.size ≤ X.s₀.heap.objs.size
  noex : ∀ b o, X.base.get? b = some o → b ∉ X.ex
  exfs : ∀ b ∈ X.ex, b ∉ X.fs
  funs : X.s₀.heap.FunFrames X.base X.outer
  frf : ∀ b ∈ X.fs, X.H₀ b = none

structure Inv (X : Cx) (pins : List (Addr × Obj)) (σ : List (Option V)) (H : Hp) (s : Shared) : Prop where
  ok : X.Ok
  os : s.os = X.s₀.os
  bare : AllBare s.gens
  base : Un X.fs X.ex X.H₀ H X.s₀.heap s.heap
  loc : ∃ m, s.heap.Ns X.env.locals m ∧ ∀ (i : Nat) (x : Str) (v : V), X.N[i]? = some x → σ[i]? = some (some v) → Vis X.env.scope x → ∃ u, RelV v u ∧ Look X.env s.heap m x u
  cell : ∀ x c, X.env.cells.lookup x = some c → ∃ v, s.heap.IsCell c v
  free : H X.env.locals = none
  freeC : ∀ x c, X.env.cells.lookup x = some c → H c = none
  pin : ∀ p ∈ X.pn ++ pins, s.heap.get? p.1 = some p.2 ∧ H p.1 = none ∧ p.1 ≠ X.env.locals ∧ p.1 ∉ X.fs ∧ ∀ v, p.2.data ≠ .cell v
  hok : HOk X.prog X.w H s.heap
  len : σ.length = X.N.length

section
variable {X : Cx} {pins : List (Addr × Obj)} {σ : List (Option V)} {H H' : Hp} {s : Shared} {h' : Heap}

theorem Cx.Ok.nofr (ok : X.Ok) {b : Addr} {o : Obj} (e : X.base.get? b = some o) : b ∉ X.fs := fun hb => by
  have := (ok.funs.mem hb).1
  rw [e] at this; cases this
theorem Inv.bs (I : Inv X pins σ H s) : ∀ b o, X.base.get? b = some o → s.heap.get? b = some o ∧ H b = none := fun b o e =>
  ⟨I.base.keep b o (I.ok.bs b o e).1 (I.ok.bs b o e).2 (I.ok.nofr e) (I.ok.noex b o e), I.base.free b o (I.ok.bs b o e).1 (I.ok.bs b o e).2 (I.ok.noex b o e)⟩
theorem Inv.bk (I : Inv X pins σ H s) : ∀ b o, X.base.get? b = some o → s.heap.get? b = some o := fun b o e => (I.bs b o e).1
theorem Inv.mod (I : Inv X pins σ H s) : Mod X.K X.mg X.base := I.ok.mod
theorem Inv.kIn (I : Inv X pins σ H s) : X.K.In s.heap := I.ok.mod.kin.keeps I.bk
theorem Inv.lt (I : Inv X pins σ H s) : X.env.locals < s.heap.objs.size := let ⟨_, hn, _⟩ := I.loc; hn.lt
theorem Inv.sz (I : Inv X pins σ H s) : X.s₀.heap.objs.size ≤ s.heap.objs.size := Nat.le_trans I.ok.above (Nat.le_of_lt I.lt)
theorem Inv.nofs (I : Inv X pins σ H s) {a : Addr} (h : s.heap.objs.size ≤ a) : a ∉ X.fs := fun hb => by
  obtain ⟨_, o, ho, _⟩ := I.ok.funs.mem hb
  exact absurd (Nat.lt_of_lt_of_le (Heap.lt_size ho) (Nat.le_trans I.sz h)) (Nat.lt_irrefl _)
theorem Inv.cne (I : Inv X pins σ H s) : ∀ x c, X.env.cells.lookup x = some c → c ≠ X.env.locals := fun x c e z => by
  obtain ⟨v, o, ho, hd⟩ := I.cell x c e
  obtain ⟨m, ⟨o', es, ep, ho', hd', _⟩, _⟩ := I.loc
  rw [z, ho'] at ho; cases ho; rw [hd'] at hd; cases hd
theorem Inv.funs (I : Inv X pins σ H s) : s.heap.FunFrames X.base X.outer := by
  have all : ∀ (l : List Env), (∀ b ∈ frs l, b ∈ X.fs) → X.s₀.heap.FunFrames X.base l → s.heap.FunFrames X.base l := by
    intro l
    induction l with
    | nil => intro _ _; trivial
    | cons env r ih =>
      intro hs hl
      obtain ⟨hk, ⟨L, o, hf, hn, ho, hd⟩, hr⟩ := hl
      have hL : L ∈ X.fs := hs L (by unfold frs; rw [List.filterMap_cons, hf]; exact List.mem_cons_self)
      obtain ⟨sl, e⟩ := I.base.slot L o ho (I.ok.frf L hL) hL fun z => I.ok.exfs L z hL
      exact ⟨hk, ⟨L, _, hf, hn, e, hd⟩, ih (fun b hb => hs b (by unfold frs; rw [List.filterMap_cons, hf]; exact List.mem_cons_of_mem _ hb)) hr⟩
  exact all X.outer (fun _ hb => hb) I.ok.funs

/-- the frames that run, for a call -/
theorem Inv.stack (I : Inv X pins σ H s) : s.heap.FunFrames X.base X.stack := by
  rcases I.ok.stk with e | ⟨e, hf⟩
  · rw [e]; exact I.funs
  · rw [e]
    obtain ⟨m, hn, _⟩ := I.loc
    refine .cons (by rw [I.ok.kind]; decide) hf hn ?_ I.funs
    exact Heap.get?_none_of_le (Nat.le_trans I.ok.bsz I.ok.above)
theorem Inv.stkSub (I : Inv X pins σ H s) : ∀ b ∈ frs X.stack, b ∈ X.env.locals :: X.fs := fun b hb => by
  rcases I.ok.stk with e | ⟨e, hf⟩
  · rw [e] at hb; exact List.mem_cons_of_mem _ hb
  · rw [e] at hb
    unfold frs at hb
    rw [List.filterMap_cons, hf] at hb
    exact hb
theorem Inv.stkFree (I : Inv X pins σ H s) : ∀ b ∈ frs X.stack, H b = none := fun b hb => by
  rcases List.mem_cons.mp (I.stkSub b hb) with e | hb
  · rw [e]; exact I.free
  · obtain ⟨_, o, ho, _⟩ := I.ok.funs.mem hb
    exact I.base.free b o ho (I.ok.frf b hb) fun z => I.ok.exfs b z hb

/-- THE STEP: the untracked objects but the frame and the records at ch are kept (the callers' frames up to slots), the frame's map is kept, the new abstract heap is held -/
theorem Inv.step {g' : Array GenState} {t' : Nat} {d' : Drawn} {ch : List Addr} (I : Inv X pins σ H s)
    (hch : ∀ b ∈ ch, (b ∈ X.ex ∨ X.s₀.heap.objs.size ≤ b) ∧ b ≠ X.env.locals ∧ (∀ x c, X.env.cells.lookup x = some c → c ≠ b) ∧ ∀ p ∈ X.pn ++ pins, p.1 ≠ b)
    (keep : ∀ b o, b ≠ X.env.locals → b ∉ X.fs → b ∉ ch → s.heap.get? b = some o → H b = none → h'.get? b = some o)
    (slot : ∀ b o, b ≠ X.env.locals → b ∈ X.fs → b ∉ ch → s.heap.get? b = some o → H b = none → ∃ sl, h'.get? b = some { o with slots := sl }) (free : ∀ b o, b ∉ ch → s.heap.get? b = some o → H b = none → H' b = none)
    (there : ∀ b o, b ∉ ch → s.heap.get? b = some o → ∃ o', h'.get? b = some o')
    (tups : ∀ b xs, H b = some (.tup xs) → H' b = some (.tup xs)) (frzs : ∀ b o u, H b = some (.frz o u) → H' b = some (.frz o u)) (tbls : ∀ b ps, H b = some (.tbl ps) → ∃ more, H' b = some (.tbl (ps ++ more)))
    (ns : ∀ m, s.heap.Ns X.env.locals m → h'.Ns X.env.locals m) (hok : HOk X.prog X.w H' h') (hg : AllBare g') :
    Inv X pins σ H' { s with heap := h', gens := g', drawn := d', toks := t' } := by
  have neL : ∀ b o, X.s₀.heap.get? b = some o → b ≠ X.env.locals := fun b o e => Nat.ne_of_lt (Nat.lt_of_lt_of_le (Heap.lt_size e) I.ok.above)
  have neC : ∀ b o, X.s₀.heap.get? b = some o → b ∉ X.ex → b ∉ ch := fun b o e hx hb => by
    rcases (hch b hb).1 with z | z
    · exact hx z
    · exact absurd (Nat.lt_of_lt_of_le (Heap.lt_size e) z) (Nat.lt_irrefl _)
  have cellK : ∀ x c, X.env.cells.lookup x = some c → ∀ v, s.heap.IsCell c v → h'.IsCell c v := fun x c e v ⟨o, ho, hd⟩ => by
    have nch : c ∉ ch := fun z => (hch c z).2.2.1 x c e rfl
    by_cases hc : c ∈ X.fs
    · obtain ⟨sl, q⟩ := slot c o (I.cne x c e) hc nch ho (I.freeC x c e)
      exact ⟨_, q, hd⟩
    · exact ⟨o, keep c o (I.cne x c e) hc nch ho (I.freeC x c e), hd⟩
  refine ⟨I.ok, I.os, hg, ⟨fun b o e n hb hx => ?_, fun b o e n hb hx => ?_, fun b o e n hx => ?_, fun b o e hx => ?_, fun b xs e => tups b xs (I.base.tups b xs e), fun b o xs e => frzs b o xs (I.base.frzs b o xs e), fun b ps e => ?_⟩, ?_, fun x c e => ?_, ?_, fun x c e => ?_, fun p hp => ?_, hok, I.len⟩
  · exact keep b o (neL b o e) hb (neC b o e hx) (I.base.keep b o e n hb hx) (I.base.free b o e n hx)
  · obtain ⟨sl, e1⟩ := I.base.slot b o e n hb hx
    obtain ⟨sl', e2⟩ := slot b _ (neL b o e) hb (neC b o e hx) e1 (I.base.free b o e n hx)
    exact ⟨sl', e2⟩
  · obtain ⟨o', e1⟩ := I.base.there b o e hx
    exact free b o' (neC b o e hx) e1 (I.base.free b o e n hx)
  · obtain ⟨o', e1⟩ := I.base.there b o e hx
    exact there b o' (neC b o e hx) e1
  · obtain ⟨m1, e1⟩ := I.base.tbls b ps e
    obtain ⟨m2, e2⟩ := tbls b _ e1
    exact ⟨m1 ++ m2, by rw [e2, Array.append_assoc]⟩
  · obtain ⟨m, hn, hl⟩ := I.loc
    refine ⟨m, ns m hn, fun i x v e1 e2 e3 => ?_⟩
    obtain ⟨u, r, l⟩ := hl i x v e1 e2 e3
    refine ⟨u, r, ?_⟩
    rcases l with l | ⟨k, c, e, z⟩
    · exact .inl l
    · exact .inr ⟨k, c, e, cellK x c e _ z⟩
  · obtain ⟨v, z⟩ := I.cell x c e
    exact ⟨v, cellK x c e v z⟩
  · obtain ⟨m, ⟨o, _, _, ho, _⟩, _⟩ := I.loc
    exact free _ o (fun z => (hch _ z).2.1 rfl) ho I.free
  · obtain ⟨v, o, ho, hd⟩ := I.cell x c e
    exact free c o (fun z => (hch c z).2.2.1 x c e rfl) ho (I.freeC x c e)
  · obtain ⟨e, n, ne, nf, d⟩ := I.pin p hp
    have nch : p.1 ∉ ch := fun z => (hch p.1 z).2.2.2 p hp rfl
    exact ⟨keep p.1 p.2 ne nf nch e n, free p.1 p.2 nch e n, ne, nf, d⟩
/-- .. where the frame's own object is kept too -/
theorem Inv.un {t' : Nat} (I : Inv X pins σ H s) (u : Un X.fs [] H H' s.heap h') (hok : HOk X.prog X.w H' h') : Inv X pins σ H' { s with heap := h', toks := t' } := by
  obtain ⟨m, ⟨o, es, ep, ho, r⟩, _⟩ := id I.loc
  obtain ⟨sl, hL⟩ := u.any ho I.free (by simp)
  exact I.step (g' := s.gens) (d' := s.drawn) (ch := []) (fun _ z => nomatch z) (fun b o _ hb _ e n => u.keep b o e n hb (by simp)) (fun b o _ hb _ e n => u.slot b o e n hb (by simp)) (fun b o _ e n => u.free b o e n (by simp)) (fun b o _ e => u.there b o e (by simp)) u.tups u.frzs u.tbls (fun m' hm => by
    obtain ⟨o', es', ep', ho', r'⟩ := hm
    rw [ho] at ho'; cases ho'
    exact ⟨_, es', ep', hL, r'⟩) hok I.bare
/-- behind a call (or a comprehension's block): the slots of this frame may have changed too, the records at ch may have turned -/
theorem Inv.call {g' : Array GenState} {t' : Nat} {d' : Drawn} {ch : List Addr} (I : Inv X pins σ H s) (u : Un (frs X.stack) ch H H' s.heap h') (hok : HOk X.prog X.w H' h') (hg : AllBare g')
    (hch : ∀ b ∈ ch, (b ∈ X.ex ∨ X.s₀.heap.objs.size ≤ b) ∧ b ≠ X.env.locals ∧ (∀ x c, X.env.cells.lookup x = some c → c ≠ b) ∧ ∀ p ∈ X.pn ++ pins, p.1 ≠ b) :
    Inv X pins σ H' { s with heap := h', gens := g', drawn := d', toks := t' } := by
  obtain ⟨m, ⟨o, es, ep, ho, r⟩, _⟩ := id I.loc
  obtain ⟨sl, hL⟩ := u.any ho I.free fun z => (hch _ z).2.1 rfl
  exact I.step (ch := ch) hch (fun b o hL hb hc e n => u.keep b o e n (fun z => (List.mem_cons.mp (I.stkSub b z)).elim hL hb) hc) (fun b o _ _ hc e n => u.any e n hc) (fun b o hc e n => u.free b o e n hc) (fun b o hc e => u.there b o e hc) u.tups u.frzs u.tbls (fun m' hm => by
    obtain ⟨o', es', ep', ho', r'⟩ := hm
    rw [ho] at ho'; cases ho'
    exact ⟨_, es', ep', hL, r'⟩) hok hg
/-- an untracked record of ours (an iterator) has turned -/
theorem Inv.turned {t' : Nat} {it : Addr} (I : Inv X pins σ H s) (k : ∀ b o, b ≠ it → s.heap.get? b = some o → h'.get? b = some o) (hn : H it = none) (hL : it ≠ X.env.locals)
    (h1 : it ∈ X.ex ∨ X.s₀.heap.objs.size ≤ it) (h2 : ∀ x c, X.env.cells.lookup x = some c → c ≠ it) (h3 : ∀ p ∈ X.pn ++ pins, p.1 ≠ it) : Inv X pins σ H { s with heap := h', toks := t' } := by
  have nit : ∀ b u, H b = some u → b ≠ it := fun b u e z => by rw [z, hn] at e; cases e
  refine I.step (g' := s.gens) (d' := s.drawn) (ch := [it]) (fun b hb => ?_) (fun b o _ _ hc e _ => k b o (fun z => hc (by simp [z])) e) (fun b o _ _ hc e _ => ⟨o.slots, k b o (fun z => hc (by simp [z])) e⟩) (fun _ _ _ _ n => n)
    (fun b o hc e => ⟨o, k b o (fun z => hc (by simp [z])) e⟩) (fun _ _ e => e) (fun _ _ _ e => e) (fun b ps e => ⟨#[], by rw [e]; simp⟩) (fun m hm => ?_) (fun b u e => ?_) I.bare
  · have e : b = it := by simpa using hb
    subst e
    exact ⟨h1, hL, h2, h3⟩
  · obtain ⟨o, es, ep, ho, r⟩ := hm
    exact ⟨o, es, ep, k _ o (Ne.symm hL) ho, r⟩
  · refine (I.hok b u e).stay (fun c v hc q => k c v ?_ q) (fun _ q => q) fun _ _ q => q
    rcases hc with z | z
    · rw [z]; exact nit b u e
    · exact nit c _ z
theorem Inv.tok (I : Inv X pins σ H s) (t : Nat) : Inv X pins σ H { s with toks := t } := I.un (h' := s.heap) (t' := t) Un.refl I.hok
/-- all objects kept -/
theorem Inv.kept {t' : Nat} (I : Inv X pins σ H s) (k : ∀ b u, s.heap.get? b = some u → h'.get? b = some u) : Inv X pins σ H { s with heap := h', toks := t' } := I.un (Un.kept k) (I.hok.kept k)
/-- a new object laid and tracked -/
theorem Inv.laid {a : Addr} {o : HO} {t' : Nat} (I : Inv X pins σ H s) (k : ∀ b u, s.heap.get? b = some u → h'.get? b = some u) (hp : s.heap.objs.size ≤ a) (new : ObjOk X.prog X.w (upd H a o) h' a o) :
    Inv X pins σ (upd H a o) { s with heap := h', toks := t' } := I.un (Un.laid k hp (I.hok.fresh hp)) (I.hok.laid k hp new)
/-- an object written -/
theorem Inv.write {x e : Addr} {o : HO} {t' : Nat} (I : Inv X pins σ H s) (mu : Mut (H x)) (he : e = x ∨ H e = some (.own x)) (k : ∀ b u, b ≠ e → s.heap.get? b = some u → h'.get? b = some u) (heo : ∃ u, h'.get? e = some u)
    (new : ObjOk X.prog X.w (upd H x o) h' x o) : Inv X pins σ (upd H x o) { s with heap := h', toks := t' } := I.un (Un.write mu he k heo) (I.hok.write mu he k heo new)
theorem Inv.pins_of {pins' : List (Addr × Obj)} (I : Inv X pins σ H s) (h : ∀ p ∈ pins', s.heap.get? p.1 = some p.2 ∧ H p.1 = none ∧ p.1 ≠ X.env.locals ∧ p.1 ∉ X.fs ∧ ∀ v, p.2.data ≠ .cell v) : Inv X pins' σ H s :=
  ⟨I.ok, I.os, I.bare, I.base, I.loc, I.cell, I.free, I.freeC, fun p hp => (List.mem_append.mp hp).elim (fun z => I.pin p (List.mem_append_left _ z)) (h p), I.hok, I.len⟩

theorem nodup_ix {N : List Str} (hN : N.Nodup) {i j : Nat} {x : Str} (a : N[i]? = some x) (b : N[j]? = some x) : i = j := by
  obtain ⟨h1, e1⟩ := List.getElem?_eq_some_iff.mp a
  obtain ⟨h2, e2⟩ := List.getElem?_eq_some_iff.mp b
  exact (List.getElem_inj hN).mp (e1.trans e2.symm)

/-- a name is stored; what changed -/
theorem store_ok2 {M : Model} {A : Around} {E : Value → Shared → Prop} {i : Nat} {x : Str} {v : V} {u : Value} {Q : Unit → Shared → Prop} (I : Inv X pins σ H s) (hN : X.N.Nodup) (hi : X.N[i]? = some x) (hx : Loc X.env.scope x) (r : RelV v u)
    (h : ∀ s', Inv X pins (σ.set i (some v)) H s' → (∃ a, Heap.SameBut a s.heap s'.heap ∧ (a = X.env.locals ∨ X.env.cells.lookup x = some a)) → Q () s') (hf : X.fn x = true ∨ X.env.scope.names.lookup x = some .local := by first | exact .inl rfl | exact .inr rfl | assumption) : wpAny M A (storeName X.env x u) Q E s := by
  obtain ⟨m, hn, hl⟩ := id I.loc
  have hcls : (X.env.scope.kind == .class || (X.env.scope.kind == .module && X.env.locals != X.env.globals)) = false := by rw [I.ok.kind]; rfl
  have hiσ : i < σ.length := by rw [I.len]; exact (List.getElem?_eq_some_iff.mp hi).1
  have cne := I.cne
  have tracked : ∀ {a : Addr} {h' : Heap}, (∃ o, s.heap.get? a = some o ∧ H a = none) → Heap.SameBut a s.heap h' → HOk X.prog X.w H h' := fun {a h'} ha hs b ob e => by
    obtain ⟨_, _, hfree⟩ := ha
    refine (I.hok b ob e).stay (fun c w' hc q => (hs.2 c ?_).trans q) (fun _ q => q) fun _ _ q => q
    rintro rfl
    rcases hc with rfl | hc
    · rw [hfree] at e; cases e
    · rw [hfree] at hc; cases hc
  rcases hx with hk | hk
  · refine wpAny_storeName_local hk hn (fun h' hn' hs => ?_) hcls
    obtain ⟨oL, _, _, hoL, _⟩ := id hn
    refine h _ ⟨I.ok, I.os, I.bare, ⟨fun b o e n hb hx => ?_, fun b o e n hb hx => ?_, I.base.free, fun b o e hx => ?_, I.base.tups, I.base.frzs, I.base.tbls⟩, ⟨_, hn', fun j y v' e1 e2 e3 => ?_⟩, fun y c e => ?_, I.free, I.freeC, fun p hp => ?_, tracked ⟨oL, hoL, I.free⟩ hs, by simpa using I.len⟩ ⟨_, hs, .inl rfl⟩
    · exact (hs.2 b (Nat.ne_of_lt (Nat.lt_of_lt_of_le (Heap.lt_size e) I.ok.above))).trans (I.base.keep b o e n hb hx)
    · obtain ⟨sl, e1⟩ := I.base.slot b o e n hb hx
      exact ⟨sl, (hs.2 b (Nat.ne_of_lt (Nat.lt_of_lt_of_le (Heap.lt_size e) I.ok.above))).trans e1⟩
    · obtain ⟨o', e1⟩ := I.base.there b o e hx
      exact ⟨o', (hs.2 b (Nat.ne_of_lt (Nat.lt_of_lt_of_le (Heap.lt_size e) I.ok.above))).trans e1⟩
    · by_cases hj : j = i
      · subst hj
        rw [hi] at e1; cases e1
        rw [List.getElem?_set_self hiσ] at e2
        cases e2
        exact ⟨u, r, .inl ⟨hk, by simp⟩⟩
      · rw [List.getElem?_set_ne (Ne.symm hj)] at e2
        obtain ⟨u', r', q⟩ := hl j y v' e1 e2 e3
        refine ⟨u', r', ?_⟩
        rcases q with ⟨k, e⟩ | ⟨k, c, e, z⟩
        · refine .inl ⟨k, ?_⟩
          have : y ≠ x := fun e => hj (nodup_ix hN e1 (e ▸ hi))
          simp [this, e]
        · exact .inr ⟨k, c, e, z.sameBut hs (cne y c e)⟩
    · obtain ⟨w', z⟩ := I.cell y c e
      exact ⟨w', z.sameBut hs (cne y c e)⟩
    · obtain ⟨e, n, ne, nf, d⟩ := I.pin p hp
      exact ⟨(hs.2 p.1 ne).trans e, n, ne, nf, d⟩
  · have hfn : X.fn x = true := by
      rcases hf with z | z
      · exact z
      · rw [z] at hk; cases hk
    obtain ⟨c, hc⟩ := I.ok.has x (.inl hk)
    obtain ⟨w', z⟩ := I.cell x c hc
    refine wpAny_storeName_cell I.ok.kind hk hc z (fun h' hc' hs => ?_)
    obtain ⟨oc, hoc, hocd⟩ := id z
    refine h { s with heap := h' } ⟨I.ok, I.os, I.bare, ⟨fun b o e n hb hx => ?_, fun b o e n hb hx => ?_, I.base.free, fun b o e hx => ?_, I.base.tups, I.base.frzs, I.base.tbls⟩, ⟨m, hn.sameBut hs (Ne.symm (cne x c hc)), fun j y v' e1 e2 e3 => ?_⟩, fun y c' e => ?_, I.free, I.freeC, fun p hp => ?_, tracked ⟨oc, hoc, I.freeC x c hc⟩ hs, by simpa using I.len⟩ ⟨c, hs, .inr hc⟩
    · exact (hs.2 b (Nat.ne_of_lt (Nat.lt_of_lt_of_le (Heap.lt_size e) (I.ok.cab x c hfn hc)))).trans (I.base.keep b o e n hb hx)
    · obtain ⟨sl, e1⟩ := I.base.slot b o e n hb hx
      exact ⟨sl, (hs.2 b (Nat.ne_of_lt (Nat.lt_of_lt_of_le (Heap.lt_size e) (I.ok.cab x c hfn hc)))).trans e1⟩
    · obtain ⟨o', e1⟩ := I.base.there b o e hx
      exact ⟨o', (hs.2 b (Nat.ne_of_lt (Nat.lt_of_lt_of_le (Heap.lt_size e) (I.ok.cab x c hfn hc)))).trans e1⟩
    · by_cases hj : j = i
      · subst hj
        rw [hi] at e1; cases e1
        rw [List.getElem?_set_self hiσ] at e2
        cases e2
        exact ⟨u, r, .inr ⟨.inl hk, c, hc, hc'⟩⟩
      · rw [List.getElem?_set_ne (Ne.symm hj)] at e2
        obtain ⟨u', r', q⟩ := hl j y v' e1 e2 e3
        refine ⟨u', r', ?_⟩
        rcases q with q | ⟨k, c', e, z'⟩
        · exact .inl q
        · refine .inr ⟨k, c', e, z'.sameBut hs ?_⟩
          rintro rfl
          exact hj (nodup_ix hN e1 (I.ok.inj _ _ _ e hc ▸ hi))
    · by_cases hcc : c' = c
      · subst hcc; exact ⟨_, hc'⟩
      · obtain ⟨w2, z2⟩ := I.cell y c' e
        exact ⟨w2, z2.sameBut hs hcc⟩
    · obtain ⟨e, n, ne, nf, d⟩ := I.pin p hp
      refine ⟨(hs.2 p.1 ?_).trans e, n, ne, nf, d⟩
      intro q
      rw [q, hoc] at e
      have q' : oc = p.2 := Option.some.inj e
      exact d w' (by rw [← q']; exact hocd)
theorem store_ok {M : Model} {A : Around} {E : Value → Shared → Prop} {i : Nat} {x : Str} {v : V} {u : Value} {Q : Unit → Shared → Prop} (I : Inv X pins σ H s) (hN : X.N.Nodup) (hi : X.N[i]? = some x) (hx : Loc X.env.scope x) (r : RelV v u)
    (h : ∀ s', Inv X pins (σ.set i (some v)) H s' → Q () s') (hf : X.fn x = true ∨ X.env.scope.names.lookup x = some .local := by first | exact .inl rfl | exact .inr rfl | assumption) : wpAny M A (storeName X.env x u) Q E s :=
  store_ok2 I hN hi hx r (fun s' I' _ => h s' I') hf
/-- behind a call or a block, the state as it is -/
theorem Inv.call' {s' : Shared} {ch : List Addr} (I : Inv X pins σ H s) (ho : s'.os = s.os) (u : Un (frs X.stack) ch H H' s.heap s'.heap) (hok : HOk X.prog X.w H' s'.heap) (hg : AllBare s'.gens)
    (hch : ∀ b ∈ ch, (b ∈ X.ex ∨ X.s₀.heap.objs.size ≤ b) ∧ b ≠ X.env.locals ∧ (∀ x c, X.env.cells.lookup x = some c → c ≠ b) ∧ ∀ p ∈ X.pn ++ pins, p.1 ≠ b) : Inv X pins σ H' s' := by
  obtain ⟨h', g', d', t', o'⟩ := s'
  have e : o' = s.os := ho
  subst e
  exact I.call (g' := g') (t' := t') (d' := d') u hok hg hch
end

/-! ### the judgements -/
/-- an exception: its class, its own dict's address (where it has one), the abstract heap behind it -/
abbrev XK := Value → Option Addr → Hp → Prop
abbrev St := List (Option V)
abbrev VK := V → Hp → Prop
/-- an expression's reading; a test's; an argument list's -/
abbrev TE := St → Hp → VK → Prop
abbrev TT := St → Hp → (Bool → Hp → Prop) → Prop
abbrev TA := St → Hp → (List V → Hp → Prop) → Prop
/-- what is wanted behind a statement -/
structure Ends where
  nx : St → Hp → Prop
  rt : VK
  bk : St → Hp → Prop := fun _ _ => False
  ct : St → Hp → Prop := fun _ _ => False
abbrev TS := Ends → St → Hp → Prop

def EP (X : Cx) (pins : List (Addr × Obj)) (σ : St) (Q : VK) (u : Value) (s' : Shared) : Prop := ∃ v H', Inv X pins σ H' s' ∧ RelV v u ∧ Q v H'
def TP (X : Cx) (pins : List (Addr × Obj)) (σ : St) (Q : Bool → Hp → Prop) (b : Bool) (s' : Shared) : Prop := ∃ H', Inv X pins σ H' s' ∧ Q b H'
def AP (X : Cx) (pins : List (Addr × Obj)) (σ : St) (Q : List V → Hp → Prop) (us : List Value) (s' : Shared) : Prop := ∃ vs H', Inv X pins σ H' s' ∧ Vals vs us ∧ Q vs H'
def SP (X : Cx) (pins : List (Addr × Obj)) (D : Ends) (f : Flow) (s' : Shared) : Prop :=
  match f with
  | .next => ∃ σ' H', Inv X pins σ' H' s' ∧ D.nx σ' H'
  | .brk => ∃ σ' H', Inv X pins σ' H' s' ∧ D.bk σ' H'
  | .cont => ∃ σ' H', Inv X pins σ' H' s' ∧ D.ct σ' H'
  | .ret u => ∃ v σ' H', Inv X pins σ' H' s' ∧ RelV v u ∧ D.rt v H'

def PE (X : Cx) (e : Expr) (t : TE) : Prop :=
  ∀ (pins : List (Addr × Obj)) (s : Shared) (σ : St) (H : Hp) (Q : VK), Inv X pins σ H s → t σ H Q → wpAny (model X.prog X.w) X.A (eval e X.env) (EP X pins σ Q) X.xe s
def PT (X : Cx) (e : Expr) (t : TT) : Prop :=
  ∀ (pins : List (Addr × Obj)) (s : Shared) (σ : St) (H : Hp) (Q : Bool → Hp → Prop), Inv X pins σ H s → t σ H Q → wpAny (model X.prog X.w) X.A (isTrue e X.env (eval e X.env)) (TP X pins σ Q) X.xe s
/-- a test whatever its 'whole' is (and, or) -/
def PW (X : Cx) (e : Expr) (t : TT) : Prop :=
  ∀ (whole : Sem Value) (pins : List (Addr × Obj)) (s : Shared) (σ : St) (H : Hp) (Q : Bool → Hp → Prop), Inv X pins σ H s → t σ H Q → wpAny (model X.prog X.w) X.A (isTrue e X.env whole) (TP X pins σ Q) X.xe s
theorem PW.pt {X : Cx} {e : Expr} {t : TT} (h : PW X e t) : PT X e t := h _
/-- an argument list (no star), from the left -/
def PA (X : Cx) (es : List Expr) (t : TA) : Prop :=
  ∀ (pos : Pos) (pins : List (Addr × Obj)) (s : Shared) (σ : St) (H : Hp) (Q : List V → Hp → Prop), Inv X pins σ H s → t σ H Q → wpAny (model X.prog X.w) X.A (spliced (backTo pos (starEach es X.env))) (AP X pins σ Q) X.xe s
def PS (X : Cx) (st : Stmt) (t : TS) : Prop :=
  ∀ (pins : List (Addr × Obj)) (s : Shared) (σ : St) (H : Hp) (D : Ends), Inv X pins σ H s → t D σ H → wpAny (model X.prog X.w) X.A (exec st X.env) (SP X pins D) X.xe s
def PSs (X : Cx) (st : List Stmt) (t : TS) : Prop :=
  ∀ (pins : List (Addr × Obj)) (s : Shared) (σ : St) (H : Hp) (D : Ends), Inv X pins σ H s → t D σ H → wpAny (model X.prog X.w) X.A (execs st X.env) (SP X pins D) X.xe s
/-- weaken the end -/
theorem thn {α : Type} {t : Sem α} {Q Q' : α → Shared → Prop} {M : Model} {A : Around} {E : Value → Shared → Prop} {s : Shared} (h : wpAny M A t Q E s) (hQ : ∀ a s, Q a s → Q' a s) : wpAny M A t Q' E s := wpAny_mono h hQ fun _ _ x => x
end L2

namespace L2
open PySem PySem.Spec PyProof.Rows
section
variable {X : Cx}

/-- two expressions in a row -/
theorem bin {a b : Expr} {ta tb : TE} (ha : PE X a ta) (hb : PE X b tb) {pins : List (Addr × Obj)} {s : Shared} {σ : St} {H : Hp} {R : V → V → Hp → Prop} (I : Inv X pins σ H s) (h : ta σ H fun x H1 => tb σ H1 fun y H2 => R x y H2)
    {α : Type} {Q : α → Shared → Prop} {f : Value → Value → Sem α}
    (hf : ∀ v u s2 x y H2, Inv X pins σ H2 s2 → RelV x v → RelV y u → R x y H2 → wpAny (model X.prog X.w) X.A (f v u) Q X.xe s2) :
    wpAny (model X.prog X.w) X.A (eval a X.env) (fun v s₁ => wpAny (model X.prog X.w) X.A (eval b X.env) (fun u s₂ => wpAny (model X.prog X.w) X.A (f v u) Q X.xe s₂) X.xe s₁) X.xe s := by
  refine thn (ha pins s σ H _ I h) fun v s1 ⟨x, H1, I1, r1, q1⟩ => ?_
  refine thn (hb pins s1 σ H1 _ I1 q1) fun u s2 ⟨y, H2, I2, r2, q2⟩ => ?_
  exact hf v u s2 x y H2 I2 r1 r2 q2

/-! ### names and constants -/
def tVar (i : Nat) : TE := fun σ H Q => ∃ v, σ[i]? = some (some v) ∧ Q v H
def tC (v : V) : TE := fun _ H Q => Q v H
theorem pe_var {i : Nat} {x : Str} {pos : Pos} (hN : X.N[i]? = some x) (hv : Vis X.env.scope x) (hd : (x == ("__debug__" : Str)) = false := by decide) (hcd : (x == ("__classdict__" : Str)) = false := by decide) : PE X (.Name x pos) (tVar i) := by
  intro pins s σ H Q I h
  obtain ⟨v, e, h⟩ := h
  obtain ⟨m, hn, hl⟩ := I.loc
  obtain ⟨u, r, l⟩ := hl i x v hN e hv
  have fin : EP X pins σ Q u s := ⟨v, H, I, r, h⟩
  rcases l with ⟨hk, hm⟩ | ⟨hk, c, hc, hcell⟩
  · exact wpAny_Name (wpAny_loadName_local I.ok.kind hk hn hm fin) hd
  · rcases hk with hk | hk
    · exact wpAny_Name (wpAny_loadName_cell I.ok.kind hk hc hcell fin) hd
    · exact wpAny_Name (wpAny_loadName_free I.ok.kind hk hc hcell fin hcd) hd
theorem pe_int {i j pos} : PE X (.Constant (.int i) j pos) (tC (.int i)) := fun _ _ _ H _ I h => wpAny_Constant_int ⟨.int i, H, I.tok _, ⟨_, rfl⟩, h⟩
theorem pe_bl {b j pos} : PE X (.Constant (.bool b) j pos) (tC (.bl b)) := fun _ _ _ H _ I h => Constant_bool ⟨.bl b, H, I, rfl, h⟩
theorem pe_non {j pos} : PE X (.Constant .none j pos) (tC .non) := fun _ _ _ H _ I h => Constant_none ⟨.non, H, I, rfl, h⟩
theorem pe_str {x j pos} : PE X (.Constant (.str x) j pos) (tC (.str x)) := fun _ _ _ H _ I h => Calls.Constant_str ⟨.str x, H, I.tok _, ⟨_, rfl⟩, h⟩

/-- a global name of the def -/
def Gl (X : Cx) (x : Str) : Prop := X.env.kindOf x = some .globalImplicit
theorem ld_glob {E : Value → Shared → Prop} {pins : List (Addr × Obj)} {s : Shared} {σ : St} {H : Hp} {x : Str} {u : Value} {pos : Pos} {Q : Value → Shared → Prop} (I : Inv X pins σ H s) (hg : Gl X x) (hm : X.mg x = some u) (h : Q u s)
    (hd : (x == ("__debug__" : Str)) = false := by decide) : wpAny (model X.prog X.w) X.A (eval (.Name x pos) X.env) Q E s :=
  Calls.Name_function_global I.ok.kind hg (Calls.loadGlobal_global (by rw [I.ok.glob]; exact I.mod.glob.keeps I.bk) hm h) hd
theorem ld_blt {E : Value → Shared → Prop} {pins : List (Addr × Obj)} {s : Shared} {σ : St} {H : Hp} {x : Str} {u : Value} {pos : Pos} {Q : Value → Shared → Prop} (I : Inv X pins σ H s) (hg : Gl X x) (hm : X.mg x = none) (hv : bootBuiltins x = some u) (h : Q u s)
    (hn : x ≠ "__name__" := by decide) (hd : (x == ("__debug__" : Str)) = false := by decide) : wpAny (model X.prog X.w) X.A (eval (.Name x pos) X.env) Q E s := by
  obtain ⟨mb, h1, h2⟩ := I.mod.blt
  exact Calls.Name_function_global I.ok.kind hg (Calls.loadGlobal_builtin (by rw [I.ok.glob]; exact I.mod.glob.keeps I.bk) hm (by rw [I.ok.blt]; exact h1.keeps I.bk) ((h2 x hn).trans hv) h) hd
theorem pe_bltn {x : Str} {v : V} {u : Value} {pos : Pos} (hg : Gl X x) (hm : X.mg x = none) (hv : bootBuiltins x = some u) (r : RelV v u) (hn : x ≠ "__name__" := by decide) (hd : (x == ("__debug__" : Str)) = false := by decide) : PE X (.Name x pos) (tC v) :=
  fun _ _ _ H _ I h => ld_blt I hg hm hv ⟨v, H, I, r, h⟩ hn hd

/-! ### arithmetic -/
variable {a b : Expr} {ta tb : TE} {pos : Pos}
/-! ### comparisons -/
def PC (X : Cx) (op : CmpOp) (a b : Expr) (t : TE) : Prop :=
  ∀ (pins : List (Addr × Obj)) (s : Shared) (σ : St) (H : Hp) (Q : VK), Inv X pins σ H s → t σ H Q →
    wpAny (model X.prog X.w) X.A (eval a X.env) (fun v s₁ => wpAny (model X.prog X.w) X.A (eval b X.env) (fun u s₂ => wpAny (model X.prog X.w) X.A (compareOp op v u) (EP X pins σ Q) X.xe s₂) X.xe s₁) X.xe s
/-- a comparison as a value, as a test -/
def tB (t : TE) : TT := fun σ H Q => t σ H fun x H1 => ∃ c, x = .bl c ∧ Q c H1
theorem pt_cmp {op : CmpOp} {t : TE} (h : PC X op a b t) (h1 : behindInMarks op b = false := by first | exact nobehind _ (by decide) (by decide) | rfl) : PT X (.Compare a [op] [b] pos) (tB t) := by
  intro pins s σ H Q I hw
  refine wpAny_isTrue_Compare1 (thn (h pins s σ H _ I hw) fun v s1 h1 => thn h1 fun u s2 h2 => thn h2 fun c s3 ⟨x, H1, I1, r1, q1⟩ => ?_) h1
  obtain ⟨d, rfl, q⟩ := q1
  cases r1
  exact wpAny_truthy_bool ⟨H1, I1, q⟩
/-- an expression whose value is a bool, as a test -/
theorem pt_val {e : Expr} {t : TE} (h : PE X e t) (he : ∀ whole, isTrue e X.env whole = (do let v ← whole; standAt e.pos; holding [v] (truthy v)) := by intro _; rfl) : PT X e (tB t) := by
  intro pins s σ H Q I hw
  refine isTrue_plain (thn (h pins s σ H _ I hw) fun v s1 ⟨x, H1, I1, r1, q1⟩ => ?_) (he _)
  obtain ⟨d, rfl, q⟩ := q1
  cases r1
  exact wpAny_truthy_bool ⟨H1, I1, q⟩

/-! ### and, or, not -/
variable {tA tB' : TT} {rest : List Expr}
def tOr (t u : TT) : TT := fun σ H Q => t σ H fun c H1 => if c = true then Q true H1 else u σ H1 Q
def tNot (t : TT) : TT := fun σ H Q => t σ H fun c H1 => Q (!c) H1
theorem pw_or1 (ha : PT X a tA) : PW X (.BoolOp .Or [a] pos) tA := by
  intro wh pins s σ H Q I h
  refine isTrue_or (thn (ha pins s σ H Q I h) fun c s1 e => ?_)
  cases c with
  | false => exact isTrue_or_nil e
  | true => exact e
theorem pw_or (ha : PT X a tA) (hb : PW X (.BoolOp .Or (b :: rest) pos) tB') : PW X (.BoolOp .Or (a :: b :: rest) pos) (tOr tA tB') := by
  intro wh pins s σ H Q I h
  refine isTrue_or (thn (ha pins s σ H _ I h) fun c s1 ⟨H1, I1, q1⟩ => ?_)
  cases c with
  | true => exact ⟨H1, I1, q1⟩
  | false => exact hb wh pins s1 σ H1 Q I1 q1
theorem pt_not (ha : PT X a tA) : PT X (.UnaryOp .Not a pos) (tNot tA) := by
  intro pins s σ H Q I h
  exact isTrue_not (ha pins s σ H (fun c H1 => Q (!c) H1) I h)
/-- .. as values (bools) -/
def tAndV (ta tb : TE) : TE := fun σ H Q => ta σ H fun x H1 => ∃ c, x = .bl c ∧ if c = true then tb σ H1 Q else Q (.bl false) H1
theorem pe_one {op} {t : TE} (h : PE X a t) : PE X (.BoolOp op [a] pos) t := fun pins s σ H Q I hw => BoolOp_one (h pins s σ H Q I hw)
theorem pe_and (ha : PE X a ta) (hb : PE X (.BoolOp .And (b :: rest) pos) tb) : PE X (.BoolOp .And (a :: b :: rest) pos) (tAndV ta tb) := by
  intro pins s σ H Q I h
  refine BoolOp_and (thn (ha pins s σ H _ I h) fun v s1 ⟨x, H1, I1, r1, q1⟩ => ?_)
  obtain ⟨c, rfl, q1⟩ := q1
  cases r1
  refine wpAny_truthy_bool ?_
  cases c with
  | true => exact hb pins s1 σ H1 Q I1 q1
  | false => exact ⟨.bl false, H1, I1, rfl, q1⟩
end
end L2

namespace L2
open PySem PySem.Spec PyProof.Rows

/-! ### a list, a tuple that is read: tracked, frozen, or an object of the module -/
def SqL (K : PySem.W.Frag) (H : Hp) (a : Addr) (xs : List V) : Prop :=
  Rd H a (.lst xs) ∨
    ∃ (o : Obj) (its : Array Value) (n : Nat), K.lookup a = some o ∧ o.cls = .type "list" ∧ o.dict = none ∧ o.data = .seq its n ∧ its.size ≤ sizeLine ∧ Vals xs its.toList
def SqT (K : PySem.W.Frag) (H : Hp) (a : Addr) (xs : List V) : Prop :=
  Rd H a (.tup xs) ∨
    ∃ (o : Obj) (its : Array Value) (n : Nat), K.lookup a = some o ∧ o.cls = .type "tuple" ∧ o.data = .seq its n ∧ its.size ≤ sizeLine ∧ Vals xs its.toList
def absV : Value → Option V
  | .none => some .non
  | .bool b => some (.bl b)
  | .int i _ => some (.int i)
  | .str x _ => some (.str x)
  | .bytes b _ => some (.byt b)
  | .float b _ => some (.flt b)
  | .ref a => some (.ref a)
  | .type n => some (.ty n)
  | _ => none
theorem RelV.abs {x : V} {u : Value} (r : RelV x u) : absV u = some x := by
  cases x with
  | non => cases r; rfl
  | bl _ => cases r; rfl
  | int _ => obtain ⟨t, rfl⟩ := r; rfl
  | str _ => obtain ⟨t, rfl⟩ := r; rfl
  | byt _ => obtain ⟨t, rfl⟩ := r; rfl
  | flt _ => obtain ⟨t, rfl⟩ := r; rfl
  | ref _ => cases r; rfl
  | ty _ => cases r; rfl
theorem RelV.inj {x y : V} {u : Value} (r : RelV x u) (q : RelV y u) : x = y := Option.some.inj (r.abs.symm.trans q.abs)
theorem Vals.inj : ∀ {xs ys : List V} {us : List Value}, Vals xs us → Vals ys us → xs = ys
  | _, _, _, .nil, .nil => rfl
  | _, _, _, .cons r t, .cons r' t' => by rw [r.inj r', Vals.inj t t']
section
variable {X : Cx} {pins : List (Addr × Obj)} {σ : St} {H : Hp} {s : Shared} {a : Addr} {xs ys : List V}
theorem SqL.of {K : PySem.W.Frag} (h : H a = some (.lst xs)) : SqL K H a xs := .inl (.inl h)
theorem SqT.of {K : PySem.W.Frag} (h : H a = some (.tup xs)) : SqT K H a xs := .inl (.inl h)
theorem Inv.list (I : Inv X pins σ H s) (h : SqL X.K H a xs) : ∃ its : List Value, Vals xs its ∧ PlainL s.heap a its.toArray ∧ xs.length ≤ sizeLine := by
  rcases h with h | ⟨o, its, n, hk, hc, hd, hs, hz, r⟩
  · obtain ⟨z, its, n, r, e⟩ := h.ok I.hok
    exact ⟨its, r, ⟨_, n, e, rfl, rfl, rfl⟩, z⟩
  · refine ⟨its.toList, r, ⟨o, n, I.kIn a o hk, hc, hd, by simpa using hs⟩, ?_⟩
    have e := r.length
    simp only [Array.length_toList] at e
    omega
theorem Inv.tuple (I : Inv X pins σ H s) (h : SqT X.K H a xs) : ∃ its : List Value, Vals xs its ∧ IsTup s.heap a its.toArray ∧ xs.length ≤ sizeLine := by
  rcases h with h | ⟨o, its, n, hk, hc, hs, hz, r⟩
  · obtain ⟨z, its, r, p⟩ := h.ok I.hok
    exact ⟨its, r, p, z⟩
  · refine ⟨its.toList, r, ⟨o, I.kIn a o hk, hc, n, by simpa using hs⟩, ?_⟩
    have e := r.length
    simp only [Array.length_toList] at e
    omega
theorem Inv.list_inj (I : Inv X pins σ H s) (h : SqL X.K H a xs) (h' : SqL X.K H a ys) : xs = ys := by
  obtain ⟨its, r, ⟨o, n, e, _, _, d⟩, _⟩ := I.list h
  obtain ⟨its', r', ⟨o', n', e', _, _, d'⟩, _⟩ := I.list h'
  rw [e] at e'; cases e'
  rw [d] at d'
  injection d' with d1 _
  have : its = its' := by simpa using congrArg Array.toList d1
  subst this
  exact r.inj r'
theorem Inv.tuple_inj (I : Inv X pins σ H s) (h : SqT X.K H a xs) (h' : SqT X.K H a ys) : xs = ys := by
  obtain ⟨its, r, ⟨o, e, _, n, d⟩, _⟩ := I.tuple h
  obtain ⟨its', r', ⟨o', e', _, n', d'⟩, _⟩ := I.tuple h'
  rw [e] at e'; cases e'
  rw [d] at d'
  injection d' with d1 _
  have : its = its' := by simpa using congrArg Array.toList d1
  subst this
  exact r.inj r'
end

/-! ### another wish about exceptions -/
abbrev Cx.wish (X : Cx) (E : Value → Shared → Prop) : Cx := { X with xe := E }
/-- no exception leaves -/
abbrev Cx.nox (X : Cx) : Cx := X.wish fun _ _ => False
theorem Cx.Ok.wish {X : Cx} (ok : X.Ok) (E : Value → Shared → Prop) : (X.wish E).Ok :=
  ⟨ok.mod, ok.kind, ok.glob, ok.blt, ok.above, ok.inj, ok.has, ok.cab, ok.hd, ok.frames, ok.stk, ok.exf, ok.bs, ok.bsz, ok.noex, ok.exfs, ok.funs, ok.frf⟩
theorem Cx.Ok.unwish {X : Cx} {E : Value → Shared → Prop} (ok : (X.wish E).Ok) : X.Ok :=
  ⟨ok.mod, ok.kind, ok.glob, ok.blt, ok.above, ok.inj, ok.has, ok.cab, ok.hd, ok.frames, ok.stk, ok.exf, ok.bs, ok.bsz, ok.noex, ok.exfs, ok.funs, ok.frf⟩
section
variable {X : Cx} {pins : List (Addr × Obj)} {σ : St} {H : Hp} {s : Shared} {E : Value → Shared → Prop}
theorem Inv.wish (I : Inv X pins σ H s) (E : Value → Shared → Prop) : Inv (X.wish E) pins σ H s := ⟨I.ok.wish E, I.os, I.bare, I.base, I.loc, I.cell, I.free, I.freeC, I.pin, I.hok, I.len⟩
theorem Inv.unwish (I : Inv (X.wish E) pins σ H s) : Inv X pins σ H s := ⟨I.ok.unwish, I.os, I.bare, I.base, I.loc, I.cell, I.free, I.freeC, I.pin, I.hok, I.len⟩
theorem SP.unwish {D : Ends} {f : Flow} {s' : Shared} (h : SP (X.wish E) pins D f s') : SP X pins D f s' := by
  cases f with
  | next => obtain ⟨σ', H', I, q⟩ := h; exact ⟨σ', H', I.unwish, q⟩
  | brk => obtain ⟨σ', H', I, q⟩ := h; exact ⟨σ', H', I.unwish, q⟩
  | cont => obtain ⟨σ', H', I, q⟩ := h; exact ⟨σ', H', I.unwish, q⟩
  | ret u => obtain ⟨v, σ', H', I, r, q⟩ := h; exact ⟨v, σ', H', I.unwish, r, q⟩
theorem PSs.nox {st : List Stmt} {t : TS} (h : PSs X.nox st t) : PSs X st t := fun pins s σ H D I hw =>
  wpAny_mono (h pins s σ H D (I.wish _) hw) (fun _ _ q => q.unwish) fun _ _ z => False.elim z
end

/-! ### blocks and small statements -/
section
variable {X : Cx} {st : Stmt} {rest : List Stmt} {t u : TS} {e : Expr} {te : TE} {pos : Pos}
def tNext : TS := fun D σ H => D.nx σ H
def tSeq (t u : TS) : TS := fun D σ H => t { D with nx := u D } σ H
theorem pss_nil : PSs X [] tNext := fun _ _ σ H _ I h => wpAny_execs_nil ⟨σ, H, I, h⟩
theorem pss_cons (h1 : PS X st t) (h2 : PSs X rest u) : PSs X (st :: rest) (tSeq t u) := by
  intro pins s σ H D I h
  refine wpAny_execs_cons (thn (h1 pins s σ H { D with nx := u D } I h) fun f s1 q => ?_)
  cases f with
  | next =>
    obtain ⟨σ', H', I', q⟩ := q
    exact h2 pins s1 σ' H' D I' q
  | ret v => exact q
  | brk => exact q
  | cont => exact q
theorem pss_one (h1 : PS X st t) : PSs X [st] t := by
  intro pins s σ H D I h
  refine wpAny_execs_cons (thn (h1 pins s σ H D I h) fun f s1 q => ?_)
  cases f with
  | next => exact wpAny_execs_nil q
  | ret v => exact q
  | brk => exact q
  | cont => exact q
/-- in a def's body nothing is shown -/
theorem Inv.quiet {pins : List (Addr × Obj)} {σ : St} {H : Hp} {s : Shared} (I : Inv X pins σ H s) : interactive X.env = false := by simp [interactive, I.ok.kind]
/-- an expression whose value is dropped -/
def tDrop (te : TE) : TS := fun D σ H => te σ H fun _ H1 => D.nx σ H1
theorem ps_expr (he : PE X e te) (hs : swapsWith e none pos.line X.env = pure false := by rfl) : PS X (.Expr e pos) (tDrop te) := by
  intro pins s σ H D I h
  exact wpAny_Expr_any (thn (he pins s σ H _ I h) fun v s1 ⟨x, H1, I1, r1, q1⟩ => ⟨σ, H1, I1, q1⟩) I.quiet hs
def tRet (te : TE) : TS := fun D σ H => te σ H D.rt
theorem ps_ret (he : PE X e te) : PS X (.Return (some e) pos) (tRet te) := by
  intro pins s σ H D I h
  exact wpAny_Return_some (thn (he pins s σ H _ I h) fun v s1 ⟨x, H1, I1, r1, q1⟩ => ⟨x, σ, H1, I1, r1, q1⟩)
def tIfS (c : TT) (t u : TS) : TS := fun D σ H => c σ H fun b H1 => if b = true then t D σ H1 else u D σ H1
theorem ps_if {c : Expr} {a b : List Stmt} {tc : TT} (hc : PT X c tc) (ha : PSs X a t) (hb : PSs X b u) : PS X (.If c a b pos) (tIfS tc t u) := by
  intro pins s σ H D I h
  refine wpAny_If (thn (hc pins s σ H _ I h) fun d s1 ⟨H1, I1, q1⟩ => ?_)
  cases d with
  | true => exact ha pins s1 σ H1 D I1 q1
  | false => exact hb pins s1 σ H1 D I1 q1
/-- code that the proof never comes to -/
def tNever : TS := fun _ _ _ => False
theorem pss_never {sts : List Stmt} : PSs X sts tNever := fun _ _ _ _ _ _ h => h.elim
end

/-! ### targets -/
abbrev TG := V → St → Hp → (St → Hp → Prop) → Prop
abbrev TGs := List V → St → Hp → (St → Hp → Prop) → Prop
def PG (X : Cx) (target : Expr) (t : TG) : Prop :=
  ∀ (pins : List (Addr × Obj)) (s : Shared) (σ : St) (H : Hp) (v : V) (u : Value) (Q : St → Hp → Prop), Inv X pins σ H s → RelV v u → t v σ H Q →
    wpAny (model X.prog X.w) X.A (assign target X.env u) (fun _ s' => ∃ σ' H', Inv X pins σ' H' s' ∧ Q σ' H') X.xe s
/-- several targets, one after another -/
def PGs (X : Cx) (ts : List Expr) (t : TGs) : Prop :=
  ∀ (pins : List (Addr × Obj)) (s : Shared) (σ : St) (H : Hp) (vs : List V) (us : List Value) (Q : St → Hp → Prop), Inv X pins σ H s → Vals vs us → t vs σ H Q →
    wpAny (model X.prog X.w) X.A (assignInOrder ((assignEach ts X.env).map (·.2)) us) (fun _ s' => ∃ σ' H', Inv X pins σ' H' s' ∧ Q σ' H') X.xe s
section
variable {X : Cx} {pos : Pos}
def gName (i : Nat) : TG := fun v σ H Q => Q (σ.set i (some v)) H
theorem pg_name {i : Nat} {x : Str} (hN : X.N.Nodup) (hi : X.N[i]? = some x) (hx : Loc X.env.scope x) (hf : X.fn x = true ∨ X.env.scope.names.lookup x = some .local := by first | exact .inl rfl | exact .inr rfl | assumption) : PG X (.Name x pos) (gName i) := by
  intro pins s σ H v u Q I r h
  exact wpAny_assign_Name (store_ok I hN hi hx r (fun s' I' => ⟨_, H, I', h⟩) hf)
def gNil : TGs := fun vs σ H Q => vs = [] ∧ Q σ H
def gCons (t : TG) (u : TGs) : TGs := fun vs σ H Q => ∃ v r, vs = v :: r ∧ t v σ H fun σ' H' => u r σ' H' Q
theorem pgs_nil : PGs X [] gNil := by
  intro pins s σ H vs us Q I r h
  obtain ⟨e, h⟩ := h
  subst e
  cases r
  exact assignInOrder_nil ⟨σ, H, I, h⟩
theorem pgs_cons {e : Expr} {es : List Expr} {t : TG} {u : TGs} (h1 : PG X e t) (h2 : PGs X es u)
    (hs : (assignEach (e :: es) X.env).map (·.2) = assign e X.env :: (assignEach es X.env).map (·.2) := by rfl) : PGs X (e :: es) (gCons t u) := by
  intro pins s σ H vs us Q I r h
  obtain ⟨v, vr, e1, h⟩ := h
  subst e1
  cases r with
  | cons r rr =>
    rw [hs]
    refine assignInOrder_cons (thn (h1 pins s σ H _ _ _ I r h) fun _ s1 ⟨σ1, H1, I1, q1⟩ => ?_)
    exact h2 pins s1 σ1 H1 _ _ Q I1 rr q1
/-- (a, b, ..) = a tuple of that length -/
def gTup (K : PySem.W.Frag) (n : Nat) (t : TGs) : TG := fun v σ H Q => ∃ a xs, v = .ref a ∧ SqT K H a xs ∧ xs.length = n ∧ t xs σ H Q
theorem pg_tup {es : List Expr} {k : Nat} {t : TGs} {n : Nat} (hc : X.calm = true) (h : PGs X es t)
    (hn : (assignEach es X.env).length = n := by rfl) (hst : (assignEach es X.env).findIdx? (·.1) = none := by rfl) : PG X (.Tuple es k pos) (gTup X.K n t) := by
  intro pins s σ H v u Q I r hw
  obtain ⟨a, xs, e1, hq, hl, hw⟩ := hw
  subst e1
  cases r
  obtain ⟨its, rv, ht, hz⟩ := I.tuple hq
  refine assign_Tuple_tuple (I.ok.hd hc) ht (by simp [hn, ← hl, rv.length]) hst fun h' hx => ?_
  have I1 : Inv X pins σ H { s with heap := h' } := I.kept (t' := s.toks) fun b o e => hx b o (Nat.ne_of_lt (Heap.lt_size e)) e
  exact h pins _ σ H xs _ Q I1 (by simpa using rv) hw
/-- target = value -/
def tAsg (te : TE) (g : TG) : TS := fun D σ H => te σ H fun x H1 => g x σ H1 D.nx
theorem ps_asg {tg e : Expr} {te : TE} {g : TG} (he : PE X e te) (hg : PG X tg g) (hs : swapsWithSole [tg] e pos.line X.env = pure false := by rfl) (hw : swappedStores [tg] e X.env = pure none := by rfl)
    (h1 : (assignEach [tg] X.env).map (·.2) = [assign tg X.env] := by rfl) : PS X (.Assign [tg] e pos) (tAsg te g) := by
  intro pins s σ H D I h
  refine wpAny_Assign_stores (thn (he pins s σ H _ I h) fun v s1 ⟨x, H1, I1, r1, q1⟩ => ?_) hs hw
  rw [h1]
  exact thn (hg pins s1 σ H1 x v _ I1 r1 q1) fun _ s2 q => q
/-- name = value -/
theorem ps_set {i : Nat} {x : Str} {e : Expr} {te : TE} {pos' : Pos} (hN : X.N.Nodup) (hi : X.N[i]? = some x) (hx : Loc X.env.scope x) (he : PE X e te) (hs : swapsWith e (some (.Name x pos')) pos.line X.env = pure false := by rfl) (hf : X.fn x = true ∨ X.env.scope.names.lookup x = some .local := by first | exact .inl rfl | exact .inr rfl | assumption) :
    PS X (.Assign [.Name x pos'] e pos) (tAsg te (gName i)) := by
  intro pins s σ H D I h
  refine wpAny_Assign_Name (thn (he pins s σ H _ I h) fun v s1 ⟨y, H1, I1, r1, q1⟩ => ?_) hs
  exact store_ok I1 hN hi hx r1 (fun s2 I2 => ⟨_, H1, I2, q1⟩) hf
end

/-! ### while -/
section
variable {X : Cx} {pos : Pos}
/-- the invariant W with its measure -/
def tWhile (c : TT) (tb : TS) : TS := fun D σ H => ∃ W : Nat → St → Hp → Prop, (∃ m, W m σ H) ∧ ∀ m σ H, W m σ H →
  c σ H fun b H1 => if b = true then ∃ N : St → Hp → Prop, (∀ σ' H', N σ' H' → ∃ m', m' < m ∧ W m' σ' H') ∧ tb { D with nx := N, ct := N, bk := D.nx } σ H1 else D.nx σ H1
theorem ps_while {c : Expr} {body : List Stmt} {tc : TT} {tb : TS} (hp : PassesOwn (model X.prog X.w) X.A X.env X.xe) (hc : PT X c tc) (hb : PSs X body tb) : PS X (.While c body [] pos) (tWhile tc tb) := by
  intro pins s σ H D I h
  obtain ⟨W, ⟨m0, w0⟩, turn⟩ := h
  refine wpAny_While (codeAny_whileLoop (fun n s' => ∃ σ' H', Inv X pins σ' H' s' ∧ W n σ' H') ?_ m0 ⟨σ, H, I, w0⟩)
  rintro n s1 ⟨σ1, H1, I1, w1⟩
  refine wpAny_passesOwn hp (thn (hc pins s1 σ1 H1 _ I1 (turn n σ1 H1 w1)) fun b s2 ⟨H2, I2, q2⟩ => ?_)
  cases b with
  | true =>
    obtain ⟨N, hN, q2⟩ := q2
    rw [if_pos rfl]
    refine wpAny_passesOwn hp (thn (hb pins s2 σ1 H2 _ I2 q2) fun f s3 q3 => ?_)
    cases f with
    | next =>
      obtain ⟨σ3, H3, I3, n3⟩ := q3
      obtain ⟨m', hm, w3⟩ := hN σ3 H3 n3
      exact ⟨m', hm, σ3, H3, I3, w3⟩
    | cont =>
      obtain ⟨σ3, H3, I3, n3⟩ := q3
      obtain ⟨m', hm, w3⟩ := hN σ3 H3 n3
      exact ⟨m', hm, σ3, H3, I3, w3⟩
    | brk => exact q3
    | ret v => exact q3
  | false =>
    rw [if_neg Bool.false_ne_true]
    exact wpAny_execs_nil ⟨σ1, H2, I2, q2⟩
end

/-! ### what a loop or a comprehension walks -/
/-- at turn i: it yields x (the heap may grow), or it stops -/
structure It where
  go : Nat → Hp → Prop
  yld : Nat → Hp → V → Hp → Prop
  stop : Nat → Hp → Prop
/-- the iterator's own objects may turn: they are not the frame's, not pinned, younger than the entry (or a comprehension's own) -/
def FpOk (X : Cx) (pins : List (Addr × Obj)) (H : Hp) (b : Addr) : Prop :=
  H b = none ∧ b ≠ X.env.locals ∧ b ∉ X.fs ∧ (b ∈ X.ex ∨ X.s₀.heap.objs.size ≤ b) ∧ (∀ x c, X.env.cells.lookup x = some c → c ≠ b) ∧ ∀ p ∈ X.pn ++ pins, p.1 ≠ b
theorem Inv.fpOk {X : Cx} {pins : List (Addr × Obj)} {σ : St} {H H' : Hp} {s : Shared} {b : Addr} (I : Inv X pins σ H s) (hb : s.heap.objs.size ≤ b) (hn : H' b = none) : FpOk X pins H' b := by
  refine ⟨hn, Nat.ne_of_gt (Nat.lt_of_lt_of_le I.lt hb), I.nofs hb, .inr (Nat.le_trans I.sz hb), fun x c e z => ?_, fun p hp z => ?_⟩
  · obtain ⟨v, q⟩ := I.cell x c e
    exact absurd (Nat.lt_of_lt_of_le q.lt (by rw [z]; exact hb)) (Nat.lt_irrefl _)
  · exact absurd (Nat.lt_of_lt_of_le (Heap.lt_size (I.pin p hp).1) (by rw [z]; exact hb)) (Nat.lt_irrefl _)
structure Turn (P : Program) (w : World) (K : PySem.W.Frag) (tg : Expr) (J : It) (fp : List Addr) (it : Addr) (tn : Nat → Heap → Prop) : Prop where
  mem : it ∈ fp
  obj : ∀ i h, tn i h → ∀ b ∈ fp, ∃ o, h.get? b = some o ∧ ∀ v, o.data ≠ .cell v
  keep : ∀ i h h', tn i h → (∀ b ∈ fp, ∀ o, h.get? b = some o → h'.get? b = some o) → tn i h'
  item : ∀ (X : Cx), X.prog = P → X.w = w → X.K = K → X.calm = true → ∀ (i : Nat) (pins : List (Addr × Obj)) (s : Shared) (σ : St) (H : Hp) (E : Value → Shared → Prop), Inv X pins σ H s → (∀ b ∈ fp, FpOk X pins H b) → tn i s.heap → J.go i H →
    wpAny (model P w) X.A (pyNext (.ref it)) (fun r s1 => ∃ u, r = some u ∧
      wpAny (model P w) X.A (letOwnedTupleGo tg (.ref it) u) (fun _ s2 => ∃ x H', Inv X pins σ H' s2 ∧ RelV x u ∧ J.yld i H x H' ∧ tn (i + 1) s2.heap ∧ ∀ b ∈ fp, H' b = none) E s1) E s
  done : ∀ (X : Cx), X.prog = P → X.w = w → X.K = K → X.calm = true → ∀ (i : Nat) (pins : List (Addr × Obj)) (s : Shared) (σ : St) (H : Hp) (E : Value → Shared → Prop), Inv X pins σ H s → (∀ b ∈ fp, FpOk X pins H b) → tn i s.heap → J.stop i H →
    wpAny (model P w) X.A (pyNext (.ref it)) (fun r s1 => r = none ∧ Inv X pins σ H s1) E s
  self : ∀ (A : Around) (i : Nat) (s : Shared) (Q : Value → Shared → Prop) (E : Value → Shared → Prop), tn i s.heap → Q (.ref it) s → wpAny (model P w) A (pyIter (.ref it)) Q E s
abbrev TI := St → Hp → (It → Hp → Prop) → Prop
/-- an iterator has come -/
def PIE (X : Cx) (pins : List (Addr × Obj)) (σ : St) (tg : Expr) (R : It → Hp → Prop) (itv : Value) (s2 : Shared) : Prop :=
  ∃ (it : Addr) (fp : List Addr) (tn : Nat → Heap → Prop) (J : It) (H' : Hp), itv = .ref it ∧ Inv X pins σ H' s2 ∧ Turn X.prog X.w X.K tg J fp it tn ∧ tn 0 s2.heap ∧ (∀ b ∈ fp, FpOk X pins H' b) ∧ R J H'
def PI (X : Cx) (tg iter : Expr) (wi : TI) : Prop :=
  ∀ (pins : List (Addr × Obj)) (s : Shared) (σ : St) (H : Hp) (R : It → Hp → Prop), Inv X pins σ H s → wi σ H R →
    wpAny (model X.prog X.w) X.A (eval iter X.env) (fun v s1 => wpAny (model X.prog X.w) X.A (pyIter v) (PIE X pins σ tg R) X.xe s1) X.xe s

/-- the step ahead of the store is nothing for an iterator that keeps no tuple -/
theorem go_of {M : Model} {A : Around} {E : Value → Shared → Prop} {s : Shared} {tg : Expr} {it : Addr} {u : Value} {o : Obj} {n : String} {vs : Array Value} {Q : Unit → Shared → Prop} (ho : s.heap.get? it = some o) (hc : o.cls = .type n) (hd : o.data = .fields vs)
    (hn : ["enumerate", "zip", "dict_itemiterator", "dict_reverseitemiterator", "odict_iterator", "itertools.zip_longest", "itertools.pairwise"].contains n = false) (hQ : Q () s) : wpAny M A (letOwnedTupleGo tg (.ref it) u) Q E s := by
  unfold letOwnedTupleGo
  cases tg <;> first
    | exact wpAny_pure hQ
    | (cases u <;> first
        | exact wpAny_pure hQ
        | (refine wpAny_bind (wpAny_load ho ?_)
           rw [hc, hd]
           show wpAny M A (if (["enumerate", "zip", "dict_itemiterator", "dict_reverseitemiterator", "odict_iterator", "itertools.zip_longest", "itertools.pairwise"].contains n && vs[0]? == some (rawInt _)) = true then _ else _) Q E s
           rw [if_neg (by intro h; rw [hn, Bool.false_and] at h; cases h)]
           exact wpAny_pure hQ))

/-- the list at a, as it stands at each turn (a loop may append to it) -/
def Itl (K : PySem.W.Frag) (a : Addr) : It :=
  ⟨fun i H => ∃ xs x, SqL K H a xs ∧ xs[i]? = some x, fun i H x H' => H' = H ∧ ∀ xs, SqL K H a xs → xs[i]? = some x, fun i H => ∃ xs, SqL K H a xs ∧ xs.length ≤ i⟩
def Itt (K : PySem.W.Frag) (a : Addr) : It :=
  ⟨fun i H => ∃ xs x, SqT K H a xs ∧ xs[i]? = some x, fun i H x H' => H' = H ∧ ∀ xs, SqT K H a xs → xs[i]? = some x, fun i H => ∃ xs, SqT K H a xs ∧ xs.length ≤ i⟩
/-- lo, lo + 1, .. (n of them) -/
def Itr (lo : Int) (n : Nat) : It := ⟨fun i _ => i < n, fun i H x H' => H' = H ∧ x = .int (lo + i), fun i _ => n ≤ i⟩
theorem turn_list {P : Program} {w : World} {K : PySem.W.Frag} {tg : Expr} (a it : Addr) : Turn P w K tg (Itl K a) [it] it (fun i h => h.IsListIter it a i) where
  mem := by simp
  obj := fun i h st b hb => by
    have e : b = it := by simpa using hb
    subst e
    obtain ⟨o, e, c, d⟩ := st
    exact ⟨o, e, fun v z => by rw [d] at z; cases z⟩
  keep := fun i h h' st k => st.at fun o e => k it (by simp) o e
  item := by
    intro X hP hw hK hc i pins s σ H E I hf st hg
    subst hP hw hK
    obtain ⟨xs, x, hq, hx⟩ := hg
    obtain ⟨its, rv, p, hz⟩ := I.list hq
    obtain ⟨u, hu, ru⟩ := rv.get hx
    obtain ⟨f0, f1, f2, f3, f4, f5⟩ := hf it (by simp)
    refine wpAny_pyNext_list_item st p.isList (x := u) (by simpa using hu) fun h' st' sb => ?_
    have I1 : Inv X pins σ H { s with heap := h' } := I.turned (t' := s.toks) (fun b o hb e => (sb.2 b hb).trans e) f0 f1 f3 f4 f5
    obtain ⟨o, e, c, d⟩ := id st'
    exact ⟨u, rfl, go_of (s := { s with heap := h' }) e c d (by decide) ⟨x, H, I1, ru, ⟨rfl, fun ys hy => by rw [I.list_inj hy hq]; exact hx⟩, st', fun b hb => (hf b hb).1⟩⟩
  done := by
    intro X hP hw hK hc i pins s σ H E I hf st hg
    subst hP hw hK
    obtain ⟨xs, hq, hx⟩ := hg
    obtain ⟨its, rv, p, hz⟩ := I.list hq
    obtain ⟨f0, f1, f2, f3, f4, f5⟩ := hf it (by simp)
    have hl := rv.length
    exact wpAny_pyNext_list_end (I.ok.hd hc) st p.isList (by simp; omega) fun h' eb => ⟨rfl, I.turned (t' := s.toks) (fun b o hb e => eb b o hb e) f0 f1 f3 f4 f5⟩
  self := fun _ _ _ _ _ st h => wpAny_pyIter_listiter st h
theorem turn_tuple {P : Program} {w : World} {K : PySem.W.Frag} {tg : Expr} (a it : Addr) : Turn P w K tg (Itt K a) [it] it (fun i h => h.IsTupleIter it a i) where
  mem := by simp
  obj := fun i h st b hb => by
    have e : b = it := by simpa using hb
    subst e
    obtain ⟨o, e, c, d⟩ := st
    exact ⟨o, e, fun v z => by rw [d] at z; cases z⟩
  keep := fun i h h' st k => st.at fun o e => k it (by simp) o e
  item := by
    intro X hP hw hK hc i pins s σ H E I hf st hg
    subst hP hw hK
    obtain ⟨xs, x, hq, hx⟩ := hg
    obtain ⟨its, rv, p, hz⟩ := I.tuple hq
    obtain ⟨u, hu, ru⟩ := rv.get hx
    obtain ⟨f0, f1, f2, f3, f4, f5⟩ := hf it (by simp)
    refine wpAny_pyNext_tuple_item st (show s.heap.IsTuple a its.toArray from p) (x := u) (by simpa using hu) fun h' st' sb => ?_
    have I1 : Inv X pins σ H { s with heap := h' } := I.turned (t' := s.toks) (fun b o hb e => (sb.2 b hb).trans e) f0 f1 f3 f4 f5
    obtain ⟨o, e, c, d⟩ := id st'
    exact ⟨u, rfl, go_of (s := { s with heap := h' }) e c d (by decide) ⟨x, H, I1, ru, ⟨rfl, fun ys hy => by rw [I.tuple_inj hy hq]; exact hx⟩, st', fun b hb => (hf b hb).1⟩⟩
  done := by
    intro X hP hw hK hc i pins s σ H E I hf st hg
    subst hP hw hK
    obtain ⟨xs, hq, hx⟩ := hg
    obtain ⟨its, rv, p, hz⟩ := I.tuple hq
    obtain ⟨f0, f1, f2, f3, f4, f5⟩ := hf it (by simp)
    have hl := rv.length
    exact wpAny_pyNext_tuple_end (I.ok.hd hc) st (show s.heap.IsTuple a its.toArray from p) (by simp; omega) fun h' eb => ⟨rfl, I.turned (t' := s.toks) (fun b o hb e => eb b o hb e) f0 f1 f3 f4 f5⟩
  self := fun _ _ _ _ _ st h => wpAny_pyIter_tupleiter st h
theorem turn_range {P : Program} {w : World} {K : PySem.W.Frag} {tg : Expr} (it : Addr) (lo : Int) (n : Nat) : Turn P w K tg (Itr lo n) [it] it (fun i h => IsRangeIter h it (lo + (i : Nat) * 1) ((n : Int) - (i : Nat)) 1) where
  mem := by simp
  obj := fun i h st b hb => by
    have e : b = it := by simpa using hb
    subst e
    exact ⟨_, st, fun v z => by
      have z' : Data.fields _ = Data.cell v := z
      cases z'⟩
  keep := fun i h h' st k => k it (by simp) _ st
  item := by
    intro X hP hw hK hc i pins s σ H E I hf st hg
    subst hP hw hK
    obtain ⟨f0, f1, f2, f3, f4, f5⟩ := hf it (by simp)
    have W := Walks.range (prog := X.prog) (w := X.w) (I.ok.hd hc) it lo 1 n
    refine W.item i s _ _ hg st fun v h' tk hv st' kk => ?_
    obtain ⟨t, rfl⟩ := hv
    have I1 : Inv X pins σ H { s with heap := h', toks := tk } := I.turned (fun b o hb e => kk b o (by simpa using hb) e) f0 f1 f3 f4 f5
    refine ⟨_, rfl, go_of (s := { s with heap := h', toks := tk }) (n := "range_iterator") st' rfl rfl (by decide) ⟨.int (lo + i), H, I1, ⟨t, ?_⟩, ⟨rfl, rfl⟩, st', fun b hb => (hf b hb).1⟩⟩
    rw [Int.mul_one]
  done := by
    intro X hP hw hK hc i pins s σ H E I hf st hg
    subst hP hw hK
    obtain ⟨f0, f1, f2, f3, f4, f5⟩ := hf it (by simp)
    exact wpAny_pyNext_range_end (I.ok.hd hc) st (by have : n ≤ i := hg; omega) fun h' eb => ⟨rfl, I.turned (t' := s.toks) (fun b o hb e => eb b o hb e) f0 f1 f3 f4 f5⟩
  self := fun _ _ _ _ _ st h => wpAny_pyIter_rangeiter st h
end L2

namespace L2
open PySem PySem.Spec PyProof.Rows
section
variable {X : Cx} {tg : Expr}
def iList (K : PySem.W.Frag) (tl : TE) : TI := fun σ H R => tl σ H fun x H1 => ∃ a, x = .ref a ∧ (∃ xs, SqL K H1 a xs) ∧ R (Itl K a) H1
def iTup (K : PySem.W.Frag) (tl : TE) : TI := fun σ H R => tl σ H fun x H1 => ∃ a, x = .ref a ∧ (∃ xs, SqT K H1 a xs) ∧ R (Itt K a) H1
theorem pi_list {l : Expr} {tl : TE} (hl : PE X l tl) : PI X tg l (iList X.K tl) := by
  intro pins s σ H R I h
  refine thn (hl pins s σ H _ I h) fun v s1 ⟨x, H1, I1, r1, q1⟩ => ?_
  obtain ⟨a, e, ⟨xs, hq⟩, q⟩ := q1
  subst e
  cases r1
  obtain ⟨its, rv, p, hz⟩ := I1.list hq
  refine wpAny_pyIter_list p.isList ?_
  refine ⟨s1.heap.objs.size, [s1.heap.objs.size], _, _, H1, rfl, I1.kept (t' := s1.toks) fun b o e => Heap.get?_push_of_some _ e, turn_list a _, ⟨_, Heap.get?_push_size _ rfl, rfl, rfl⟩, fun b hb => ?_, q⟩
  have e : b = s1.heap.objs.size := by simpa using hb
  subst e
  exact I1.fpOk (Nat.le_refl _) (I1.hok.fresh (Nat.le_refl _))
theorem pi_tup {l : Expr} {tl : TE} (hl : PE X l tl) : PI X tg l (iTup X.K tl) := by
  intro pins s σ H R I h
  refine thn (hl pins s σ H _ I h) fun v s1 ⟨x, H1, I1, r1, q1⟩ => ?_
  obtain ⟨a, e, ⟨xs, hq⟩, q⟩ := q1
  subst e
  cases r1
  obtain ⟨its, rv, p, hz⟩ := I1.tuple hq
  refine wpAny_pyIter_tuple (show s1.heap.IsTuple a its.toArray from p) ?_
  refine ⟨s1.heap.objs.size, [s1.heap.objs.size], _, _, H1, rfl, I1.kept (t' := s1.toks) fun b o e => Heap.get?_push_of_some _ e, turn_tuple a _, ⟨_, Heap.get?_push_size _ rfl, rfl, rfl⟩, fun b hb => ?_, q⟩
  have e : b = s1.heap.objs.size := by simpa using hb
  subst e
  exact I1.fpOk (Nat.le_refl _) (I1.hok.fresh (Nat.le_refl _))
/-- a range object just made, walked -/
theorem range_it {pins : List (Addr × Obj)} {σ : St} {H : Hp} {s : Shared} {R : It → Hp → Prop} {E : Value → Shared → Prop} {lo hi : Int} {t u v : Tok} {tk : Nat} (I : Inv X pins σ H s) (h1 : -(2 ^ 62) ≤ lo) (h2 : lo < 2 ^ 62) (h3 : -(2 ^ 62) ≤ hi) (h4 : hi < 2 ^ 62)
    (q : R (Itr lo (hi - lo).toNat) H) : wpAny (model X.prog X.w) X.A (pyIter (.ref s.heap.objs.size)) (PIE X pins σ tg R) E { s with heap := s.heap.push { cls := .type "range", data := .fields #[.int lo t, .int hi u, .int 1 v] }, toks := tk } := by
  refine wpAny_pyIter_range (IsRange.new ..) (small_one h1 h2 h3 h4) ?_
  have I1 : Inv X pins σ H { s with heap := s.heap.push { cls := .type "range", data := .fields #[.int lo t, .int hi u, .int 1 v] }, toks := tk } := I.kept fun b o e => Heap.get?_push_of_some _ e
  refine ⟨(s.heap.push { cls := .type "range", data := .fields #[.int lo t, .int hi u, .int 1 v] }).objs.size, [(s.heap.push { cls := .type "range", data := .fields #[.int lo t, .int hi u, .int 1 v] }).objs.size], _, _, H, rfl,
    I1.kept (t' := tk) fun b o e => Heap.get?_push_of_some _ e, turn_range _ lo (hi - lo).toNat, ?_, fun b hb => ?_, q⟩
  · have e1 : lo + ((0 : Nat) : Int) * 1 = lo := by simp
    have e2 : (((hi - lo).toNat : Nat) : Int) - ((0 : Nat) : Int) = Builtin.Range.rangeSize lo hi 1 := by rw [rangeSize_one]; split <;> omega
    show IsRangeIter _ _ (lo + ((0 : Nat) : Int) * 1) ((((hi - lo).toNat : Nat) : Int) - ((0 : Nat) : Int)) 1
    rw [e1, e2]
    exact Heap.get?_push_size _ rfl
  · have e : b = (s.heap.push { cls := .type "range", data := .fields #[.int lo t, .int hi u, .int 1 v] }).objs.size := by simpa using hb
    subst e
    exact I1.fpOk (Nat.le_refl _) (I1.hok.fresh (Nat.le_refl _))
def iRng1 (ta : TA) : TI := fun σ H R => ta σ H fun vs H1 => ∃ j : Int, vs = [.int j] ∧ -(2 ^ 62) ≤ j ∧ j < 2 ^ 62 ∧ R (Itr 0 j.toNat) H1
theorem pi_range1 {a : Expr} {ta : TA} {p pos : Pos} (hg : Gl X "range") (hm : X.mg "range" = none) (ha : PA X [a] ta) (hs : starEach [a] X.env = [(false, eval a X.env)] := by rfl) : PI X tg (.Call (.Name "range" p) [a] [] pos) (iRng1 ta) := by
  intro pins s σ H R I h
  refine Call_ (ld_blt I hg hm boot_range (PyProof.Rows.callWith_type1 (thn (ha pos pins s σ H _ I h) fun us s1 ⟨vs, H1, I1, r1, q1⟩ => ?_) hs rfl))
  obtain ⟨j, e, q1, q2, q⟩ := q1
  subst e
  cases r1 with
  | cons r rr =>
    cases rr
    obtain ⟨t, rfl⟩ := r
    exact call_range_1 (range_it I1 (by omega) (by omega) q1 q2 (by simpa using q))
/-! ### for -/
/-- W: the invariant by the turn and a measure; N: what the body is to reach -/
def tFor (wi : TI) (g : TG) (tb : TS) : TS := fun D σ H => wi σ H fun J H1 => ∃ W : Nat → Nat → St → Hp → Prop, (∃ m, W 0 m σ H1) ∧ ∀ i m σ H, W i m σ H →
  (J.stop i H ∧ D.nx σ H) ∨ (J.go i H ∧ ∃ N : St → Hp → Prop, (∀ σ' H', N σ' H' → ∃ m', m' < m ∧ W (i + 1) m' σ' H') ∧ ∀ x H', J.yld i H x H' → g x σ H' fun σ2 H2 => tb { D with nx := N, ct := N, bk := D.nx } σ2 H2)
/-- the records at fp as they stand -/
def pinsAt (fp : List Addr) (h : Heap) : List (Addr × Obj) := fp.filterMap fun b => (h.get? b).map fun o => (b, o)
theorem mem_pinsAt {fp : List Addr} {h : Heap} {b : Addr} {o : Obj} (hb : b ∈ fp) (e : h.get? b = some o) : (b, o) ∈ pinsAt fp h := List.mem_filterMap.mpr ⟨b, hb, by rw [e]; rfl⟩
theorem of_pinsAt {fp : List Addr} {h : Heap} {p : Addr × Obj} (hp : p ∈ pinsAt fp h) : p.1 ∈ fp ∧ h.get? p.1 = some p.2 := by
  obtain ⟨b, hb, e⟩ := List.mem_filterMap.mp hp
  cases q : h.get? b with
  | none => rw [q] at e; cases e
  | some o =>
    rw [q] at e
    have e' : (b, o) = p := Option.some.inj e
    subst e'
    exact ⟨hb, q⟩
theorem Inv.pinned {pins : List (Addr × Obj)} {σ : St} {H : Hp} {s : Shared} {fp : List Addr} (I : Inv X pins σ H s) (hf : ∀ b ∈ fp, FpOk X pins H b) (ho : ∀ b ∈ fp, ∃ o, s.heap.get? b = some o ∧ ∀ v, o.data ≠ .cell v) : Inv X (pins ++ pinsAt fp s.heap) σ H s :=
  I.pins_of fun p hp => (List.mem_append.mp hp).elim (fun z => I.pin p (List.mem_append_right _ z)) fun z => by
    obtain ⟨hb, e⟩ := of_pinsAt z
    obtain ⟨f0, f1, f2, _⟩ := hf p.1 hb
    obtain ⟨o, e', d⟩ := ho p.1 hb
    rw [e] at e'; cases e'
    exact ⟨e, f0, f1, f2, d⟩
theorem Inv.unpinned {pins pl : List (Addr × Obj)} {σ : St} {H : Hp} {s : Shared} (I : Inv X (pins ++ pl) σ H s) : Inv X pins σ H s := I.pins_of fun p hp => I.pin p (List.mem_append_right _ (List.mem_append_left _ hp))
theorem ps_for {iter : Expr} {body : List Stmt} {wi : TI} {g : TG} {tb : TS} {pos : Pos} (hp : PassesOwn (model X.prog X.w) X.A X.env X.xe) (hc : X.calm = true) (hi : PI X tg iter wi) (hg : PG X tg g) (hb : PSs X body tb)
    (hs : ∀ x, foldedSetIterable iter X.env x = pure x := by intro _; rfl) : PS X (.For tg iter body [] pos) (tFor wi g tb) := by
  intro pins s σ H D I h
  refine wpAny_For (thn (hi pins s σ H _ I h) fun v s1 h1 => thn h1 fun itv s2 h2 => ?_) hs
  obtain ⟨it, fp, tn, J, H2, e, I2, T, st2, f2, W, ⟨m0, w0⟩, turn⟩ := h2
  subst e
  -- what stays true of the iterator's objects through the loop
  have stat : ∀ {H' : Hp}, (∀ b ∈ fp, H' b = none) → ∀ b ∈ fp, FpOk X pins H' b := fun hn b hb => ⟨hn b hb, (f2 b hb).2⟩
  refine codeAny_forLoop_any (fun n s' => ∃ i σ' H', Inv X pins σ' H' s' ∧ tn i s'.heap ∧ (∀ b ∈ fp, H' b = none) ∧ W i n σ' H') ?_ m0 ⟨0, σ, H2, I2, st2, fun b hb => (f2 b hb).1, w0⟩
  rintro n s3 ⟨i, σ3, H3, I3, st3, fr3, w3⟩
  rcases turn i n σ3 H3 w3 with ⟨stop, qn⟩ | ⟨go, N, hN, step⟩
  · refine wpAny_passesOwn hp (thn (T.done X rfl rfl rfl hc i pins s3 σ3 H3 X.xe I3 (stat fr3) st3 stop) fun r s4 ⟨hr, I4⟩ => ?_)
    subst hr
    exact wpAny_execs_nil ⟨σ3, H3, I4, qn⟩
  · refine wpAny_passesOwn hp (thn (T.item X rfl rfl rfl hc i pins s3 σ3 H3 X.xe I3 (stat fr3) st3 go) fun r s4 ⟨u, hr, h4⟩ => ?_)
    subst hr
    refine wpAny_passesOwn hp (thn h4 fun _ s5 ⟨x, H5, I5, r5, y5, st5, fr5⟩ => ?_)
    have I5' := I5.pinned (stat fr5) (T.obj _ _ st5)
    refine wpAny_passesOwn hp (thn (hg _ s5 σ3 H5 x u _ I5' r5 (step x H5 y5)) fun _ s6 ⟨σ6, H6, I6, q6⟩ => ?_)
    refine wpAny_passesOwn hp (thn (hb _ s6 σ6 H6 _ I6 q6) fun f s7 q7 => ?_)
    have again : ∀ {σ7 : St} {H7 : Hp}, Inv X (pins ++ pinsAt fp s5.heap) σ7 H7 s7 → N σ7 H7 → ∃ m, m < n ∧ ∃ i σ' H', Inv X pins σ' H' s7 ∧ tn i s7.heap ∧ (∀ b ∈ fp, H' b = none) ∧ W i m σ' H' := fun {σ7 H7} I7 n7 => by
      obtain ⟨m', hm, w7⟩ := hN σ7 H7 n7
      refine ⟨m', hm, i + 1, σ7, H7, I7.unpinned, T.keep _ _ _ st5 fun b hb o e => (I7.pin (b, o) (List.mem_append_right _ (List.mem_append_right _ (mem_pinsAt hb e)))).1, fun b hb => ?_, w7⟩
      obtain ⟨o, e, d⟩ := T.obj _ _ st5 b hb
      exact (I7.pin (b, o) (List.mem_append_right _ (List.mem_append_right _ (mem_pinsAt hb e)))).2.1
    cases f with
    | next => obtain ⟨σ7, H7, I7, n7⟩ := q7; exact again I7 n7
    | cont => obtain ⟨σ7, H7, I7, n7⟩ := q7; exact again I7 n7
    | brk => obtain ⟨σ7, H7, I7, q7⟩ := q7; exact ⟨σ7, H7, I7.unpinned, q7⟩
    | ret v => obtain ⟨x7, σ7, H7, I7, r7, q7⟩ := q7; exact ⟨x7, σ7, H7, I7.unpinned, r7, q7⟩
end

/-! ### the forms one uses -/
/-- over a list that the body leaves as it is -/
theorem for_list {K : PySem.W.Frag} {a : Addr} {xs : List V} {g : TG} {tb : TS} {D : Ends} {σ : St} {H : Hp} (Pv : Nat → St → Hp → Prop) (h0 : Pv 0 σ H) (hl : ∀ i σ H, i ≤ xs.length → Pv i σ H → SqL K H a xs)
    (hs : ∀ i x σ H, xs[i]? = some x → Pv i σ H → g x σ H fun σ2 H2 => tb { D with nx := Pv (i + 1), ct := Pv (i + 1), bk := D.nx } σ2 H2) (hd : ∀ σ H, Pv xs.length σ H → D.nx σ H) :
    ∃ W : Nat → Nat → St → Hp → Prop, (∃ m, W 0 m σ H) ∧ ∀ i m σ H, W i m σ H →
      ((Itl K a).stop i H ∧ D.nx σ H) ∨ ((Itl K a).go i H ∧ ∃ N : St → Hp → Prop, (∀ σ' H', N σ' H' → ∃ m', m' < m ∧ W (i + 1) m' σ' H') ∧ ∀ x H', (Itl K a).yld i H x H' → g x σ H' fun σ2 H2 => tb { D with nx := N, ct := N, bk := D.nx } σ2 H2) := by
  refine ⟨fun i m σ H => m = xs.length - i ∧ i ≤ xs.length ∧ Pv i σ H, ⟨xs.length, by simp, Nat.zero_le _, h0⟩, ?_⟩
  rintro i m σ H ⟨rfl, hi, p⟩
  have q := hl i σ H hi p
  by_cases hlt : i < xs.length
  · refine .inr ⟨⟨xs, xs[i], q, by simp [hlt]⟩, Pv (i + 1), fun σ' H' p' => ⟨xs.length - (i + 1), by omega, rfl, hlt, p'⟩, fun x H' y => ?_⟩
    obtain ⟨e, y⟩ := y
    subst e
    exact hs i x σ _ (y xs q) p
  · have e : i = xs.length := by omega
    subst e
    exact .inl ⟨⟨xs, q, Nat.le_refl _⟩, hd σ H p⟩
theorem for_tup {K : PySem.W.Frag} {a : Addr} {xs : List V} {g : TG} {tb : TS} {D : Ends} {σ : St} {H : Hp} (Pv : Nat → St → Hp → Prop) (h0 : Pv 0 σ H) (hl : ∀ i σ H, i ≤ xs.length → Pv i σ H → SqT K H a xs)
    (hs : ∀ i x σ H, xs[i]? = some x → Pv i σ H → g x σ H fun σ2 H2 => tb { D with nx := Pv (i + 1), ct := Pv (i + 1), bk := D.nx } σ2 H2) (hd : ∀ σ H, Pv xs.length σ H → D.nx σ H) :
    ∃ W : Nat → Nat → St → Hp → Prop, (∃ m, W 0 m σ H) ∧ ∀ i m σ H, W i m σ H →
      ((Itt K a).stop i H ∧ D.nx σ H) ∨ ((Itt K a).go i H ∧ ∃ N : St → Hp → Prop, (∀ σ' H', N σ' H' → ∃ m', m' < m ∧ W (i + 1) m' σ' H') ∧ ∀ x H', (Itt K a).yld i H x H' → g x σ H' fun σ2 H2 => tb { D with nx := N, ct := N, bk := D.nx } σ2 H2) := by
  refine ⟨fun i m σ H => m = xs.length - i ∧ i ≤ xs.length ∧ Pv i σ H, ⟨xs.length, by simp, Nat.zero_le _, h0⟩, ?_⟩
  rintro i m σ H ⟨rfl, hi, p⟩
  have q := hl i σ H hi p
  by_cases hlt : i < xs.length
  · refine .inr ⟨⟨xs, xs[i], q, by simp [hlt]⟩, Pv (i + 1), fun σ' H' p' => ⟨xs.length - (i + 1), by omega, rfl, hlt, p'⟩, fun x H' y => ?_⟩
    obtain ⟨e, y⟩ := y
    subst e
    exact hs i x σ _ (y xs q) p
  · have e : i = xs.length := by omega
    subst e
    exact .inl ⟨⟨xs, q, Nat.le_refl _⟩, hd σ H p⟩
theorem for_range {lo : Int} {n : Nat} {g : TG} {tb : TS} {D : Ends} {σ : St} {H : Hp} (Pv : Nat → St → Hp → Prop) (h0 : Pv 0 σ H)
    (hs : ∀ i σ H, i < n → Pv i σ H → g (.int (lo + i)) σ H fun σ2 H2 => tb { D with nx := Pv (i + 1), ct := Pv (i + 1), bk := D.nx } σ2 H2) (hd : ∀ σ H, Pv n σ H → D.nx σ H) :
    ∃ W : Nat → Nat → St → Hp → Prop, (∃ m, W 0 m σ H) ∧ ∀ i m σ H, W i m σ H →
      ((Itr lo n).stop i H ∧ D.nx σ H) ∨ ((Itr lo n).go i H ∧ ∃ N : St → Hp → Prop, (∀ σ' H', N σ' H' → ∃ m', m' < m ∧ W (i + 1) m' σ' H') ∧ ∀ x H', (Itr lo n).yld i H x H' → g x σ H' fun σ2 H2 => tb { D with nx := N, ct := N, bk := D.nx } σ2 H2) := by
  refine ⟨fun i m σ H => m = n - i ∧ i ≤ n ∧ Pv i σ H, ⟨n, by simp, Nat.zero_le _, h0⟩, ?_⟩
  rintro i m σ H ⟨rfl, hi, p⟩
  by_cases hlt : i < n
  · refine .inr ⟨hlt, Pv (i + 1), fun σ' H' p' => ⟨n - (i + 1), by omega, rfl, hlt, p'⟩, fun x H' y => ?_⟩
    obtain ⟨e, y⟩ := y
    subst e y
    exact hs i σ _ hlt p
  · have e : i = n := by omega
    subst e
    exact .inl ⟨Nat.le_refl _, hd σ H p⟩
/-- while, by a word and a measure of the state -/
theorem while_by {c : TT} {tb : TS} {D : Ends} {σ : St} {H : Hp} (Pv : St → Hp → Prop) (μ : St → Hp → Nat) (h0 : Pv σ H)
    (hs : ∀ σ H, Pv σ H → c σ H fun b H1 => if b = true then tb { D with nx := fun σ' H' => Pv σ' H' ∧ μ σ' H' < μ σ H, ct := fun σ' H' => Pv σ' H' ∧ μ σ' H' < μ σ H, bk := D.nx } σ H1 else D.nx σ H1)
    (mono : ∀ σ H Q Q', (∀ b H1, Q b H1 → Q' b H1) → c σ H Q → c σ H Q') : tWhile c tb D σ H := by
  refine ⟨fun m σ H => m = μ σ H ∧ Pv σ H, ⟨_, rfl, h0⟩, ?_⟩
  rintro m σ H ⟨rfl, p⟩
  refine mono σ H _ _ (fun b H1 q => ?_) (hs σ H p)
  cases b with
  | true => exact ⟨_, fun σ' H' ⟨p', l⟩ => ⟨_, l, rfl, p'⟩, q⟩
  | false => exact q
end L2

namespace L2
open PySem PySem.Spec PyProof.Rows

abbrev R2 := V → V → Hp → VK → Prop
/-- a two-place operation on values: f is binaryOp op, inplaceOp op or compareOp op -/
def OpR (X : Cx) (f : Value → Value → Sem Value) (r : R2) : Prop :=
  ∀ (pins : List (Addr × Obj)) (s : Shared) (σ : St) (H : Hp) (x y : V) (v u : Value) (Q : VK), Inv X pins σ H s → RelV x v → RelV y u → r x y H Q →
    wpAny (model X.prog X.w) X.A (f v u) (EP X pins σ Q) X.xe s
/-- a call of a value that is known (a builtin, a type) with values -/
def CallR (X : Cx) (f : Value) (r : List V → Hp → VK → Prop) : Prop :=
  ∀ (pins : List (Addr × Obj)) (s : Shared) (σ : St) (H : Hp) (xs : List V) (us : List Value) (Q : VK), Inv X pins σ H s → Vals xs us → r xs H Q →
    wpAny (model X.prog X.w) X.A (call f us) (EP X pins σ Q) X.xe s
def tOp (r : R2) (ta tb : TE) : TE := fun σ H Q => ta σ H fun x H1 => tb σ H1 fun y H2 => r x y H2 Q
/-- ints in, under C, and a value out -/
def rI (C : Int → Int → Prop) (g : Int → Int → V) : R2 := fun x y H Q => ∃ i j, x = .int i ∧ y = .int j ∧ C i j ∧ Q (g i j) H
def rI0 (g : Int → Int → V) : R2 := fun x y H Q => ∃ i j, x = .int i ∧ y = .int j ∧ Q (g i j) H
section
variable {X : Cx} {a b c : Expr} {ta tb tc : TE} {pos : Pos}

theorem binT (ha : PE X a ta) (hb : PE X b tb) {pins : List (Addr × Obj)} {s : Shared} {σ : St} {H : Hp} {R : V → V → Hp → Prop} (I : Inv X pins σ H s)
    (h : ta σ H fun x H1 => tb σ H1 fun y H2 => R x y H2) {Q : Value → Shared → Prop} {f : Value → Value → Sem Value}
    (hf : ∀ v u s2 x y H2, Inv X pins σ H2 s2 → RelV x v → RelV y u → R x y H2 → wpAny (model X.prog X.w) X.A (f v u) Q X.xe s2) :
    wpAny (model X.prog X.w) X.A (eval a X.env) (fun v s₁ => wpAny (model X.prog X.w) X.A (eval b X.env) (fun u s₂ => wpAny (model X.prog X.w) X.A (f v u) Q X.xe s₂) X.xe s₁) X.xe s := by
  refine thn (ha pins s σ H _ I h) fun v s1 ⟨x, H1, I1, r1, q1⟩ => ?_
  refine thn (hb pins s1 σ H1 _ I1 q1) fun u s2 ⟨y, H2, I2, r2, q2⟩ => ?_
  exact hf v u s2 x y H2 I2 r1 r2 q2

theorem pe_op {op : Operator} {r : R2} (ho : OpR X (binaryOp op) r) (ha : PE X a ta) (hb : PE X b tb) : PE X (.BinOp a op b pos) (tOp r ta tb) := by
  intro pins s σ H Q I h
  exact wpAny_BinOp (binT ha hb I h fun v u s2 x y H2 I2 rx ry q => ho pins s2 σ H2 x y v u Q I2 rx ry q)
/-! ### ints -/
theorem opI {f : Value → Value → Sem Value} {C : Int → Int → Prop} {g : Int → Int → Int}
    (rule : ∀ (i j : Int) (t u : Tok) (s : Shared) (Q : Value → Shared → Prop) (E : Value → Shared → Prop), C i j → Q (.int (g i j) s.toks) { s with toks := s.toks + 1 } → wpAny (model X.prog X.w) X.A (f (.int i t) (.int j u)) Q E s) :
    OpR X f (rI C fun i j => .int (g i j)) := by
  intro pins s σ H x y v u Q I rx ry h
  obtain ⟨i, j, rfl, rfl, hc, q⟩ := h
  obtain ⟨t, rfl⟩ := rx
  obtain ⟨t', rfl⟩ := ry
  exact rule i j t t' s _ _ hc ⟨.int (g i j), H, I.tok _, ⟨_, rfl⟩, q⟩
theorem opI0 {f : Value → Value → Sem Value} {g : Int → Int → Int}
    (rule : ∀ (i j : Int) (t u : Tok) (s : Shared) (Q : Value → Shared → Prop) (E : Value → Shared → Prop), Q (.int (g i j) s.toks) { s with toks := s.toks + 1 } → wpAny (model X.prog X.w) X.A (f (.int i t) (.int j u)) Q E s) :
    OpR X f (rI0 fun i j => .int (g i j)) := by
  intro pins s σ H x y v u Q I rx ry h
  obtain ⟨i, j, rfl, rfl, q⟩ := h
  obtain ⟨t, rfl⟩ := rx
  obtain ⟨t', rfl⟩ := ry
  exact rule i j t t' s _ _ ⟨.int (g i j), H, I.tok _, ⟨_, rfl⟩, q⟩
theorem opB0 {f : Value → Value → Sem Value} {g : Int → Int → Bool}
    (rule : ∀ (i j : Int) (t u : Tok) (s : Shared) (Q : Value → Shared → Prop) (E : Value → Shared → Prop), Q (.bool (g i j)) s → wpAny (model X.prog X.w) X.A (f (.int i t) (.int j u)) Q E s) :
    OpR X f (rI0 fun i j => .bl (g i j)) := by
  intro pins s σ H x y v u Q I rx ry h
  obtain ⟨i, j, rfl, rfl, q⟩ := h
  obtain ⟨t, rfl⟩ := rx
  obtain ⟨t', rfl⟩ := ry
  exact rule i j t t' s _ _ ⟨.bl (g i j), H, I, rfl, q⟩

def CDiv (i j : Int) : Prop := 0 < j ∧ j < 1073741824
def CPow (i j : Int) : Prop := 0 ≤ j ∧ j ≤ 1000000 ∧ i.natAbs < 2 ^ 64
def CMul (i j : Int) : Prop := (-(2 ^ 64) < i ∧ i < 2 ^ 64) ∨ (-(2 ^ 64) < j ∧ j < 2 ^ 64)
theorem CMul.ok {i j : Int} (h : CMul i j) : IntMulOk i j := by
  rcases h with ⟨h1, h2⟩ | ⟨h1, h2⟩
  · exact .of_left (intBits_le_64 h1 h2)
  · exact .of_right (intBits_le_64 h1 h2)
theorem two_pow_nn (k : Nat) : (0 : Int) ≤ 2 ^ k := by
  rw [two_pow_cast]
  exact Int.natCast_nonneg _

theorem op_add : OpR X (binaryOp .Add) (rI0 fun i j => .int (i + j)) := opI0 fun _ _ _ _ _ _ _ q => add_int q
theorem op_sub : OpR X (binaryOp .Sub) (rI0 fun i j => .int (i - j)) := opI0 fun _ _ _ _ _ _ _ q => sub_int q
theorem op_mul : OpR X (binaryOp .Mult) (rI CMul fun i j => .int (i * j)) := opI fun _ _ _ _ _ _ _ hc q => mul_int q hc.ok
/-- // by a positive divisor -/
theorem op_fdiv : OpR X (binaryOp .FloorDiv) (rI CDiv fun i j => .int (i / j)) := opI fun i j _ _ _ _ _ hc q => by
  have h1 : (0 : Int) < j := hc.1
  have h2 : j < 1073741824 := hc.2
  exact floordiv_int (by omega) (by rw [Int.fdiv_eq_ediv_of_nonneg i (by omega)]; exact q) (.inl (PyProof.noPylong_small (by omega)))
/-- % by a positive divisor of any size -/
theorem op_mod : OpR X (binaryOp .Mod) (rI (fun _ j => 0 < j) fun i j => .int (i % j)) := opI fun i j _ _ _ _ _ hc q => by
  have h1 : (0 : Int) < j := hc
  exact mod_int' (by omega) (by rw [Int.fmod_eq_emod_of_nonneg i (by omega)]; exact q)
theorem op_pow : OpR X (binaryOp .Pow) (rI CPow fun i j => .int (i ^ j.toNat)) := opI fun _ _ _ _ _ _ _ hc q => pow_int_small hc.1 hc.2.1 hc.2.2 q
/-! ### bools among ints: n += (a < b) -/
end

/-! ### comparisons -/
/-- the scalars that == tells apart as data does -/
def scal : V → V → Bool
  | .non, .non => true | .non, .int _ => true | .int _, .non => true | .non, .bl _ => true | .bl _, .non => true | .non, .str _ => true | .str _, .non => true
  | .int _, .int _ => true | .bl _, .bl _ => true | .str _, .str _ => true | .byt _, .byt _ => true
  | .int _, .str _ => true | .str _, .int _ => true | .bl _, .str _ => true | .str _, .bl _ => true
  | _, _ => false
def rEq : R2 := fun x y H Q => scal x y = true ∧ Q (.bl (decide (x = y))) H
def rNe : R2 := fun x y H Q => scal x y = true ∧ Q (.bl (!decide (x = y))) H

theorem dec_int {i j : Int} : decide (V.int i = V.int j) = (i == j) := by
  rw [Bool.eq_iff_iff]
  simp
theorem dec_bl {i j : Bool} : decide (V.bl i = V.bl j) = (i == j) := by
  rw [Bool.eq_iff_iff]
  simp
theorem dec_str {i j : Str} : decide (V.str i = V.str j) = (i == j) := by
  rw [Bool.eq_iff_iff]
  simp
theorem dec_byt {i j : Array UInt8} : decide (V.byt i = V.byt j) = (i.toList == j.toList) := by
  rw [Bool.eq_iff_iff]
  cases i
  cases j
  simp

section
variable {X : Cx} {a b c : Expr} {ta tb tc : TE} {pos : Pos}
theorem fin_bl {pins : List (Addr × Obj)} {σ : St} {H : Hp} {s : Shared} {Q : VK} {k k' : Bool} (I : Inv X pins σ H s) (q : Q (.bl k) H) (e : k = k') : EP X pins σ Q (.bool k') s := by
  subst e
  exact ⟨.bl k, H, I, rfl, q⟩
theorem op_eq : OpR X (compareOp .Eq) rEq := by
  intro pins s σ H x y v u Q I rx ry h
  obtain ⟨hs, q⟩ := h
  cases x with
  | non =>
    cases rx
    cases y with
    | non => cases ry; exact PySem.EqNone.eq_none_none (fin_bl I q (by simp))
    | bl j => cases ry; exact PySem.EqNone.eq_none_bool (fin_bl I q (by simp))
    | int j => obtain ⟨t', rfl⟩ := ry; exact PySem.EqNone.eq_none_int (fin_bl I q (by simp))
    | str j => obtain ⟨t', rfl⟩ := ry; exact PySem.EqNone.eq_none_str (fin_bl I q (by simp))
    | _ => exact absurd (show false = true from hs) Bool.false_ne_true
  | bl i =>
    cases rx
    cases y with
    | non => cases ry; exact PySem.EqNone.eq_bool_none (fin_bl I q (by simp))
    | bl j => cases ry; exact eq_bool (fin_bl I q dec_bl)
    | str j => obtain ⟨t', rfl⟩ := ry; exact PySem.EqMixed.eq_bool_str (fin_bl I q (by simp))
    | _ => exact absurd (show false = true from hs) Bool.false_ne_true
  | int i =>
    obtain ⟨t, rfl⟩ := rx
    cases y with
    | non => cases ry; exact PySem.EqNone.eq_int_none (fin_bl I q (by simp))
    | int j => obtain ⟨t', rfl⟩ := ry; exact eq_int (fin_bl I q dec_int)
    | str j => obtain ⟨t', rfl⟩ := ry; exact PySem.EqMixed.eq_int_str (fin_bl I q (by simp))
    | _ => exact absurd (show false = true from hs) Bool.false_ne_true
  | str i =>
    obtain ⟨t, rfl⟩ := rx
    cases y with
    | non => cases ry; exact PySem.EqNone.eq_str_none (fin_bl I q (by simp))
    | bl j => cases ry; exact PySem.EqMixed.eq_str_bool (fin_bl I q (by simp))
    | int j => obtain ⟨t', rfl⟩ := ry; exact PySem.EqMixed.eq_str_int (fin_bl I q (by simp))
    | str j => obtain ⟨t', rfl⟩ := ry; exact eq_str (fin_bl I q dec_str)
    | _ => exact absurd (show false = true from hs) Bool.false_ne_true
  | byt i =>
    obtain ⟨t, rfl⟩ := rx
    cases y with
    | byt j => obtain ⟨t', rfl⟩ := ry; exact PySem.W.eq_bytes (fin_bl I q dec_byt)
    | _ => exact absurd (show false = true from hs) Bool.false_ne_true
  | _ => cases y <;> exact absurd (show false = true from hs) Bool.false_ne_true
theorem op_ne : OpR X (compareOp .NotEq) rNe := by
  intro pins s σ H x y v u Q I rx ry h
  obtain ⟨hs, q⟩ := h
  cases x with
  | non =>
    cases rx
    cases y with
    | non => cases ry; exact PySem.EqNone.ne_none_none (fin_bl I q (by simp))
    | bl j => cases ry; exact PySem.EqNone.ne_none_bool (fin_bl I q (by simp))
    | int j => obtain ⟨t', rfl⟩ := ry; exact PySem.EqNone.ne_none_int (fin_bl I q (by simp))
    | str j => obtain ⟨t', rfl⟩ := ry; exact PySem.EqNone.ne_none_str (fin_bl I q (by simp))
    | _ => exact absurd (show false = true from hs) Bool.false_ne_true
  | bl i =>
    cases rx
    cases y with
    | non => cases ry; exact PySem.EqNone.ne_bool_none (fin_bl I q (by simp))
    | bl j => cases ry; exact ne_bool (fin_bl I q (congrArg not dec_bl))
    | str j => obtain ⟨t', rfl⟩ := ry; exact PySem.EqMixed.ne_bool_str (fin_bl I q (by simp))
    | _ => exact absurd (show false = true from hs) Bool.false_ne_true
  | int i =>
    obtain ⟨t, rfl⟩ := rx
    cases y with
    | non => cases ry; exact PySem.EqNone.ne_int_none (fin_bl I q (by simp))
    | int j => obtain ⟨t', rfl⟩ := ry; exact ne_int (fin_bl I q (congrArg not dec_int))
    | str j => obtain ⟨t', rfl⟩ := ry; exact PySem.EqMixed.ne_int_str (fin_bl I q (by simp))
    | _ => exact absurd (show false = true from hs) Bool.false_ne_true
  | str i =>
    obtain ⟨t, rfl⟩ := rx
    cases y with
    | non => cases ry; exact PySem.EqNone.ne_str_none (fin_bl I q (by simp))
    | bl j => cases ry; exact PySem.EqMixed.ne_str_bool (fin_bl I q (by simp))
    | int j => obtain ⟨t', rfl⟩ := ry; exact PySem.EqMixed.ne_str_int (fin_bl I q (by simp))
    | str j => obtain ⟨t', rfl⟩ := ry; exact ne_str (fin_bl I q (congrArg not dec_str))
    | _ => exact absurd (show false = true from hs) Bool.false_ne_true
  | byt i =>
    obtain ⟨t, rfl⟩ := rx
    cases y with
    | byt j => obtain ⟨t', rfl⟩ := ry; exact PySem.W.ne_bytes (fin_bl I q (congrArg not dec_byt))
    | _ => exact absurd (show false = true from hs) Bool.false_ne_true
  | _ => cases y <;> exact absurd (show false = true from hs) Bool.false_ne_true

theorem op_lt : OpR X (compareOp .Lt) (rI0 fun i j => .bl (decide (i < j))) := opB0 fun _ _ _ _ _ _ _ q => lt_int q
theorem op_gt : OpR X (compareOp .Gt) (rI0 fun i j => .bl (decide (j < i))) := opB0 fun _ _ _ _ _ _ _ q => gt_int q
/-- is None, is not None: the right side a value none -/
theorem op_isN : OpR X (compareOp .Is) (fun x y H Q => y = .non ∧ Q (.bl (decide (x = .non))) H) := by
  intro pins s σ H x y v u Q I rx ry h
  obtain ⟨rfl, q⟩ := h
  cases ry
  refine is_none_gen (fin_bl I q ?_)
  cases x <;> first
    | (cases rx; rfl)
    | (obtain ⟨t, rfl⟩ := rx; rfl)
theorem op_notN : OpR X (compareOp .IsNot) (fun x y H Q => y = .non ∧ Q (.bl (!decide (x = .non))) H) := by
  intro pins s σ H x y v u Q I rx ry h
  obtain ⟨rfl, q⟩ := h
  cases ry
  refine isnot_none_gen (fin_bl I q ?_)
  cases x <;> first
    | (cases rx; rfl)
    | (obtain ⟨t, rfl⟩ := rx; rfl)

theorem nomark (b : Expr) {op : CmpOp} (h : op ≠ .In := by decide) (h2 : op ≠ .NotIn := by decide) : behindInMarks op b = false := by
  have e1 : (op == CmpOp.In) = false := by cases op <;> first | rfl | exact absurd rfl h
  have e2 : (op == CmpOp.NotIn) = false := by cases op <;> first | rfl | exact absurd rfl h2
  cases b <;> simp [behindInMarks, e1, e2]
/-- a comparison as a value; hm: nomark b, or (for in, not in) by with_unfolding_all rfl -/
theorem pe_cmpR {op : CmpOp} {r : R2} (ho : OpR X (compareOp op) r) (ha : PE X a ta) (hb : PE X b tb) (hm : behindInMarks op b = false) : PE X (.Compare a [op] [b] pos) (tOp r ta tb) := by
  intro pins s σ H Q I h
  exact wpAny_Compare1 (binT ha hb I h fun v u s2 x y H2 I2 rx ry q => ho pins s2 σ H2 x y v u Q I2 rx ry q) hm
/-- a reading of a value as a test -/
def tTest (t : TE) : TT := fun σ H Q => t σ H fun x H' => ∃ k, x = .bl k ∧ Q k H'
theorem pt_cmpR {op : CmpOp} {r : R2} (ho : OpR X (compareOp op) r) (ha : PE X a ta) (hb : PE X b tb) (hm : behindInMarks op b = false) : PT X (.Compare a [op] [b] pos) (tTest (tOp r ta tb)) := by
  intro pins s σ H Q I h
  refine wpAny_isTrue_Compare1 (thn (ha pins s σ H _ I h) fun v s1 ⟨x, H1, I1, r1, q1⟩ => thn (hb pins s1 σ H1 _ I1 q1) fun u s2 ⟨y, H2, I2, r2, q2⟩ =>
    thn (ho pins s2 σ H2 x y v u _ I2 r1 r2 q2) fun c s3 ⟨z, H3, I3, r3, k, e, q3⟩ => ?_) hm
  subst e
  cases r3
  exact wpAny_truthy_bool ⟨H3, I3, q3⟩
/-! ### truth -/
theorem line63 : (sizeLine : Nat) < 2 ^ 63 := by rw [sizeLine_eq]; decide
/-! ### strs and bytes -/
theorem op_add_str : OpR X (binaryOp .Add) (fun x y H Q => ∃ i j, x = .str i ∧ y = .str j ∧ i.length + j.length ≤ sizeLine ∧ Q (.str (i ++ j)) H) := by
  intro pins s σ H x y v u Q I rx ry h
  obtain ⟨i, j, rfl, rfl, hz, q⟩ := h
  obtain ⟨t, rfl⟩ := rx
  obtain ⟨t', rfl⟩ := ry
  exact add_str (fun t' tk => ⟨.str (i ++ j), H, I.tok _, ⟨_, rfl⟩, q⟩) hz
/-! ### scalar builtins, by CallR -/
theorem vals1 {x : V} {us : List Value} (r : Vals [x] us) : ∃ u, us = [u] ∧ RelV x u := by
  cases r with
  | cons r1 r2 => cases r2; exact ⟨_, rfl, r1⟩
theorem vals2 {x y : V} {us : List Value} (r : Vals [x, y] us) : ∃ u w', us = [u, w'] ∧ RelV x u ∧ RelV y w' := by
  cases r with
  | cons r1 r2 =>
    cases r2 with
    | cons r3 r4 => cases r4; exact ⟨_, _, rfl, r1, r3⟩
end
end L2

namespace L2
open PySem PySem.Spec PyProof.Rows

/-! ### an instance, its attributes a map -/
structure ObjM (h : Heap) (x dx C : Addr) (mA : Str → Option Value) : Prop where
  obj : h.get? x = some (PySem.W.instObj C dx)
  ns : h.Ns1 dx mA
  ne : dx ≠ x

theorem lookIn_ns {h : Heap} {dx : Addr} {mA : Str → Option Value} (n : h.Ns1 dx mA) : ∃ od, h.get? dx = some od ∧ ∀ name, PySem.W.lookIn name od = some (mA name) := by
  obtain ⟨o, es, ep, ho, hd, hk, _, hm⟩ := n
  refine ⟨o, ho, fun name => ?_⟩
  have e := hm name
  unfold nsFind findBy at e
  rw [← Array.find?_toList] at e
  unfold PySem.W.lookIn
  rw [hd]
  dsimp only
  split
  · rename_i y q
    rw [q] at e
    exact congrArg some e
  · rename_i q
    rw [q] at e
    have a : es.toList.any (·.refKey) = false := by
      rw [List.any_eq_false]
      intro y hy
      obtain ⟨z, t, hkey⟩ := hk y (Array.mem_toList_iff.mp hy)
      simp [DictEntry.refKey, hkey]
    have a' : ¬ es.toList.any (·.refKey) = true := by rw [a]; exact Bool.false_ne_true
    rw [if_neg a']
    exact congrArg some e

theorem ObjM.look {h : Heap} {x dx C : Addr} {mA : Str → Option Value} (I : ObjM h x dx C mA) : ∃ od, PySem.W.InstAt h x (PySem.W.instObj C dx) C (some od) ∧ ∀ name, PySem.W.lookIn name od = some (mA name) :=
  let ⟨od, ho, hl⟩ := lookIn_ns I.ns
  ⟨od, ⟨I.obj, rfl, rfl, ho⟩, hl⟩

section
variable {prog : Program} {w : World} {A : Around} {E : Value → Shared → Prop} {s : Shared} {K : PySem.W.Frag} {x dx C f : Addr} {mA : Str → Option Value} {name : Str} {v : Value}

theorem get_map {expr : Bool} {Q : Value → Shared → Prop} (X : K.In s.heap) (I : ObjM s.heap x dx C mA) (hg : PySem.W.plainGet K C name = true) (hh : PySem.W.hasDictIn K C = true)
    (ha : PySem.W.findIn K (.ref C) name = some none) (hv : mA name = some v) (hv' : PySem.W.handedIn v = true) (h : Q v { s with toks := s.toks + 1 }) :
    wpAny (model prog w) A (getAttr (.ref x) name expr) Q E s := by
  obtain ⟨od, J, hl⟩ := I.look
  exact PySem.W.get_value X J (PySem.W.plainGet_of hg).1 (PySem.W.findObj_own hh ha rfl (by rw [hl, hv])) hv' h

theorem get_meth {pl : Sem Bool} {Q : Value × List Value → Shared → Prop} (X : K.In s.heap) (I : ObjM s.heap x dx C mA) (hg : PySem.W.plainGet K C name = true)
    (hf : PySem.W.findIn K (.ref C) name = some (some (.ref f))) (ht : PySem.W.isFn K (.ref f) = true) (hv : mA name = none) (h : Q (.ref f, [.ref x]) s) :
    wpAny (model prog w) A (getMethod (.ref x) name pl) Q E s := by
  obtain ⟨od, J, hl⟩ := I.look
  exact PySem.W.method_fn X J (PySem.W.plainGet_of hg).1 (PySem.W.plainGet_of hg).2 hf (beq_iff_eq.mp ht) (by show (PySem.W.lookIn name od).map (·.isSome) = some false; rw [hl, hv]; rfl) h

theorem set_map {ns : List Str} {Q : Unit → Shared → Prop} (X : K.In s.heap) (I : ObjM s.heap x dx C mA)
    (hs : PySem.W.findIn K (.ref C) "__setattr__" = some (some (.builtin "object.__setattr__"))) (hp : PySem.W.plainOver K C = true) (ht : PySem.W.takerIn K C name = some none) (hh : PySem.W.hasDictIn K C = true)
    (hw : PySem.Within mA ns) (hsz : ns.length ≤ sizeLine)
    (h : ∀ h', ObjM h' x dx C (fun y => if y = name then some v else mA y) → Heap.SameBut dx s.heap h' → Q () { s with heap := h', toks := s.toks + 2 }) :
    wpAny (model prog w) A (setAttr (.ref x) name v) Q E s := by
  obtain ⟨od, J, hl⟩ := I.look
  refine PySem.W.set_plain X J hs (PySem.W.osa_open (s := { s with toks := s.toks + 1 }) (r := none) X J hp ht fun b => ?_)
  obtain ⟨cd, hc, hd'⟩ := PySem.W.any_some hh
  have hx : s.heap.get? x = some ⟨.ref C, some dx, .plain, #[]⟩ := I.obj
  refine wpAny_bind (wpAny_pure (wpAny_bind (wpAny_bind (wpAny_loadPart hx (wpAny_bind (PySem.W.Looks.here (s := { s with toks := s.toks + 1 }) (PySem.W.looks_clsIn X hc) ?_))))))
  rw [hd']
  refine wpAny_pure (a := some dx) (wpAny_bind (wpAny_pure (wpAny_bind ?_)))
  refine wpAny_nsSet1 (s := { s with toks := s.toks + 1 }) I.ns fun h' hn2 hs2 => ?_
  obtain ⟨oD, esD, epD, hoD, hdD, hcD⟩ := hn2.count (PySem.Within.cons name v hw)
  refine wpAny_bind (wpAny_lookBehind hoD (by rw [hdD]; exact pastItsLine_dict (Nat.le_trans hcD (by rw [List.length_cons]; omega))) ?_)
  exact wpAny_pure (h _ ⟨(hs2.2 _ (Ne.symm I.ne)).trans I.obj, hn2, I.ne⟩ hs2)

/-- C(..): the dict at the heap's end, the instance behind it; then its __init__ -/
theorem make_map {R : Result → Shared → Prop} {vs : List Value} {kw : List (Str × Value)} (X : K.In s.heap) (hm : PySem.W.makesIn K C = true)
    (hi : PySem.W.findIn K (.ref C) "__init__" = some (some (.ref f))) (hf : PySem.W.typeIn K (.ref f) = some (.type "function"))
    (h : codeAny (model prog w) (A.under (.builtin "type.__call__" ⟨.ref C :: vs, kw⟩)) (.call (.ref f) ⟨.ref (s.heap.objs.size + 1) :: vs, kw⟩) (PySem.W.InitBack (s.heap.objs.size + 1) R)
      { s with heap := (s.heap.push PySem.W.emptyDict).push (PySem.W.instObj C s.heap.objs.size) }) :
    codeAny (model prog w) A (.call (.ref C) ⟨vs, kw⟩) R s := by
  obtain ⟨hh, g, d, t, os⟩ := s
  exact PySem.W.make_core (PySem.W.makes_of X hm) (PySem.W.looks_findIn X hi) (fun self => PySem.W.bind_fn X self hf) (.inl rfl) h
end

/-! ### the attributes as a list of pairs -/
def putF (f : Str) (v : V) : List (Str × V) → List (Str × V)
  | [] => [(f, v)]
  | (g, x) :: r => if g = f then (g, v) :: r else (g, x) :: putF f v r
theorem lookup_putF (f g : Str) (v : V) : ∀ fs : List (Str × V), (putF f v fs).lookup g = if g = f then some v else fs.lookup g
  | [] => by
    show List.lookup g [(f, v)] = _
    by_cases h : g = f
    · have hb : (g == f) = true := beq_iff_eq.mpr h
      simp only [List.lookup, hb, if_pos h]
    · have hb : (g == f) = false := beq_eq_false_iff_ne.mpr h
      simp only [List.lookup, hb, if_neg h]
  | (k, x) :: r => by
    have ih := lookup_putF f g v r
    rw [show putF f v ((k, x) :: r) = (if k = f then (k, v) :: r else (k, x) :: putF f v r) from rfl]
    by_cases hk : k = f
    · rw [if_pos hk]
      by_cases h : g = k
      · have hb : (g == k) = true := beq_iff_eq.mpr h
        simp only [List.lookup, hb, if_pos (h.trans hk)]
      · have hb : (g == k) = false := beq_eq_false_iff_ne.mpr h
        simp only [List.lookup, hb, if_neg (fun e : g = f => h (e.trans hk.symm))]
    · rw [if_neg hk]
      by_cases h : g = k
      · have hb : (g == k) = true := beq_iff_eq.mpr h
        simp only [List.lookup, hb, if_neg (fun e : g = f => hk (h.symm.trans e))]
      · have hb : (g == k) = false := beq_eq_false_iff_ne.mpr h
        simp only [List.lookup, hb]
        exact ih
theorem keys_putF (f : Str) (v : V) : ∀ fs : List (Str × V), f ∈ (putF f v fs).map (·.1) ∧ ∀ g, g ∈ fs.map (·.1) → g ∈ (putF f v fs).map (·.1)
  | [] => ⟨by simp [putF], fun g h => by simp at h⟩
  | (k, x) :: r => by
    obtain ⟨i1, i2⟩ := keys_putF f v r
    rw [show putF f v ((k, x) :: r) = (if k = f then (k, v) :: r else (k, x) :: putF f v r) from rfl]
    by_cases hk : k = f
    · rw [if_pos hk]
      subst hk
      exact ⟨by simp, fun g h => by simpa using h⟩
    · rw [if_neg hk]
      refine ⟨?_, fun g h => ?_⟩
      · rw [List.map_cons]
        exact List.mem_cons_of_mem _ i1
      · rw [List.map_cons] at h ⊢
        rcases List.mem_cons.mp h with e | e
        · exact List.mem_cons.mpr (.inl e)
        · exact List.mem_cons_of_mem _ (i2 g e)
theorem length_putF (f : Str) (v : V) : ∀ fs : List (Str × V), (putF f v fs).length ≤ fs.length + 1
  | [] => by simp [putF]
  | (k, x) :: r => by
    have ih := length_putF f v r
    rw [show putF f v ((k, x) :: r) = (if k = f then (k, v) :: r else (k, x) :: putF f v r) from rfl]
    by_cases hk : k = f
    · rw [if_pos hk, List.length_cons, List.length_cons]; omega
    · rw [if_neg hk, List.length_cons, List.length_cons]; omega

theorem RelO.some_of {v : V} {o : Option Value} (r : RelO (some v) o) : ∃ u, o = some u ∧ RelV v u := by
  cases o with
  | none => exact (show False from r).elim
  | some u => exact ⟨u, rfl, r⟩
theorem RelO.none_of {o : Option Value} (r : RelO none o) : o = none := by
  cases o with
  | none => rfl
  | some u => exact (show False from r).elim
theorem handed_of {v : V} {u : Value} (r : RelV v u) : PySem.W.handedIn u = true := by
  cases v with
  | non => cases (show u = Value.none from r); rfl
  | bl b => cases (show u = Value.bool b from r); rfl
  | int i => obtain ⟨t, e⟩ := (show ∃ t, u = Value.int i t from r); cases e; rfl
  | str x => obtain ⟨t, e⟩ := (show ∃ t, u = Value.str x t from r); cases e; rfl
  | byt b => obtain ⟨t, e⟩ := (show ∃ t, u = Value.bytes b t from r); cases e; rfl
  | flt b => obtain ⟨t, e⟩ := (show ∃ t, u = Value.float b t from r); cases e; rfl
  | ref a => cases (show u = Value.ref a from r); rfl
  | ty n => cases (show u = Value.type n from r); rfl

section
variable {P : Program} {w : World} {H H' : Hp} {h h' : Heap} {a C dx : Addr} {fs fs' : List (Str × V)}
theorem ins_get (hok : HOk P w H h) (e : H a = some (.ins C dx fs)) : ∃ mA, ObjM h a dx C mA ∧ (∀ f, RelO (fs.lookup f) (mA f)) ∧ PySem.Within mA (fs.map (·.1)) ∧ fs.length ≤ 1000 ∧ H dx = some (.own a) := by
  obtain ⟨d, z, ne, ob, mA, n, r, q⟩ := (show ObjOk P w H h a (.ins C dx fs) from hok a _ e)
  exact ⟨mA, ⟨ob, n, ne⟩, r, q, z, d⟩
end

/-! ### what of the text a class must have -/
structure Cls (K : PySem.W.Frag) (C : Addr) : Prop where
  pg : PySem.W.plainGet K C Str.empty = true
  hd : PySem.W.hasDictIn K C = true
  po : PySem.W.plainOver K C = true
  sa : PySem.W.findIn K (.ref C) "__setattr__" = some (some (.builtin "object.__setattr__"))
theorem Cls.get {K : PySem.W.Frag} {C : Addr} (c : Cls K C) (f : Str) : PySem.W.plainGet K C f = true := c.pg
/-- no class of it has the name -/
def NoAttr (K : PySem.W.Frag) (C : Addr) (f : Str) : Prop := PySem.W.findIn K (.ref C) f = some none
theorem NoAttr.taker {K : PySem.W.Frag} {C : Addr} {f : Str} (n : NoAttr K C f) : PySem.W.takerIn K C f = some none := by
  unfold PySem.W.takerIn
  rw [show PySem.W.findIn K (.ref C) f = some none from n]
  rfl
/-- a method: a plain def of the class or of one above it -/
structure Meth (K : PySem.W.Frag) (C : Addr) (m : Str) (f : Addr) : Prop where
  at_ : PySem.W.findIn K (.ref C) m = some (some (.ref f))
  fn : PySem.W.isFn K (.ref f) = true
  kp : PySem.W.keepIn K (.ref f) = true

section
variable {X : Cx} {pins : List (Addr × Obj)} {σ : St} {H : Hp} {s : Shared} {a C dx : Addr} {fs : List (Str × V)} {f : Str} {v : V} {A : Around} {E : Value → Shared → Prop}

theorem getattr_ok {b : Bool} {Q : Value → Shared → Prop} (I : Inv X pins σ H s) (e : H a = some (.ins C dx fs)) (c : Cls X.K C) (n : NoAttr X.K C f) (l : fs.lookup f = some v)
    (h : ∀ u s', Inv X pins σ H s' → RelV v u → Q u s') : wpAny (model X.prog X.w) A (getAttr (.ref a) f b) Q E s := by
  obtain ⟨mA, O, r, _, _, _⟩ := ins_get I.hok e
  obtain ⟨u, hu, ru⟩ := RelO.some_of (v := v) (o := mA f) (by rw [← l]; exact r f)
  exact get_map I.kIn O (c.get f) c.hd n hu (handed_of ru) (h u _ (I.tok _) ru)

theorem getmeth_ok {m : Str} {g : Addr} {pl : Sem Bool} {Q : Value × List Value → Shared → Prop} (I : Inv X pins σ H s) (e : H a = some (.ins C dx fs)) (c : Cls X.K C) (k : Meth X.K C m g) (l : fs.lookup m = none)
    (h : Q (.ref g, [.ref a]) s) : wpAny (model X.prog X.w) A (getMethod (.ref a) m pl) Q E s := by
  obtain ⟨mA, O, r, _, _, _⟩ := ins_get I.hok e
  have hn : mA m = none := RelO.none_of (by rw [← l]; exact r m)
  exact get_meth I.kIn O (c.get m) k.at_ k.fn hn h

theorem setattr_ok {y : V} {u : Value} {Q : Unit → Shared → Prop} (I : Inv X pins σ H s) (e : H a = some (.ins C dx fs)) (c : Cls X.K C) (n : NoAttr X.K C f) (hl : fs.length < 1000) (ry : RelV y u)
    (h : ∀ s', Inv X pins σ (upd H a (.ins C dx (putF f y fs))) s' → Q () s') : wpAny (model X.prog X.w) A (setAttr (.ref a) f u) Q E s := by
  obtain ⟨mA, O, r, wi, _, ho⟩ := ins_get I.hok e
  have hz : (fs.map (·.1)).length ≤ sizeLine := by rw [List.length_map, sizeLine_eq]; omega
  refine set_map I.kIn O c.sa c.po n.taker c.hd wi hz fun h' O' sb => h _ ?_
  have hd : ∃ o, h'.get? dx = some o := let ⟨o, _, _, e', _⟩ := O'.ns; ⟨o, e'⟩
  refine I.write (x := a) (e := dx) (by rw [e]; exact True.intro) (.inr ho) (fun b q hb z => (sb.2 b hb).trans z) hd ?_
  refine ⟨by rw [upd_ne O.ne]; exact ho, ?_, O.ne, O'.obj, _, O'.ns, fun g => ?_, fun g hg => ?_⟩
  · have := length_putF f y fs; omega
  · show RelO ((putF f y fs).lookup g) (if g = f then some u else mA g)
    rw [lookup_putF]
    by_cases q : g = f
    · rw [if_pos q, if_pos q]; exact ry
    · rw [if_neg q, if_neg q]; exact r g
  · by_cases q : g = f
    · rw [q]; exact (keys_putF f y fs).1
    · refine (keys_putF f y fs).2 g (wi g fun z => hg ?_)
      show (if g = f then some u else mA g) = none
      rw [if_neg q]; exact z

/-- a new instance, tracked, without attributes -/
theorem Inv.made (I : Inv X pins σ H s) : Inv X pins σ (upd (upd H s.heap.objs.size (.own (s.heap.objs.size + 1))) (s.heap.objs.size + 1) (.ins C s.heap.objs.size []))
    { s with heap := (s.heap.push PySem.W.emptyDict).push (PySem.W.instObj C s.heap.objs.size) } := by
  have e1 : (s.heap.push PySem.W.emptyDict).get? s.heap.objs.size = some PySem.W.emptyDict := Heap.get?_push_size s.heap rfl
  have e2 : ((s.heap.push PySem.W.emptyDict).push (PySem.W.instObj C s.heap.objs.size)).get? (s.heap.objs.size + 1) = some (PySem.W.instObj C s.heap.objs.size) := by
    have := Heap.get?_push_size (s.heap.push PySem.W.emptyDict) (o := PySem.W.instObj C s.heap.objs.size) rfl
    rwa [Heap.size_push] at this
  have e3 : (s.heap.push PySem.W.emptyDict).Ns s.heap.objs.size (fun _ => none) := ⟨PySem.W.emptyDict, #[], _, e1, rfl, (fun e he => absurd he (by simp)), fun _ => rfl⟩
  have I1 := I.laid (a := s.heap.objs.size) (o := .own (s.heap.objs.size + 1)) (h' := s.heap.push PySem.W.emptyDict) (t' := s.toks) (fun b u q => Heap.get?_push_of_some _ q) (Nat.le_refl _) ⟨_, e1⟩
  refine I1.laid (a := s.heap.objs.size + 1) (o := .ins C s.heap.objs.size []) (t' := s.toks) (fun b u q => Heap.get?_push_of_some _ q) (Nat.le_of_eq (Heap.size_push _ _)) ?_
  have ne : s.heap.objs.size ≠ s.heap.objs.size + 1 := Nat.ne_of_lt (Nat.lt_succ_self _)
  refine ⟨by rw [upd_ne ne, upd_same], Nat.zero_le _, ne, e2, fun _ => none, (Heap.Ns1.of_empty e3).at fun o q => Heap.get?_push_of_some _ q, fun _ => True.intro, fun y hy => absurd rfl hy⟩

/-- e.f where nothing but the object is asked: through attributeBase (super) and the last hold -/
theorem attr_of {prog : Program} {w : World} {env : Env} {e : Expr} {f : Str} {pos : Pos} {s : Shared} {Q : Value → Shared → Prop} (hb : attributeBase e f env (eval e env) = eval e env)
    (h : wpAny (model prog w) A (eval e env) (fun o s₁ => wpAny (model prog w) A (getAttr o f true) Q E s₁) E s) : wpAny (model prog w) A (eval (.Attribute e f pos) env) Q E s :=
  Attribute_any_ h (by rw [arm_eval_Attribute, hb])
end

/-! ### readings and rules -/
/-- e.f, an attribute of the instance -/
def tFld (K : PySem.W.Frag) (ta : TE) (f : Str) : TE := fun σ H Q => ta σ H fun x H1 => ∃ a C dx fs v, x = .ref a ∧ H1 a = some (.ins C dx fs) ∧ Cls K C ∧ NoAttr K C f ∧ fs.lookup f = some v ∧ Q v H1
/-- e.f = value -/
def sFld (K : PySem.W.Frag) (ta tv : TE) (f : Str) : TS := fun D σ H => tv σ H fun y H1 => ta σ H1 fun x H2 => ∃ a C dx fs, x = .ref a ∧ H2 a = some (.ins C dx fs) ∧ Cls K C ∧ NoAttr K C f ∧ fs.length < 1000 ∧
  D.nx σ (upd H2 a (.ins C dx (putF f y fs)))
section
variable {X : Cx} {o e value : Expr} {f : Str} {pos pos' tpos : Pos} {ta tv : TE}
theorem pe_fld (he : PE X e ta) (hb : attributeBase e f X.env (eval e X.env) = eval e X.env) : PE X (.Attribute e f pos) (tFld X.K ta f) := by
  intro pins s σ H Q I h
  refine attr_of hb (thn (he pins s σ H _ I h) fun u s1 ⟨x, H1, I1, rx, a, C, dx, fs, v, ex, ea, c, n, l, q⟩ => ?_)
  subst ex
  obtain rfl : u = Value.ref a := rx
  exact getattr_ok I1 ea c n l fun u' s2 I2 ru => ⟨v, H1, I2, ru, q⟩
theorem ps_fld (ha : PE X o ta) (hv : PE X value tv) (hs : swapsWith value (some (.Attribute o f pos')) pos.line X.env = pure false) : PS X (.Assign [.Attribute o f pos'] value pos) (sFld X.K ta tv f) := by
  intro pins s σ H D I h
  refine plainObj_wpAny_Assign_Attribute (thn (hv pins s σ H _ I h) fun u s1 ⟨y, H1, I1, ry, q⟩ => thn (ha pins s1 σ H1 _ I1 q) fun ov s2 ⟨x, H2, I2, rx, a, C, dx, fs, ex, ea, c, n, l, q2⟩ => ?_) hs
  subst ex
  obtain rfl : ov = Value.ref a := rx
  exact setattr_ok I2 ea c n l ry fun s3 I3 => ⟨σ, _, I3, q2⟩
/-- what is between an instance and its method: the tree of a method call -/
theorem methcall_of {pl : Sem Bool} {m : Str} {apos : Pos} {args : List Expr} {pins : List (Addr × Obj)} {s : Shared} {σ : St} {H : Hp} {Q : Value → Shared → Prop} {te : TE} (he : PE X e te) (I : Inv X pins σ H s)
    (h : te σ H fun x H1 => ∃ a C dx fs g, x = .ref a ∧ H1 a = some (.ins C dx fs) ∧ Cls X.K C ∧ Meth X.K C m g ∧ fs.lookup m = none ∧
      ∀ s1, Inv X pins σ H1 s1 → wpAny (model X.prog X.w) X.A (callWith pos (.ref g) [.ref a] (backTo pos (starEach args X.env)) (backToKw pos (keywordEach [] X.env))) Q X.xe s1)
    (ht : eval (.Call (.Attribute e m apos) args [] pos) X.env = (do
      let ov ← eval e X.env
      standAt apos.atName
      let (f, first) ← holding [ov] (getMethod ov m pl)
      callWith pos f first (backTo pos (starEach args X.env)) (backToKw pos (keywordEach [] X.env)))) :
    wpAny (model X.prog X.w) X.A (eval (.Call (.Attribute e m apos) args [] pos) X.env) Q X.xe s := by
  refine PySem.W.methodCall_KW (pl := pl) (thn (he pins s σ H _ I h) fun u s1 ⟨x, H1, I1, rx, a, C, dx, fs, g, ex, ea, c, k, l, q⟩ => ?_) ht
  subst ex
  obtain rfl : u = Value.ref a := rx
  exact getmeth_ok I1 ea c k l (q s1 I1)
end

/-! ### isinstance -/
section
variable {X : Cx} {pins : List (Addr × Obj)} {σ : St} {H : Hp} {s : Shared} {A : Around} {E : Value → Shared → Prop} {Q : Value → Shared → Prop} {c : Value} {b : Bool}
/-- the type of a value, as the fragment's deciders take it; for an instance its class -/
inductive TyOf (K : PySem.W.Frag) (H : Hp) : V → Value → Prop where
  | non : TyOf K H .non (.type "NoneType")
  | bl (x : Bool) : TyOf K H (.bl x) (.type "bool")
  | int (i : Int) : TyOf K H (.int i) (.type "int")
  | str (x : Str) : TyOf K H (.str x) (.type "str")
  | flt (x : UInt64) : TyOf K H (.flt x) (.type "float")
  | lst {a : Addr} {xs : List V} (e : H a = some (.lst xs)) : TyOf K H (.ref a) (.type "list")
  | frz {a : Addr} {o : Obj} {xs : List V} (e : H a = some (.frz o (.lst xs))) : TyOf K H (.ref a) (.type "list")
  | tup {a : Addr} {xs : List V} (e : H a = some (.tup xs)) : TyOf K H (.ref a) (.type "tuple")
  | dK {a : Addr} {kvs : List (Key × V)} (e : H a = some (.dK kvs)) : TyOf K H (.ref a) (.type "dict")
  | dT {a : Addr} {kvs : List (List Key × V)} (e : H a = some (.dT kvs)) : TyOf K H (.ref a) (.type "dict")
  | ins {a C dx : Addr} {fs : List (Str × V)} (e : H a = some (.ins C dx fs)) (cl : Cls K C) (ha : PySem.W.findIn K (.ref C) "__class__" = some (some (.builtin "object.__class__")))
      (hn : PySem.W.specialIn K (.builtin "object.__class__") "__get__" = some (some (.builtin "getset_descriptor.__get__"))) (htk : PySem.W.takesIn K (.builtin "object.__class__") = some true)
      (hm : PySem.W.mroIn K C (.type "object") = some true) : TyOf K H (.ref a) (.ref C)
/-- isinstance(x, c) for one class c, a built-in or an own one: kitOne's answer -/
theorem isinst_ok {x : V} {u t : Value} (I : Inv X pins σ H s) (rx : RelV x u) (ty : TyOf X.K H x t) (e : PySem.W.kitOne X.K t c = some b) (h : ∀ tk, Q (.bool b) { s with toks := tk }) :
    wpAny (model X.prog X.w) A (call (.builtin "isinstance") [u, c]) Q E s := by
  cases ty with
  | non => cases (show u = Value.none from rx); exact PySem.W.kia_one PySem.W.kitx_none I.kIn True.intro e (fun z => nomatch z) h
  | bl y => cases (show u = Value.bool y from rx); exact PySem.W.kia_one PySem.W.kitx_bool I.kIn True.intro e (fun z => nomatch z) h
  | int i => obtain ⟨t, q⟩ := (show ∃ t, u = Value.int i t from rx); cases q; exact PySem.W.kia_one PySem.W.kitx_int I.kIn True.intro e (fun z => nomatch z) h
  | str y => obtain ⟨t, q⟩ := (show ∃ t, u = Value.str y t from rx); cases q; exact PySem.W.kia_one PySem.W.kitx_str I.kIn True.intro e (fun z => nomatch z) h
  | flt y => obtain ⟨t, q⟩ := (show ∃ t, u = Value.float y t from rx); cases q; exact PySem.W.kia_one PySem.W.kitx_float I.kIn True.intro e (fun z => nomatch z) h
  | @lst a xs ea =>
    cases (show u = Value.ref a from rx)
    obtain ⟨_, _, n, _, h1⟩ := (show ObjOk X.prog X.w H s.heap a (.lst xs) from I.hok a _ ea)
    exact PySem.W.kia_one PySem.W.kitx_list I.kIn ⟨_, h1, rfl⟩ e (fun z => nomatch z) h
  | @frz a ob xs ea =>
    cases (show u = Value.ref a from rx)
    obtain ⟨_, _, _, n, _, h1⟩ := (show ObjOk X.prog X.w H s.heap a (.frz ob (.lst xs)) from I.hok a _ ea)
    exact PySem.W.kia_one PySem.W.kitx_list I.kIn ⟨_, h1, rfl⟩ e (fun z => nomatch z) h
  | @tup a xs ea =>
    cases (show u = Value.ref a from rx)
    obtain ⟨_, _, _, p⟩ := (show ObjOk X.prog X.w H s.heap a (.tup xs) from I.hok a _ ea)
    obtain ⟨o, h1, h2, _⟩ := p
    exact PySem.W.kia_one PySem.W.kitx_tuple I.kIn ⟨o, h1, h2⟩ e (fun z => nomatch z) h
  | @dK a kvs ea =>
    cases (show u = Value.ref a from rx)
    obtain ⟨_, _, vs, _, p⟩ := (show ObjOk X.prog X.w H s.heap a (.dK kvs) from I.hok a _ ea)
    obtain ⟨o, es, ep, h1, h2, _⟩ := p
    exact PySem.W.kia_one PySem.W.kitx_dict I.kIn ⟨o, h1, h2.1⟩ e (fun z => nomatch z) h
  | @dT a kvs ea =>
    cases (show u = Value.ref a from rx)
    obtain ⟨_, _, xs, _, o, es, ep, h1, h2, _⟩ := (show ObjOk X.prog X.w H s.heap a (.dT kvs) from I.hok a _ ea)
    exact PySem.W.kia_one PySem.W.kitx_dict I.kIn ⟨o, h1, h2.1⟩ e (fun z => nomatch z) h
  | @ins a C dx fs ea cl ha hn htk hm =>
    cases (show u = Value.ref a from rx)
    obtain ⟨mA, O, _⟩ := ins_get I.hok ea
    obtain ⟨od, J, _⟩ := O.look
    exact PySem.W.kia_one (PySem.W.kitx_own (cl.get _) cl.hd ha hn htk hm) I.kIn J e (fun z => nomatch z) h
end
end L2

namespace L2
open PySem PySem.Spec PyProof.Rows

/-! ### room -/
structure Room (k : Nat) (A : Around) : Prop where
  hd : A.handled = none
  dp : A.depth + 3 * k + 5 < recursionLimit
  un : A.units + 16 * k + 200 < cLine
theorem Room.mono {j k : Nat} {A : Around} (r : Room k A) (h : j ≤ k) : Room j A := ⟨r.hd, by have := r.dp; omega, by have := r.un; omega⟩
theorem Room.deeper {k : Nat} {A : Around} (r : Room (k + 1) A) (env : Env) : Room k (A.deeper env) :=
  ⟨r.hd, by have := r.dp; show A.depth + 1 + 3 * k + 5 < _; omega, by have := r.un; show A.units + 3 + 16 * k + 200 < _; omega⟩
theorem make_depth {A : Around} {C : Addr} {us : List Value} {kw : List (Str × Value)} : (A.under (.builtin "type.__call__" ⟨.ref C :: us, kw⟩)).depth = A.depth + 1 := by
  first | rfl | simp [Around.under, Code.weight, Code.isCreation, Code.isGuard, Code.isCaller, Code.frames, Code.isFrame, guardIds]
theorem make_units {A : Around} {C : Addr} {us : List Value} {kw : List (Str × Value)} : (A.under (.builtin "type.__call__" ⟨.ref C :: us, kw⟩)).units = A.units + 1 := by
  first | rfl | simp [Around.under, Code.cUnits, Code.frames, Code.isFrame]
theorem Room.make {k : Nat} {A : Around} (r : Room (k + 1) A) (C : Addr) (us : List Value) (kw : List (Str × Value)) : Room k (A.under (.builtin "type.__call__" ⟨.ref C :: us, kw⟩)) :=
  ⟨r.hd, by have := r.dp; rw [make_depth]; omega, by have := r.un; rw [make_units]; omega⟩
theorem Room.depth {k : Nat} {A : Around} (r : Room k A) : A.depth < recursionLimit := by have := r.dp; omega
theorem Room.units {k : Nat} {A : Around} (r : Room k A) : A.units + 64 < cLine := by have := r.un; omega
/-! ### argument lists and displays -/
def tNil : TA := fun _ H Q => Q [] H
def tCons (ta : TE) (tr : TA) : TA := fun σ H Q => ta σ H fun x H1 => tr σ H1 fun xs H2 => Q (x :: xs) H2
section
variable {X : Cx} {e : Expr} {es : List Expr} {te : TE} {t : TA} {pos : Pos}
theorem pa_nil : PA X [] tNil := fun _ _ _ _ H Q I h => Calls.spliced_nil ⟨[], H, I, .nil, h⟩
theorem pa_cons (ha : PE X e te) (hr : PA X es t) (hs : starEach (e :: es) X.env = (false, eval e X.env) :: starEach es X.env := by rfl) : PA X (e :: es) (tCons te t) := by
  intro pos pins s σ H Q I h
  rw [hs]
  show wpAny _ _ (spliced ((false, eval e X.env) :: backTo pos (starEach es X.env))) _ _ s
  refine Calls.spliced_cons (thn (ha pins s σ H _ I h) fun u s1 ⟨x, H1, I1, r1, q1⟩ => ?_)
  exact thn (hr pos pins s1 σ H1 _ I1 q1) fun us s2 ⟨xs, H2, I2, r2, q2⟩ => ⟨x :: xs, H2, I2, .cons r1 r2, q2⟩

/-- a tuple, a list of written items -/
def tTup (t : TA) : TE := fun σ H Q => t σ H fun xs H1 => xs.length ≤ sizeLine ∧ ∀ p, H1 p = none → Q (.ref p) (upd H1 p (.tup xs))
def tLst (t : TA) : TE := fun σ H Q => t σ H fun xs H1 => xs.length ≤ sizeLine ∧ ∀ p, H1 p = none → Q (.ref p) (upd H1 p (.lst xs))
theorem pe_tup {x1} (h : PA X es t) : PE X (.Tuple es x1 pos) (tTup t) := by
  intro pins s σ H Q I hq
  refine wpAny_Tuple_spliced (thn (h pos pins s σ H _ I hq) fun us s1 ⟨xs, H1, I1, r, z, q⟩ => ⟨by rw [← r.length]; exact z, ?_⟩)
  have hf : H1 s1.heap.objs.size = none := I1.hok.fresh (Nat.le_refl _)
  refine ⟨.ref s1.heap.objs.size, upd H1 s1.heap.objs.size (.tup xs), I1.laid (t' := s1.toks) (fun b u e => Heap.get?_push_of_some _ e) (Nat.le_refl _) ?_, rfl, q _ hf⟩
  exact ⟨z, us, r, ⟨_, Heap.get?_push_size _ rfl, rfl, _, rfl⟩⟩
theorem pe_lst (h : PA X es t) : PE X (.List es pos) (tLst t) := by
  intro pins s σ H Q I hq
  refine wpAny_List_spliced (thn (h pos pins s σ H _ I hq) fun us s1 ⟨xs, H1, I1, r, z, q⟩ => ⟨by rw [← r.length]; exact z, ?_⟩)
  have hf : H1 s1.heap.objs.size = none := I1.hok.fresh (Nat.le_refl _)
  refine ⟨.ref s1.heap.objs.size, upd H1 s1.heap.objs.size (.lst xs), I1.laid (t' := s1.toks) (fun b u e => Heap.get?_push_of_some _ e) (Nat.le_refl _) ?_, rfl, q _ hf⟩
  exact ⟨z, us, 0, r, Heap.get?_push_size _ rfl⟩
end

/-! ### what a def promises -/
/-- a def's promise: the bound arguments in the parameters' order, the heap, the wanted end, the wanted exception -/
abbrev Sp := List V → Hp → VK → XK → Prop
/-- how an exception lies behind a call (file 08 gives it): the callers' frames, abstract heap and state ahead of the call, the wish, the exception, the state -/
abbrev CXT := List Env → Hp → Shared → XK → Value → Shared → Prop

/-- the state at a call -/
structure Env0 (P : Program) (w : World) (K : PySem.W.Frag) (mg : Str → Option Value) (base : Heap) (A : Around) (outer : List Env) (s : Shared) (H : Hp) : Prop where
  frames : A.frames = some outer
  mod : Mod K mg base
  bs : ∀ b o, base.get? b = some o → s.heap.get? b = some o ∧ H b = none
  bsz : base.objs.size ≤ s.heap.objs.size
  funs : s.heap.FunFrames base outer
  frf : ∀ b ∈ frs outer, H b = none
  hok : HOk P w H s.heap
  bare : AllBare s.gens
/-- a call's end -/
def CE (outer : List Env) (P : Program) (w : World) (H : Hp) (s : Shared) (Q : VK) (u : Value) (s' : Shared) : Prop :=
  ∃ v H', s'.os = s.os ∧ AllBare s'.gens ∧ Un (frs outer) [] H H' s.heap s'.heap ∧ HOk P w H' s'.heap ∧ RelV v u ∧ Q v H'
def CR (CX : CXT) (outer : List Env) (P : Program) (w : World) (H : Hp) (s : Shared) (Q : VK) (E : XK) (r : Result) (s' : Shared) : Prop :=
  match r with
  | .ok (.ret u) => CE outer P w H s Q u s'
  | .ok _ => False
  | .error e => CX outer H s E e s'
structure FnOk (P : Program) (w : World) (K : PySem.W.Frag) (mg : Str → Option Value) (base : Heap) (CX : CXT) (k : Nat) (f : Addr) (fd : FuncData) (ps : List Str) (sp : Sp) : Prop where
  len : ∀ vs H Q E, sp vs H Q E → vs.length = ps.length
  run : ∀ (A : Around) (outer : List Env) (s : Shared) (H : Hp) (args : Args) (us : List Value) (vs : List V) (Q : VK) (E : XK), Room k A → Env0 P w K mg base A outer s H → BindsTo s fd args (ps.zip us) → Vals vs us → sp vs H Q E →
    codeAny (model P w) A (.call (.ref f) args) (CR CX outer P w H s Q E) s
theorem Env0.make {P : Program} {w : World} {K : PySem.W.Frag} {mg : Str → Option Value} {base : Heap} {A : Around} {outer : List Env} {s : Shared} {H : Hp} (e : Env0 P w K mg base A outer s H) (C : Addr) (us : List Value) (kw : List (Str × Value)) :
    Env0 P w K mg base (A.under (.builtin "type.__call__" ⟨.ref C :: us, kw⟩)) outer s H := ⟨by first | exact e.frames | (simpa [Around.under, Code.envs, Code.isFrame, pushEnvs] using e.frames), e.mod, e.bs, e.bsz, e.funs, e.frf, e.hok, e.bare⟩
section
variable {X : Cx} {pins : List (Addr × Obj)} {σ : St} {H : Hp} {s s' : Shared}
/-- from a body: what a callee wants -/
theorem Inv.env0 (I : Inv X pins σ H s) : Env0 X.prog X.w X.K X.mg X.base X.A X.stack s H :=
  ⟨I.ok.frames, I.ok.mod, I.bs, Nat.le_trans I.ok.bsz I.sz, I.stack, I.stkFree, I.hok, I.bare⟩
/-- behind a call -/
theorem Inv.after {Q : VK} {u : Value} (I : Inv X pins σ H s) (h : CE X.stack X.prog X.w H s Q u s') : EP X pins σ Q u s' := by
  obtain ⟨v, H', os, bare, un, hok, r, q⟩ := h
  obtain ⟨hh, g, d, t, os'⟩ := s'
  obtain rfl : os' = s.os := os
  exact ⟨v, H', I.call (h' := hh) (g' := g) (d' := d) (t' := t) (ch := []) un hok bare (fun b z => absurd z (by simp)), r, q⟩
end

/-! ### calls -/
/-- f(..): the written arguments, then the defaults dvs; E: what is wanted of an exception -/
def tCall (sp : Sp) (dvs : List V) (E : XK) (t : TA) : TE := fun σ H Q => t σ H fun vs H1 => sp (vs ++ dvs) H1 Q E
/-- o.m(..) of an instance of the class at C -/
def tMeth (C : Addr) (m : Str) (sp : Sp) (dvs : List V) (E : XK) (ta : TE) (t : TA) : TE := fun σ H Q => ta σ H fun x H1 => ∃ a dx fs, x = .ref a ∧ H1 a = some (.ins C dx fs) ∧ fs.lookup m = none ∧
  t σ H1 fun vs H2 => sp (x :: (vs ++ dvs)) H2 Q E
/-- C(..): a new instance and its dict, then __init__ -/
def tMake (C : Addr) (sp : Sp) (dvs : List V) (E : XK) (t : TA) : TE := fun σ H Q => t σ H fun vs H1 => ∀ x dx, H1 x = none → H1 dx = none → dx ≠ x →
  sp (.ref x :: (vs ++ dvs)) (upd (upd H1 dx (.own x)) x (.ins C dx [])) (fun v H2 => v = .non ∧ Q (.ref x) H2) E

/-- how the parameters are bound: us the positional arguments, kw the keywords' values by name, ds the defaults that fill up -/
def Binds (K : PySem.W.Frag) (fd : FuncData) (ps : List Str) (ds : List Value) : Prop :=
  ∀ (s : Shared) (us : List Value), K.In s.heap → (us ++ ds).length = ps.length → BindsTo s fd ⟨us, []⟩ (ps.zip (us ++ ds))
/-- every parameter is given -/
theorem Binds.all {K : PySem.W.Frag} {fd : FuncData} {ps : List Str} (h : ∀ us : List Value, us.length = ps.length → bindArgs fd ⟨us, []⟩ = pure (ps.zip us)) : Binds K fd ps [] := fun s us _ hl => by
  rw [List.append_nil] at hl ⊢
  exact .of_eq (h us hl)

/-- an exception of a callee reaches what this body wants of exceptions -/
def Passes (CX : CXT) (X : Cx) (E : XK) : Prop := ∀ (pins : List (Addr × Obj)) (σ : St) (H : Hp) (s : Shared) (e : Value) (s' : Shared), Inv X pins σ H s → CX X.stack H s E e s' → X.xe e s'

section
variable {X : Cx} {CX : CXT} {k : Nat} {f C : Addr} {fd : FuncData} {ps : List Str} {sp : Sp} {dvs : List V} {ds : List Value} {E : XK} {x m : Str} {p pos apos : Pos} {e o : Expr} {es : List Expr} {ta : TE} {t : TA}

/-- the callee runs -/
theorem run_fn {pins : List (Addr × Obj)} {σ : St} {H : Hp} {s : Shared} {Q : VK} {us : List Value} {vs : List V} (F : FnOk X.prog X.w X.K X.mg X.base CX k f fd ps sp) (hr : Room k X.A) (hb : Binds X.K fd ps ds) (hd : Vals dvs ds) (hx : Passes CX X E)
    (I : Inv X pins σ H s) (r : Vals vs us) (h : sp (vs ++ dvs) H Q E) : wpAny (model X.prog X.w) X.A (call (.ref f) us) (EP X pins σ Q) X.xe s := by
  have r2 : Vals (vs ++ dvs) (us ++ ds) := r.append hd
  have hl : (us ++ ds).length = ps.length := by rw [← r2.length]; exact F.len _ _ _ _ h
  refine wpAny_call (codeAny_mono (F.run X.A X.stack s H ⟨us, []⟩ (us ++ ds) (vs ++ dvs) Q E hr I.env0 (hb s us I.kIn hl) r2 h) fun r s' hq => ?_)
  cases r with
  | error e => exact hx pins σ H s e s' I hq
  | ok fl =>
    cases fl with
    | ret u => exact I.after hq
    | next => exact False.elim hq
    | brk => exact False.elim hq
    | cont => exact False.elim hq

theorem pe_call (F : FnOk X.prog X.w X.K X.mg X.base CX k f fd ps sp) (hr : Room k X.A) (hg : Gl X x) (hm : X.mg x = some (.ref f)) (hk : PySem.W.keepIn X.K (.ref f) = true) (hb : Binds X.K fd ps ds) (hd : Vals dvs ds) (hx : Passes CX X E)
    (ha : PA X (e :: es) t) (hdb : (x == ("__debug__" : Str)) = false := by decide) (he : starEach (e :: es) X.env = (false, eval e X.env) :: starEach es X.env := by rfl) (hpl : (backTo pos (starEach es X.env)).any (·.1) = false := by rfl) :
    PE X (.Call (.Name x p) (e :: es) [] pos) (tCall sp dvs E t) := by
  intro pins s σ H Q I h
  refine wpAny_Call_Name_kw (ld_glob I hg hm ?_ hdb)
  refine PySem.W.callWith_K (h₀ := X.base) I.ok.mod.kin hk (thn (ha pos pins s σ H _ I h) fun us s1 ⟨vs, H1, I1, r, q⟩ => ⟨I1.kIn, ?_⟩) he hpl
  exact run_fn F hr hb hd hx I1 r q
/-- o.m(e, ..) -/
theorem pe_meth {pl : Sem Bool} (he : PE X o ta) (c : Cls X.K C) (hm : Meth X.K C m f) (F : FnOk X.prog X.w X.K X.mg X.base CX k f fd ps sp) (hr : Room k X.A) (hb : Binds X.K fd ps ds) (hd : Vals dvs ds) (hx : Passes CX X E) (ha : PA X (e :: es) t)
    (hst : starEach (e :: es) X.env = (false, eval e X.env) :: starEach es X.env := by rfl) (hpl : (backTo pos (starEach es X.env)).any (·.1) = false := by rfl)
    (ht : eval (.Call (.Attribute o m apos) (e :: es) [] pos) X.env = (do
      let ov ← eval o X.env
      standAt apos.atName
      let (f, first) ← holding [ov] (getMethod ov m pl)
      callWith pos f first (backTo pos (starEach (e :: es) X.env)) (backToKw pos (keywordEach [] X.env))) := by rfl) :
    PE X (.Call (.Attribute o m apos) (e :: es) [] pos) (tMeth C m sp dvs E ta t) := by
  intro pins s σ H Q I h
  refine PySem.W.methodCall_KW (pl := pl) (thn (he pins s σ H _ I h) fun u s1 ⟨x, H1, I1, rx, a, dx, fs, ex, ea, l, q⟩ => ?_) ht
  subst ex
  obtain rfl : u = Value.ref a := rx
  refine getmeth_ok I1 ea c hm l ?_
  refine PySem.W.callWith_K (first := [.ref a]) (h₀ := X.base) I.ok.mod.kin hm.kp (thn (ha pos pins s1 σ H1 _ I1 q) fun us s2 ⟨vs, H2, I2, r, q2⟩ => ⟨I2.kIn, ?_⟩) hst hpl
  exact run_fn (us := .ref a :: us) (vs := .ref a :: vs) F hr hb hd hx I2 (.cons rfl r) q2
/-- what a class must have to be made -/
structure Mk (K : PySem.W.Frag) (C f : Addr) : Prop where
  makes : PySem.W.makesIn K C = true
  init : PySem.W.findIn K (.ref C) "__init__" = some (some (.ref f))
  fn : PySem.W.isFn K (.ref f) = true
  kp : PySem.W.keepIn K (.ref C) = true

theorem run_make {pins : List (Addr × Obj)} {σ : St} {H : Hp} {s : Shared} {Q : VK} {us : List Value} {vs : List V} (M : Mk X.K C f) (F : FnOk X.prog X.w X.K X.mg X.base CX k f fd ps sp) (hr : Room (k + 1) X.A) (hb : Binds X.K fd ps ds) (hd : Vals dvs ds)
    (hx : Passes CX X E) (I : Inv X pins σ H s) (r : Vals vs us)
    (h : ∀ x dx, H x = none → H dx = none → dx ≠ x → sp (.ref x :: (vs ++ dvs)) (upd (upd H dx (.own x)) x (.ins C dx [])) (fun v H2 => v = .non ∧ Q (.ref x) H2) E) :
    wpAny (model X.prog X.w) X.A (call (.ref C) us) (EP X pins σ Q) X.xe s := by
  have hq := h (s.heap.objs.size + 1) s.heap.objs.size (I.hok.fresh (Nat.le_succ _)) (I.hok.fresh (Nat.le_refl _)) (Nat.ne_of_lt (Nat.lt_succ_self _))
  have I2 := Inv.made (C := C) I
  have r2 : Vals (V.ref (s.heap.objs.size + 1) :: (vs ++ dvs)) (Value.ref (s.heap.objs.size + 1) :: (us ++ ds)) := .cons rfl (r.append hd)
  have hl : (Value.ref (s.heap.objs.size + 1) :: us ++ ds).length = ps.length := by
    have e := r2.length
    rw [F.len _ _ _ _ hq] at e
    exact e.symm
  refine wpAny_call (make_map (f := f) I.kIn M.makes M.init (beq_iff_eq.mp M.fn) (codeAny_mono (F.run _ X.stack _ _ ⟨Value.ref (s.heap.objs.size + 1) :: us, []⟩ (Value.ref (s.heap.objs.size + 1) :: (us ++ ds)) _ _ E (hr.make C us [])
    (I2.env0.make C us []) (hb _ (Value.ref (s.heap.objs.size + 1) :: us) I2.kIn hl) r2 hq) fun r s' hq' => ?_))
  cases r with
  | error e => exact hx pins σ _ _ e s' I2 hq'
  | ok fl =>
    cases fl with
    | ret u =>
      obtain ⟨v, H', I3, rv, ev, q3⟩ := I2.after hq'
      subst ev
      exact ⟨rv, ⟨V.ref (s.heap.objs.size + 1), H', I3, rfl, q3⟩⟩
    | next => exact False.elim hq'
    | brk => exact False.elim hq'
    | cont => exact False.elim hq'
theorem pe_make (M : Mk X.K C f) (F : FnOk X.prog X.w X.K X.mg X.base CX k f fd ps sp) (hr : Room (k + 1) X.A) (hg : Gl X x) (hm : X.mg x = some (.ref C)) (hb : Binds X.K fd ps ds) (hd : Vals dvs ds) (hx : Passes CX X E)
    (ha : PA X (e :: es) t) (hdb : (x == ("__debug__" : Str)) = false := by decide) (he : starEach (e :: es) X.env = (false, eval e X.env) :: starEach es X.env := by rfl) (hpl : (backTo pos (starEach es X.env)).any (·.1) = false := by rfl) :
    PE X (.Call (.Name x p) (e :: es) [] pos) (tMake C sp dvs E t) := by
  intro pins s σ H Q I h
  refine wpAny_Call_Name_kw (ld_glob I hg hm ?_ hdb)
  refine PySem.W.callWith_K (h₀ := X.base) I.ok.mod.kin M.kp (thn (ha pos pins s σ H _ I h) fun us s1 ⟨vs, H1, I1, r, q⟩ => ⟨I1.kIn, ?_⟩) he hpl
  exact run_make M F hr hb hd hx I1 r q
end

/-! ### keywords -/
section
variable {X : Cx} {CX : CXT} {k : Nat} {f C : Addr} {fd : FuncData} {ps ks : List Str} {sp : Sp} {E : XK} {x m : Str} {p pos apos kpos : Pos} {e o : Expr} {es : List Expr} {kws : List Keyword} {te ta : TE} {t tk : TA} {nm : Option Str}
variable {g : List Value → List Value → List Value} {gV : List V → List V → List V}
end

/-! ### a def's body keeps its promise -/
/-- names: the parameters first -/
structure FnScope (N P : List Str) (sc : Scope) : Prop where
  kind : sc.kind = .function
  co : sc.isCoroutine = false
  gen : sc.isGenerator = false
  nd : N.Nodup
  pre : N.take P.length = P
  par : ∀ x ∈ P, sc.names.lookup x = some .local ∨ sc.names.lookup x = some .cell
  nofree : ∀ y ∈ sc.names, y.2 ≠ .free

theorem bindL_out {kindOf : Str → Option NameKind} {x : Str} : ∀ {binds : List (Str × Value)} {m : Str → Option Value}, (∀ v, (x, v) ∉ binds) → bindL kindOf binds m x = m x
  | [], _, _ => rfl
  | (n, v) :: r, m, h => by
    unfold bindL
    rw [bindL_out fun w hw => h w (List.mem_cons_of_mem _ hw)]
    split
    · have : x ≠ n := by rintro rfl; exact h v List.mem_cons_self
      simp [this]
    · rfl
theorem bindC_out {kindOf : Str → Option NameKind} {x : Str} : ∀ {binds : List (Str × Value)} {m : Str → Option Value}, (∀ v, (x, v) ∉ binds) → bindC kindOf binds m x = m x
  | [], _, _ => rfl
  | (n, v) :: r, m, h => by
    unfold bindC
    rw [bindC_out fun w hw => h w (List.mem_cons_of_mem _ hw)]
    split
    · rfl
    · have : x ≠ n := by rintro rfl; exact h v List.mem_cons_self
      simp [this]
theorem bindL_get {kindOf : Str → Option NameKind} {x : Str} {v : Value} : ∀ {P : List Str} {vs : List Value} {i : Nat} {m : Str → Option Value}, P.Nodup → P[i]? = some x → vs[i]? = some v → kindOf x = some .local →
    bindL kindOf (P.zip vs) m x = some v
  | [], _, _, _, _, h, _, _ => by simp at h
  | _ :: _, [], _, _, _, _, h, _ => by simp at h
  | p :: P, w :: vs, 0, m, nd, h1, h2, hk => by
    simp at h1 h2; subst h1; subst h2
    show bindL kindOf ((p, w) :: P.zip vs) m p = _
    unfold bindL
    rw [bindL_out fun v hv => (List.nodup_cons.mp nd).1 (List.of_mem_zip hv).1, if_pos hk]
    simp
  | p :: P, w :: vs, i + 1, m, nd, h1, h2, hk => by
    show bindL kindOf ((p, w) :: P.zip vs) m x = _
    unfold bindL
    exact bindL_get (i := i) (List.nodup_cons.mp nd).2 (by simpa using h1) (by simpa using h2) hk
theorem bindC_get {kindOf : Str → Option NameKind} {x : Str} {v : Value} : ∀ {P : List Str} {vs : List Value} {i : Nat} {m : Str → Option Value}, P.Nodup → P[i]? = some x → vs[i]? = some v → kindOf x ≠ some .local →
    bindC kindOf (P.zip vs) m x = some v
  | [], _, _, _, _, h, _, _ => by simp at h
  | _ :: _, [], _, _, _, _, h, _ => by simp at h
  | p :: P, w :: vs, 0, m, nd, h1, h2, hk => by
    simp at h1 h2; subst h1; subst h2
    show bindC kindOf ((p, w) :: P.zip vs) m p = _
    unfold bindC
    rw [bindC_out fun v hv => (List.nodup_cons.mp nd).1 (List.of_mem_zip hv).1, if_neg hk]
    simp
  | p :: P, w :: vs, i + 1, m, nd, h1, h2, hk => by
    show bindC kindOf ((p, w) :: P.zip vs) m x = _
    unfold bindC
    exact bindC_get (i := i) (List.nodup_cons.mp nd).2 (by simpa using h1) (by simpa using h2) hk

/-- the names' values at the entry -/
def start (N : List Str) (vs : List V) : St := vs.map some ++ List.replicate (N.length - vs.length) none

/-- the context of a def's body, at its entry; an exception leaves the frame, then lies as CX says -/
def cxOf (CX : CXT) (P : Program) (w : World) (K : PySem.W.Frag) (mg : Str → Option Value) (base : Heap) (N : List Str) (qual : Str) (scope : Scope) (f : Addr) (cd : Value) (A : Around) (outer : List Env) (s : Shared) (H : Hp) (E : XK) : Cx where
  prog := P
  w := w
  K := K
  mg := mg
  base := base
  A := A.deeper (envOfC qual scope s.heap.objs.size f cd)
  N := N
  s₀ := s
  H₀ := H
  env := envOfC qual scope s.heap.objs.size f cd
  outer := outer
  stack := envOfC qual scope s.heap.objs.size f cd :: outer
  ex := []
  calm := true
  fn := fun _ => true
  pn := []
  xe := fun e s' => wpAny (model P w) (A.deeper (envOfC qual scope s.heap.objs.size f cd)) (leaving (envOfC qual scope s.heap.objs.size f cd) e) (fun _ s'' => CX outer H s E e s'') (fun e' s'' => CX outer H s E e' s'') s'

theorem cell_has {sc : Scope} {n : Nat} {x : Str} (h : sc.names.lookup x = some .cell) : ∃ c, (cellsFrom n sc.names []).lookup x = some c := by
  have q := PySem.W.cellsFrom_some sc.names n [] (.inl h)
  exact Option.isSome_iff_exists.mp q

theorem inv_start {CX : CXT} {P : Program} {w : World} {K : PySem.W.Frag} {mg : Str → Option Value} {base : Heap} {N ps : List Str} {qual : Str} {scope : Scope} {f : Addr} {cd : Value} {A : Around} {outer : List Env} {s s1 : Shared} {H : Hp} {E : XK} {us : List Value} {vs : List V}
    (S : FnScope N ps scope) (hd : A.handled = none) (e0 : Env0 P w K mg base A outer s H) (hl : vs.length = ps.length) (r : Vals vs us)
    (x : InCallC s s.heap.objs.size (bindL (envOfC qual scope s.heap.objs.size f cd).kindOf (ps.zip us) fun _ => none) (cellsFrom (s.heap.objs.size + 1) scope.names []) (bindC (envOfC qual scope s.heap.objs.size f cd).kindOf (ps.zip us) fun _ => none) s1) :
    Inv (cxOf CX P w K mg base N qual scope f cd A outer s H E) [] (start N vs) H s1 := by
  have hpl : ps.length ≤ N.length := by have := congrArg List.length S.pre; rw [List.length_take] at this; omega
  obtain ⟨h1, tk, rfl, hk⟩ := x.done
  have noA : ∀ b : Addr, b ∉ (cxOf CX P w K mg base N qual scope f cd A outer s H E).ex := fun b z => absurd (show b ∈ ([] : List Addr) from z) (by simp)
  refine ⟨⟨e0.mod, S.kind, rfl, rfl, Nat.le_refl _, fun y z c h1 h2 => ?_, fun y hy => ?_, fun y c _ h => ?_, fun _ => hd, Around.frames_deeper e0.frames, .inr ⟨rfl, rfl⟩, fun b z => absurd z (noA b), e0.bs, e0.bsz, fun b _ _ => noA b, fun b z => absurd z (noA b), e0.funs, e0.frf⟩,
    rfl, e0.bare, Un.kept hk, ⟨_, x.toInCall.ns, fun i y v h1 h2 h3 => ?_⟩, fun y c h => ⟨_, x.cell y c h⟩, e0.hok.fresh (Nat.le_refl _), fun y c h => ?_, fun p hp => absurd (show p ∈ ([] : List (Addr × Obj)) from hp) (by simp), e0.hok.kept hk, ?_⟩
  · exact name_of_addr x.apart (PySem.mem_of_lookup h1) (PySem.mem_of_lookup h2)
  · have hy : scope.names.lookup y = some .cell ∨ scope.names.lookup y = some .free := hy
    rcases hy with hy | hy
    · exact cell_has hy
    · exact absurd rfl (S.nofree _ (PySem.mem_of_lookup hy))
  · exact Nat.le_of_lt (x.above y c (PySem.mem_of_lookup h))
  · have hi : i < vs.length := by
      unfold start at h2
      by_cases hi : i < vs.length
      · exact hi
      · rw [List.getElem?_append_right (by simpa using hi)] at h2
        rw [List.getElem?_replicate] at h2
        split at h2 <;> cases h2
    have ha : vs[i]? = some v := by
      unfold start at h2
      rw [List.getElem?_append_left (by simpa using hi), List.getElem?_map] at h2
      cases e : vs[i]? with
      | none => rw [e] at h2; cases h2
      | some a => rw [e] at h2; cases h2; rfl
    obtain ⟨u, hu, rv⟩ := r.get ha
    have hp : ps[i]? = some y := by
      rw [← S.pre, List.getElem?_take_of_lt (by omega)]; exact h1
    have ndP : ps.Nodup := by rw [← S.pre]; exact S.nd.sublist (List.take_sublist _ _)
    refine ⟨u, rv, ?_⟩
    rcases S.par y (List.mem_of_getElem? hp) with k | k
    · exact .inl ⟨k, bindL_get ndP hp hu k⟩
    · obtain ⟨c, e⟩ := cell_has (n := s.heap.objs.size + 1) k
      refine .inr ⟨.inl k, c, e, ?_⟩
      have q := x.cell y c e
      rw [bindC_get ndP hp hu (by show scope.names.lookup y ≠ _; rw [k]; decide)] at q
      exact q
  · exact e0.hok.fresh (Nat.le_of_lt (x.above y c (PySem.mem_of_lookup h)))
  · unfold start
    show _ = N.length
    rw [List.length_append, List.length_map, List.length_replicate]
    omega

/-- THE RULE: a def (or a method) of the text, by its body. The body's reading t is chosen for each entry; it is run at the parameters' values -/
theorem fn_of {CX : CXT} {P : Program} {w : World} {K : PySem.W.Frag} {mg : Str → Option Value} {base : Heap} {k : Nat} {f : Addr} {name qual : Str} {params : Arguments} {body : List Stmt} {scope : Scope} {dV kV doc pm cdv ct oc : Value} {an od : Option Addr}
    {osl : Array (Option Value)} {N ps : List Str} {sp : Sp} (lk : K.lookup f = some ⟨oc, od, .func (PySem.W.fnOf name qual params body scope dV kV doc pm an cdv ct), osl⟩) (hcd : PySem.W.codeIn K cdv qual = true) (S : FnScope N ps scope)
    (len : ∀ vs H Q E, sp vs H Q E → vs.length = ps.length)
    (hbody : ∀ (A : Around) (outer : List Env) (s : Shared) (H : Hp) (vs : List V) (Q : VK) (E : XK), Room k (A.deeper (envOfC qual scope s.heap.objs.size f cdv)) → sp vs H Q E →
      ∃ t, PSs (cxOf CX P w K mg base N qual scope f cdv A outer s H E) body t ∧ t { nx := fun _ H' => Q .non H', rt := Q } (start N vs) H) :
    FnOk P w K mg base CX (k + 1) f (PySem.W.fnOf name qual params body scope dV kV doc pm an cdv ct) ps sp := by
  refine ⟨len, fun A outer s H args us vs Q E hr e0 hb r hsp => ?_⟩
  have hl := len _ _ _ _ hsp
  have KX : K.In s.heap := e0.mod.kin.keeps fun b o e => (e0.bs b o e).1
  have lim : s.heap.NoLimit := e0.mod.nolimit.keeps fun b o e => (e0.bs b o e).1
  have hkind : ∀ y ∈ ps.zip us, scope.names.lookup y.1 = some .local ∨ (scope.names.lookup y.1 = some .cell ∧ ((cellsFrom (s.heap.objs.size + 1) scope.names []).lookup y.1).isSome = true) := fun ⟨n, v⟩ hy => by
    rcases S.par n (List.of_mem_zip hy).1 with q | q
    · exact .inl q
    · exact .inr ⟨q, PySem.W.cellsFrom_some _ _ _ (.inl q)⟩
  refine codeAny_call_function hr.depth (KX _ _ lk) rfl S.co S.gen rfl (PySem.W.codeRec_of KX hcd) (hb _ _ _ _ ?_)
  refine wpAny_newFunctionEnv_cells S.kind hkind fun env he s1 x => ?_
  subst he
  refine ⟨lim.keeps x.toInCall.keep, codeAny_func ?_⟩
  obtain ⟨t, ht, hq⟩ := hbody A outer s H vs Q E (hr.deeper _) hsp
  have I : Inv (cxOf CX P w K mg base N qual scope f cdv A outer s H E) [] (start N vs) H s1 := inv_start S hr.hd e0 hl r x
  refine wpAny_mono (ht [] s1 (start N vs) H _ I hq) (fun fl s' hs => ?_) fun e s' hs => hs
  have fin : ∀ {σ' : St} {H' : Hp} {v : V} {u : Value}, Inv (cxOf CX P w K mg base N qual scope f cdv A outer s H E) [] σ' H' s' → RelV v u → Q v H' → CE outer P w H s Q u s' :=
    fun {σ' H' v u} J rv q => ⟨v, H', J.os, J.bare, J.base, J.hok, rv, q⟩
  cases fl with
  | ret u =>
    obtain ⟨v, σ', H', J, rv, q⟩ := hs
    exact fin J rv q
  | next =>
    obtain ⟨σ', H', J, q⟩ := hs
    exact fin (v := V.non) (u := Value.none) J rfl q
  | brk =>
    obtain ⟨_, _, _, q⟩ := hs
    exact False.elim q
  | cont =>
    obtain ⟨_, _, _, q⟩ := hs
    exact False.elim q
end L2

namespace L2
open PySem PySem.Spec PyProof.Rows
section
variable {X : Cx} {x : Str} {p pos : Pos} {e : Expr} {es : List Expr} {t : TA} {id T : String} {r : List V → Hp → VK → Prop}

def tCB (r : List V → Hp → VK → Prop) (t : TA) : TE := fun σ H Q => t σ H fun vs H1 => r vs H1 Q
/-- f(e, ..), f a built-in function -/
theorem pe_callB (hc : CallR X (.builtin id) r) (hg : Gl X x) (hm : X.mg x = none) (hv : bootBuiltins x = some (.builtin id)) (ha : PA X (e :: es) t) (hn : x ≠ "__name__" := by decide) (hdb : (x == ("__debug__" : Str)) = false := by decide)
    (he : starEach (e :: es) X.env = (false, eval e X.env) :: starEach es X.env := by rfl) (hpl : (backTo pos (starEach es X.env)).any (·.1) = false := by rfl) : PE X (.Call (.Name x p) (e :: es) [] pos) (tCB r t) := by
  intro pins s σ H Q I h
  refine wpAny_Call_Name_kw (ld_blt I hg hm hv ?_ hn hdb)
  exact PyProof.Rows.callWith_builtin1 (thn (ha pos pins s σ H _ I h) fun us s1 ⟨vs, H1, I1, r1, q1⟩ => hc pins s1 σ H1 vs us Q I1 r1 q1) he hpl
/-- T(e, ..), T a built-in type -/
theorem pe_callTy (hc : CallR X (.type T) r) (hg : Gl X x) (hm : X.mg x = none) (hv : bootBuiltins x = some (.type T)) (ha : PA X (e :: es) t) (hn : x ≠ "__name__" := by decide) (hdb : (x == ("__debug__" : Str)) = false := by decide)
    (he : starEach (e :: es) X.env = (false, eval e X.env) :: starEach es X.env := by rfl) (hpl : (backTo pos (starEach es X.env)).any (·.1) = false := by rfl) : PE X (.Call (.Name x p) (e :: es) [] pos) (tCB r t) := by
  intro pins s σ H Q I h
  refine wpAny_Call_Name_kw (ld_blt I hg hm hv ?_ hn hdb)
  exact PyProof.Rows.callWith_type1 (thn (ha pos pins s σ H _ I h) fun us s1 ⟨vs, H1, I1, r1, q1⟩ => hc pins s1 σ H1 vs us Q I1 r1 q1) he hpl
end
end L2

namespace HT
open PySem PyProof.Rows

section
open PySem.SeqAt
open PySem.AutoSeq1 (wpAny_loadPart')
open PySem.MeetsSeq PySem.MeetsSeq2 PySem.MeetsSeq3

end

section
variable {prog : Program} {w : World} {A : Around} {E : Value → Shared → Prop} {s : Shared}

/-! ### t[a:b], not the whole -/
/-- a slice's bound as a place among n (d where it is left out) -/
def sIx (n d : Nat) : Option Int → Nat
  | none => d
  | some v => if v < 0 then (v + (n : Int)).toNat else min v.toNat n
end
end HT

namespace L2
open PySem PySem.Spec PyProof.Rows

/-! ### the parts of a slice -/
section
variable {X : Cx} {e : Expr} {te : TE} {lo hi : Option Expr} {tl th : TO} {pos p2 : Pos}

/-- what a slice of a value is, by values: the slice object stands at sl -/
def SlR (X : Cx) (r : V → Option Int → Option Int → Hp → VK → Prop) : Prop :=
  ∀ (pins : List (Addr × Obj)) (s : Shared) (σ : St) (H : Hp) (x : V) (v vl vu : Value) (lo hi : Option Int) (sl : Addr) (Q : VK), Inv X pins σ H s → RelV x v → s.heap.IsSliceOf sl vl vu .none → IsPart vl lo → IsPart vu hi → r x lo hi H Q →
    ∃ T id, typeLookup (.type T) "__getitem__" = pure (some (.builtin id)) ∧ s.TypeIs v T ∧ wpAny (model X.prog X.w) X.A (getItem v (.ref sl)) (EP X pins σ Q) X.xe s
/-- the items of xs[lo:hi] -/
def cutV (xs : List V) (lo hi : Option Int) : List V := (xs.drop (HT.sIx xs.length 0 lo)).take (HT.sIx xs.length xs.length hi - HT.sIx xs.length 0 lo)
theorem cutV_length (xs : List V) (lo hi : Option Int) : (cutV xs lo hi).length ≤ xs.length := by
  unfold cutV
  rw [List.length_take, List.length_drop]
  omega
/-! ### t < u, t + u -/
end
end L2

namespace L2
open PySem PySem.Spec PyProof.Rows

/-! ### places -/
/-- the place that an index of any sign means -/
def ixN (n : Nat) (i : Int) : Option Nat := if 0 ≤ i then (if i < n then some i.toNat else none) else if -(n : Int) ≤ i then some (i + n).toNat else none
def atI {α : Type} (xs : List α) (i : Int) : Option α := (ixN xs.length i).bind fun j => xs[j]?
theorem ixN_seq {n : Nat} {i : Int} {j : Nat} (h : ixN n i = some j) : seqIndex? i n = some j ∧ j < n ∧ -(n : Int) ≤ i ∧ i < n := by
  unfold ixN at h
  by_cases h0 : 0 ≤ i
  · rw [if_pos h0] at h
    by_cases h1 : i < n
    · rw [if_pos h1] at h
      have e : i.toNat = j := Option.some.inj h
      exact ⟨by rw [seqIndex_of h0 h1, e], by omega, by omega, h1⟩
    · rw [if_neg h1] at h; cases h
  · rw [if_neg h0] at h
    by_cases h1 : -(n : Int) ≤ i
    · rw [if_pos h1] at h
      have e : (i + n).toNat = j := Option.some.inj h
      exact ⟨by rw [seqIndex_neg (by omega) h1, e], by omega, h1, by omega⟩
    · rw [if_neg h1] at h; cases h
theorem atI_get {α : Type} {xs : List α} {i : Int} {v : α} (h : atI xs i = some v) : ∃ j, seqIndex? i xs.length = some j ∧ xs[j]? = some v ∧ j < xs.length ∧ -(xs.length : Int) ≤ i ∧ i < xs.length := by
  unfold atI at h
  cases e : ixN xs.length i with
  | none => rw [e] at h; cases h
  | some j =>
    rw [e] at h
    obtain ⟨h1, h2, h3, h4⟩ := ixN_seq e
    exact ⟨j, h1, h, h2, h3, h4⟩
theorem atI_nat {α : Type} {xs : List α} {j : Nat} {v : α} (h : xs[j]? = some v) : atI xs (j : Int) = some v := by
  have hj : j < xs.length := (List.getElem?_eq_some_iff.mp h).1
  have e : ixN xs.length (j : Int) = some j := by
    unfold ixN
    rw [if_pos (by omega), if_pos (by omega)]; simp
  unfold atI; rw [e]; exact h
/-! ### what may be subscripted -/
/-- what stands as an index of a plain subscript -/
def PlainIx (b : Expr) : Prop := ∀ o i, subscripted b false o i = operate [o, i] (getItem o i)
/-- a subscript by values -/
def IxR (X : Cx) (r : R2) : Prop :=
  ∀ (value slice : Expr) (pins : List (Addr × Obj)) (s : Shared) (σ : St) (H : Hp) (x y : V) (v u : Value) (Q : VK), Inv X pins σ H s → RelV x v → RelV y u → r x y H Q →
    subscripted slice false v u = operate [v, u] (getItem v u) → wpAny (model X.prog X.w) X.A (subscriptTail value slice v u) (EP X pins σ Q) X.xe s
/-- a call of a builtin's method by values: the receiver, the arguments -/
def MtR (X : Cx) (id : String) (r : V → List V → Hp → VK → Prop) : Prop :=
  ∀ (pins : List (Addr × Obj)) (s : Shared) (σ : St) (H : Hp) (x : V) (xs : List V) (v : Value) (us : List Value) (Q : VK), Inv X pins σ H s → RelV x v → Vals xs us → r x xs H Q →
    wpAny (model X.prog X.w) X.A (call (.builtin id) (v :: us)) (EP X pins σ Q) X.xe s
section
variable {X : Cx} {a b : Expr} {ta tb : TE} {pos : Pos}
/-- a[b] -/
theorem pe_ix {r : R2} (hr : IxR X r) (ha : PE X a ta) (hb : PE X b tb) (hs : PlainIx b) : PE X (.Subscript a b pos) (tOp r ta tb) := by
  intro pins s σ H Q I h
  exact Subscript_ (binT ha hb I h fun v u s2 x y H2 I2 rx ry q => hr a b pins s2 σ H2 x y v u Q I2 rx ry q (hs _ _))

def rIxL (K : PySem.W.Frag) : R2 := fun x y H Q => ∃ p xs i v, x = .ref p ∧ y = .int i ∧ SqL K H p xs ∧ atI xs i = some v ∧ Q v H
def rIxT (K : PySem.W.Frag) : R2 := fun x y H Q => ∃ p xs i v, x = .ref p ∧ y = .int i ∧ SqT K H p xs ∧ atI xs i = some v ∧ Q v H
def rIxS : R2 := fun x y H Q => ∃ z i c, x = .str z ∧ y = .int i ∧ z.length ≤ sizeLine ∧ atI z.cps.toList i = some c ∧ Q (.str ⟨#[c]⟩) H
theorem ix_list : IxR X (rIxL X.K) := by
  intro value slice pins s σ H x y v u Q I rx ry h hs
  obtain ⟨p, xs, i, z, rfl, rfl, hq, he, q⟩ := h
  cases rx
  obtain ⟨t, rfl⟩ := ry
  obtain ⟨its, r, pl, hz⟩ := I.list hq
  obtain ⟨j, h1, h2, h3, h4, h5⟩ := atI_get he
  obtain ⟨w, ew, rw'⟩ := r.get h2
  have hl := r.length
  have hn := line63
  have fin : EP X pins σ Q w s := ⟨z, H, I, rw', q⟩
  by_cases h0 : 0 ≤ i
  · have hj : i.toNat = j := by
      rw [seqIndex_of h0 h5] at h1
      exact Option.some.inj h1
    exact item_listR pl.isList h0 (by omega) (by rw [hj]; simpa using ew) fin hs
  · have hj : (i + (its.toArray.size : Int)).toNat = j := by
      rw [seqIndex_neg (by omega) h4] at h1
      rw [List.size_toArray, ← hl]
      exact Option.some.inj h1
    exact subscriptTail_builtinR (x := w) pl.isList.typeIs slot_list_getitem.lookup
      (wpAny_getItem_list_neg (Q := fun r s' => r = w ∧ EP X pins σ Q r s') pl.isList (by omega) (by rw [List.size_toArray] <;> omega) (by omega) (by rw [hj]; simpa using ew) ⟨rfl, fin⟩) hs
theorem ix_tup : IxR X (rIxT X.K) := by
  intro value slice pins s σ H x y v u Q I rx ry h hs
  obtain ⟨p, xs, i, z, rfl, rfl, hq, he, q⟩ := h
  cases rx
  obtain ⟨t, rfl⟩ := ry
  obtain ⟨its, r, pl, hz⟩ := I.tuple hq
  obtain ⟨j, h1, h2, h3, h4, h5⟩ := atI_get he
  obtain ⟨w, ew, rw'⟩ := r.get h2
  have hl := r.length
  have hn := line63
  have fin : EP X pins σ Q w s := ⟨z, H, I, rw', q⟩
  exact subscriptTail_builtinR (x := w) pl.typeIs slot_tuple_getitem.lookup
    (getItem_tuple (j := j) (Q := fun r s' => r = w ∧ EP X pins σ Q r s') pl (by omega) (by omega) (by rw [List.size_toArray, ← hl]; exact h1) (by simpa using ew) ⟨rfl, fin⟩) hs
theorem ix_str : IxR X rIxS := by
  intro value slice pins s σ H x y v u Q I rx ry h hs
  obtain ⟨z, i, c, rfl, rfl, hz, he, q⟩ := h
  obtain ⟨t, rfl⟩ := rx
  obtain ⟨t', rfl⟩ := ry
  obtain ⟨j, h1, h2, h3, h4, h5⟩ := atI_get he
  have hl : z.cps.toList.length = z.length := by simp [Str.length]
  rw [hl] at h1 h4 h5
  have hn := line63
  exact tail_any (typeIs_str s z t) slot_str_getitem.lookup (getItem_str (c := c) (by
    have e1 : decide (i < -(2 ^ 63 : Int)) = false := decide_eq_false (by omega)
    have e2 : decide (i ≥ 2 ^ 63) = false := decide_eq_false (by omega)
    rw [e1, e2, Bool.or_false]) (by rw [h1]; simpa using h2) ⟨.str ⟨#[c]⟩, H, I.tok _, ⟨_, rfl⟩, q⟩) hs
/-! ### xs[i] = v, any sign -/
/-! ### slices -/
theorem slice_bounds (lo hi : Option Int) (n : Nat) : (sliceBounds lo hi none n).1 = ((HT.sIx n 0 lo : Nat) : Int) ∧ (sliceBounds lo hi none n).2.1 = ((HT.sIx n n hi : Nat) : Int) ∧ (sliceBounds lo hi none n).2.2 = 1 := by
  refine ⟨?_, ?_, rfl⟩
  · cases lo with
    | none => simp [sliceBounds, HT.sIx]
    | some i =>
      simp only [sliceBounds, HT.sIx, Option.getD_none, show (1 : Int) > 0 by decide, if_true]
      by_cases h : i < 0
      · simp only [h, if_true] <;> omega
      · simp only [h, if_false] <;> omega
  · cases hi with
    | none => simp [sliceBounds, HT.sIx]
    | some i =>
      simp only [sliceBounds, HT.sIx, Option.getD_none, show (1 : Int) > 0 by decide, if_true]
      by_cases h : i < 0
      · simp only [h, if_true] <;> omega
      · simp only [h, if_false] <;> omega
theorem slicePick_cut (its : List Value) (lo hi : Option Int) : slicePick its.toArray lo hi none = ((its.drop (HT.sIx its.length 0 lo)).take (HT.sIx its.length its.length hi - HT.sIx its.length 0 lo)).toArray := by
  obtain ⟨h1, h2, h3⟩ := slice_bounds lo hi its.toArray.size
  unfold slicePick
  rw [h1, h2, h3]
  simp only [sliceRange_one, pick_run, List.size_toArray] <;> rfl
/-- xs[lo:hi] of a list: a new list -/
def rSlL (K : PySem.W.Frag) : V → Option Int → Option Int → Hp → VK → Prop := fun x lo hi H Q => ∃ a xs, x = .ref a ∧ SqL K H a xs ∧ ∀ p, H p = none → Q (.ref p) (upd H p (.lst (cutV xs lo hi)))
theorem sl_list : SlR X (rSlL X.K) := by
  intro pins s σ H x v vl vu lo hi sl Q I rx hs pl pu h
  obtain ⟨a, xs, rfl, hx, q⟩ := h
  cases rx
  obtain ⟨its, r, ht, hz⟩ := I.list hx
  have hlen := r.length
  refine ⟨"list", _, slot_list_getitem.lookup, ht.isList.typeIs, ?_⟩
  refine wpAny_getItem_list_slice ht.isList hs pl pu .none (by simp) ?_ (by rw [List.size_toArray] <;> omega)
  rw [slicePick_cut, ← hlen]
  refine ⟨.ref s.heap.objs.size, _, I.laid (t' := s.toks) (o := .lst (cutV xs lo hi)) (fun b ob q => Heap.get?_push_of_some _ q) (Nat.le_refl _) ?_, rfl, q _ (I.hok.fresh (Nat.le_refl _))⟩
  exact ⟨Nat.le_trans (cutV_length xs lo hi) hz, _, 0, (r.drop (HT.sIx xs.length 0 lo)).take (HT.sIx xs.length xs.length hi - HT.sIx xs.length 0 lo), Heap.get?_push_size _ rfl⟩

/-! ### in, not in: flat items -/
/-! ### len, list(x), tuple(x) of any list or tuple that is read -/
theorem call_len_seq : CallR X (.builtin "len") (fun xs H Q => ∃ p ys, xs = [.ref p] ∧ (SqL X.K H p ys ∨ SqT X.K H p ys) ∧ Q (.int ys.length) H) := by
  intro pins s σ H xs us Q I r h
  obtain ⟨p, ys, rfl, hq, q⟩ := h
  obtain ⟨u, rfl, rx⟩ := vals1 r
  cases rx
  have hn := line63
  rcases hq with hq | hq
  · obtain ⟨its, r', pl, hz⟩ := I.list hq
    have hlen := r'.length
    exact Calls.call_len_list pl.isList (by simp only [List.size_toArray] <;> omega) ⟨.int ys.length, H, I.tok _, ⟨s.toks + 1, by rw [List.size_toArray, hlen]⟩, q⟩
  · obtain ⟨its, r', pl, hz⟩ := I.tuple hq
    have hlen := r'.length
    exact len_tuple pl (by simp only [List.size_toArray] <;> omega) ⟨.int ys.length, H, I.tok _, ⟨s.toks + 1, by rw [List.size_toArray, hlen]⟩, q⟩
theorem call_tuple_of : CallR X (.type "tuple") (fun xs H Q => ∃ p ys, xs = [.ref p] ∧ ((SqL X.K H p ys ∧ ∀ l, H l = none → Q (.ref l) (upd H l (.tup ys))) ∨ (SqT X.K H p ys ∧ Q (.ref p) H))) := by
  intro pins s σ H xs us Q I r h
  obtain ⟨p, ys, rfl, h⟩ := h
  obtain ⟨u, rfl, rx⟩ := vals1 r
  cases rx
  rcases h with ⟨hq, q⟩ | ⟨hq, q⟩
  · obtain ⟨its, r', pl, hz⟩ := I.list hq
    have hlen := r'.length
    refine call_tuple_list pl.isList (fun h' kp => ?_) (by simp only [List.size_toArray] <;> omega)
    have I1 : Inv X pins σ H { s with heap := h' } := I.kept (t' := s.toks) kp
    have I2 : Inv X pins σ (upd H h'.objs.size (.tup ys)) { s with heap := h'.push { cls := .type "tuple", data := .seq its.toArray } } :=
      I1.laid (t' := s.toks) (fun b o e => Heap.get?_push_of_some _ e) (Nat.le_refl _) (show ObjOk X.prog X.w _ _ _ (.tup ys) from ⟨hz, its, r', IsTup.new _ _⟩)
    exact ⟨.ref h'.objs.size, _, I2, rfl, q _ (I1.hok.fresh (Nat.le_refl _))⟩
  · obtain ⟨its, r', pl, hz⟩ := I.tuple hq
    exact call_tuple_same pl ⟨.ref p, H, I, rfl, q⟩

/-! ### the call of a builtin's method: o.m(..) -/
/-- the value is of that builtin type -/
def tyV (K : PySem.W.Frag) (T : String) (x : V) (H : Hp) : Prop := match x with
  | .str _ => T = "str"
  | .int _ => T = "int"
  | .ref p => (T = "list" ∧ ∃ xs, SqL K H p xs) ∨ (T = "tuple" ∧ ∃ o, K.lookup p = some o ∧ o.cls = .type "tuple" ∧ o.dict = none) ∨
      (T = "dict" ∧ ((∃ kvs, H p = some (.dK kvs)) ∨ ∃ kvs, H p = some (.dT kvs))) ∨ (T = "set" ∧ ∃ S n, H p = some (.set S n))
  | _ => False
theorem tyV_is {pins : List (Addr × Obj)} {σ : St} {H : Hp} {s : Shared} {T : String} {x : V} {v : Value} (I : Inv X pins σ H s) (r : RelV x v) (ty : tyV X.K T x H) :
    s.TypeIs v T ∧ ∀ a, v = .ref a → ∃ ob, s.heap.get? a = some ob ∧ ob.dict = none := by
  cases x with
  | str z =>
    obtain ⟨t, rfl⟩ := r
    cases (show T = "str" from ty)
    exact ⟨typeIs_str s z t, fun _ e => nomatch e⟩
  | int i =>
    obtain ⟨t, rfl⟩ := r
    cases (show T = "int" from ty)
    exact ⟨typeIs_int s i t, fun _ e => nomatch e⟩
  | ref p =>
    cases r
    rcases ty with ⟨rfl, xs, hq⟩ | ⟨rfl, o, hk, hc, hd⟩ | ⟨rfl, hk⟩ | ⟨rfl, S, n, hk⟩
    · obtain ⟨its, _, pl, _⟩ := I.list hq
      refine ⟨pl.isList.typeIs, fun a e => ?_⟩
      cases e
      obtain ⟨o, n, e, c, hd, _⟩ := pl
      exact ⟨o, e, hd⟩
    · refine ⟨⟨o, I.kIn p o hk, hc⟩, fun a e => ?_⟩
      cases e
      exact ⟨o, I.kIn _ o hk, hd⟩
    · have z : ∃ o, s.heap.get? p = some o ∧ o.ExactDict := by
        rcases hk with ⟨kvs, hk⟩ | ⟨kvs, hk⟩
        · obtain ⟨_, _, _, _, o, _, _, e, ex, _⟩ := I.hok p _ hk
          exact ⟨o, e, ex⟩
        · obtain ⟨_, _, _, _, o, _, _, e, ex, _⟩ := I.hok p _ hk
          exact ⟨o, e, ex⟩
      obtain ⟨o, e, ex⟩ := z
      refine ⟨⟨o, e, ex.1⟩, fun a e2 => ?_⟩
      cases e2
      exact ⟨o, e, ex.2.1⟩
    · obtain ⟨o, _, _, _, e, ex, _⟩ := I.hok p _ hk
      refine ⟨⟨o, e, ex.1⟩, fun a e2 => ?_⟩
      cases e2
      exact ⟨o, e, ex.2.1⟩
  | _ => exact False.elim ty
def tBM0 (K : PySem.W.Frag) (T : String) (r : V → List V → Hp → VK → Prop) (to : TE) : TE := fun σ H Q => to σ H fun x H1 => tyV K T x H1 ∧ r x [] H1 Q
def tBM (K : PySem.W.Frag) (T : String) (r : V → List V → Hp → VK → Prop) (to : TE) (t : TA) : TE := fun σ H Q => to σ H fun x H1 => tyV K T x H1 ∧ t σ H1 fun xs H2 => r x xs H2 Q
variable {o e : Expr} {es : List Expr} {to : TE} {t : TA} {name : Str} {apos cpos : Pos} {T id : String} {r : V → List V → Hp → VK → Prop}
theorem pe_bm0 (pa : PlainAttrs T) (slot : Slot T name id) (hty : typeOf (.builtin id) = pure (.type "method_descriptor")) (hm : MtR X id r) (ho : PE X o to)
    (hbase : attributeBase o name X.env (eval o X.env) = eval o X.env := by rfl) (hline : (apos.endLine == cpos.line) = true := by rfl) : PE X (.Call (.Attribute o name apos) [] [] cpos) (tBM0 X.K T r to) := by
  intro pins s σ H Q I h
  refine wpAny_Call_method0_late hbase hline (thn (ho pins s σ H _ I h) fun v s1 ⟨x, H1, I1, r1, ty, q1⟩ => ?_)
  obtain ⟨h1, h2⟩ := tyV_is I1 r1 ty
  exact ⟨T, id, pa, slot, hty, h1, h2, Calls.callWith_builtin rfl (PySem.evalArgs_none (hm pins s1 σ H1 x [] v [] Q I1 r1 .nil q1))⟩
theorem pe_bm (pa : PlainAttrs T) (slot : Slot T name id) (hty : typeOf (.builtin id) = pure (.type "method_descriptor")) (hm : MtR X id r) (ho : PE X o to) (ha : PA X (e :: es) t)
    (hbase : attributeBase o name X.env (eval o X.env) = eval o X.env := by rfl)
    (hfew : ((backTo cpos (starEach (e :: es) X.env)).all (fun x => !x.1) && (backToKw cpos (keywordEach [] X.env)).all (fun x => x.1.isSome)
      && decide ((e :: es).length + ([] : List Keyword).length + (if ([] : List Keyword).isEmpty then 0 else 1) < 30)) = true := by rfl)
    (hline : (apos.endLine == cpos.line) = true := by rfl) (hs : starEach (e :: es) X.env = (false, eval e X.env) :: starEach es X.env := by rfl) (hplain : (backTo cpos (starEach es X.env)).any (·.1) = false := by rfl) :
    PE X (.Call (.Attribute o name apos) (e :: es) [] cpos) (tBM X.K T r to t) := by
  intro pins s σ H Q I h
  refine wpAny_Call_method_late hbase hfew hline rfl (thn (ho pins s σ H _ I h) fun v s1 ⟨x, H1, I1, r1, ty, q1⟩ => ?_)
  obtain ⟨h1, h2⟩ := tyV_is I1 r1 ty
  refine ⟨T, id, pa, slot, hty, h1, h2, ?_⟩
  have hA := ha cpos pins s1 σ H1 _ I1 q1
  rw [hs] at hA ⊢
  refine Calls.callWith_builtin (by show (false || (backTo cpos (starEach es X.env)).any (·.1)) = false; rw [hplain] <;> rfl) (Calls.evalArgs_plain ?_)
  exact thn hA fun us s2 ⟨vs, H2, I2, r2, q2⟩ => hm pins s2 σ H2 x vs v us Q I2 r1 r2 q2
/- xs.append(e), list.index on a module's tuple .. are MtR facts of 06m -/
end
end L2

namespace L2
open PySem PySem.Spec PyProof.Rows

def MtM (X : Cx) (id : String) (r : V → List V → Hp → VK → Prop) : Prop :=
  ∀ (pins : List (Addr × Obj)) (s : Shared) (σ : St) (H : Hp) (x : V) (xs : List V) (v : Value) (us : List Value) (Q : VK), Inv X pins σ H s → RelV x v → Vals xs us → r x xs H Q →
    wpAny (model X.prog X.w) X.A (call (.builtin id) (v :: us)) (EP X pins σ Q) X.xe s

/-! ### lists of values -/
theorem Vals.one : ∀ {x : V} {us : List Value}, Vals [x] us → ∃ u, us = [u] ∧ RelV x u
  | _, _, .cons r .nil => ⟨_, rfl, r⟩
theorem Vals.zero : ∀ {us : List Value}, Vals [] us → us = []
  | _, .nil => rfl
section
variable {X : Cx} {pins : List (Addr × Obj)} {σ : St} {H : Hp} {s : Shared} {l b : Addr} {xs ys zs : List V}

/-! ### the two steps: a tracked list is rewritten, a new list is laid -/
theorem Inv.lset {its its' : List Value} {n : Nat} {f : Array Value → Array Value} {t' : Nat} (I : Inv X pins σ H s) (hH : H l = some (.lst xs))
    (e : s.heap.get? l = some { cls := .type "list", data := .seq its.toArray n }) (hf : f its.toArray = its'.toArray) (hv : Vals ys its') (hz : ys.length ≤ sizeLine) :
    Inv X pins σ (upd H l (.lst ys)) { s with heap := s.heap.update l (Obj.mapSeq f), toks := t' } := by
  have q := PySem.IsL.update e f
  rw [hf] at q
  refine I.write (x := l) (e := l) (by rw [hH]; exact trivial) (.inl rfl) (fun b' u hb hu => (Heap.get?_update_other s.heap (Obj.mapSeq f) (Ne.symm hb)).trans hu) ⟨_, q⟩ ?_
  exact ⟨hz, its', _, hv, q⟩
theorem Inv.lnew {its : List Value} {t' : Nat} (I : Inv X pins σ H s) (hv : Vals ys its) (hz : ys.length ≤ sizeLine) :
    Inv X pins σ (upd H s.heap.objs.size (.lst ys)) { s with heap := s.heap.push { cls := .type "list", data := .seq its.toArray }, toks := t' } :=
  I.laid (fun _ _ q => Heap.get?_push_of_some _ q) (Nat.le_refl _) ⟨hz, its, 0, hv, Heap.get?_push_size _ rfl⟩
theorem Inv.fresh (I : Inv X pins σ H s) : H s.heap.objs.size = none := I.hok.fresh (Nat.le_refl _)
theorem Inv.lstM (I : Inv X pins σ H s) (hH : H l = some (.lst xs)) : xs.length ≤ sizeLine ∧ ∃ (its : List Value) (n : Nat), Vals xs its ∧ xs.length = its.length ∧ s.heap.get? l = some { cls := .type "list", data := .seq its.toArray n } := by
  obtain ⟨z, its, n, r, e⟩ := I.hok l _ hH
  exact ⟨z, its, n, r, r.length, e⟩

theorem notLongL {n : Nat} (h : n ≤ sizeLine) : Builtin.List.listTooLong n = false := by
  unfold Builtin.List.listTooLong
  exact decide_eq_false (by omega)
end

section
variable {X : Cx}

/-! ### methods -/
def rAppend : V → List V → Hp → VK → Prop := fun x vs H Q => ∃ l xs y, x = .ref l ∧ vs = [y] ∧ H l = some (.lst xs) ∧ xs.length < sizeLine ∧ Q .non (upd H l (.lst (xs ++ [y])))
theorem mt_append : MtM X "list.append" rAppend := by
  intro pins s σ H x vs v us Q I rx rv h
  obtain ⟨l, xs, y, rfl, rfl, hH, hz, q⟩ := h
  cases rx
  obtain ⟨u, rfl, ru⟩ := rv.one
  obtain ⟨z, its, n, r, hl, e⟩ := I.lstM hH
  refine call_meets F.slot_list_append ⟨_, e, rfl⟩ F.entry_list_append (F.args_list_append_2 _ _) (PySem.list_append l its.toArray n u (by rw [List.size_toArray]; omega)) ⟨e, ?_⟩
  refine ⟨.non, _, I.lset (its' := its ++ [u]) hH e (by simp) (r.append (.cons ru .nil)) ?_, rfl, q⟩
  rw [List.length_append, List.length_singleton]
  omega

/-! ### list + list, list += list, list * int -/
/-! ### del xs[i] -/
end

/-! ### xs[a:b] = ys -/
section
variable {prog : Program} {w : World} {A : Around} {E : Value → Shared → Prop} {s : Shared}
set_option maxRecDepth 100000 in
end

section
variable {X : Cx}
end
end L2

namespace L2
open PySem PySem.Spec PyProof.Rows

/-! ### lists of pairs as tables -/
section
variable {κ : Type} [DecidableEq κ]
def valV (kvs : List (κ × V)) (k : κ) : Option V := (kvs.find? fun kv => decide (kv.1 = k)).map (·.2)
/-- in its place, or at the end -/
def putK (kvs : List (κ × V)) (k : κ) (v : V) : List (κ × V) :=
  if (kvs.any fun kv => decide (kv.1 = k)) = true then kvs.map (fun kv => if kv.1 = k then (kv.1, v) else kv) else kvs ++ [(k, v)]
theorem valV_pos {p : κ × V} {r : List (κ × V)} {k : κ} (e : p.1 = k) : valV (p :: r) k = some p.2 := by simp [valV, List.find?_cons, e]
theorem valV_neg {p : κ × V} {r : List (κ × V)} {k : κ} (e : ¬ p.1 = k) : valV (p :: r) k = valV r k := by simp [valV, List.find?_cons, e]
theorem valV_any (k : κ) : ∀ kvs : List (κ × V), (kvs.any fun kv => decide (kv.1 = k)) = (valV kvs k).isSome
  | [] => rfl
  | p :: r => by
    rw [List.any_cons]
    by_cases e : p.1 = k
    · simp only [valV_pos e, decide_eq_true e, Bool.true_or, Option.isSome_some]
    · rw [valV_neg e, decide_eq_false e, Bool.false_or]; exact valV_any k r
theorem length_putK (kvs : List (κ × V)) (k : κ) (v : V) : (putK kvs k v).length ≤ kvs.length + 1 := by
  unfold putK
  split
  · rw [List.length_map]; omega
  · rw [List.length_append, List.length_cons, List.length_nil]; omega
theorem putK_new {kvs : List (κ × V)} {k : κ} (v : V) (h : valV kvs k = none) : putK kvs k v = kvs ++ [(k, v)] := by
  unfold putK
  rw [valV_any, h]
  exact if_neg (by decide)

theorem RelO.isSome_eq {o : Option V} {u : Option Value} (r : RelO o u) : o.isSome = u.isSome := by
  cases o with
  | none => cases u with
    | none => rfl
    | some _ => exact (show False from r).elim
  | some _ => cases u with
    | none => exact (show False from r).elim
    | some _ => rfl
/-- raw tables of the same keys -/
theorem KV.val {kvs : List (κ × V)} {vs : List (κ × Value)} (r : KV kvs vs) (k : κ) : RelO (valV kvs k) (valueAt vs k) := by
  unfold KV at r
  induction r with
  | nil => exact True.intro
  | @cons p q ps qs h t ih =>
    obtain ⟨h1, h2⟩ := h
    by_cases e : p.1 = k
    · have e' : q.1 = k := h1.symm.trans e
      have b : valueAt (q :: qs) k = some q.2 := by simp [valueAt, List.find?_cons, e']
      rw [valV_pos e, b]; exact h2
    · have e' : ¬ q.1 = k := fun z => e (h1.trans z)
      have b : valueAt (q :: qs) k = valueAt qs k := by simp [valueAt, List.find?_cons, e']
      rw [valV_neg e, b]; exact ih
theorem KV.any {kvs : List (κ × V)} {vs : List (κ × Value)} (r : KV kvs vs) (k : κ) : (kvs.any fun kv => decide (kv.1 = k)) = vs.any fun kv => decide (kv.1 = k) := by
  unfold KV at r
  induction r with
  | nil => rfl
  | cons h t ih => rw [List.any_cons, List.any_cons, ih, h.1]
theorem KV.repl {kvs : List (κ × V)} {vs : List (κ × Value)} (r : KV kvs vs) (k : κ) {y : V} {u : Value} (ry : RelV y u) :
    KV (kvs.map fun kv => if kv.1 = k then (kv.1, y) else kv) (vs.map fun kv => if kv.1 = k then (kv.1, u) else kv) := by
  unfold KV at r ⊢
  induction r with
  | nil => exact .nil
  | @cons p q ps qs h t ih =>
    rw [List.map_cons, List.map_cons]
    refine .cons ?_ ih
    obtain ⟨h1, h2⟩ := h
    by_cases e : p.1 = k
    · rw [if_pos e, if_pos (h1.symm.trans e)]; exact ⟨h1, ry⟩
    · rw [if_neg e, if_neg (fun z => e (h1.trans z))]; exact ⟨h1, h2⟩
theorem KV.put {kvs : List (κ × V)} {vs : List (κ × Value)} (r : KV kvs vs) (k : κ) {y : V} {u : Value} (ry : RelV y u) : KV (putK kvs k y) (stored vs k u) := by
  unfold putK stored
  rw [r.any k]
  by_cases e : (vs.any fun kv => decide (kv.1 = k)) = true
  · rw [if_pos e, if_pos e]; exact r.repl k ry
  · rw [if_neg e, if_neg e]; exact Paired.snoc r ⟨rfl, ry⟩
theorem KV.length {kvs : List (κ × V)} {vs : List (κ × Value)} (r : KV kvs vs) : kvs.length = vs.length := Paired.length r
end

/-! ### a tracked dict, its keys ints and texts or tuples of these -/
theorem kV_is {P : Program} {w : World} {k : Key} {u : Value} (r : RelV (kV k) u) : (mixKind P w).is k u = true := by
  cases k with
  | inl i => obtain ⟨t, e⟩ := (show ∃ t, u = Value.int i t from r); subst e; exact mixKind_int P w i t
  | inr x => obtain ⟨t, e⟩ := (show ∃ t, u = Value.str x t from r); subst e; exact mixKind_str P w x t
theorem items_are {P : Program} {w : World} : ∀ {ks : List Key} {us : List Value}, Vals (ks.map kV) us → ItemsAre (mixKind P w) ks us
  | [], _, r => by rw [List.map_nil] at r; cases r; exact .nil
  | k :: ks, _, r => by
    rw [List.map_cons] at r
    cases r with
    | cons h t => exact .cons (kV_is h) (items_are t)

/-- raw entries of a dict with tuple keys -/
abbrev KT (H : Hp) : List (List Key × V) → List (List Key × Addr × Value) → Prop := Paired fun p q => p.1 = q.1 ∧ H q.2.1 = some (.tup (p.1.map kV)) ∧ RelV p.2 q.2.2
theorem KT.val {H : Hp} {kvs : List (List Key × V)} {xs : List (List Key × Addr × Value)} (r : KT H kvs xs) (k : List Key) : RelO (valV kvs k) ((atKey xs k).map (·.2)) := by
  induction r with
  | nil => exact True.intro
  | @cons p q ps qs h t ih =>
    obtain ⟨h1, _, h2⟩ := h
    by_cases e : p.1 = k
    · have e' : q.1 = k := h1.symm.trans e
      have b : atKey (q :: qs) k = some q.2 := by simp [atKey, List.find?_cons, e']
      rw [valV_pos e, b]; exact h2
    · have e' : ¬ q.1 = k := fun z => e (h1.trans z)
      have b : atKey (q :: qs) k = atKey qs k := by simp [atKey, List.find?_cons, e']
      rw [valV_neg e, b]; exact ih
theorem KT.repl {H : Hp} {kvs : List (List Key × V)} {xs : List (List Key × Addr × Value)} (r : KT H kvs xs) (k : List Key) {y : V} {u : Value} (ry : RelV y u) :
    KT H (kvs.map fun kv => if kv.1 = k then (kv.1, y) else kv) (xs.map (putAt k u)) := by
  induction r with
  | nil => exact .nil
  | @cons p q ps qs h t ih =>
    rw [List.map_cons, List.map_cons]
    refine .cons ?_ ih
    obtain ⟨h1, h2, h3⟩ := h
    unfold putAt
    by_cases e : p.1 = k
    · rw [if_pos e, if_pos (h1.symm.trans e)]; exact ⟨h1, h2, ry⟩
    · rw [if_neg e, if_neg (fun z => e (h1.trans z))]; exact ⟨h1, h2, h3⟩
theorem KT.put {H : Hp} {kvs : List (List Key × V)} {xs : List (List Key × Addr × Value)} (r : KT H kvs xs) (k : List Key) {b : Addr} {y : V} {u : Value} (hb : H b = some (.tup (k.map kV))) (ry : RelV y u) :
    KT H (putK kvs k y) (storedH xs k b u) := by
  have e : (kvs.any fun kv => decide (kv.1 = k)) = (atKey xs k).isSome := by
    rw [valV_any, (r.val k).isSome_eq, Option.isSome_map]
  unfold putK storedH
  rw [e]
  by_cases q : (atKey xs k).isSome = true
  · rw [if_pos q, if_pos q]; exact r.repl k ry
  · rw [if_neg q, if_neg q]; exact Paired.snoc r ⟨rfl, hb, ry⟩
theorem KT.keeps {H H' : Hp} {kvs : List (List Key × V)} {xs : List (List Key × Addr × Value)} (r : KT H kvs xs) (ht : ∀ b ys, H b = some (.tup ys) → H' b = some (.tup ys)) : KT H' kvs xs :=
  Paired.mapP r fun _ _ z => ⟨z.1, ht _ _ z.2.1, z.2.2⟩

section
variable {P : Program} {w : World} {H : Hp} {h : Heap} {a : Addr}
theorem rd_of {u : HO} (ok : HOk P w H h) (e : Rd H a u) : ObjOk P w H h a u := e.ok ok
theorem dk_rd {kvs : List (Key × V)} (ok : HOk P w H h) (e : Rd H a (.dK kvs)) : kvs.length ≤ sizeLine ∧ (a == sysModules) = false ∧ ∃ vs, KV kvs vs ∧ h.DictOf (mixKind P w) a vs :=
  show ObjOk P w H h a (.dK kvs) from rd_of ok e
theorem dk_of {kvs : List (Key × V)} (ok : HOk P w H h) (e : H a = some (.dK kvs)) : kvs.length ≤ sizeLine ∧ (a == sysModules) = false ∧ ∃ vs, KV kvs vs ∧ h.DictOf (mixKind P w) a vs := dk_rd ok (.inl e)
/-- a tracked tuple of ints and texts is a key -/
theorem key_of {ks : List Key} (ok : HOk P w H h) (e : H a = some (.tup (ks.map kV))) : (tupleKind (mixKind P w)).is h ks a := by
  obtain ⟨_, its, r, o, h1, h2, n, h3⟩ := (show ObjOk P w H h a (.tup (ks.map kV)) from ok a _ e)
  exact ⟨o, its.toArray, n, h1, h2, h3, by simpa using items_are r⟩
theorem dt_rd {kvs : List (List Key × V)} (ok : HOk P w H h) (e : Rd H a (.dT kvs)) : kvs.length ≤ sizeLine ∧ (a == sysModules) = false ∧
    ∃ xs, KT H kvs xs ∧ h.DictOfH (tupleKind (mixKind P w)) a xs := by
  obtain ⟨z, y, xs, r, o, es, ep, h1, h2, h3, h4, h5⟩ := (show ObjOk P w H h a (.dT kvs) from rd_of ok e)
  refine ⟨z, y, xs, r, o, es, ep, h1, h2, h3, h4, fun x hx => ?_, h5⟩
  have all : ∀ {l : List (List Key × V)} {m : List (List Key × Addr × Value)}, KT H l m → ∀ x ∈ m, (tupleKind (mixKind P w)).is h x.1 x.2.1 := by
    intro l m q
    induction q with
    | nil => intro x hx; exact nomatch hx
    | @cons p q ps qs hq t ih =>
      intro x hx
      rcases List.mem_cons.mp hx with e | hx
      · subst e
        exact key_of ok (by rw [← hq.1]; exact hq.2.1)
      · exact ih x hx
  exact all r x hx
theorem dt_of {kvs : List (List Key × V)} (ok : HOk P w H h) (e : H a = some (.dT kvs)) : kvs.length ≤ sizeLine ∧ (a == sysModules) = false ∧
    ∃ xs, KT H kvs xs ∧ h.DictOfH (tupleKind (mixKind P w)) a xs := dt_rd ok (.inl e)
end

/-- what the dict at a holds at the key y -/
def DGet (H : Hp) (a : Addr) (y : V) (r : Option V) : Prop :=
  (∃ kvs k, Rd H a (.dK kvs) ∧ y = kV k ∧ r = valV kvs k) ∨ ∃ kvs k b, Rd H a (.dT kvs) ∧ y = .ref b ∧ H b = some (.tup (k.map kV)) ∧ r = valV kvs k
/-- the heap behind a[y] = v -/
def DPut (H : Hp) (a : Addr) (y v : V) (H' : Hp) : Prop :=
  (∃ kvs k, H a = some (.dK kvs) ∧ y = kV k ∧ kvs.length < sizeLine ∧ H' = upd H a (.dK (putK kvs k v))) ∨
  ∃ kvs k b, H a = some (.dT kvs) ∧ y = .ref b ∧ H b = some (.tup (k.map kV)) ∧ kvs.length < sizeLine ∧ H' = upd H a (.dT (putK kvs k v))
theorem DPut.k {H : Hp} {a : Addr} {kvs : List (Key × V)} {k : Key} {v : V} (e : H a = some (.dK kvs)) (hl : kvs.length < sizeLine) : DPut H a (kV k) v (upd H a (.dK (putK kvs k v))) := .inl ⟨kvs, k, e, rfl, hl, rfl⟩
section
variable {X : Cx} {pins : List (Addr × Obj)} {σ : St} {H : Hp} {s : Shared} {a : Addr} {y v : V} {u r : Value} {o : Option V} {A : Around} {E : Value → Shared → Prop}

theorem Inv.big (I : Inv X pins σ H s) : sysModules < s.heap.objs.size := by
  have h : mainGlobals < s.heap.objs.size := (I.mod.glob.keeps I.bk).lt
  exact Nat.lt_trans (by decide) h

/-- d[y], there -/
theorem d_getItem {Q : Value → Shared → Prop} (hu : A.units + 1 < cLine) (I : Inv X pins σ H s) (g : DGet H a y (some v)) (ry : RelV y u) (h : ∀ w' s', Inv X pins σ H s' → RelV v w' → Q w' s') :
    wpAny (model X.prog X.w) A (getItem (.ref a) u) Q E s := by
  rcases g with ⟨kvs, k, e, ey, l⟩ | ⟨kvs, k, b, e, ey, eb, l⟩
  · subst ey
    obtain ⟨z, hd, vs, rel, dd⟩ := dk_rd I.hok e
    obtain ⟨w', hw, rw'⟩ := RelO.some_of (v := v) (o := valueAt vs k) (by rw [l]; exact rel.val k)
    exact wpAny_getItem_of (kV_is ry) dd.mapOf hw (h w' _ (I.tok _) rw')
  · subst ey
    cases (show u = Value.ref b from ry)
    obtain ⟨z, hd, xs, rel, dd⟩ := dt_rd I.hok e
    obtain ⟨w', hw, rw'⟩ := RelO.some_of (v := v) (o := (atKey xs k).map (·.2)) (by rw [l]; exact rel.val k)
    obtain ⟨p, hp, hp2⟩ := Option.map_eq_some_iff.mp hw
    refine wpAny_getItem_heap (tupleKind_room_in1 hu) (key_of I.hok eb) dd hp ?_
    rw [hp2]
    exact h w' _ (I.tok _) rw'
theorem d_notIn {Q : Value → Shared → Prop} (hu : A.units + 1 < cLine) (I : Inv X pins σ H s) (g : DGet H a y o) (ry : RelV y u) (h : ∀ s', Inv X pins σ H s' → Q (.bool (!o.isSome)) s') :
    wpAny (model X.prog X.w) A (compareOp .NotIn u (.ref a)) Q E s := by
  rcases g with ⟨kvs, k, e, ey, l⟩ | ⟨kvs, k, b, e, ey, eb, l⟩
  · subst ey
    obtain ⟨z, hd, vs, rel, dd⟩ := dk_rd I.hok e
    refine wpAny_notIn_of (kV_is ry) hd dd.mapOf ?_
    rw [← (rel.val k).isSome_eq, ← l]
    exact h _ (I.tok _)
  · subst ey
    cases (show u = Value.ref b from ry)
    obtain ⟨z, hd, xs, rel, dd⟩ := dt_rd I.hok e
    refine wpAny_notIn_heap (tupleKind_room_in1 hu) (key_of I.hok eb) hd dd ?_
    have q := (rel.val k).isSome_eq
    rw [Option.isSome_map] at q
    rw [← q, ← l]
    exact h _ (I.tok _)
/-- a dict's object is replaced -/
theorem d_write {h' : Heap} {t' : Nat} {ob : HO} (I : Inv X pins σ H s) (mu : Mut (H a)) (hs : Heap.SameBut a s.heap h') (he : ∃ q, h'.get? a = some q) (new : ObjOk X.prog X.w (upd H a ob) h' a ob) :
    Inv X pins σ (upd H a ob) { s with heap := h', toks := t' } :=
  I.write (x := a) (e := a) mu (.inl rfl) (fun b q hb z => (hs.2 b hb).trans z) he new
theorem dk_new {P : Program} {w : World} {H' : Hp} {h' : Heap} {kvs : List (Key × V)} {vs : List (Key × Value)} (z : kvs.length ≤ sizeLine) (hd : (a == sysModules) = false) (rel : KV kvs vs) (dd : h'.DictOf (mixKind P w) a vs) :
    ObjOk P w H' h' a (.dK kvs) := ⟨z, hd, vs, rel, dd⟩
/-- d[y] = v -/
theorem d_setItem {H' : Hp} {Q : Unit → Shared → Prop} (hu : A.units + 1 < cLine) (I : Inv X pins σ H s) (g : DPut H a y v H') (ry : RelV y u) (rv : RelV v r) (h : ∀ s', Inv X pins σ H' s' → Q () s') :
    wpAny (model X.prog X.w) A (setItem (.ref a) u r) Q E s := by
  rcases g with ⟨kvs, k, e, ey, l, eH⟩ | ⟨kvs, k, b, e, ey, eb, l, eH⟩
  · subst ey eH
    obtain ⟨z, hd, vs, rel, dd⟩ := dk_of I.hok e
    have hz : vs.length ≤ sizeLine := by rw [← rel.length]; exact z
    have hl : (putK kvs k v).length ≤ sizeLine := by have := length_putK kvs k v; omega
    refine wpAny_setItem_pairs (hsz := hz) (kV_is ry) dd fun h' dd' hs => h _ ?_
    have he : ∃ q, h'.get? a = some q := let ⟨q, _, _, hq, _⟩ := dd'; ⟨q, hq⟩
    exact d_write I (by rw [e]; exact True.intro) hs he (dk_new hl hd (rel.put k rv) dd')
  · subst ey eH
    cases (show u = Value.ref b from ry)
    obtain ⟨z, hd, xs, rel, dd⟩ := dt_of I.hok e
    have hz : xs.length ≤ sizeLine := by rw [← Paired.length rel]; exact z
    have hl : (putK kvs k v).length ≤ sizeLine := by have := length_putK kvs k v; omega
    refine wpAny_setItem_heap (hsz := hz) (tupleKind_room_in1 hu) (key_of I.hok eb) dd fun h' dd' hs => h _ ?_
    obtain ⟨q, es, ep, hq, h2, h3, h4, _, h5⟩ := dd'
    refine d_write I (by rw [e]; exact True.intro) hs ⟨q, hq⟩ ⟨hl, hd, _, (rel.put k eb rv).keeps fun c ys ec => ?_, q, es, ep, hq, h2, h3, h4, h5⟩
    rw [upd_ne (ne_of ec e (fun z => nomatch z))]
    exact ec
end

section
variable {X : Cx} {pins : List (Addr × Obj)} {σ : St} {H : Hp} {s : Shared} {a : Addr} {kvs : List (Key × V)} {k : Key} {u : Value} {A : Around} {E : Value → Shared → Prop}
/-- d.clear() -/
theorem d_clear {Q : Value → Shared → Prop} (I : Inv X pins σ H s) (e : H a = some (.dK kvs)) (h : ∀ s', Inv X pins σ (upd H a (.dK [])) s' → Q .none s') : wpAny (model X.prog X.w) A (call (.builtin "dict.clear") [.ref a]) Q E s := by
  obtain ⟨z, hd, vs, rel, dd⟩ := dk_of I.hok e
  refine call_meetsIn PySem.F.slot_dict_clear dd.typeIs PySem.F.entry_dict_clear (PySem.F.args_dict_clear_1 _) (meets_dict_clear (mixKind X.prog X.w) a) ⟨vs, dd, by rw [← rel.length]; exact z, fun h' dd' hs => h _ ?_⟩
  have he : ∃ q, h'.get? a = some q := let ⟨q, _, _, hq, _⟩ := dd'; ⟨q, hq⟩
  exact d_write (t' := s.toks) I (by rw [e]; exact True.intro) hs he (dk_new (Nat.zero_le _) hd .nil dd')
/-- len(d) -/
theorem d_len {Q : Value → Shared → Prop} (I : Inv X pins σ H s) (e : Rd H a (.dK kvs)) (h : ∀ t s', Inv X pins σ H s' → Q (.int kvs.length t) s') : wpAny (model X.prog X.w) A (call (.builtin "len") [.ref a]) Q E s := by
  obtain ⟨z, hd, vs, rel, dd⟩ := dk_rd I.hok e
  refine call_len_dict hd dd (by rw [← rel.length]; rw [sizeLine_eq] at z; omega) ?_
  rw [← rel.length]
  exact h _ _ (I.tok _)
end

/-! ### readings and rules -/
/-- the element of a subscription, not a slice -/
def NoSl (i : Expr) : Prop := ∀ ov iv, subscripted i false ov iv = operate [ov, iv] (getItem ov iv)
theorem subD_of {prog : Program} {w : World} {A : Around} {E : Value → Shared → Prop} {s : Shared} {env : Env} {value slice : Expr} {pos : Pos} {T id : String} {Q : Value → Shared → Prop}
    (hl : typeLookup (.type T) "__getitem__" = pure (some (.builtin id))) (hs : NoSl slice)
    (h : wpAny (model prog w) A (eval value env) (fun o s₁ => wpAny (model prog w) A (eval slice env) (fun i s₂ => s₂.TypeIs o T ∧ wpAny (model prog w) A (getItem o i) Q E s₂) E s₁) E s) :
    wpAny (model prog w) A (eval (.Subscript value slice pos) env) Q E s := by
  refine Subscript_ (wpAny_mono h (fun o s₁ h₁ => wpAny_mono h₁ (fun i s₂ h₂ => ?_) fun _ _ x => x) fun _ _ x => x)
  obtain ⟨hT, h₂⟩ := h₂
  unfold subscriptTail
  refine wpAny_bind ?_
  rw [getitemInPython_of_ne hT.not_modules]
  refine wpAny_bind (wpAny_specialOf hT hl ?_)
  have fin : wpAny (model prog w) A (subscripted slice false o i) (fun r s₃ => wpAny (model prog w) A (letTemporaryGo value o r >>= fun _ => pure r) Q E s₃) E s₂ := by
    rw [hs o i]
    exact wpAny_operating (wpAny_mono h₂ (fun r s₃ h₃ => wpAny_bind (wpAny_letTemporaryGo (wpAny_pure h₃))) fun _ _ x => x)
  first
    | exact wpAny_pure (wpAny_bind fin)
    | exact wpAny_bind (wpAny_pure (wpAny_bind fin))
    | exact wpAny_bind fin

theorem dict_typeIs {X : Cx} {pins : List (Addr × Obj)} {σ : St} {H : Hp} {s : Shared} {a : Addr} {y : V} {o : Option V} (I : Inv X pins σ H s) (g : DGet H a y o) : s.TypeIs (.ref a) "dict" := by
  rcases g with ⟨kvs, k, e, _, _⟩ | ⟨kvs, k, b, e, _, _, _⟩
  · obtain ⟨_, _, vs, _, dd⟩ := dk_rd I.hok e
    exact dd.typeIs
  · obtain ⟨_, _, xs, _, dd⟩ := dt_rd I.hok e
    exact dd.typeIs
/-- d[y] -/
def tDGet (td ty : TE) : TE := fun σ H Q => td σ H fun x H1 => ty σ H1 fun y H2 => ∃ a v, x = .ref a ∧ DGet H2 a y (some v) ∧ Q v H2
def tDNotIn (ty td : TE) : TE := fun σ H Q => ty σ H fun y H1 => td σ H1 fun x H2 => ∃ a o, x = .ref a ∧ DGet H2 a y o ∧ Q (.bl (!o.isSome)) H2
/-- d[y] = v -/
def sDPut (td ty tv : TE) : TS := fun D σ H => tv σ H fun v H1 => td σ H1 fun x H2 => ty σ H2 fun y H3 => ∃ a H4, x = .ref a ∧ DPut H3 a y v H4 ∧ D.nx σ H4
section
variable {X : Cx} {o i e value : Expr} {pos pos' tpos : Pos} {td ty tv : TE}
theorem pe_dget (hu : X.A.units + 1 < cLine) (ho : PE X o td) (hi : PE X i ty) (hs : NoSl i) : PE X (.Subscript o i pos) (tDGet td ty) := by
  intro pins s σ H Q I h
  refine subD_of PySem.F.slot_dict_getitem.lookup hs (thn (ho pins s σ H _ I h) fun u s1 ⟨x, H1, I1, rx, q1⟩ => thn (hi pins s1 σ H1 _ I1 q1) fun iv s2 ⟨y, H2, I2, ry, a, v, ex, g, q2⟩ => ?_)
  subst ex
  obtain rfl : u = Value.ref a := rx
  exact ⟨dict_typeIs I2 g, d_getItem hu I2 g ry fun w' s3 I3 rw' => ⟨v, H2, I3, rw', q2⟩⟩
theorem pc_dnotin (hu : X.A.units + 1 < cLine) (hi : PE X i ty) (ho : PE X o td) : PC X .NotIn i o (tDNotIn ty td) := by
  intro pins s σ H Q I h
  refine thn (hi pins s σ H _ I h) fun iv s1 ⟨y, H1, I1, ry, q1⟩ => thn (ho pins s1 σ H1 _ I1 q1) fun u s2 ⟨x, H2, I2, rx, a, ov, ex, g, q2⟩ => ?_
  subst ex
  obtain rfl : u = Value.ref a := rx
  exact d_notIn hu I2 g ry fun s3 I3 => ⟨.bl (!ov.isSome), H2, I3, rfl, q2⟩
theorem ps_dput (hu : X.A.units + 1 < cLine) (ho : PE X o td) (hi : PE X i ty) (hv : PE X value tv) (hs : swapsWith value (some (.Subscript o i pos')) pos.line X.env = pure false) :
    PS X (.Assign [.Subscript o i pos'] value pos) (sDPut td ty tv) := by
  intro pins s σ H D I h
  refine wpAny_Assign_Subscript (thn (hv pins s σ H _ I h) fun r s1 ⟨v, H1, I1, rv, q1⟩ => thn (ho pins s1 σ H1 _ I1 q1) fun u s2 ⟨x, H2, I2, rx, q2⟩ => thn (hi pins s2 σ H2 _ I2 q2) fun iv s3 ⟨y, H3, I3, ry, a, H4, ex, g, q3⟩ => ?_) hs
  subst ex
  obtain rfl : u = Value.ref a := rx
  exact d_setItem hu I3 g ry rv fun s4 I4 => ⟨σ, H4, I4, q3⟩
end

/-! ### displays -/
theorem dk_empty {P : Program} {w : World} {H : Hp} (h : Heap) (hb : sysModules < h.objs.size) : ObjOk P w H (h.push { cls := .type "dict", data := .dict #[] }) h.objs.size (.dK []) :=
  ⟨Nat.zero_le _, beq_eq_false_iff_ne.mpr (Ne.symm (Nat.ne_of_lt hb)), [], .nil, Heap.DictOf.new h⟩
/-- {}, to be a dict of the kind that is wanted -/
def tDNewK : TE := fun _ H Q => ∀ p, H p = none → Q (.ref p) (upd H p (.dK []))
section
variable {X : Cx} {pos : Pos}
theorem pe_dnewK : PE X (.Dict [] [] pos) tDNewK := fun pins s σ H Q I h =>
  wpAny_Dict_empty ⟨.ref s.heap.objs.size, _, I.laid (a := s.heap.objs.size) (o := .dK []) (t' := s.toks) (fun _ _ q => Heap.get?_push_of_some _ q) (Nat.le_refl _) (dk_empty s.heap I.big), rfl, h _ (I.hok.fresh (Nat.le_refl _))⟩
end

/-- the pairs of a display, from the left -/
def tPairs : List (TE × TE) → St → Hp → (List (V × V) → Hp → Prop) → Prop
  | [], _, H, Q => Q [] H
  | (tk, tv) :: r, σ, H, Q => tk σ H fun x H1 => tv σ H1 fun y H2 => tPairs r σ H2 fun ps H3 => Q ((x, y) :: ps) H3
abbrev VV : List (V × V) → List (Value × Value) → Prop := Paired fun p q => RelV p.1 q.1 ∧ RelV p.2 q.2
def PPs (X : Cx) (pos : Pos) (keys : List (Option Expr)) (values : List Expr) (trs : List (TE × TE)) : Prop :=
  ∀ (pins : List (Addr × Obj)) (s : Shared) (σ : St) (H : Hp) (Q : List (V × V) → Hp → Prop), Inv X pins σ H s → tPairs trs σ H Q →
    wpAny (model X.prog X.w) X.A (evalPairs (pairTrees keys values X.env pos)) (fun vs s' => ∃ ps H', Inv X pins σ H' s' ∧ VV ps vs ∧ Q ps H') X.xe s
theorem pps_nil {X : Cx} {pos : Pos} : PPs X pos [] [] [] := fun pins s σ H Q I h => pairTrees_nil_walk ⟨[], H, I, .nil, h⟩
theorem pps_cons {X : Cx} {pos : Pos} {k v : Expr} {ks : List (Option Expr)} {vs : List Expr} {tk tv : TE} {trs : List (TE × TE)} (hk : PE X k tk) (hv : PE X v tv) (hr : PPs X pos ks vs trs) :
    PPs X pos (some k :: ks) (v :: vs) ((tk, tv) :: trs) := fun pins s σ H Q I h =>
  pairTrees_cons_walk (thn (hk pins s σ H _ I h) fun u s1 ⟨x, H1, I1, rx, q1⟩ => thn (hv pins s1 σ H1 _ I1 q1) fun w2 s2 ⟨y, H2, I2, ry, q2⟩ =>
    thn (hr pins s2 σ H2 _ I2 q2) fun ws s3 ⟨ps, H3, I3, rel, q3⟩ => ⟨(x, y) :: ps, H3, I3, .cons ⟨rx, ry⟩ rel, q3⟩)

def mergeK (kvs more : List (Key × V)) : List (Key × V) := more.foldl (fun acc kv => putK acc kv.1 kv.2) kvs
theorem KV.merge : ∀ {more : List (Key × V)} {rs : List (Key × Value)} {kvs : List (Key × V)} {vs : List (Key × Value)}, KV more rs → KV kvs vs → KV (mergeK kvs more) (merged vs rs) := by
  intro more rs kvs vs r
  unfold KV at r
  induction r generalizing kvs vs with
  | nil => intro q; exact q
  | @cons p q ps qs h t ih =>
    intro r0
    have e : KV (putK kvs p.1 p.2) (stored vs q.1 q.2) := by
      have := r0.put p.1 h.2
      rw [← h.1]; exact this
    exact ih e
theorem length_mergeK : ∀ (more kvs : List (Key × V)), (mergeK kvs more).length ≤ kvs.length + more.length
  | [], kvs => by show kvs.length ≤ kvs.length + 0; omega
  | p :: r, kvs => by
    have h1 := length_mergeK r (putK kvs p.1 p.2)
    have h2 := length_putK kvs p.1 p.2
    show (mergeK (putK kvs p.1 p.2) r).length ≤ _
    rw [List.length_cons]; omega
theorem carries_of {P : Program} {w : World} : ∀ {kvs : List (Key × V)} {ws : List (Value × Value)}, VV (kvs.map fun kv => (kV kv.1, kv.2)) ws → ∃ rs, Carries (mixKind P w) ws rs ∧ KV kvs rs
  | [], _, r => by rw [List.map_nil] at r; cases r; exact ⟨[], True.intro, .nil⟩
  | p :: kvs, _, r => by
    rw [List.map_cons] at r
    cases r with
    | @cons a b as bs h t =>
      obtain ⟨rs, c, q⟩ := carries_of (P := P) (w := w) t
      obtain ⟨b1, b2⟩ := b
      exact ⟨(p.1, b2) :: rs, ⟨kV_is h.1, rfl, c⟩, .cons ⟨rfl, h.2⟩ q⟩
/-- {k: v, ..} with keys ints and texts; the new dict stands empty while the pairs are made -/
def tDisp (trs : List (TE × TE)) : TE := fun σ H Q => ∀ p, H p = none → tPairs trs σ (upd H p (.dK [])) fun ps H2 => H2 p = some (.dK []) ∧ ∃ kvs : List (Key × V), ps = kvs.map (fun kv => (kV kv.1, kv.2)) ∧ kvs.length ≤ 15 ∧ Q (.ref p) (upd H2 p (.dK (mergeK [] kvs)))
theorem pe_disp {X : Cx} {pos : Pos} {keys : List (Option Expr)} {values : List Expr} {trs : List (TE × TE)} (h : PPs X pos keys values trs) (hall : keys.all (·.isSome) = true) (hl : keys.length = values.length) (h0 : keys ≠ [])
    (h15 : keys.length ≤ 15) : PE X (.Dict keys values pos) (tDisp trs) := by
  intro pins s σ H Q I q
  have hn := I.hok.fresh (Nat.le_refl s.heap.objs.size)
  have I1 := I.laid (a := s.heap.objs.size) (o := .dK []) (h' := s.heap.push { cls := .type "dict", data := .dict #[] }) (t' := s.toks) (fun _ _ q => Heap.get?_push_of_some _ q) (Nat.le_refl _) (dk_empty s.heap I.big)
  refine wpAny_Dict_walk (knd := mixKind X.prog X.w) hall hl h0 h15 (thn (h pins _ σ _ _ I1 (q _ hn)) fun ws s2 ⟨ps, H2, I2, rel, e, kvs, ep, lk, q2⟩ => ?_)
  subst ep
  obtain ⟨rs, c, rk⟩ := carries_of (P := X.prog) (w := X.w) rel
  obtain ⟨z, hd, vs0, r0, dd⟩ := dk_of I2.hok e
  cases r0
  refine ⟨rs, c, dd, fun h' dd' hs => ⟨.ref s.heap.objs.size, _, ?_, rfl, q2⟩⟩
  have hz : (mergeK [] kvs).length ≤ sizeLine := by
    have h1 := length_mergeK kvs []
    rw [List.length_nil] at h1
    rw [sizeLine_eq]; omega
  have he : ∃ q, h'.get? s.heap.objs.size = some q := let ⟨q, _, _, hq, _⟩ := dd'; ⟨q, hq⟩
  exact d_write I2 (by rw [e]; exact True.intro) hs he (dk_new hz hd (rk.merge .nil) dd')

/-! ### methods -/
section
variable {X : Cx} {pins : List (Addr × Obj)} {σ : St} {H : Hp} {s : Shared} {a : Addr} {y d : V} {u r : Value} {o : Option V} {A : Around} {E : Value → Shared → Prop}
end

section
variable {X : Cx} {o e f : Expr} {apos cpos : Pos} {td ty tx : TE}
end

/-! ### dict(d): a copy -/
section
variable {X : Cx} {pins : List (Addr × Obj)} {σ : St} {H : Hp} {s : Shared} {a : Addr} {kvs : List (Key × V)} {A : Around} {E : Value → Shared → Prop}
theorem d_copyOf {Q : Value → Shared → Prop} (I : Inv X pins σ H s) (e : Rd H a (.dK kvs)) (h : ∀ p s', H p = none → Inv X pins σ (upd H p (.dK kvs)) s' → Q (.ref p) s') : wpAny (model X.prog X.w) A (call (.type "dict") [.ref a]) Q E s := by
  obtain ⟨z, hd, vs, rel, dd⟩ := dk_rd I.hok e
  refine kt_call_dict hd dd (by rw [← rel.length]; exact z) fun h' dd' hs => ?_
  refine h _ _ (I.hok.fresh (Nat.le_refl _)) (I.laid (a := s.heap.objs.size) (o := .dK kvs) (t' := s.toks) (fun b q hq => ?_) (Nat.le_refl _) (dk_new z (beq_eq_false_iff_ne.mpr (Ne.symm (Nat.ne_of_lt I.big))) rel dd'))
  exact (hs.2 b (Nat.ne_of_lt (Heap.lt_size hq))).trans (Heap.get?_push_of_some _ hq)
end

section
variable {X : Cx} {pins : List (Addr × Obj)} {σ : St} {H : Hp} {s : Shared} {a : Addr} {y : V} {u : Value} {A : Around} {E : Value → Shared → Prop}
end
end L2

namespace Att
open PySem PySem.W PySem.Calls PyProof.Rows

/-! ### the script -/
theorem ints_of_wellAll {P : Params} {h : Heap} : ∀ (ns : List Int) (vs : List Value), WellAll P h vs (ns.map WData.int) → IntsAre vs ns := by
  intro ns
  induction ns with
  | nil =>
    intro vs w
    rw [List.map_nil] at w
    cases w
    exact .nil
  | cons n ns ih =>
    intro vs w
    rw [List.map_cons] at w
    cases w with
    | cons a b =>
      cases a
      exact .cons _ _ (ih _ b)

theorem script_of {l : OpenLaw} {n : Nat} (hn : l.most = some n) {P : Params} {h : Heap} {args : List WData} {vals : List Value}
    (hpre : l.row.toRowW.claim.pre args = true) (hwl : WellAll P h vals args) :
    ∃ a vs ns, vals = [Value.ref a] ∧ args = [WData.list (ns.map WData.int)] ∧ h.get? a = some { cls := .type "list", data := .seq vs.toArray } ∧ IntsAre vs ns ∧ ns.length ≤ n := by
  have hsh : WShape.hasAll [] args [.list .int] = true := (pre_splitW hpre).1
  have hc : l.pre.holds [] { args := args } = true := (pre_splitW hpre).2
  obtain ⟨d, r, rfl, h1, h2⟩ := hasAllW_cons hsh
  obtain rfl := hasAllW_nil h2
  obtain ⟨xs, rfl, h3⟩ := hasW_list h1
  obtain ⟨ns, rfl⟩ := items_int h3
  have hlen : ns.length ≤ n := by
    unfold OpenLaw.pre at hc
    have h4 : (WTm.not (.lt (.lit (.int (n : Int))) (.len (.arg 0)))).holds [] { args := [.list (ns.map .int)] } = true := by
      have h4 := (holds_andW hc).1
      rw [hn] at h4
      exact h4
    have h5 := condW_of h4 (w_not (w_lt w_lit (w_len_list (w_arg rfl))))
    rw [List.length_map] at h5
    refine Nat.le_of_not_lt fun q => ?_
    have q' : (n : Int) < ((ns.length : Nat) : Int) := by omega
    first
      | (rw [decide_eq_true q'] at h5; exact absurd h5 (by decide))
      | (simp at h5; omega)
  cases hwl with
  | cons w1 w2 =>
    cases w2
    cases w1 with
    | list ho hall => exact ⟨_, _, ns, rfl, rfl, ho, ints_of_wellAll ns _ hall, hlen⟩

theorem post_true (l : OpenLaw) (args : List WData) : l.row.toRowW.claim.post args (.bool true) args = true :=
  postW_of (r := l.row.toRowW) (X := (true == true))
    (show WShape.has [] (.bool true) .bool = true by first | rfl | decide | simp [WShape.has, WShape.arms, WShape.armsAll])
    (show (WTm.eq .res (.lit (.bool true))).value [] { args := args, res := some (.bool true), after := args } = some (.bool (true == true)) from w_eq_bool (w_res rfl) w_lit) rfl

/-! ### the attachment: holds_open's last premise (the goal 'hc' behind k_head) from a wpAny of the law's body -/
/-- the same from a codeAny of the CALL (for a layer whose function contracts speak of calls) -/
theorem attach_call {l : OpenLaw} {n : Nat} {q : Program} {loose : List Str} {XP : (Str → Option Value) → Heap → Prop} {YP : World → Heap → Prop} {d : DefRec}
    (hn : l.most = some n) (hdf : d.params.defaults = [])
    (call : ∀ (w : World) (s₀ s₁ : Shared) (mg mb : Str → Option Value) (fa : Addr) (o : Obj) (pm cd doc : Value) (a : Addr) (vs : List Value) (ns : List Int),
      Ground q loose [] XP w s₀ mg mb s₁.heap → YP w s₁.heap →
      s₁.heap.get? fa = some o → o.data = .func (docDef d.name d.params d.body d.scope pm cd doc) → s₁.heap.CodeRec cd d.name → mg d.name = some (.ref fa) →
      s₁.heap.get? a = some { cls := .type "list", data := .seq vs.toArray } → IntsAre vs ns → ns.length ≤ n → s₁.gens = #[] →
      codeAny (model l.prog w) callerA (.call (.ref fa) ⟨[.ref a], []⟩) (fun r s' => r = .ok (.ret (.bool true)) ∧ OldK s₁.heap s'.heap ∧ s'.os = s₁.os ∧ AllBare s'.gens) s₁) :
    WalkO q loose XP YP l.row.toRowW d [] (fun f vs => PySem.call f vs) := by
  intro w s₀ s₁ mg mb G Y fa o pm cd doc dV kV ho hd hcd hD hmg hg args vals as hpre hlay hrd hwl hlo
  obtain rfl : dV = .none := Dflts.none hD hdf
  obtain rfl : kV = .none := Dflts.noKw hD
  obtain ⟨a, vs, ns, rfl, rfl, hobj, hints, hlen⟩ := script_of hn hpre hwl
  refine enter_call (codeAny_mono (call w s₀ s₁ mg mb fa o pm cd doc a vs ns G Y ho (fd_plain hd) hcd hmg hobj hints hlen hg) fun r s' hq => ?_)
  obtain ⟨rfl, h2, h3, h4⟩ := hq
  exact ⟨.inl ⟨.bool true, .bool true, [], rfl, fun _ => rfl, .bool true, post_true l _, fun _ => ⟨List.Pairwise.nil, fun _ hm => (nomatch hm)⟩⟩, h2, h3, h4⟩

/-! ### rules over ANY heap (no ledger) from facts about the written part K: the library's own take a ledger (News) for what they write -/
section
variable {prog : Program} {w : World} {A : Around} {E : Value → Shared → Prop} {s : Shared} {K : Frag}

/-! the whole heap as the ledger: makes every rule that writes through a ledger a rule over any heap -/
end
end Att

namespace L2
open PySem PySem.Spec PyProof.Rows

theorem vals_ints : ∀ {vs : List Value} {ns : List Int}, IntsAre vs ns → Vals (ns.map V.int) vs
  | _, _, .nil => .nil
  | _, _, .cons n t h => .cons ⟨t, rfl⟩ (vals_ints h)

/-- nothing is tracked but the script, known to the object (or it is an object of the module) -/
def Only (H : Hp) : Prop := ∀ b, H b = none ∨ ∃ o xs, H b = some (.frz o (.lst xs))

/-- THE HEAD: the law's promise, at the heap behind the top. F, the promise of the law's def, may use that base is part of the heap (so K.In base, base.Ns mainGlobals mg stand in Mod) -/
theorem law_call {P : Program} {w : World} {K : PySem.W.Frag} {mg mb : Str → Option Value} {CX : CXT} {k : Nat} {fa a : Addr} {fd : FuncData} {x : Str} {sp : Sp} {s₁ : Shared} {vs : List Value} {ns : List Int}
    (KX : K.In s₁.heap) (hns : s₁.heap.Ns mainGlobals mg) (hb : s₁.heap.Ns builtinsNs mb) (hbb : ∀ x : Str, x ≠ "__name__" → mb x = bootBuiltins x) (hlim : s₁.heap.NoLimit) (hg : s₁.gens = #[])
    (ha : s₁.heap.get? a = some { cls := .type "list", data := .seq vs.toArray }) (hi : IntsAre vs ns) (hl : ns.length ≤ sizeLine) (hr : Room k callerA)
    (F : ∀ base : Heap, K.In base → base.Ns mainGlobals mg → FnOk P w K mg base CX k fa fd [x] sp) (hbind : ∀ (s : Shared) (u : Value), BindsTo s fd ⟨[u], []⟩ [(x, u)])
    (hsp : ∀ H : Hp, Only H → SqL K H a (ns.map V.int) → sp [.ref a] H (fun v _ => v = .bl true) fun _ _ _ => False)
    (hCX : ∀ H e s', CX [] H s₁ (fun _ _ _ => False) e s' → False) :
    codeAny (model P w) callerA (.call (.ref fa) ⟨[.ref a], []⟩) (fun r s' => r = .ok (.ret (.bool true)) ∧ OldK s₁.heap s'.heap ∧ s'.os = s₁.os ∧ AllBare s'.gens) s₁ := by
  have rv := vals_ints hi
  have lenV := hi.length
  -- from an abstract heap in which nothing but the script may be tracked
  have core : ∀ H : Hp, Only H → SqL K H a (ns.map V.int) → HOk P w H s₁.heap → (∀ b, H b ≠ none → b = a) → (H a ≠ none → K.lookup a = none) →
      codeAny (model P w) callerA (.call (.ref fa) ⟨[.ref a], []⟩) (fun r s' => r = .ok (.ret (.bool true)) ∧ OldK s₁.heap s'.heap ∧ s'.os = s₁.os ∧ AllBare s'.gens) s₁ := by
    intro H hO hS hok hA hK
    have base_of : ∀ {b : Addr} {o : Obj}, s₁.heap.get? b = some o → H b = none → (hidT s₁.heap H).get? b = some o := fun e n => hidT_get e n
    have noA : ∀ {b : Addr} {o : Obj} {es : Array DictEntry} {ep : Nat}, s₁.heap.get? b = some o → o.data = .dict es ep → H b = none := fun {b o es ep} e d => by
      cases q : H b with
      | none => rfl
      | some u =>
        have e' : b = a := hA b (by rw [q]; simp)
        subst e'
        rw [ha] at e; cases e
        have d' : Data.seq vs.toArray _ = Data.dict es ep := d
        cases d'
    have nsK : ∀ {b : Addr} {m : Str → Option Value}, s₁.heap.Ns b m → (hidT s₁.heap H).Ns b m := fun {b m} ⟨o, es, ep, e, d, r⟩ => ⟨o, es, ep, base_of e (noA e d), d, r⟩
    have hKb : K.In (hidT s₁.heap H) := fun b o e => base_of (KX b o e) (by
      cases q : H b with
      | none => rfl
      | some u =>
        have e' : b = a := hA b (by rw [q]; simp)
        subst e'
        rw [hK (by rw [q]; simp)] at e; cases e)
    have hM : Mod K mg (hidT s₁.heap H) := ⟨hKb, nsK hns, ⟨mb, nsK hb, hbb⟩, let ⟨mc, h1, h2⟩ := hlim; ⟨mc, nsK h1, h2⟩⟩
    have e0 : Env0 P w K mg (hidT s₁.heap H) callerA [] s₁ H := ⟨rfl, hM, fun b o e => of_hidT e, Nat.le_of_eq (hidT_size _ _), trivial, fun b hb => absurd (show b ∈ ([] : List Addr) from hb) (by simp), hok, .of_eq hg⟩
    refine codeAny_mono ((F _ hKb (nsK hns)).run callerA [] s₁ H ⟨[.ref a], []⟩ [.ref a] [.ref a] _ _ hr e0 (hbind s₁ (.ref a)) (.cons rfl .nil) (hsp H hO hS)) fun r s' h => ?_
    cases r with
    | error e => exact (hCX H e s' h).elim
    | ok fl =>
      cases fl with
      | next => exact False.elim h
      | brk => exact False.elim h
      | cont => exact False.elim h
      | ret u =>
        obtain ⟨v, H', os, bare, un, hok', r', q⟩ := h
        have q' : v = .bl true := q
        subst q'
        obtain rfl : u = Value.bool true := r'
        refine ⟨rfl, OldK.of_keep fun b o e => ?_, os, bare⟩
        cases q : H b with
        | none => exact un.keep b o e q (by intro z; exact absurd (show b ∈ ([] : List Addr) from z) (by simp)) (by simp)
        | some u =>
          rcases hO b with z | ⟨ob, xs, z⟩
          · rw [q] at z; cases z
          · have z2 := un.frzs b ob _ z
            obtain ⟨e1, _⟩ := hok b _ z
            obtain ⟨e2, _⟩ := hok' b _ z2
            rw [e] at e1; cases e1
            exact e2
  cases hk : K.lookup a with
  | some o =>
    -- the script is one of the module's own objects
    have e := KX a o hk
    rw [ha] at e
    cases e
    refine core (fun _ => none) (fun _ => .inl rfl) (.inr ⟨_, vs.toArray, _, hk, rfl, rfl, rfl, by rw [List.size_toArray, lenV]; exact hl, by simpa using rv⟩) (fun b u z => by have z' : (none : Option HO) = some u := z; cases z') (fun b z => absurd rfl z) fun z => absurd rfl z
  | none =>
    refine core (fun b => if b = a then some (.frz { cls := .type "list", data := .seq vs.toArray } (.lst (ns.map V.int))) else none) (fun b => ?_) (.inl (.inr ⟨{ cls := .type "list", data := .seq vs.toArray }, if_pos rfl⟩)) (fun b u z => ?_) (fun b z => ?_) fun _ => hk
    · by_cases hb : b = a
      · exact .inr ⟨_, _, if_pos hb⟩
      · exact .inl (if_neg hb)
    · by_cases hb : b = a
      · have z' := (if_pos hb).symm.trans z
        cases z'
        subst hb
        exact ⟨ha, by rw [List.length_map]; exact hl, vs, _, rv, ha⟩
      · have z' := (if_neg hb).symm.trans z
        cases z'
    · by_cases hb : b = a
      · exact hb
      · exact absurd (if_neg hb) z
end L2

namespace L2
open PySem PySem.Spec PyProof.Rows

/-- the goal that k_head leaves (case hc), from the law's promise. F gives the function object fd (K's own) once, then the promise over every base -/
theorem walk_of {l : PySem.W.OpenLaw} {n k : Nat} {q : Program} {loose : List Str} {XP : (Str → Option Value) → Heap → Prop} {YP : World → Heap → Prop} {d : DefRec} {K : Params → PySem.W.Frag} {CX : World → CXT} {sp : World → Sp} {x : Str}
    (hn : l.most = some n) (hn2 : n ≤ sizeLine) (hdf : d.params.defaults = []) (hr : Room k callerA)
    (hY : ∀ (w : World) (h : Heap), YP w h → (K w.params).In h)
    (F : ∀ (w : World) (mg : Str → Option Value) (fa : Addr) (h : Heap), (K w.params).In h → h.Ns mainGlobals mg → mg d.name = some (.ref fa) →
      ∃ fd : FuncData, (∀ (s : Shared) (u : Value), BindsTo s fd ⟨[u], []⟩ [(x, u)]) ∧
        ∀ base : Heap, (K w.params).In base → base.Ns mainGlobals mg → FnOk l.prog w (K w.params) mg base (CX w) k fa fd [x] (sp w))
    (hsp : ∀ (w : World) (H : Hp) (a : Addr) (ns : List Int), ns.length ≤ n → Only H → SqL (K w.params) H a (ns.map V.int) → sp w [.ref a] H (fun v _ => v = .bl true) fun _ _ _ => False)
    (hCX : ∀ (w : World) (H : Hp) (s : Shared) (e : Value) (s' : Shared), CX w [] H s (fun _ _ _ => False) e s' → False) :
    PySem.W.WalkO q loose XP YP l.row.toRowW d [] (fun f vs => PySem.call f vs) := by
  refine Att.attach_call hn hdf fun w s₀ s₁ mg mb fa o pm cd doc a vs ns G Y ho hd hcd hmg hobj hints hlen hg => ?_
  have KX := hY w _ Y
  obtain ⟨fd, hb, hF⟩ := F w mg fa _ KX G.T.g hmg
  exact law_call KX G.T.g G.T.b G.T.builtins G.T.nolimit hg hobj hints (Nat.le_trans hlen hn2) hr hF hb (fun H hO hS => hsp w H a ns hlen hO hS) fun H e s' => hCX w H s₁ e s'
end L2

/- THE LAST THEOREM (shape; LID, My.* are yours):
   My.Adr: a structure of the addresses that your layer names (classes, functions); My.Txt K t: a structure (Prop) of the equations over K;
   My.txt_mk : {K} {implicit addresses ..} (e1 : nsIn K mainGlobals "law" = some (some (.ref f))) (e2 : K.lookup f = some ⟨oc, od, .func (fnOf "law" "law" params body scope dV kV doc pm an cdv ct), sl⟩) (e3 : codeIn K cdv "law" = true) .. : ∃ t, My.Txt K t

set_option maxRecDepth 100000 in
set_option maxHeartbeats 0 in
theorem PySem.Challenge.cw_LID_holds : PySem.Challenge.rw_LID.Holds := by
  w_on; o_law; k_head; (case hw => w_witness2)
  k_fill
  refine L2.walk_of (l := PySem.Challenge.rw_LID) (n := 63) (k := 40) (x := "script") (CX := fun w => ..) (sp := fun _ => My.sp_law) rfl (by decide) rfl ⟨rfl, by decide, by decide⟩ (fun w h Y => PySem.W.kIn_of Y) ?F ?S ?C
  case F =>
    intro w mg fa h KX G hmg
    have T : ∃ t, My.Txt (L2.KOf KX) t := by
      dsimp only [L2.KOf]                          -- K must stand as «<heap const> w.params» for k_is
      refine' My.txt_mk ?e1 ?e2 ?e3 ..
      (case e1 => PySem.W.k_is)                    -- in the order: a name -> its address -> its object -> its parts
      (case e2 => PySem.W.k_is)
      ..
    obtain ⟨t, T⟩ := T
    have e0 := hmg.symm.trans (PySem.W.mg_of KX G T.law)
    cases e0                                       -- fa is the law's own address
    exact ⟨_, fun s u => .of_eq rfl, fun base kb nb => My.law_fn T kb nb⟩     -- if «.of_eq rfl» comes too early: refine' ⟨_, ?b, fun base kb nb => My.law_fn T kb nb⟩; exact fun s u => .of_eq rfl
  case S => exact fun w H a ns hl hO hS => ..
  case C => exact ..
(the tactic k_is has no namespace: write k_is) -/

/-! SHORT WORDS over the layer: a def of the text, its body, what a loop and a test want. -/
namespace L2
open PySem PySem.Spec PyProof.Rows

/-! ### the text by places -/
/-- the j-th statement of a class's body -/
def inClass (s : Stmt) (j : Nat) : Stmt := match s with
  | .ClassDef _ _ _ body _ _ _ _ _ _ _ => body.getD j (.Pass ⟨0, 0, 0, 0⟩)
  | _ => .Pass ⟨0, 0, 0, 0⟩
def defArgs (s : Stmt) : Arguments := match s with
  | .FunctionDef _ a _ _ _ _ _ _ _ _ => a
  | _ => { posonlyargs := [], args := [], vararg := none, kwonlyargs := [], kw_defaults := [], kwarg := none, defaults := [] }
def defBody (s : Stmt) : List Stmt := match s with
  | .FunctionDef _ _ b _ _ _ _ _ _ _ => b
  | _ => []
def defScope (s : Stmt) : Scope := match s with
  | .FunctionDef _ _ _ _ _ _ sc _ _ _ => sc
  | _ => { kind := .function, names := [], isGenerator := false, isCoroutine := false }

/-! ### no exception leaves a def -/
abbrev CX0 : CXT := fun _ _ _ _ _ _ => False
abbrev E0 : XK := fun _ _ _ => False
theorem pass0 {X : Cx} : Passes CX0 X E0 := fun _ _ _ _ _ _ _ h => h.elim

/-! ### a def (or method) of the text as it stands behind the top -/
structure Fun (K : PySem.W.Frag) (x qual : Str) (st : Stmt) (f : Addr) (fd : FuncData) : Prop where
  ex : ∃ (oc : Value) (od : Option Addr) (kV doc pm : Value) (an : Option Addr) (cdv ct : Value) (osl : Array (Option Value)),
    fd = PySem.W.fnOf x qual (defArgs st) (defBody st) (defScope st) .none kV doc pm an cdv ct ∧ K.lookup f = some ⟨oc, od, .func fd, osl⟩ ∧ PySem.W.codeIn K cdv qual = true
  kp : PySem.W.keepIn K (.ref f) = true
section
variable {P : Program} {w : World} {K : PySem.W.Frag} {mg : Str → Option Value} {base : Heap}
/-- THE RULE for a def: its body as a term of rules, and the reading of that term -/
theorem Fun.ok {x qual : Str} {st : Stmt} {f : Addr} {fd : FuncData} {N ps : List Str} {k : Nat} {sp : Sp} (F : Fun K x qual st f fd) (S : FnScope N ps (defScope st)) (len : ∀ vs H Q E, sp vs H Q E → vs.length = ps.length)
    (hbody : ∀ (cdv : Value) (A : Around) (outer : List Env) (s : Shared) (H : Hp) (vs : List V) (Q : VK) (E : XK), Room k (A.deeper (envOfC qual (defScope st) s.heap.objs.size f cdv)) → sp vs H Q E →
      ∃ t, PSs (cxOf CX0 P w K mg base N qual (defScope st) f cdv A outer s H E).nox (defBody st) t ∧ t { nx := fun _ H' => Q .non H', rt := Q } (start N vs) H) : FnOk P w K mg base CX0 (k + 1) f fd ps sp := by
  obtain ⟨oc, od, kV, doc, pm, an, cdv, ct, osl, rfl, lk, hcd⟩ := F.ex
  refine fn_of lk hcd S len fun A outer s H vs Q E hr hsp => ?_
  obtain ⟨t, h, q⟩ := hbody cdv A outer s H vs Q E hr hsp
  exact ⟨t, h.nox, q⟩
/-- how its arguments bind (no defaults): h is «fun _ _ _ _ _ _ us hl => by obtain ⟨v0, v1, rfl⟩ := L2.ln2 hl; rfl», one _ a parameter -/
theorem Fun.binds {x qual : Str} {st : Stmt} {f : Addr} {fd : FuncData} {ps : List Str} (F : Fun K x qual st f fd)
    (h : ∀ (kV doc pm : Value) (an : Option Addr) (cdv ct : Value) (us : List Value), us.length = ps.length → bindArgs (PySem.W.fnOf x qual (defArgs st) (defBody st) (defScope st) .none kV doc pm an cdv ct) ⟨us, []⟩ = pure (ps.zip us)) : Binds K fd ps [] := by
  obtain ⟨oc, od, kV, doc, pm, an, cdv, ct, osl, rfl, lk, hcd⟩ := F.ex
  exact .all (h kV doc pm an cdv ct)
theorem fun_mk {x qual : Str} {st : Stmt} {f : Addr} {oc : Value} {od an : Option Addr} {osl : Array (Option Value)} {kV doc pm cdv ct : Value} (l : K.lookup f = some ⟨oc, od, .func (PySem.W.fnOf x qual (defArgs st) (defBody st) (defScope st) .none kV doc pm an cdv ct), osl⟩)
    (c : PySem.W.codeIn K cdv qual = true) (k : PySem.W.keepIn K (.ref f) = true) : Fun K x qual st f (PySem.W.fnOf x qual (defArgs st) (defBody st) (defScope st) .none kV doc pm an cdv ct) := ⟨⟨oc, od, kV, doc, pm, an, cdv, ct, osl, rfl, l, c⟩, k⟩
end
theorem hu_of {A : Around} {k : Nat} (hr : Room k A) : A.units + 1 < cLine := Nat.lt_of_le_of_lt (Nat.add_le_add_left (by decide : 1 ≤ 64) _) hr.units
/-! ### expressions in short: the name that stands in the i-th slot -/
section
variable {X : Cx}
theorem pv (i : Nat) {x : Str} {pos : Pos} (hN : X.N[i]? = some x := by rfl) (hv : Vis X.env.scope x := by first | exact Or.inl rfl | exact Or.inr (Or.inl rfl) | exact Or.inr (Or.inr rfl)) (hd : (x == ("__debug__" : Str)) = false := by decide)
    (hcd : (x == ("__classdict__" : Str)) = false := by decide) : PE X (.Name x pos) (tVar i) := pe_var hN hv hd hcd
end

/-! ### tests -/
theorem iteF {A B : Prop} (h : B) : if false = true then A else B := by
  rw [if_neg Bool.false_ne_true]
  exact h
theorem iteT {A B : Prop} (h : A) : if true = true then A else B := by
  rw [if_pos rfl]
  exact h
theorem ite2 {c A B : Prop} [Decidable c] (h1 : c → A) (h2 : ¬ c → B) : if c then A else B := by
  by_cases h : c
  · rw [if_pos h]
    exact h1 h
  · rw [if_neg h]
    exact h2 h
theorem iteNS {c A B : Prop} [Decidable c] (hc : c) (h : B) : if (!decide c) = true then A else B := by
  rw [decide_eq_true hc]
  exact iteF h

/-! ### heaps -/
/-- all that was tracked is as it was -/
def Same (H H' : Hp) : Prop := ∀ b o, H b = some o → H' b = some o
theorem Same.refl (H : Hp) : Same H H := fun _ _ h => h
theorem Same.trans {H H1 H2 : Hp} (a : Same H H1) (b : Same H1 H2) : Same H H2 := fun c o h => b c o (a c o h)
theorem Same.seq {K : PySem.W.Frag} {H H' : Hp} {a : Addr} {xs : List V} (e : Same H H') (h : SqL K H a xs) : SqL K H' a xs := by
  rcases h with (h | ⟨o, h⟩) | h
  · exact .inl (.inl (e _ _ h))
  · exact .inl (.inr ⟨o, e _ _ h⟩)
  · exact .inr h

section
variable {X : Cx}
end
/-! ### a dict's pairs: keys that differ -/
section
variable {κ : Type} [DecidableEq κ]
end
end L2

/-! MORE OF THE HAND LAYER (own work): comprehensions, texts walked and sliced, all, any, isinstance. -/
namespace L2
open PySem PySem.Spec PyProof.Rows

/-! ### the cells that a comprehension's block takes over -/
def closF (env : Env) (cs : List (Str × Addr)) (y : Str × NameKind) : List (Str × Addr) :=
  if (y.2 == NameKind.free) = true then (y.1, (env.cells.lookup y.1).getD 0) :: cs else cs
def closL (env : Env) (names : List (Str × NameKind)) : List (Str × Addr) := names.foldl (closF env) []
theorem clos_from {env : Env} : ∀ (names : List (Str × NameKind)) (cs : List (Str × Addr)), (∀ y ∈ names, y.2 = .free → ∃ c, env.cells.lookup y.1 = some c) →
    (forIn names cs fun y r => (if (y.2 == NameKind.free) = true then do let a ← cellOf env y.1; pure (ForInStep.yield ((y.1, a) :: r)) else pure (ForInStep.yield r) : Sem (ForInStep (List (Str × Addr))))) = pure (names.foldl (closF env) cs)
  | [], cs, _ => rfl
  | y :: r, cs, h => by
    rw [List.forIn_cons, List.foldl_cons]
    by_cases hy : (y.2 == NameKind.free) = true
    · obtain ⟨c, hc⟩ := h y List.mem_cons_self (eq_of_beq hy)
      have e : cellOf env y.1 = pure c := by unfold cellOf; rw [hc]
      rw [if_pos hy, e, pure_bind, pure_bind]
      have e2 : closF env cs y = (y.1, c) :: cs := by unfold closF; rw [if_pos hy, hc]; rfl
      rw [e2]
      exact clos_from r _ fun z hz => h z (List.mem_cons_of_mem _ hz)
    · rw [if_neg hy, pure_bind]
      have e2 : closF env cs y = cs := by unfold closF; rw [if_neg hy]
      rw [e2]
      exact clos_from r _ fun z hz => h z (List.mem_cons_of_mem _ hz)
theorem clos_ok {env : Env} {scope : Scope} (h : ∀ y ∈ scope.names, y.2 = .free → ∃ c, env.cells.lookup y.1 = some c) : closureFor scope env = pure (closL env scope.names) := by
  have e := clos_from (env := env) scope.names [] h
  unfold closL
  rw [← e]
  simp only [closureFor, bind_pure_comp, map_pure, bind_pure]
theorem clos_sub {env : Env} : ∀ (names : List (Str × NameKind)) (cs : List (Str × Addr)), (∀ y ∈ names, y.2 = .free → ∃ c, env.cells.lookup y.1 = some c) → (∀ x c, cs.lookup x = some c → env.cells.lookup x = some c) →
    ∀ x c, (names.foldl (closF env) cs).lookup x = some c → env.cells.lookup x = some c
  | [], cs, _, hc, x, c, e => hc x c e
  | y :: r, cs, h, hc, x, c, e => by
    rw [List.foldl_cons] at e
    refine clos_sub r _ (fun z hz => h z (List.mem_cons_of_mem _ hz)) (fun z d q => ?_) x c e
    unfold closF at q
    by_cases hy : (y.2 == NameKind.free) = true
    · obtain ⟨c', hc'⟩ := h y List.mem_cons_self (eq_of_beq hy)
      rw [if_pos hy, List.lookup_cons, hc'] at q
      cases hz : z == y.1 with
      | true =>
        rw [hz] at q
        have q' : c' = d := Option.some.inj q
        rw [eq_of_beq hz, hc', q']
      | false =>
        rw [hz] at q
        exact hc z d q
    · rw [if_neg hy] at q
      exact hc z d q
theorem clos_has {env : Env} : ∀ (names : List (Str × NameKind)) (cs : List (Str × Addr)) (x : Str), ((x, NameKind.free) ∈ names ∨ ∃ c, cs.lookup x = some c) → ∃ c, (names.foldl (closF env) cs).lookup x = some c
  | [], cs, x, h => by
    rcases h with h | h
    · cases h
    · exact h
  | y :: r, cs, x, h => by
    rw [List.foldl_cons]
    refine clos_has r _ x ?_
    rcases h with h | ⟨c, h⟩
    · rcases List.mem_cons.mp h with e | e
      · subst e
        refine .inr ⟨(env.cells.lookup x).getD 0, ?_⟩
        unfold closF
        rw [if_pos (show ((x, NameKind.free).2 == NameKind.free) = true from rfl), List.lookup_cons, beq_self_eq_true]
      · exact .inl e
    · refine .inr ?_
      unfold closF
      by_cases hy : (y.2 == NameKind.free) = true
      · rw [if_pos hy, List.lookup_cons]
        cases hz : x == y.1 with
        | true => exact ⟨_, rfl⟩
        | false => exact ⟨c, h⟩
      · rw [if_neg hy]
        exact ⟨c, h⟩

/-! ### a comprehension's block -/
/-- the context in which its element and its tests run -/
abbrev cxComp (X : Cx) (scope : Scope) (N : List Str) (s : Shared) (H : Hp) (fp : List Addr) : Cx where
  prog := X.prog
  w := X.w
  K := X.K
  mg := X.mg
  base := X.base
  A := X.A
  N := N
  s₀ := s
  H₀ := H
  env := compEnvC scope (closL X.env scope.names) s.heap.objs.size X.env
  outer := X.stack
  stack := X.stack
  ex := fp
  fn := fun _ => false
  calm := X.calm
  pn := []
  xe := fun _ _ => False

/-- what of the text of a comprehension must be seen: xs its own names, fr the places of the names that it reads from around -/
structure CompTx (osc scope : Scope) (N0 : List Str) (xs : List Str) (fr : List Nat) : Prop where
  kind : scope.kind = .function
  nocell : ∀ y ∈ scope.names, y.2 ≠ .cell
  names : ∀ y ∈ scope.names, y.2 = .local → scope.names.lookup y.1 = some .local
  free : ∀ y ∈ scope.names, y.2 = .free → osc.names.lookup y.1 = some .cell ∨ osc.names.lookup y.1 = some .free
  fro : ∀ j ∈ fr, ∃ x, N0[j]? = some x ∧ scope.names.lookup x = some .free
  nd : (xs ++ fr.map fun j => N0.getD j "").Nodup

def compN (N0 : List Str) (xs : List Str) (fr : List Nat) : List Str := xs ++ fr.map fun j => N0.getD j ""
def compSt (xs : List Str) (fr : List Nat) (σ : St) : St := xs.map (fun _ => none) ++ fr.map fun j => (σ[j]?).join

theorem mem_of_lookup' {κ : Type} : ∀ {l : List (Str × κ)} {x : Str} {k : κ}, l.lookup x = some k → (x, k) ∈ l
  | [], _, _, h => by cases h
  | (n, k') :: r, x, k, h => by
    rw [List.lookup_cons] at h
    cases hx : x == n with
    | true =>
      rw [hx] at h
      have h' : k' = k := Option.some.inj h
      rw [eq_of_beq hx, h']
      exact List.mem_cons_self
    | false =>
      rw [hx] at h
      exact List.mem_cons_of_mem _ (mem_of_lookup' h)
/-- what a name of the block is -/
theorem relabel_look {env : Env} : ∀ {names : List (Str × NameKind)} {x : Str} {k : NameKind},
    (names.map fun (n, k) => if (k == NameKind.free && env.scope.kind == .function && env.kindOf n == some .cell) then (n, NameKind.cell) else (n, k)).lookup x = some k →
    names.lookup x = some k ∨ (k = .cell ∧ names.lookup x = some .free)
  | [], _, _, h => by cases h
  | (n, k') :: r, x, k, h => by
    have ih := @relabel_look env r x k
    rw [List.map_cons] at h
    rw [List.lookup_cons]
    by_cases hc : (k' == NameKind.free && env.scope.kind == .function && env.kindOf n == some .cell) = true
    · have h' : List.lookup x ((n, NameKind.cell) :: (r.map fun (n, k) => if (k == NameKind.free && env.scope.kind == .function && env.kindOf n == some .cell) then (n, NameKind.cell) else (n, k))) = some k := by
        rw [← h]; simp only [hc, if_true]
      rw [List.lookup_cons] at h'
      cases hx : x == n with
      | true =>
        rw [hx] at h'
        have h2 : NameKind.cell = k := Option.some.inj h'
        rw [Bool.and_eq_true, Bool.and_eq_true] at hc
        exact .inr ⟨h2.symm, congrArg some (eq_of_beq hc.1.1)⟩
      | false =>
        rw [hx] at h'
        exact ih h'
    · have h' : List.lookup x ((n, k') :: (r.map fun (n, k) => if (k == NameKind.free && env.scope.kind == .function && env.kindOf n == some .cell) then (n, NameKind.cell) else (n, k))) = some k := by
        rw [← h]; simp only [hc]; rfl
      rw [List.lookup_cons] at h'
      cases hx : x == n with
      | true =>
        rw [hx] at h'
        exact .inl h'
      | false =>
        rw [hx] at h'
        exact ih h'
theorem relabel_free {env : Env} : ∀ {names : List (Str × NameKind)} {x : Str}, names.lookup x = some .free →
    (names.map fun (n, k) => if (k == NameKind.free && env.scope.kind == .function && env.kindOf n == some .cell) then (n, NameKind.cell) else (n, k)).lookup x = some .cell ∨
    (names.map fun (n, k) => if (k == NameKind.free && env.scope.kind == .function && env.kindOf n == some .cell) then (n, NameKind.cell) else (n, k)).lookup x = some .free
  | [], _, h => by cases h
  | (n, k') :: r, x, h => by
    have ih := @relabel_free env r x
    rw [List.lookup_cons] at h
    rw [List.map_cons]
    by_cases hc : (k' == NameKind.free && env.scope.kind == .function && env.kindOf n == some .cell) = true
    · have e : (match (n, k') with | (n, k) => if (k == NameKind.free && env.scope.kind == .function && env.kindOf n == some .cell) then (n, NameKind.cell) else (n, k)) = (n, NameKind.cell) := by
        simp only [hc, if_true]
      rw [e, List.lookup_cons]
      cases hx : x == n with
      | true => exact .inl rfl
      | false => rw [hx] at h; exact ih h
    · have e : (match (n, k') with | (n, k) => if (k == NameKind.free && env.scope.kind == .function && env.kindOf n == some .cell) then (n, NameKind.cell) else (n, k)) = (n, k') := by
        simp only [hc]; rfl
      rw [e, List.lookup_cons]
      cases hx : x == n with
      | true =>
        rw [hx] at h
        exact .inr h
      | false => rw [hx] at h; exact ih h

section
variable {X : Cx}
theorem comp_free {osc scope : Scope} {N0 xs : List Str} {fr : List Nat} {pins : List (Addr × Obj)} {σ : St} {H : Hp} {s : Shared} (C : CompTx osc scope N0 xs fr) (ho : X.env.scope = osc) (I : Inv X pins σ H s) :
    ∀ y ∈ scope.names, y.2 = .free → ∃ c, X.env.cells.lookup y.1 = some c := fun y hy e => by
  refine I.ok.has y.1 ?_
  rw [← ho] at C
  exact C.free y hy e

/-- the block's entry -/
theorem comp_start {osc scope : Scope} {N0 xs : List Str} {fr : List Nat} {pins : List (Addr × Obj)} {σ : St} {H : Hp} {s : Shared} {fp : List Addr} {h₁ : Heap} {tk : Nat} (C : CompTx osc scope N0 xs fr) (ho : X.env.scope = osc) (hN0 : X.N = N0) (I : Inv X pins σ H s)
    (hf : ∀ b ∈ fp, FpOk X pins H b) (hlt : ∀ b ∈ fp, b < s.heap.objs.size) (hn : h₁.Ns s.heap.objs.size fun _ => none) (hk : ∀ b o, s.heap.get? b = some o → h₁.get? b = some o) :
    Inv (cxComp X scope (compN N0 xs fr) s H fp) [] (compSt xs fr σ) H { s with heap := h₁, toks := tk } := by
  subst hN0
  have hfree := comp_free C ho I
  have sub := clos_sub (env := X.env) scope.names [] hfree (fun x c e => by cases e)
  have nC : ∀ x c, X.env.cells.lookup x = some c → c ≠ s.heap.objs.size := fun x c e z => by
    obtain ⟨v, q⟩ := I.cell x c e
    exact absurd q.lt (by rw [z]; exact Nat.lt_irrefl _)
  refine ⟨⟨I.ok.mod, C.kind, I.ok.glob, I.ok.blt, Nat.le_refl _, fun x y c h1 h2 => I.ok.inj x y c (sub x c h1) (sub y c h2), fun x hx => ?_, fun x c h _ => (Bool.false_ne_true h).elim, I.ok.hd, I.ok.frames, .inl rfl, fun b hb => ?_, I.bs, Nat.le_trans I.ok.bsz I.sz, fun b o e hb => ?_, fun b hb hz => ?_, I.stack, I.stkFree⟩,
    rfl, I.bare, Un.kept hk, ⟨_, hn, fun i x v h1 h2 h3 => ?_⟩, fun x c h => ?_, I.hok.fresh (Nat.le_refl _), fun x c h => I.freeC x c (sub x c h), fun p hp => absurd (show p ∈ ([] : List (Addr × Obj)) from hp) (by simp), I.hok.kept hk, ?_⟩
  · have hx' : (relabel scope X.env).names.lookup x = some .cell ∨ (relabel scope X.env).names.lookup x = some .free := hx
    refine clos_has (env := X.env) scope.names [] x (.inl ?_)
    rcases hx' with q | q
    · rcases relabel_look q with z | ⟨_, z⟩
      · exact absurd rfl (C.nocell _ (mem_of_lookup' z))
      · exact mem_of_lookup' z
    · rcases relabel_look q with z | ⟨z, _⟩
      · exact mem_of_lookup' z
      · cases z
  · exact ⟨Nat.ne_of_lt (hlt b hb), fun x c h => (hf b hb).2.2.2.2.1 x c (sub x c h)⟩
  · rcases (hf b hb).2.2.2.1 with z | z
    · exact I.ok.noex b o e z
    · exact absurd (Nat.lt_of_lt_of_le (Heap.lt_size e) (Nat.le_trans I.ok.bsz z)) (Nat.lt_irrefl _)
  · rcases List.mem_cons.mp (I.stkSub b hz) with z | z
    · exact (hf b hb).2.1 z
    · exact (hf b hb).2.2.1 z
  · -- a name that is set stands behind the block's own ones
    have hi : ¬ i < xs.length := fun hi => by
      unfold compSt at h2
      rw [List.getElem?_append_left (by rw [List.length_map]; exact hi), List.getElem?_map] at h2
      cases q : xs[i]? with
      | none => rw [q] at h2; cases h2
      | some y => rw [q] at h2; cases h2
    have hi' : xs.length ≤ i := Nat.le_of_not_lt hi
    have e2 : (fr.map fun j => (σ[j]?).join)[i - xs.length]? = some (some v) := by
      have := h2
      unfold compSt at this
      rw [List.getElem?_append_right (by rw [List.length_map]; exact hi'), List.length_map] at this
      exact this
    rw [List.getElem?_map] at e2
    cases q : fr[i - xs.length]? with
    | none => rw [q] at e2; cases e2
    | some j =>
      rw [q] at e2
      have e3 : (σ[j]?).join = some v := Option.some.inj e2
      have e4 : σ[j]? = some (some v) := by
        cases z : σ[j]? with
        | none => rw [z] at e3; cases e3
        | some u => rw [z] at e3; rw [show u = some v from e3]
      obtain ⟨y, hy, hyf⟩ := C.fro j (List.mem_of_getElem? q)
      have ex : x = y := by
        have h1' : (compN X.N xs fr)[i]? = some x := h1
        unfold compN at h1'
        rw [List.getElem?_append_right hi', List.getElem?_map, q] at h1'
        have h5 : X.N.getD j "" = x := Option.some.inj h1'
        rw [← h5, List.getD_eq_getElem?_getD, hy]
        rfl
      subst ex
      obtain ⟨m, _, hl⟩ := I.loc
      have kf := C.free _ (mem_of_lookup' hyf) rfl
      rw [← ho] at kf
      have vis : Vis X.env.scope x := by
        rcases kf with z | z
        · exact .inr (.inl z)
        · exact .inr (.inr z)
      obtain ⟨u, r, l⟩ := hl j x v hy e4 vis
      refine ⟨u, r, .inr ⟨relabel_free hyf, ?_⟩⟩
      rcases l with ⟨z, _⟩ | ⟨_, c, hc, hcell⟩
      · have z' : X.env.scope.names.lookup x = some .local := z
        rcases kf with w | w
        · rw [z'] at w; cases w
        · rw [z'] at w; cases w
      · obtain ⟨c', hc'⟩ := clos_has (env := X.env) scope.names [] x (.inl (mem_of_lookup' hyf))
        have e5 := sub x c' hc'
        rw [hc] at e5
        cases e5
        refine ⟨c, hc', ?_⟩
        obtain ⟨o, ho', hd⟩ := hcell
        exact ⟨o, hk _ _ ho', hd⟩
  · obtain ⟨v, o, ho', hd⟩ := I.cell x c (sub x c h)
    exact ⟨v, o, hk _ _ ho', hd⟩
  · show (compSt xs fr σ).length = (compN X.N xs fr).length
    unfold compSt compN
    simp
end
end L2

namespace L2
open PySem PySem.Spec PyProof.Rows

/-! ### the tests of a comprehension: none, or one -/
def PIf (X : Cx) (ifs : List Expr) (t : TT) : Prop :=
  ∀ (pins : List (Addr × Obj)) (s : Shared) (σ : St) (H : Hp) (Q : Bool → Hp → Prop), Inv X pins σ H s → t σ H Q →
    wpAny (model X.prog X.w) X.A (forIn ifs true fun c r => if r = true then do let ok ← isTrue c X.env (eval c X.env); pure (ForInStep.yield ok) else pure (ForInStep.yield r)) (TP X pins σ Q) X.xe s
def tYes : TT := fun _ H Q => Q true H
theorem pif_nil {X : Cx} : PIf X [] tYes := fun _ _ σ H Q I h => wpAny_tests_nil ⟨H, I, h⟩
theorem pif_one {X : Cx} {c : Expr} {t : TT} (h : PT X c t) : PIf X [c] t := fun pins s σ H Q I hw => wpAny_tests_one (h pins s σ H Q I hw)

/-- what is wanted of a comprehension's walk over J: W by the turn, a measure, the block's names, the heap; D the list; N behind an element that is kept, M behind one that is left out -/
def CompW (J : It) (g : TG) (tt : TT) (te : TE) (R : Addr → Hp → Prop) (D : Addr) (σ0 : St) (H0 : Hp) : Prop :=
  ∃ W : Nat → Nat → St → Hp → Prop, (∃ m, W 0 m σ0 H0) ∧ ∀ i m σ H, W i m σ H →
    (J.stop i H ∧ R D H) ∨
    (J.go i H ∧ ∃ (N : St → V → Hp → Prop) (M : St → Hp → Prop), (∀ σ2 y H4, N σ2 y H4 → ∃ ys, H4 D = some (.lst ys) ∧ ys.length < sizeLine ∧ ∃ m', m' < m ∧ W (i + 1) m' σ2 (upd H4 D (.lst (ys ++ [y])))) ∧
      (∀ σ2 H3, M σ2 H3 → ∃ m', m' < m ∧ W (i + 1) m' σ2 H3) ∧
      ∀ x H', J.yld i H x H' → g x σ H' fun σ2 H2 => tt σ2 H2 fun b H3 => if b = true then te σ2 H3 (N σ2) else M σ2 H3)
/-- [elt for tg in iter if ..] -/
def tComp (xs : List Str) (fr : List Nat) (wi : TI) (g : TG) (tt : TT) (te : TE) : TE := fun σ H Q => wi σ H fun J H1 => ∀ D, H1 D = none → CompW J g tt te (fun D H2 => Q (.ref D) H2) D (compSt xs fr σ) (upd H1 D (.lst []))
/-- x = [elt for tg in iter if ..], x in the i-th slot -/
def sComp (i : Nat) (xs : List Str) (fr : List Nat) (wi : TI) (g : TG) (tt : TT) (te : TE) : TS := fun E σ H => wi σ H fun J H1 => ∀ D, H1 D = none → CompW J g tt te (fun D H2 => E.nx (σ.set i (some (.ref D))) H2) D (compSt xs fr σ) (upd H1 D (.lst []))

section
variable {X : Cx}
theorem comp_block {osc scope : Scope} {N0 xs : List Str} {fr : List Nat} {pins : List (Addr × Obj)} {σ : St} {H2 : Hp} {s2 : Shared} {fp : List Addr} {it : Addr} {tn : Nat → Heap → Prop} {J : It} {elt tg iter : Expr} {ifs : List Expr} {pos : Pos}
    {g : TG} {tt : TT} {te : TE} {E : Value → Shared → Prop} {R : Addr → Hp → Prop} {RR : Value → Addr → Result → Shared → Prop} (C : CompTx osc scope N0 xs fr) (ho : X.env.scope = osc) (hN0 : X.N = N0) (hc : X.calm = true)
    (hg : ∀ s H fp, PG (cxComp X scope (compN N0 xs fr) s H fp) tg g) (ht : ∀ s H fp, PIf (cxComp X scope (compN N0 xs fr) s H fp) ifs tt) (he : ∀ s H fp, PE (cxComp X scope (compN N0 xs fr) s H fp) elt te)
    (I2 : Inv X pins σ H2 s2) (T : Turn X.prog X.w X.K tg J fp it tn) (st2 : tn 0 s2.heap) (f2 : ∀ b ∈ fp, FpOk X pins H2 b)
    (hR : ∀ D, H2 D = none → CompW J g tt te R D (compSt xs fr σ) (upd H2 D (.lst [])))
    (hRR : ∀ (D C : Addr) (s' : Shared) (H' : Hp) (m : Str → Option Value), Inv X pins σ H' s' → s'.heap.Ns C m → FpOk X pins H' C → R D H' → RR (.ref D) C (.ok .next) s') :
    wpAny (model X.prog X.w) X.A (newList []) (fun acc s₃ => wpAny (model X.prog X.w) X.A (newFunctionEnv scope X.env.globals (closL X.env scope.names) [] X.env.qual none .none (some X.env)) (fun cenv s₄ =>
      codeAny (model X.prog X.w) X.A (.compStart (.ListComp elt [⟨tg, iter, ifs, 0⟩] scope pos) 0 (.ref it) acc { cenv with scope := relabel scope X.env }) (RR acc cenv.locals) s₄) E s₃) E s2 := by
  refine wpAny_newObj_type (wpAny_newFunctionEnv C.nocell (by intro y hy; simp at hy) (fun h₁ hns₁ hsb₁ => ?_) C.kind)
  dsimp only at hns₁ hsb₁ ⊢
  have I3 : Inv X pins σ (upd H2 s2.heap.objs.size (.lst [])) { s2 with heap := s2.heap.push { cls := .type "list", data := .seq ([] : List Value).toArray } } := I2.lnew (its := []) (t' := s2.toks) .nil (by simp)
  have flt : ∀ b ∈ fp, b < s2.heap.objs.size := fun b hb => by
    obtain ⟨o, e, _⟩ := T.obj 0 _ st2 b hb
    exact Heap.lt_size e
  have f3 : ∀ b ∈ fp, FpOk X pins (upd H2 s2.heap.objs.size (.lst [])) b := fun b hb => ⟨by rw [upd_ne (Nat.ne_of_lt (flt b hb))]; exact (f2 b hb).1, (f2 b hb).2⟩
  have flt3 : ∀ b ∈ fp, b < (s2.heap.push { cls := .type "list", data := .seq ([] : List Value).toArray }).objs.size := fun b hb => by
    rw [Heap.size_push]
    exact Nat.lt_succ_of_lt (flt b hb)
  obtain ⟨W, ⟨m0, w0⟩, turn⟩ := hR s2.heap.objs.size I2.fresh
  generalize hD : s2.heap.objs.size = D at *
  generalize hs3 : s2.heap.push { cls := .type "list", data := .seq ([] : List Value).toArray } = h3 at *
  have up2 : ∀ b o, s2.heap.get? b = some o → h3.get? b = some o := fun b o e => by rw [← hs3]; exact Heap.get?_push_of_some _ e
  have old : ∀ b o, h3.get? b = some o → h₁.get? b = some o := fun b o e => hsb₁.extBut b o (Nat.ne_of_lt (Heap.lt_size e)) (Heap.get?_push_of_some _ e)
  have Ic := comp_start (tk := s2.toks + ([] : List (Str × Value)).length) C ho hN0 I3 f3 flt3 hns₁ old
  have st4 : tn 0 h₁ := T.keep 0 _ _ st2 fun b hb o e => old b o (up2 b o e)
  have stat : ∀ {H' : Hp}, (∀ b ∈ fp, H' b = none) → ∀ b ∈ fp, FpOk (cxComp X scope (compN N0 xs fr) { s2 with heap := h3 } (upd H2 D (.lst [])) fp) [] H' b := fun hn b hb =>
    ⟨hn b hb, Nat.ne_of_lt (flt3 b hb), fun z => by
      rcases List.mem_cons.mp (I3.stkSub b z) with q | q
      · exact (f3 b hb).2.1 q
      · exact (f3 b hb).2.2.1 q, .inl hb, fun x c h => (Ic.ok.exf b hb).2 x c h, fun p hp => absurd (show p ∈ ([] : List (Addr × Obj)) from hp) (by simp)⟩
  have fin : ∀ {σ' : St} {H' : Hp} {s' : Shared}, Inv (cxComp X scope (compN N0 xs fr) { s2 with heap := h3 } (upd H2 D (.lst [])) fp) [] σ' H' s' → R D H' → RR (.ref D) h3.objs.size (.ok .next) s' := fun {σ' H' s'} I' q => by
    obtain ⟨m, hm, _⟩ := I'.loc
    refine hRR D h3.objs.size s' H' m (I3.call' I'.os I'.base I'.hok I'.bare fun b hb => ?_) hm (I3.fpOk (Nat.le_refl _) I'.free) q
    exact ⟨(f3 b hb).2.2.2.1, (f3 b hb).2.1, (f3 b hb).2.2.2.2.1, (f3 b hb).2.2.2.2.2⟩
  have loop : codeAny (model X.prog X.w) X.A (.compLoop (.ListComp elt [⟨tg, iter, ifs, 0⟩] scope pos) 0 (.ref it) (.ref D) (compEnvC scope (closL X.env scope.names) h3.objs.size X.env)) (RR (.ref D) h3.objs.size) { s2 with heap := h₁, toks := s2.toks + ([] : List (Str × Value)).length } := by
    refine codeAny_loop rfl (fun n s' => ∃ i σ' H', Inv (cxComp X scope (compN N0 xs fr) { s2 with heap := h3 } (upd H2 D (.lst [])) fp) [] σ' H' s' ∧ tn i s'.heap ∧ (∀ b ∈ fp, H' b = none) ∧ W i n σ' H') (fun n s' hI => ?_) m0 ⟨0, _, _, Ic, st4, fun b hb => (f3 b hb).1, w0⟩
    show wpAny _ X.A ((compTurn (.ListComp elt [⟨tg, iter, ifs, 0⟩] scope pos) 0 (.ref it) (.ref D) (compEnvC scope (closL X.env scope.names) h3.objs.size X.env)).onRaise (fun x => do noteFrame x (compEnvC scope (closL X.env scope.names) h3.objs.size X.env); theTreesLotGoes x)) _ _ s'
    refine wpAny_noted ?_
    rw [compTurn_list]
    obtain ⟨i, σ', H', I', st', fr', w'⟩ := hI
    refine wpAny_bind (wpAny_standAt (wpAny_bind ?_))
    rcases turn i n σ' H' w' with ⟨stop, q⟩ | ⟨go, N, M, hN, hM, step⟩
    · refine thn (T.done (cxComp X scope (compN N0 xs fr) { s2 with heap := h3 } (upd H2 D (.lst [])) fp) rfl rfl rfl hc i [] s' σ' H' _ I' (stat fr') st' stop) fun r s4 ⟨hr, I4⟩ => ?_
      subst hr
      exact wpAny_pure (fin I4 q)
    · refine thn (T.item (cxComp X scope (compN N0 xs fr) { s2 with heap := h3 } (upd H2 D (.lst [])) fp) rfl rfl rfl hc i [] s' σ' H' _ I' (stat fr') st' go) fun r s4 ⟨u, hr, h4⟩ => ?_
      subst hr
      refine wpAny_bind (thn h4 fun _ s5 ⟨x, H5, I5, r5, y5, st5, fr5⟩ => ?_)
      have I5' := I5.pinned (stat fr5) (T.obj _ _ st5)
      have again : ∀ {σ7 : St} {H7 : Hp} {s7 : Shared}, Inv (cxComp X scope (compN N0 xs fr) { s2 with heap := h3 } (upd H2 D (.lst [])) fp) ([] ++ pinsAt fp s5.heap) σ7 H7 s7 → (∃ m', m' < n ∧ W (i + 1) m' σ7 H7) →
          ∃ m, m < n ∧ ∃ i σ' H', Inv (cxComp X scope (compN N0 xs fr) { s2 with heap := h3 } (upd H2 D (.lst [])) fp) [] σ' H' s7 ∧ tn i s7.heap ∧ (∀ b ∈ fp, H' b = none) ∧ W i m σ' H' := fun {σ7 H7 s7} I7 n7 => by
        obtain ⟨m', hm, w7⟩ := n7
        refine ⟨m', hm, i + 1, σ7, H7, I7.unpinned, T.keep _ _ _ st5 fun b hb o e => (I7.pin (b, o) (List.mem_append_right _ (List.mem_append_right _ (mem_pinsAt hb e)))).1, fun b hb => ?_, w7⟩
        obtain ⟨o, e, d⟩ := T.obj _ _ st5 b hb
        exact (I7.pin (b, o) (List.mem_append_right _ (List.mem_append_right _ (mem_pinsAt hb e)))).2.1
      refine wpAny_bind (wpAny_mono (hg _ _ _ _ s5 σ' H5 x u _ I5' r5 (step x H5 y5)) (fun _ s6 ⟨σ6, H6, I6, q6⟩ => ?_) fun _ _ z => False.elim z)
      refine wpAny_bind (wpAny_mono (ht _ _ _ _ s6 σ6 H6 _ I6 q6) (fun ok s7 ⟨H7, I7, q7⟩ => ?_) fun _ _ z => False.elim z)
      cases ok with
      | false =>
        rw [if_neg Bool.false_ne_true] at q7
        exact wpAny_pure ⟨rfl, again I7 (hM _ _ q7)⟩
      | true =>
        rw [if_pos rfl] at q7
        refine wpAny_bind (wpAny_bind (wpAny_mono (he _ _ _ _ s7 σ6 H7 _ I7 q7) (fun y s8 ⟨v, H8, I8, r8, q8⟩ => ?_) fun _ _ z => False.elim z))
        obtain ⟨ys, eD, hz, q8⟩ := hN _ _ _ q8
        refine wpAny_bind (wpAny_mono (mt_append (X := cxComp X scope (compN N0 xs fr) { s2 with heap := h3 } (upd H2 D (.lst [])) fp) _ s8 σ6 H8 (.ref D) [v] (.ref D) [y] (fun _ H9 => ∃ m', m' < n ∧ W (i + 1) m' σ6 H9) I8 rfl (.cons r8 .nil) ⟨D, ys, v, rfl, rfl, eD, hz, q8⟩) (fun _ s9 ⟨_, H9, I9, _, q9⟩ => ?_) fun _ _ z => False.elim z)
        exact wpAny_pure (wpAny_pure ⟨rfl, again I9 q9⟩)
  exact codeAny_compStart_list loop (T.self X.A 0 _ _ _ st4 loop)

variable {osc scope : Scope} {N0 xs : List Str} {fr : List Nat} {elt tg iter : Expr} {ifs : List Expr} {pos : Pos} {wi : TI} {g : TG} {tt : TT} {te : TE}
theorem pe_comp (C : CompTx osc scope N0 xs fr) (ho : X.env.scope = osc) (hN0 : X.N = N0) (hc : X.calm = true) (hi : PI X tg iter wi)
    (hg : ∀ s H fp, PG (cxComp X scope (compN N0 xs fr) s H fp) tg g) (ht : ∀ s H fp, PIf (cxComp X scope (compN N0 xs fr) s H fp) ifs tt) (he : ∀ s H fp, PE (cxComp X scope (compN N0 xs fr) s H fp) elt te)
    (hs : ∀ x, foldedSetIterable iter X.env x = pure x := by intro _; rfl) : PE X (.ListComp elt [⟨tg, iter, ifs, 0⟩] scope pos) (tComp xs fr wi g tt te) := by
  intro pins s σ H Q I h
  rw [eval_ListComp]
  refine wpAny_comprehension_free (use := none) rfl hs (clos_ok (comp_free C ho I)) C.kind C.names (thn (hi pins s σ H _ I h) fun v s1 h1 => thn h1 fun itv s2 h2 => ?_)
  obtain ⟨it, fp, tn, J, H2, e, I2, T, st2, f2, hR⟩ := h2
  subst e
  refine comp_block C ho hN0 hc hg ht he I2 T st2 f2 hR fun D C s' H' m I' hm fC q => ?_
  refine ⟨m, hm, fun h' sb => ⟨.ref D, H', ?_, rfl, q⟩⟩
  exact I'.turned (t' := s'.toks) (fun b o hb e => (sb.2 b hb).trans e) fC.1 fC.2.1 fC.2.2.2.1 fC.2.2.2.2.1 fC.2.2.2.2.2
theorem ps_comp {i : Nat} {y : Str} {py spos : Pos} (C : CompTx osc scope N0 xs fr) (ho : X.env.scope = osc) (hN0 : X.N = N0) (hc : X.calm = true) (hi : PI X tg iter wi)
    (hg : ∀ s H fp, PG (cxComp X scope (compN N0 xs fr) s H fp) tg g) (ht : ∀ s H fp, PIf (cxComp X scope (compN N0 xs fr) s H fp) ifs tt) (he : ∀ s H fp, PE (cxComp X scope (compN N0 xs fr) s H fp) elt te)
    (hN : X.N.Nodup) (hy : X.N[i]? = some y) (hx : Loc X.env.scope y)
    (hsw : swapsWith (.ListComp elt [⟨tg, iter, ifs, 0⟩] scope pos) (some (.Name y py)) spos.line X.env = pure true := by rfl)
    (hf : X.fn y = true ∨ X.env.scope.names.lookup y = some .local := by first | exact .inl rfl | exact .inr rfl | assumption)
    (hs : ∀ x, foldedSetIterable iter X.env x = pure x := by intro _; rfl) : PS X (.Assign [.Name y py] (.ListComp elt [⟨tg, iter, ifs, 0⟩] scope pos) spos) (sComp i xs fr wi g tt te) := by
  intro pins s σ H D I h
  rw [exec_Assign_Name_used _ _ _ _ hsw]
  refine wpAny_bind (wpAny_standAt (wpAny_bind ?_))
  show wpAny _ X.A (do let _ ← comprehension (.ListComp elt [⟨tg, iter, ifs, 0⟩] scope pos) scope X.env _ (newList []) false (eval iter X.env) (some (assign (.Name y py) X.env))) _ _ s
  refine wpAny_bind (wpAny_mono (wpAny_comprehension_free (use := some (assign (.Name y py) X.env)) (Q := fun _ s' => SP X pins D .next s') rfl hs (clos_ok (comp_free C ho I)) C.kind C.names
    (thn (hi pins s σ H _ I h) fun v s1 h1 => thn h1 fun itv s2 h2 => ?_)) (fun _ s' hq => wpAny_pure (wpAny_pure hq)) fun _ _ e => e)
  obtain ⟨it, fp, tn, J, H2, e, I2, T, st2, f2, hR⟩ := h2
  subst e
  refine comp_block C ho hN0 hc hg ht he I2 T st2 f2 hR fun Dl C s' H' m I' hm fC q => ?_
  refine wpAny_assign_Name (store_ok2 I' hN hy hx (show RelV (.ref Dl) (.ref Dl) from rfl) (fun s3 I3 hsb => ?_) hf)
  obtain ⟨a, sb, ha⟩ := hsb
  have hCa : C ≠ a := by
    rcases ha with z | z
    · rw [z]; exact fC.2.1
    · exact fun w => fC.2.2.2.2.1 y a z w.symm
  refine ⟨m, hm.sameBut sb hCa, fun h' sb' => ⟨_, H', ?_, q⟩⟩
  exact I3.turned (t' := s3.toks) (fun b o hb e => (sb'.2 b hb).trans e) fC.1 fC.2.1 fC.2.2.2.1 fC.2.2.2.2.1 fC.2.2.2.2.2
end

/-! ### a text, walked sign by sign -/
section
variable {X : Cx} {tg : Expr}
/-! ### all, any of a list of truths -/
/-! ### isinstance(x, T), T a built-in type -/
theorem call_isi : CallR X (.builtin "isinstance") (fun xs H Q => ∃ x n t b, xs = [x, .ty n] ∧ TyOf X.K H x t ∧ PySem.W.kitOne X.K t (.type n) = some b ∧ Q (.bl b) H) := by
  intro pins s σ H xs us Q I r h
  obtain ⟨x, n, t, b, rfl, ty, e, q⟩ := h
  obtain ⟨u, w', rfl, rx, rc⟩ := vals2 r
  cases (show w' = Value.type n from rc)
  exact isinst_ok I rx ty e fun tk => ⟨.bl b, H, I.tok tk, rfl, q⟩

/-! ### products of any two ints that the model multiplies -/
end

/-! ### slices of a text -/
section
variable {X : Cx}
end
/-! ### a comprehension without tests whose i-th item is ev i -/
theorem compW_map {J : It} {g : TG} {te : TE} {R : Addr → Hp → Prop} {D : Addr} {σ0 : St} {H0 : Hp} (n : Nat) (ev : Nat → V) (Pv : Nat → St → Hp → Prop) (hn : n ≤ sizeLine) (h0 : Pv 0 σ0 H0) (hD0 : H0 D = some (.lst []))
    (hs : ∀ i σ H, i < n → Pv i σ H → H D = some (.lst ((List.range i).map ev)) → J.go i H ∧ ∀ x H', J.yld i H x H' → g x σ H' fun σ2 H2 => te σ2 H2 fun y H4 => y = ev i ∧ H4 D = some (.lst ((List.range i).map ev)) ∧ Pv (i + 1) σ2 (upd H4 D (.lst ((List.range (i + 1)).map ev))))
    (hd : ∀ σ H, Pv n σ H → H D = some (.lst ((List.range n).map ev)) → J.stop n H ∧ R D H) : CompW J g tYes te R D σ0 H0 := by
  refine ⟨fun i m σ H => m = n - i ∧ i ≤ n ∧ Pv i σ H ∧ H D = some (.lst ((List.range i).map ev)), ⟨n, by omega, Nat.zero_le _, h0, hD0⟩, ?_⟩
  rintro i m σ H ⟨rfl, hi, p, hD⟩
  by_cases hlt : i < n
  · obtain ⟨go, st⟩ := hs i σ H hlt p hD
    refine .inr ⟨go, fun σ2 y H4 => y = ev i ∧ H4 D = some (.lst ((List.range i).map ev)) ∧ Pv (i + 1) σ2 (upd H4 D (.lst ((List.range (i + 1)).map ev))), fun _ _ => False, ?_, fun _ _ z => z.elim, st⟩
    rintro σ2 y H4 ⟨rfl, e, p'⟩
    refine ⟨_, e, by simp; omega, n - (i + 1), by omega, rfl, hlt, ?_, ?_⟩
    · rw [List.range_succ, List.map_append] at p'
      exact p'
    · rw [upd_same, List.range_succ, List.map_append]
      rfl
  · have e : i = n := by omega
    subst e
    exact .inl (hd σ H p hD)
theorem range_map_getD {α β : Type} (l : List α) (d : α) (f : α → β) : ((List.range l.length).map fun i => f (l.getD i d)) = l.map f := by
  apply List.ext_getElem?
  intro i
  rw [List.getElem?_map, List.getElem?_map]
  by_cases h : i < l.length
  · rw [List.getElem?_range h, List.getElem?_eq_getElem h]
    simp [List.getD_eq_getElem?_getD, List.getElem?_eq_getElem h]
  · rw [List.getElem?_eq_none (by simpa using h), List.getElem?_eq_none (by simpa using h)]
    rfl

/-! ### types under a grown heap -/
theorem Same.upd {H : Hp} {D : Addr} {o : HO} (h : H D = none) : Same H (L2.upd H D o) := fun b u e => by
  rw [upd_ne (ne_of_none e h)]
  exact e
/-! ### a block in two parts -/
end L2

namespace L2
open PySem PySem.Spec PyProof.Rows
/-! ### isinstance by two built-in types -/
def kitTy (a b : String) : Option Bool := if (Value.type a == Value.type b) = true then some true else if PySem.W.kitMeta b = true then (fastBuiltinMro a).map (·.contains (.type b)) else none
theorem kit_eq {K : PySem.W.Frag} {a b : String} : PySem.W.kitOne K (.type a) (.type b) = kitTy a b := rfl
/-! ### a def of the top -/
def DefIn (K : PySem.W.Frag) (x : Str) (st : Stmt) : Prop := ∃ (f : Addr) (oc : Value) (od : Option Addr) (kV doc pm : Value) (an : Option Addr) (cdv ct : Value) (osl : Array (Option Value)),
  PySem.W.nsIn K mainGlobals x = some (some (.ref f)) ∧ K.lookup f = some ⟨oc, od, .func (PySem.W.fnOf x x (defArgs st) (defBody st) (defScope st) .none kV doc pm an cdv ct), osl⟩ ∧ PySem.W.codeIn K cdv x = true ∧ PySem.W.keepIn K (.ref f) = true
theorem defIn_mk {K : PySem.W.Frag} {x : Str} {st : Stmt} {f : Addr} {oc : Value} {od an : Option Addr} {osl : Array (Option Value)} {kV doc pm cdv ct : Value} (a : PySem.W.nsIn K mainGlobals x = some (some (.ref f)))
    (l : K.lookup f = some ⟨oc, od, .func (PySem.W.fnOf x x (defArgs st) (defBody st) (defScope st) .none kV doc pm an cdv ct), osl⟩) (c : PySem.W.codeIn K cdv x = true) (k : PySem.W.keepIn K (.ref f) = true) : DefIn K x st :=
  ⟨f, oc, od, kV, doc, pm, an, cdv, ct, osl, a, l, c, k⟩
/-- .. as a body that calls it sees it -/
structure Df (K : PySem.W.Frag) (mg : Str → Option Value) (x : Str) (st : Stmt) (f : Addr) (fd : FuncData) : Prop where
  fn : Fun K x x st f fd
  mg : mg x = some (.ref f)
theorem DefIn.df {K : PySem.W.Frag} {h : Heap} {mg : Str → Option Value} {x : Str} {st : Stmt} (d : DefIn K x st) (X : K.In h) (G : h.Ns mainGlobals mg) : ∃ f fd, Df K mg x st f fd := by
  obtain ⟨f, oc, od, kV, doc, pm, an, cdv, ct, osl, a, l, c, k⟩ := d
  exact ⟨f, _, fun_mk l c k, PySem.W.mg_of X G a⟩
end L2

namespace PySem.SeqAt
open MeetsSeq
open AutoSeq1 (wpAny_loadPart')
/-! ### a dict and a text are never equal -/
section
variable {A : Around} {s : Shared}
end
end PySem.SeqAt

namespace L2
open PySem PySem.Spec PyProof.Rows
/-! ### things, without the heap -/
section
variable {X : Cx} {pins : List (Addr × Obj)} {σ : St} {H : Hp} {s : Shared}
end
end L2

namespace My
open PySem L2 PyProof.Rows
theorem pos {j : Int} (h : decide ((0 : Int) < j) = true) : 0 < j := of_decide_eq_true h
/-! ### the law's cells -/
theorem item_ints {ns : List Int} {k : Int} (h0 : 0 ≤ k) (h1 : k < ns.length) : atI (ns.map V.int) k = some (.int (ns.getD k.toNat 0)) := by
  obtain ⟨j, rfl⟩ := Int.eq_ofNat_of_zero_le h0
  refine atI_nat ?_
  have hj : j < ns.length := by omega
  rw [List.getElem?_map, List.getElem?_eq_getElem hj]
  simp [List.getD_eq_getElem?_getD, List.getElem?_eq_getElem hj]

theorem boot_isi : bootBuiltins "isinstance" = some (.builtin "isinstance") := by decide +kernel
theorem boot_int : bootBuiltins "int" = some (.type "int") := by decide +kernel
theorem boot_bool : bootBuiltins "bool" = some (.type "bool") := by decide +kernel
theorem boot_str : bootBuiltins "str" = some (.type "str") := by decide +kernel
theorem boot_list : bootBuiltins "list" = some (.type "list") := by decide +kernel
theorem boot_tuple : bootBuiltins "tuple" = some (.type "tuple") := by decide +kernel
theorem boot_dict : bootBuiltins "dict" = some (.type "dict") := by decide +kernel
/-- the built-ins are not the text's own -/
structure Bl (mg : Str → Option Value) : Prop where
  len : mg "len" = none
  isi : mg "isinstance" = none
  int : mg "int" = none
  bool : mg "bool" = none
  str : mg "str" = none
  all : mg "all" = none
  range : mg "range" = none
  abs : mg "abs" = none
  ord : mg "ord" = none
  list : mg "list" = none
  tuple : mg "tuple" = none
  dict : mg "dict" = none
  any : mg "any" = none
  sorted : mg "sorted" = none
  set : mg "set" = none
  enum : mg "enumerate" = none

/-- .. as the top has left them -/
structure BlK (K : PySem.W.Frag) : Prop where
  len : PySem.W.nsIn K mainGlobals "len" = some none
  isi : PySem.W.nsIn K mainGlobals "isinstance" = some none
  int : PySem.W.nsIn K mainGlobals "int" = some none
  bool : PySem.W.nsIn K mainGlobals "bool" = some none
  str : PySem.W.nsIn K mainGlobals "str" = some none
  all : PySem.W.nsIn K mainGlobals "all" = some none
  range : PySem.W.nsIn K mainGlobals "range" = some none
  abs : PySem.W.nsIn K mainGlobals "abs" = some none
  ord : PySem.W.nsIn K mainGlobals "ord" = some none
  list : PySem.W.nsIn K mainGlobals "list" = some none
  tuple : PySem.W.nsIn K mainGlobals "tuple" = some none
  dict : PySem.W.nsIn K mainGlobals "dict" = some none
  any : PySem.W.nsIn K mainGlobals "any" = some none
  sorted : PySem.W.nsIn K mainGlobals "sorted" = some none
  set : PySem.W.nsIn K mainGlobals "set" = some none
  enum : PySem.W.nsIn K mainGlobals "enumerate" = some none

theorem BlK.bl {K : PySem.W.Frag} {h : Heap} {mg : Str → Option Value} (b : BlK K) (X : K.In h) (G : h.Ns mainGlobals mg) : Bl mg :=
  ⟨PySem.W.mg_none_of X G b.len, PySem.W.mg_none_of X G b.isi, PySem.W.mg_none_of X G b.int, PySem.W.mg_none_of X G b.bool, PySem.W.mg_none_of X G b.str, PySem.W.mg_none_of X G b.all, PySem.W.mg_none_of X G b.range, PySem.W.mg_none_of X G b.abs, PySem.W.mg_none_of X G b.ord, PySem.W.mg_none_of X G b.list, PySem.W.mg_none_of X G b.tuple, PySem.W.mg_none_of X G b.dict, PySem.W.mg_none_of X G b.any, PySem.W.mg_none_of X G b.sorted, PySem.W.mg_none_of X G b.set, PySem.W.mg_none_of X G b.enum⟩
theorem iteB {b : Bool} {A B : Prop} (h : b = true) (a : A) : if b = true then A else B := by rw [if_pos h]; exact a
theorem iteC {b : Bool} {A B : Prop} (h : b = false) (a : B) : if b = true then A else B := by rw [h, if_neg Bool.false_ne_true]; exact a
def spLaw (K : PySem.W.Frag) : Sp := fun vs H Q _ => ∃ (a : Addr) (ns : List Int), vs = [.ref a] ∧ SqL K H a (ns.map V.int) ∧ ns.length ≤ 63 ∧ ∀ H', Q (.bl true) H'
theorem walk (k : Nat) {l : PySem.W.OpenLaw} {q : Program} {loose : List Str} {XP : (Str → Option Value) → Heap → Prop} {YP : World → Heap → Prop} {d : DefRec} {K : Params → PySem.W.Frag} (hk : Room k callerA) (hn : l.most = some 63) (hdf : d.params.defaults = [])
    (hY : ∀ (w : World) (h : Heap), YP w h → (K w.params).In h)
    (F : ∀ (w : World) (mg : Str → Option Value) (fa : Addr) (h : Heap), (K w.params).In h → h.Ns mainGlobals mg → mg d.name = some (.ref fa) →
      ∃ fd : FuncData, (∀ (s : Shared) (u : Value), BindsTo s fd ⟨[u], []⟩ [("_law_script", u)]) ∧ ∀ base : Heap, (K w.params).In base → base.Ns mainGlobals mg → FnOk l.prog w (K w.params) mg base CX0 k fa fd ["_law_script"] (spLaw (K w.params))) :
    PySem.W.WalkO q loose XP YP l.row.toRowW d [] (fun f vs => PySem.call f vs) :=
  L2.walk_of (n := 63) (k := k) (x := "_law_script") (CX := fun _ => CX0) (sp := fun w => spLaw (K w.params)) hn (by decide) hdf hk hY F (fun _ _ a ns hl _ hS => ⟨a, ns, rfl, hS, hl, fun _ => rfl⟩) fun _ _ _ _ _ z => z
end My

/-! DICTS WALKED (own work): a dict stands frozen while it is walked. -/
namespace L2
open PySem PySem.Spec PyProof.Rows
section
variable {X : Cx} {pins : List (Addr × Obj)} {σ : St} {H : Hp} {s : Shared} {a : Addr} {kvs : List (Key × V)} {o : Obj}
theorem Inv.freeze (I : Inv X pins σ H s) (e : H a = some (.dK kvs)) (ho : s.heap.get? a = some o) : Inv X pins σ (upd H a (.frz o (.dK kvs))) s := by
  have ne : ∀ b u, H b = some u → u ≠ .dK kvs → b ≠ a := fun b u q n z => by
    subst z
    rw [e] at q
    exact n (Option.some.inj q).symm
  have nn : ∀ b, H b = none → b ≠ a := fun b q z => by subst z; rw [e] at q; cases q
  refine ⟨I.ok, I.os, I.bare, ⟨I.base.keep, I.base.slot, fun b ob q n hx => ?_, I.base.there, fun b xs q => ?_, fun b ob u q => ?_, fun b ps q => ?_⟩, I.loc, I.cell, ?_, fun x c q => ?_, fun p hp => ?_, fun b u q => ?_, I.len⟩
  · have h := I.base.free b ob q n hx
    rw [upd_ne (nn b h)]
    exact h
  · have h := I.base.tups b xs q
    rw [upd_ne (ne b _ h (by simp))]
    exact h
  · have h := I.base.frzs b ob u q
    rw [upd_ne (ne b _ h (by simp))]
    exact h
  · obtain ⟨m, h⟩ := I.base.tbls b ps q
    exact ⟨m, by rw [upd_ne (ne b _ h (by simp))]; exact h⟩
  · rw [upd_ne (nn _ I.free)]
    exact I.free
  · rw [upd_ne (nn _ (I.freeC x c q))]
    exact I.freeC x c q
  · obtain ⟨h1, h2, h3⟩ := I.pin p hp
    exact ⟨h1, by rw [upd_ne (nn _ h2)]; exact h2, h3⟩
  · by_cases hb : b = a
    · subst hb
      rw [upd_same] at q
      cases q
      exact ⟨ho, I.hok b _ e⟩
    · rw [upd_ne hb] at q
      exact (I.hok b u q).stay (fun c v _ r => r) (fun c r => by rw [upd_ne (ne c _ r (by simp))]; exact r) fun c xs r => by rw [upd_ne (ne c _ r (by simp))]; exact r
theorem Inv.thaw (I : Inv X pins σ H s) (n0 : ∀ ob u, X.H₀ a ≠ some (.frz ob u)) (e : H a = some (.frz o (.dK kvs))) : Inv X pins σ (upd H a (.dK kvs)) s := by
  have ne : ∀ b u, H b = some u → u ≠ .frz o (.dK kvs) → b ≠ a := fun b u q n z => by
    subst z
    rw [e] at q
    exact n (Option.some.inj q).symm
  have nn : ∀ b, H b = none → b ≠ a := fun b q z => by subst z; rw [e] at q; cases q
  refine ⟨I.ok, I.os, I.bare, ⟨I.base.keep, I.base.slot, fun b ob q n hx => ?_, I.base.there, fun b xs q => ?_, fun b ob u q => ?_, fun b ps q => ?_⟩, I.loc, I.cell, ?_, fun x c q => ?_, fun p hp => ?_, fun b u q => ?_, I.len⟩
  · have h := I.base.free b ob q n hx
    rw [upd_ne (nn b h)]
    exact h
  · have h := I.base.tups b xs q
    rw [upd_ne (ne b _ h (by simp))]
    exact h
  · have h := I.base.frzs b ob u q
    rw [upd_ne (fun z => by subst z; exact n0 _ _ q)]
    exact h
  · obtain ⟨m, h⟩ := I.base.tbls b ps q
    exact ⟨m, by rw [upd_ne (ne b _ h (by simp))]; exact h⟩
  · rw [upd_ne (nn _ I.free)]
    exact I.free
  · rw [upd_ne (nn _ (I.freeC x c q))]
    exact I.freeC x c q
  · obtain ⟨h1, h2, h3⟩ := I.pin p hp
    exact ⟨h1, by rw [upd_ne (nn _ h2)]; exact h2, h3⟩
  · by_cases hb : b = a
    · subst hb
      rw [upd_same] at q
      cases q
      exact (I.hok b _ e).2
    · rw [upd_ne hb] at q
      exact (I.hok b u q).stay (fun c v _ r => r) (fun c r => by rw [upd_ne (ne c _ r (by simp))]; exact r) fun c xs r => by rw [upd_ne (ne c _ r (by simp))]; exact r
theorem Inv.dk_obj (I : Inv X pins σ H s) (e : H a = some (.dK kvs)) : ∃ o, s.heap.get? a = some o := by
  obtain ⟨_, _, _, _, o, _, _, g, _⟩ := I.hok a _ e
  exact ⟨o, g⟩
theorem Inv.not_frz (I : Inv X pins σ H s) (e : H a = some (.dK kvs)) : ∀ ob u, X.H₀ a ≠ some (.frz ob u) := fun ob u q => by
  have := I.base.frzs a ob u q
  rw [e] at this
  cases this
/-- a statement, an expression, while a dict stands frozen -/
def frzE (a : Addr) (o : Obj) (kvs : List (Key × V)) (D : Ends) : Ends where
  nx := fun σ' H' => H' a = some (.frz o (.dK kvs)) ∧ D.nx σ' (upd H' a (.dK kvs))
  rt := fun v H' => H' a = some (.frz o (.dK kvs)) ∧ D.rt v (upd H' a (.dK kvs))
  bk := fun σ' H' => H' a = some (.frz o (.dK kvs)) ∧ D.bk σ' (upd H' a (.dK kvs))
  ct := fun σ' H' => H' a = some (.frz o (.dK kvs)) ∧ D.ct σ' (upd H' a (.dK kvs))
def sFrz (t : TS) : TS := fun D σ H => ∃ a kvs, H a = some (.dK kvs) ∧ ∀ o, t (frzE a o kvs D) σ (upd H a (.frz o (.dK kvs)))
theorem ps_frz {st : Stmt} {t : TS} (h : PS X st t) : PS X st (sFrz t) := by
  intro pins s σ H D I hq
  obtain ⟨a, kvs, e, q⟩ := hq
  obtain ⟨o, ho⟩ := I.dk_obj e
  have n0 := I.not_frz e
  refine thn (h pins s σ _ _ (I.freeze e ho) (q o)) fun f s' hs => ?_
  cases f with
  | next => obtain ⟨σ', H', I', e', z⟩ := hs; exact ⟨σ', _, I'.thaw n0 e', z⟩
  | brk => obtain ⟨σ', H', I', e', z⟩ := hs; exact ⟨σ', _, I'.thaw n0 e', z⟩
  | cont => obtain ⟨σ', H', I', e', z⟩ := hs; exact ⟨σ', _, I'.thaw n0 e', z⟩
  | ret u => obtain ⟨v, σ', H', I', r, e', z⟩ := hs; exact ⟨v, σ', _, I'.thaw n0 e', r, z⟩
end

/-! ### the keys of a frozen dict, one by one -/
def epOf (o : Obj) : Nat := match o.data with
  | .dict _ ep => ep
  | _ => 0
theorem is_kV {P : Program} {w : World} : ∀ {k : Key} {u : Value}, (mixKind P w).is k u = true → RelV (kV k) u := by
  intro k u h
  rcases keyIs_shape (k := k) (v := u) h with ⟨i, t, rfl, rfl⟩ | ⟨x, t, rfl, rfl⟩
  · exact ⟨t, rfl⟩
  · exact ⟨t, rfl⟩
def Itd (a : Addr) (o : Obj) (kvs : List (Key × V)) : It :=
  ⟨fun i H => i < kvs.length ∧ H a = some (.frz o (.dK kvs)), fun i H x H' => H' = H ∧ ∃ k v, kvs[i]? = some (k, v) ∧ x = kV k, fun i H => kvs.length ≤ i ∧ H a = some (.frz o (.dK kvs))⟩
section
variable {X : Cx}
theorem kv_get : ∀ {kvs : List (Key × V)} {vs : List (Key × Value)} {i : Nat} {p : Key × V}, KV kvs vs → kvs[i]? = some p → ∃ u, vs[i]? = some (p.1, u) ∧ RelV p.2 u
  | _, _, _, _, .nil, e => by simp at e
  | _, _, 0, _, .cons (b := q) r _, e => by
    simp at e
    subst e
    obtain ⟨q1, q2⟩ := q
    obtain ⟨r1, r2⟩ := r
    exact ⟨q2, by rw [List.getElem?_cons_zero]; exact congrArg (fun z => some (z, q2)) r1.symm, r2⟩
  | _, _, i + 1, p, .cons _ t, e => by
    obtain ⟨u, h1, h2⟩ := kv_get (i := i) (p := p) t (by simpa using e)
    exact ⟨u, by simpa using h1, h2⟩
theorem Inv.dictAt {pins : List (Addr × Obj)} {σ : St} {H : Hp} {s : Shared} {a : Addr} {o : Obj} {kvs : List (Key × V)} (I : Inv X pins σ H s) (e : H a = some (.frz o (.dK kvs))) :
    ∃ vs, KV kvs vs ∧ s.heap.DictAt (mixKind X.prog X.w) a vs (epOf o) ∧ (a == sysModules) = false := by
  obtain ⟨g, _, hs, vs, kv, o', es, ep, g', ex, hd, hk, hp, hn⟩ := I.hok a _ e
  rw [g] at g'
  cases g'
  have he : epOf o = ep := by unfold epOf; rw [hd]
  exact ⟨vs, kv, ⟨o, es, g, ex, by rw [he]; exact hd, hk, hp, hn⟩, hs⟩
theorem KV.len {kvs : List (Key × V)} {vs : List (Key × Value)} (r : KV kvs vs) : kvs.length = vs.length := Paired.length r
theorem turn_dict {P : Program} {w : World} {K : PySem.W.Frag} {tg : Expr} (a it : Addr) (o : Obj) (kvs : List (Key × V)) : Turn P w K tg (Itd a o kvs) [it] it (fun i h => h.IsKeyIter it a i kvs.length (epOf o)) where
  mem := by simp
  obj := fun i h st b hb => by
    have e : b = it := by simpa using hb
    subst e
    obtain ⟨o, e, c, d⟩ := st
    exact ⟨o, e, fun v z => by rw [d] at z; cases z⟩
  keep := fun i h h' st k => st.at fun o e => k it (by simp) o e
  item := by
    intro X hP hw hK hc i pins s σ H E I hf st hg
    subst hP hw hK
    obtain ⟨hi, hq⟩ := hg
    obtain ⟨vs, kv, da, _⟩ := I.dictAt hq
    have hl := kv.len
    obtain ⟨u, hu, ru⟩ := kv_get kv (show kvs[i]? = some (kvs[i].1, kvs[i].2) by simp [hi])
    obtain ⟨f0, f1, f2, f3, f4, f5⟩ := hf it (by simp)
    rw [hl] at st
    refine wpAny_pyNext_dict_item st da hu fun key h' hkey st' sb => ?_
    rw [← hl] at st'
    have I1 : Inv X pins σ H { s with heap := h' } := I.turned (t' := s.toks) (fun b o hb e => (sb.2 b hb).trans e) f0 f1 f3 f4 f5
    obtain ⟨oi, e, c, d⟩ := id st'
    exact ⟨key, rfl, go_of (s := { s with heap := h' }) e c d (by decide) ⟨kV kvs[i].1, H, I1, is_kV hkey, ⟨rfl, kvs[i].1, kvs[i].2, by simp [hi], rfl⟩, st', fun b hb => (hf b hb).1⟩⟩
  done := by
    intro X hP hw hK hc i pins s σ H E I hf st hg
    subst hP hw hK
    obtain ⟨hi, hq⟩ := hg
    obtain ⟨vs, kv, da, _⟩ := I.dictAt hq
    have hl := kv.len
    obtain ⟨f0, f1, f2, f3, f4, f5⟩ := hf it (by simp)
    rw [hl] at st
    exact wpAny_pyNext_dict_end (I.ok.hd hc) st da (by simp; omega) fun h' eb => ⟨rfl, I.turned (t' := s.toks) (fun b o hb e => eb b o hb e) f0 f1 f3 f4 f5⟩
  self := fun _ _ _ _ _ st h => wpAny_pyIter_keyiter st h
def iDict (tl : TE) : TI := fun σ H R => tl σ H fun x H1 => ∃ a o kvs, x = .ref a ∧ H1 a = some (.frz o (.dK kvs)) ∧ R (Itd a o kvs) H1
theorem pi_dict {tg l : Expr} {tl : TE} (hl : PE X l tl) : PI X tg l (iDict tl) := by
  intro pins s σ H R I h
  refine thn (hl pins s σ H _ I h) fun v s1 ⟨x, H1, I1, r1, q1⟩ => ?_
  obtain ⟨a, o, kvs, e, hq, q⟩ := q1
  subst e
  cases r1
  obtain ⟨vs, kv, da, hs⟩ := I1.dictAt hq
  refine wpAny_pyIter_dict hs da ?_
  refine ⟨s1.heap.objs.size, [s1.heap.objs.size], _, _, H1, rfl, I1.kept (t' := s1.toks) fun b o e => Heap.get?_push_of_some _ e, turn_dict a _ o kvs, ⟨_, Heap.get?_push_size _ rfl, rfl, by rw [kv.len]; rfl⟩, fun b hb => ?_, q⟩
  have e : b = s1.heap.objs.size := by simpa using hb
  subst e
  exact I1.fpOk (Nat.le_refl _) (I1.hok.fresh (Nat.le_refl _))
/-- the loop over a frozen dict's keys -/
theorem for_dict {a : Addr} {o : Obj} {kvs : List (Key × V)} {g : TG} {tb : TS} {D : Ends} {σ : St} {H : Hp} (Pv : Nat → St → Hp → Prop) (h0 : Pv 0 σ H) (hl : ∀ i σ H, i ≤ kvs.length → Pv i σ H → H a = some (.frz o (.dK kvs)))
    (hs : ∀ i k v σ H, kvs[i]? = some (k, v) → Pv i σ H → g (kV k) σ H fun σ2 H2 => tb { D with nx := Pv (i + 1), ct := Pv (i + 1), bk := D.nx } σ2 H2) (hd : ∀ σ H, Pv kvs.length σ H → D.nx σ H) :
    ∃ W : Nat → Nat → St → Hp → Prop, (∃ m, W 0 m σ H) ∧ ∀ i m σ H, W i m σ H →
      ((Itd a o kvs).stop i H ∧ D.nx σ H) ∨ ((Itd a o kvs).go i H ∧ ∃ N : St → Hp → Prop, (∀ σ' H', N σ' H' → ∃ m', m' < m ∧ W (i + 1) m' σ' H') ∧ ∀ x H', (Itd a o kvs).yld i H x H' → g x σ H' fun σ2 H2 => tb { D with nx := N, ct := N, bk := D.nx } σ2 H2) := by
  refine ⟨fun i m σ H => m = kvs.length - i ∧ i ≤ kvs.length ∧ Pv i σ H, ⟨kvs.length, by simp, Nat.zero_le _, h0⟩, ?_⟩
  rintro i m σ H ⟨rfl, hi, p⟩
  have q := hl i σ H hi p
  by_cases hlt : i < kvs.length
  · refine .inr ⟨⟨hlt, q⟩, Pv (i + 1), fun σ' H' p' => ⟨kvs.length - (i + 1), by omega, rfl, hlt, p'⟩, fun x H' y => ?_⟩
    obtain ⟨e, k, v, hk, ex⟩ := y
    subst e ex
    exact hs i k v σ _ hk p
  · have e : i = kvs.length := by omega
    subst e
    exact .inl ⟨⟨Nat.le_refl _, q⟩, hd σ H p⟩
end
end L2

namespace L2
open PySem PySem.Spec PyProof.Rows
theorem vals_strs : ∀ {us : List Value} {zs : List Str}, StrsAre us zs → Vals (zs.map V.str) us
  | _, _, .nil => .nil
  | _, _, .cons _ k t => .cons ⟨_, rfl⟩ (vals_strs t)
section
variable {X : Cx}
end
end L2

namespace L2
open PySem PySem.Spec PyProof.Rows
/-! ### for (k, v) in d.items(): a frozen dict's pairs, each as a new tuple -/
theorem entry_itemiter_iter : entryFor table "dict_itemiterator.__iter__" = some Builtin.«dict_keyiterator.__iter__» :=
  entryFor_alias (id' := "dict_keyiterator.__iter__") (by kernel_rfl) rfl (by decide +kernel) (by kernel_rfl)
theorem iter_itemiter {prog : Program} {w : World} {A : Around} {E : Value → Shared → Prop} {s : Shared} {it d : Addr} {i n ep : Nat} {ok ov : Value} {Q : Value → Shared → Prop} (hit : IsItemIter s.heap it d i n ep ok ov) (h : Q (.ref it) s) : wpAny (model prog w) A (pyIter (.ref it)) Q E s := by
  have hT : s.TypeIs (.ref it) "dict_itemiterator" := ⟨_, hit, rfl⟩
  refine wpAny_pyIter_slot hT F.slot_dict_itemiterator_iter (wpAny_call_entry F.slot_dict_itemiterator_iter hT entry_itemiter_iter ?_ (F.args_dict_itemiterator_iter_1 _))
  show wpAny _ _ (ret (.ref it)) _ _ s
  exact wpAny_pure ⟨_, rfl, "dict_itemiterator", _, hT, F.slot_dict_itemiterator_next.lookup, h⟩
def Itm (a : Addr) (o : Obj) (kvs : List (Key × V)) : It :=
  ⟨fun i H => i < kvs.length ∧ H a = some (.frz o (.dK kvs)), fun i H x H' => ∃ k v p, kvs[i]? = some (k, v) ∧ x = .ref p ∧ H p = none ∧ H' = upd H p (.tup [kV k, v]), fun i H => kvs.length ≤ i ∧ H a = some (.frz o (.dK kvs))⟩
section
variable {X : Cx}
theorem turn_items {P : Program} {w : World} {K : PySem.W.Frag} {es : List Expr} {x1 : Nat} {tp : Pos} (a it : Addr) (o : Obj) (kvs : List (Key × V)) : Turn P w K (.Tuple es x1 tp) (Itm a o kvs) [it] it (fun i h => ∃ ok ov, IsItemIter h it a i kvs.length (epOf o) ok ov) where
  mem := by simp
  obj := fun i h st b hb => by
    have e : b = it := by simpa using hb
    subst e
    obtain ⟨ok, ov, st⟩ := st
    exact ⟨_, st, fun v z => by cases z⟩
  keep := fun i h h' st k => by
    obtain ⟨ok, ov, st⟩ := st
    exact ⟨ok, ov, k it (by simp) _ st⟩
  item := by
    intro X hP hw hK hc i pins s σ H E I hf st hg
    subst hP hw hK
    obtain ⟨hi, hq⟩ := hg
    obtain ⟨ok, ov, st⟩ := st
    obtain ⟨vs, kv, da, _⟩ := I.dictAt hq
    have hl := kv.len
    obtain ⟨u, hu, ru⟩ := kv_get kv (show kvs[i]? = some (kvs[i].1, kvs[i].2) by simp [hi])
    obtain ⟨f0, f1, f2, f3, f4, f5⟩ := hf it (by simp)
    have hit : it < s.heap.objs.size := Heap.lt_size st
    rw [hl] at st
    refine wpAny_pyNext_items_item st da hu fun key h' hkey st' ht hsz kp => ?_
    refine ⟨_, rfl, ?_⟩
    refine wpAny_letOwnedTupleGo_items (s := { s with heap := h' }) st' fun h'' st'' sb => ?_
    rw [← hl] at st''
    have I0 : Inv X pins σ H { s with heap := s.heap.update it fun _ => { cls := .type "dict_itemiterator", dict := none, data := .fields #[.none, .bool false, .ref a, .int (i + 1 : Nat) 0, .int kvs.length 0, .int (epOf o) 0, key, u], slots := #[] } } :=
      I.turned (t' := s.toks) (fun b ob hb e => by rw [Heap.get?_update_ne _ _ _ _ hb]; exact e) f0 f1 f3 f4 f5
    have hp : H s.heap.objs.size = none := I.hok.fresh (Nat.le_refl _)
    refine ⟨.ref s.heap.objs.size, upd H s.heap.objs.size (.tup [kV kvs[i].1, kvs[i].2]), I0.laid (t' := s.toks) (h' := h'') (fun b ob e => ?_) (by rw [Heap.size_update]; exact Nat.le_refl _) ?_, rfl, ⟨_, _, _, by simp [hi], rfl, hp, rfl⟩, ⟨key, u, st''⟩, fun b hb => ?_⟩
    · by_cases hb : b = it
      · subst hb
        rw [Heap.get?_update_self _ st rfl] at e
        rw [← e]
        exact st''
      · rw [Heap.get?_update_ne _ _ _ _ hb] at e
        exact (sb.2 b hb).trans (kp b ob hb e)
    · refine ⟨(show 2 ≤ sizeLine by decide), [key, u], .cons (is_kV hkey) (.cons ru .nil), ⟨_, (sb.2 _ (Nat.ne_of_gt hit)).trans ht, rfl, _, rfl⟩⟩
    · have e : b = it := by simpa using hb
      subst e
      rw [upd_ne (Nat.ne_of_lt hit)]
      exact f0
  done := by
    intro X hP hw hK hc i pins s σ H E I hf st hg
    subst hP hw hK
    obtain ⟨hi, hq⟩ := hg
    obtain ⟨ok, ov, st⟩ := st
    obtain ⟨vs, kv, da, _⟩ := I.dictAt hq
    have hl := kv.len
    obtain ⟨f0, f1, f2, f3, f4, f5⟩ := hf it (by simp)
    rw [hl] at st
    exact wpAny_pyNext_items_end (I.ok.hd hc) st da (by simp; omega) fun h' eb => ⟨rfl, I.turned (t' := s.toks) (fun b o hb e => eb b o hb e) f0 f1 f3 f4 f5⟩
  self := fun A i s Q E st h => by
    obtain ⟨ok, ov, st⟩ := st
    exact iter_itemiter st h
/-- d.items(), d frozen -/
def iItems (tl : TE) : TI := fun σ H R => tl σ H fun x H1 => ∃ a o kvs, x = .ref a ∧ H1 a = some (.frz o (.dK kvs)) ∧ R (Itm a o kvs) H1
theorem pi_items {es : List Expr} {x1 : Nat} {tp : Pos} {l : Expr} {tl : TE} {apos cpos : Pos} (hl : PE X l tl) (hbase : attributeBase l "items" X.env (eval l X.env) = eval l X.env := by rfl) (hline : (apos.endLine == cpos.line) = true := by rfl) :
    PI X (.Tuple es x1 tp) (.Call (.Attribute l "items" apos) [] [] cpos) (iItems tl) := by
  intro pins s σ H R I h
  refine wpAny_Call_method0_late hbase hline (thn (hl pins s σ H _ I h) fun v s1 ⟨x, H1, I1, r1, q1⟩ => ?_)
  obtain ⟨a, o, kvs, e, hq, q⟩ := q1
  subst e
  cases r1
  obtain ⟨vs, kv, da, hs⟩ := I1.dictAt hq
  obtain ⟨g, _⟩ := I1.hok a _ hq
  have ex : o.ExactDict := by
    obtain ⟨o', es', g', x', _⟩ := id da
    rw [g] at g'
    cases g'
    exact x'
  refine ⟨"dict", "dict.items", F.plainAttrs_dict, F.slot_dict_items, F.type_dict_items, da.dictOf.typeIs, (fun b e => by cases e; exact ⟨o, g, ex.2.1⟩), Calls.callWith_builtin rfl (PySem.evalArgs_none ?_)⟩
  refine call_meetsIn F.slot_dict_items da.dictOf.typeIs F.entry_dict_items (F.args_dict_items_1 _) (meets_dict_items (mixKind X.prog X.w) a hs) ⟨⟨vs, da.dictOf⟩, ?_⟩
  have I2 : Inv X pins σ H1 { s1 with heap := s1.heap.push { cls := .type "dict_items", data := .fields #[.ref a] } } := I1.kept (t' := s1.toks) fun b o e => Heap.get?_push_of_some _ e
  refine wpAny_pyIter_items (s := { s1 with heap := s1.heap.push { cls := .type "dict_items", data := .fields #[.ref a] } }) (knd := mixKind X.prog X.w) (kvs := vs) (ep := epOf o) ⟨_, Heap.get?_push_size _ rfl, rfl, rfl⟩ (da.push _) ?_
  refine ⟨_, [_], _, _, H1, rfl, I2.kept (t' := s1.toks) fun b o e => Heap.get?_push_of_some _ e, turn_items a _ o kvs, ⟨.none, .none, by rw [kv.len]; exact Heap.get?_push_size _ rfl⟩, fun b hb => ?_, q⟩
  have e := List.mem_singleton.mp hb
  subst e
  exact I2.fpOk (Nat.le_refl _) (I2.hok.fresh (Nat.le_refl _))
/-- the loop -/
theorem for_items {a : Addr} {o : Obj} {kvs : List (Key × V)} {g : TG} {tb : TS} {D : Ends} {σ : St} {H : Hp} (Pv : Nat → St → Hp → Prop) (h0 : Pv 0 σ H) (hl : ∀ i σ H, i ≤ kvs.length → Pv i σ H → H a = some (.frz o (.dK kvs)))
    (hs : ∀ i k v p σ H, kvs[i]? = some (k, v) → Pv i σ H → H p = none → g (.ref p) σ (upd H p (.tup [kV k, v])) fun σ2 H2 => tb { D with nx := Pv (i + 1), ct := Pv (i + 1), bk := D.nx } σ2 H2) (hd : ∀ σ H, Pv kvs.length σ H → D.nx σ H) :
    ∃ W : Nat → Nat → St → Hp → Prop, (∃ m, W 0 m σ H) ∧ ∀ i m σ H, W i m σ H →
      ((Itm a o kvs).stop i H ∧ D.nx σ H) ∨ ((Itm a o kvs).go i H ∧ ∃ N : St → Hp → Prop, (∀ σ' H', N σ' H' → ∃ m', m' < m ∧ W (i + 1) m' σ' H') ∧ ∀ x H', (Itm a o kvs).yld i H x H' → g x σ H' fun σ2 H2 => tb { D with nx := N, ct := N, bk := D.nx } σ2 H2) := by
  refine ⟨fun i m σ H => m = kvs.length - i ∧ i ≤ kvs.length ∧ Pv i σ H, ⟨kvs.length, by simp, Nat.zero_le _, h0⟩, ?_⟩
  rintro i m σ H ⟨rfl, hi, p⟩
  have q := hl i σ H hi p
  by_cases hlt : i < kvs.length
  · refine .inr ⟨⟨hlt, q⟩, Pv (i + 1), fun σ' H' p' => ⟨kvs.length - (i + 1), by omega, rfl, hlt, p'⟩, fun x H' y => ?_⟩
    obtain ⟨k, v, pa, hk, ex, hn, e⟩ := y
    subst e ex
    exact hs i k v pa σ H hk p hn
  · have e : i = kvs.length := by omega
    subst e
    exact .inl ⟨⟨Nat.le_refl _, q⟩, hd σ H p⟩
/-- d.clear(), dict(d) -/
theorem mt_dclear : MtR X "dict.clear" (fun x xs H Q => ∃ a kvs, x = .ref a ∧ xs = [] ∧ H a = some (.dK kvs) ∧ Q .non (upd H a (.dK []))) := by
  intro pins s σ H x xs v us Q I rx r h
  obtain ⟨a, kvs, rfl, rfl, e, q⟩ := h
  cases rx
  cases r
  exact d_clear I e fun s' I' => ⟨.non, _, I', rfl, q⟩
theorem call_dict_of : CallR X (.type "dict") (fun xs H Q => ∃ a kvs, xs = [.ref a] ∧ Rd H a (.dK kvs) ∧ ∀ p, H p = none → Q (.ref p) (upd H p (.dK kvs))) := by
  intro pins s σ H xs us Q I r h
  obtain ⟨a, kvs, rfl, e, q⟩ := h
  obtain ⟨u, rfl, rx⟩ := vals1 r
  cases rx
  exact d_copyOf I e fun p s' hp I' => ⟨.ref p, _, I', rfl, q p hp⟩
end
end L2

namespace L2
open PySem PySem.Spec PyProof.Rows
theorem ObjOk.there {P : Program} {w : World} {H : Hp} {h : Heap} {a : Addr} {o : HO} (x : ObjOk P w H h a o) : ∃ ob, h.get? a = some ob := by
  cases o with
  | lst xs => obtain ⟨_, _, _, _, e⟩ := x; exact ⟨_, e⟩
  | tup xs => obtain ⟨_, _, _, o, e, _⟩ := x; exact ⟨_, e⟩
  | dK kvs => obtain ⟨_, _, _, _, o, _, _, e, _⟩ := x; exact ⟨_, e⟩
  | dT kvs => obtain ⟨_, _, _, _, o, _, _, e, _⟩ := x; exact ⟨_, e⟩
  | set S n => obtain ⟨o, _, _, _, e, _⟩ := x; exact ⟨_, e⟩
  | ins C dx fs => obtain ⟨_, _, _, e, _⟩ := x; exact ⟨_, e⟩
  | own y => exact x
  | xd fs => obtain ⟨_, ⟨_, _, _, e, _⟩, _⟩ := x; exact ⟨_, e⟩
  | met f y => exact ⟨_, x⟩
  | rng lo hi => obtain ⟨_, _, _, e⟩ := x; exact ⟨_, e⟩
  | frz ob u => exact ⟨_, x.1⟩
  | tbl ps => exact ⟨_, x⟩
  | ext φ => exact x.2.1
section
variable {X : Cx} {pins : List (Addr × Obj)} {σ : St} {H : Hp} {s : Shared} {h' : Heap} {a : Addr} {o : HO}
theorem Inv.none_at (I : Inv X pins σ H s) (hn : s.heap.get? a = none) : H a = none := by
  cases e : H a with
  | none => rfl
  | some u =>
    obtain ⟨ob, q⟩ := (I.hok a u e).there
    rw [hn] at q
    cases q
/-- a new object at an address where nothing stood -/
theorem Inv.laidAt {t' : Nat} (I : Inv X pins σ H s) (k : ∀ b u, s.heap.get? b = some u → h'.get? b = some u) (hn : s.heap.get? a = none) (new : ObjOk X.prog X.w (upd H a o) h' a o) : Inv X pins σ (upd H a o) { s with heap := h', toks := t' } := by
  have hH := I.none_at hn
  have ne : ∀ b u, s.heap.get? b = some u → b ≠ a := fun b u q z => by subst z; rw [hn] at q; cases q
  refine I.un ⟨fun b u q _ _ _ => k b u q, fun b u q _ _ _ => ⟨u.slots, k b u q⟩, fun b u q n _ => by rw [upd_ne (ne b u q)]; exact n, fun b u q _ => ⟨u, k b u q⟩,
    fun b xs q => by rw [upd_ne (ne_of_none q hH)]; exact q, fun b u xs q => by rw [upd_ne (ne_of_none q hH)]; exact q, fun b ps q => ⟨#[], by rw [upd_ne (ne_of_none q hH), q]; simp⟩⟩ fun b u q => ?_
  by_cases hb : b = a
  · subst hb
    rw [upd_same] at q
    cases q
    exact new
  · rw [upd_ne hb] at q
    exact (I.hok b u q).stay (fun c v _ r => k c v r) (fun c r => by rw [upd_ne (ne_of_none r hH)]; exact r) fun c xs r => by rw [upd_ne (ne_of_none r hH)]; exact r
end
theorem strs_at : ∀ (us : List Value) (zs : List Str), us.length = zs.length → (∀ (j : Nat) (v : Value) (z : Str), us[j]? = some v → zs[j]? = some z → ∃ t, v = Value.str z t) → StrsAre us zs
  | [], [], _, _ => .nil
  | [], _ :: _, h, _ => by simp at h
  | _ :: _, [], h, _ => by simp at h
  | u :: us, z :: zs, h, f => by
    obtain ⟨t, rfl⟩ := f 0 u z rfl rfl
    exact .cons _ _ (strs_at us zs (by simpa using h) fun j v y h1 h2 => f (j + 1) v y (by simpa using h1) (by simpa using h2))
theorem kv_key : ∀ {kvs : List (Key × V)} {vs : List (Key × Value)} {i : Nat} {q : Key × Value}, KV kvs vs → vs[i]? = some q → (kvs.map (·.1))[i]? = some q.1
  | _, _, _, _, .nil, e => by simp at e
  | _, _, 0, _, .cons r _, e => by
    simp at e
    subst e
    simp [r.1]
  | _, _, i + 1, q, .cons _ t, e => by
    have h := kv_key (i := i) (q := q) t (by simpa using e)
    simpa using h
section
variable {X : Cx}
/-- sorted(a dict whose keys are texts) -/
theorem call_sortedD (hc : X.calm = true) : CallR X (.builtin "sorted") (fun xs H Q => ∃ p kvs zs, xs = [.ref p] ∧ Rd H p (.dK kvs) ∧ kvs.map (·.1) = zs.map Sum.inr ∧ zs.length < 64 ∧ ∀ l ys, H l = none → ys.Perm zs → sortedS ys = true → Q (.ref l) (upd H l (.lst (ys.map V.str)))) := by
  intro pins s σ H xs us Q I r h
  obtain ⟨p, kvs, zs, rfl, hq, hz, h64, q⟩ := h
  obtain ⟨u, rfl, rx⟩ := vals1 r
  cases rx
  obtain ⟨hlen, lo, vs, kv, dd⟩ := hq.ok I.hok
  obtain ⟨ep, da⟩ := dd.dictAt
  have hl := kv.len
  have hl2 : kvs.length = zs.length := by simpa using congrArg List.length hz
  refine Calls.call_function_entry kind_sorted plain_sorted entry_sorted (args_sorted1 _) ?_
  unfold Builtin.«sorted»
  refine wpAny_bind (m := checkCount "sorted" 1 1 _) (wpAny_pure ?_)
  refine wpAny_bind (PySem.W.kdu_collect (PySem.W.kdl_dict (knd := mixKind X.prog X.w) (kvs := vs) (ep := ep) lo) (I.ok.hd hc) da (by rw [← hl]; exact hlen) fun h' tk acc hk hacc => ?_)
  have hS : StrsAre acc.toList zs := by
    refine strs_at _ _ (by rw [Array.length_toList, hacc.1, ← hl, hl2]) fun j v z h1 h2 => ?_
    obtain ⟨k, x, hx, hkv⟩ := hacc.2 j v (by rw [← Array.getElem?_toList]; exact h1)
    have hk' := kv_key kv hx
    rw [hz, List.getElem?_map, h2] at hk'
    have e : Sum.inr z = k := by simpa using hk'
    subst e
    exact is_kV hkv
  have hal : acc.toList.length = zs.length := by
    rw [Array.length_toList, hacc.1, ← hl, hl2]
  refine wpAny_bind (wpAny_newList ?_ (by rw [hal, ← hl2]; exact hlen))
  have hoL : (h'.push (seqObj "list" acc.toList.toArray 0)).get? h'.objs.size = some (seqObj "list" acc.toList.toArray 0) := Heap.get?_push_size _ rfl
  refine wpAny_bind (wpAny_holding (wpAny_call_entry slot_list_sort ⟨_, hoL, rfl⟩ entry_list_sort (list_sort_treeK (s := { s with heap := h'.push (seqObj "list" acc.toList.toArray 0), toks := tk }) strKind_oneLt hoL hS.keysOf (fun v₁ v₂ rest e => keyKind_strs (by rw [← e]; exact hS)) (by rw [hal]; exact h64) fun st' hp hs => ⟨_, rfl, ?_⟩) (args_list_sort _)))
  obtain ⟨ss', h1, h2, h3⟩ := sorted_out_str hS hp hs
  obtain ⟨e, he⟩ := sortedHeap_at (out := (arrOf st').map (·.2)) hoL
  have hn : s.heap.get? h'.objs.size = none := by
    cases q : s.heap.get? h'.objs.size with
    | none => rfl
    | some ob => exact absurd (Heap.lt_size (hk _ _ q)) (Nat.lt_irrefl _)
  refine wpAny_pure ⟨_, rfl, .ref h'.objs.size, _, I.laidAt (t' := tk) (o := .lst (ss'.map V.str)) (fun b ob q => ?_) hn ?_, rfl, q _ ss' (I.none_at hn) h2 h3⟩
  · have q' := hk b ob q
    have hlt := Heap.lt_size q'
    rw [sortedHeap_old (Nat.ne_of_lt hlt) (by rw [size_push']; exact Nat.lt_succ_of_lt hlt)]
    exact Heap.get?_push_of_some _ q'
  · exact ⟨by rw [List.length_map, h2.length_eq, ← hl2]; exact hlen, _, e, vals_strs h1, he⟩
end
end L2

namespace L2
open PySem PySem.Spec PyProof.Rows
/-! ### for (i, x) in enumerate(a list) -/
section
variable {X : Cx}
end
end L2

namespace L2
open PySem PySem.Spec PyProof.Rows
section
variable {X : Cx}
end
end L2

/-! DICTS READ, FROZEN OR NOT (own work). -/
namespace L2
open PySem PySem.Spec PyProof.Rows
section
variable {X : Cx}
/-- len of a dict, frozen or not -/
theorem call_lenR : CallR X (.builtin "len") (fun xs H Q => ∃ a kvs, xs = [V.ref a] ∧ Rd H a (.dK kvs) ∧ Q (.int kvs.length) H) := by
  intro pins s σ H xs us Q I r h
  obtain ⟨a, kvs, rfl, ha, q⟩ := h
  obtain ⟨u, rfl, rx⟩ := vals1 r
  cases rx
  exact d_len I ha fun t s' J => ⟨.int kvs.length, H, J, ⟨t, rfl⟩, q⟩
/-- isinstance(d, T) of a dict, frozen or not -/
theorem call_isiD : CallR X (.builtin "isinstance") (fun xs H Q => ∃ a kvs n b, xs = [V.ref a, .ty n] ∧ Rd H a (.dK kvs) ∧ PySem.W.kitOne X.K (.type "dict") (.type n) = some b ∧ Q (.bl b) H) := by
  intro pins s σ H xs us Q I r h
  obtain ⟨a, kvs, n, b, rfl, ha, e, q⟩ := h
  obtain ⟨u, w', rfl, rx, rc⟩ := vals2 r
  cases rx
  cases (show w' = Value.type n from rc)
  obtain ⟨_, _, vs, _, o, es, ep, h1, h2, _⟩ := dk_rd I.hok ha
  exact PySem.W.kia_one PySem.W.kitx_dict I.kIn ⟨o, h1, h2.1⟩ e (fun z => nomatch z) fun tk => ⟨.bl b, H, I.tok tk, rfl, q⟩
/-- a statement while a dict stands frozen: it is frozen now, unless it is so already -/
def sFrzR (t : TS) : TS := fun D σ H => ∃ a kvs, Rd H a (.dK kvs) ∧ (∀ o, H a = some (.frz o (.dK kvs)) → t D σ H) ∧ (H a = some (.dK kvs) → ∀ o, t (frzE a o kvs D) σ (upd H a (.frz o (.dK kvs))))
theorem ps_frzR {st : Stmt} {t : TS} (h : PS X st t) : PS X st (sFrzR t) := by
  intro pins s σ H D I hq
  obtain ⟨a, kvs, rd, h1, h2⟩ := hq
  rcases rd with e | ⟨o, e⟩
  · exact ps_frz h pins s σ H D I ⟨a, kvs, e, h2 e⟩
  · exact h pins s σ H D I (h1 o e)
end
/-- alike all the way down: scalars, tuples, lists, dicts with text keys (for a law's own same or alike) -/
inductive Lq (H : Hp) : Nat → V → V → Prop
  | non {n : Nat} : Lq H n .non .non
  | bl {n : Nat} {b : Bool} : Lq H n (.bl b) (.bl b)
  | int {n : Nat} {i : Int} : Lq H n (.int i) (.int i)
  | str {n : Nat} {z : Str} : Lq H n (.str z) (.str z)
  | tup {n : Nat} {a b : Addr} {xs ys : List V} (ha : Rd H a (.tup xs)) (hb : Rd H b (.tup ys)) (hl : xs.length = ys.length) (h : ∀ (i : Nat) (x y : V), xs[i]? = some x → ys[i]? = some y → Lq H n x y) : Lq H (n + 1) (.ref a) (.ref b)
  | lst {n : Nat} {a b : Addr} {xs ys : List V} (ha : H a = some (.lst xs)) (hb : H b = some (.lst ys)) (hl : xs.length = ys.length) (h : ∀ (i : Nat) (x y : V), xs[i]? = some x → ys[i]? = some y → Lq H n x y) : Lq H (n + 1) (.ref a) (.ref b)
  | dct {n : Nat} {a b : Addr} {kvs kws : List (Key × V)} (f : Key → V) (ha : Rd H a (.dK kvs)) (hb : Rd H b (.dK kws)) (hl : kvs.length = kws.length)
      (hf : ∀ (k : Key) (v : V), (k, v) ∈ kws → valV kvs k = some (f k)) (hg : ∀ (k : Key) (v : V), (k, v) ∈ kws → valV kws k = some v) (h : ∀ (k : Key) (v : V), (k, v) ∈ kws → Lq H n (f k) v) : Lq H (n + 1) (.ref a) (.ref b)
theorem Rd.same {H H' : Hp} (s : Same H H') {a : Addr} {u : HO} (r : Rd H a u) : Rd H' a u := by
  rcases r with e | ⟨o, e⟩
  · exact .inl (s _ _ e)
  · exact .inr ⟨o, s _ _ e⟩
theorem Lq.same {H H' : Hp} (s : Same H H') {n : Nat} {x y : V} (h : Lq H n x y) : Lq H' n x y := by
  induction h with
  | non => exact .non
  | bl => exact .bl
  | int => exact .int
  | str => exact .str
  | tup ha hb hl _ ih => exact .tup (ha.same s) (hb.same s) hl ih
  | lst ha hb hl _ ih => exact .lst (s _ _ ha) (s _ _ hb) hl ih
  | dct f ha hb hl hf hg _ ih => exact .dct f (ha.same s) (hb.same s) hl hf hg ih
/-- the same while a dict stands frozen -/
theorem Rd.frz {H : Hp} {a c : Addr} {o : Obj} {kvs : List (Key × V)} (e : H a = some (.dK kvs)) {kws : List (Key × V)} (r : Rd H c (.dK kws)) : Rd (upd H a (.frz o (.dK kvs))) c (.dK kws) := by
  by_cases z : c = a
  · subst z
    rcases r with q | ⟨o', q⟩
    · rw [e] at q
      cases q
      exact .inr ⟨o, upd_same⟩
    · rw [e] at q
      cases q
  · rcases r with q | ⟨o', q⟩
    · exact .inl ((upd_ne z).trans q)
    · exact .inr ⟨o', (upd_ne z).trans q⟩
theorem Lq.frz {H : Hp} {a : Addr} {o : Obj} {kvs : List (Key × V)} (e : H a = some (.dK kvs)) {n : Nat} {x y : V} (h : Lq H n x y) : Lq (upd H a (.frz o (.dK kvs))) n x y := by
  have ne : ∀ b u, H b = some u → u ≠ .dK kvs → upd H a (.frz o (.dK kvs)) b = some u := fun b u q n => (upd_ne fun z => by rw [z, e] at q; cases q; exact n rfl).trans q
  have nr : ∀ b xs, Rd H b (.tup xs) → Rd (upd H a (.frz o (.dK kvs))) b (.tup xs) := fun b xs r => by
    rcases r with q | ⟨o', q⟩
    · exact .inl (ne b _ q (by simp))
    · exact .inr ⟨o', ne b _ q (by simp)⟩
  induction h with
  | non => exact .non
  | bl => exact .bl
  | int => exact .int
  | str => exact .str
  | tup ha hb hl _ ih => exact .tup (nr _ _ ha) (nr _ _ hb) hl ih
  | lst ha hb hl _ ih => exact .lst (ne _ _ ha (by simp)) (ne _ _ hb (by simp)) hl ih
  | dct f ha hb hl hf hg _ ih => exact .dct f (ha.frz e) (hb.frz e) hl hf hg ih
end L2

/-! EXCEPTIONS WITH A DICT OF THEIR OWN (own work): what a frame that is left writes. -/
namespace L2
open PySem
section
variable {M : Model} {A : Around} {E : Value → Shared → Prop} {s : Shared} {base : Heap} {env : Env} {outer : List Env} {L x : Addr} {P : Addr → Prop} {C : Value} {od : Option Addr}
end
end L2

/-! EXCEPTIONS IN THE LAYER (own work): how one lies behind a call, how it passes, raise, try. -/
namespace L2
open PySem PySem.Spec PyProof.Rows
/-- an address of ours: new since the entry, no name's, no pin's, untracked -/
structure Our (X : Cx) (pins : List (Addr × Obj)) (H : Hp) (b : Addr) : Prop where
  new : X.s₀.heap.objs.size ≤ b
  loc : b ≠ X.env.locals
  cel : ∀ y c, X.env.cells.lookup y = some c → c ≠ b
  pin : ∀ p ∈ X.pn ++ pins, p.1 ≠ b
  unt : H b = none
section
variable {X : Cx} {pins : List (Addr × Obj)} {σ : St} {H H' : Hp} {s s' : Shared} {x b : Addr} {C : Value} {od : Option Addr}
theorem Inv.our' (I : Inv X pins σ H s) (h : s.heap.objs.size ≤ b) (hn : H' b = none) : Our X pins H' b := by
  have lt : ∀ c o, s.heap.get? c = some o → c ≠ b := fun c o e z => by
    subst z
    exact absurd (Nat.lt_of_lt_of_le (Heap.lt_size e) h) (Nat.lt_irrefl _)
  refine ⟨Nat.le_trans I.sz h, fun z => ?_, fun y c e => ?_, fun p hp => ?_, hn⟩
  · obtain ⟨m, ⟨o, _, _, ho, _⟩, _⟩ := I.loc
    exact lt _ o ho z.symm
  · obtain ⟨v, o, ho, _⟩ := I.cell y c e
    exact lt c o ho
  · exact lt p.1 _ (I.pin p hp).1
theorem Inv.our (I : Inv X pins σ H s) (h : s.heap.objs.size ≤ b) : Our X pins H b := I.our' h (I.hok.fresh h)
end
section
variable {X : Cx} {k : Nat} {f C : Addr} {fd : FuncData} {ps : List Str} {sp : Sp} {dvs : List V} {ds : List Value} {E : XS} {x m : Str} {p pos apos : Pos} {e o : Expr} {es : List Expr} {ta : TE} {t : TA}
end
end L2

/-! OWN EXCEPTIONS OVER ValueError (own work): made with an __init__ of the text's, with fields. -/
namespace L2
open PySem PySem.Spec PyProof.Rows Builtin Builtin.ObjectAttr
abbrev bmV : List Value := [.type "ValueError", .type "Exception", .type "BaseException", .type "object"]
/-- own classes ahead of ValueError's line -/
def tailV : List Value → Bool
  | [] => false
  | v :: r => (v :: r) == bmV || match v with | .ref _ => tailV r | _ => false
/-- what of the text an exception's class must have -/
structure XCl (K : PySem.W.Frag) (C : Addr) : Prop where
  at_ : ∃ (nm q : Str) (N : Addr) (bs bm : List Value) (sn : List Str) (sub : List Value) (ab : Bool) (col : Option Bool) (dd : Option Addr) (k0 k1 k2 k3 k5 : Option Value), K.lookup C = some (excClassObj nm q C N bs bm true sn sub ab col dd k0 k1 k2 k3 k5 "ValueError.__new__") ∧ tailV bm = true
  ga : PySem.W.findIn K (.ref C) "__getattribute__" = some (some (.builtin "BaseException.__getattribute__"))
  gx : PySem.W.findIn K (.ref C) "__getattr__" = some none
  sa : PySem.W.findIn K (.ref C) "__setattr__" = some (some (.builtin "object.__setattr__"))
  kp : PySem.W.keepIn K (.ref C) = true
theorem xcl_mk {K : PySem.W.Frag} {C N : Addr} {nm q : Str} {bs bm : List Value} {sn : List Str} {sub : List Value} {ab : Bool} {col : Option Bool} {dd : Option Addr} {k0 k1 k2 k3 k5 : Option Value}
    (l : K.lookup C = some (excClassObj nm q C N bs bm true sn sub ab col dd k0 k1 k2 k3 k5 "ValueError.__new__")) (t : tailV bm = true) (ga : PySem.W.findIn K (.ref C) "__getattribute__" = some (some (.builtin "BaseException.__getattribute__")))
    (gx : PySem.W.findIn K (.ref C) "__getattr__" = some none) (sa : PySem.W.findIn K (.ref C) "__setattr__" = some (some (.builtin "object.__setattr__"))) (kp : PySem.W.keepIn K (.ref C) = true) : XCl K C :=
  ⟨⟨nm, q, N, bs, bm, sn, sub, ab, col, dd, k0, k1, k2, k3, k5, l, t⟩, ga, gx, sa, kp⟩
section
variable {prog : Program} {w : World} {A : Around} {E : Value → Shared → Prop} {h : Heap} {g : Array GenState} {d : Drawn} {t : Nat} {os : OsState}
variable {nm q : Str} {C N : Addr} {bs bm : List Value} {sn : List Str} {sub : List Value} {ab : Bool} {col : Option Bool} {dd : Option Addr} {k0 k1 k2 k3 k5 : Option Value}
end
section
variable {prog : Program} {w : World} {A : Around} {E : Value → Shared → Prop} {s : Shared} {K : PySem.W.Frag} {x C dx t0 : Addr} {name : Str} {v : Value}
end
end L2

/-! RAISE, TRY, FIELDS OF EXCEPTIONS (own work). -/
namespace L2
open PySem PySem.Spec PyProof.Rows Builtin Builtin.ObjectAttr
section
variable {P : Program} {w : World} {H : Hp} {h : Heap} {x C dx t : Addr} {od : Option Addr}
end
section
variable {X : Cx} {pins : List (Addr × Obj)} {σ : St} {H : Hp} {s : Shared} {x dx C : Addr} {φ : Heap → Prop} {od : Option Addr}
/-- something of ours is looked after from now on -/
theorem Inv.track {o : HO} (I : Inv X pins σ H s) (hx : Our X pins H x) (new : ObjOk X.prog X.w (upd H x o) s.heap x o) : Inv X pins σ (upd H x o) s := by
  have ne : ∀ b u, H b = some u → b ≠ x := fun b u q z => by rw [z, hx.unt] at q; cases q
  refine I.step (h' := s.heap) (g' := s.gens) (d' := s.drawn) (t' := s.toks) (ch := [x]) (fun b hb => ?_) (fun b o _ _ _ e _ => e) (fun b o _ _ _ e _ => ⟨o.slots, e⟩) (fun b o hc e n => ?_) (fun b o _ e => ⟨o, e⟩) (fun b xs e => ?_) (fun b u xs e => ?_) (fun b ps e => ⟨#[], ?_⟩) (fun m hm => hm) (fun b u q => ?_) I.bare
  · rw [List.mem_singleton.mp hb]
    exact ⟨.inr hx.new, hx.loc, hx.cel, hx.pin⟩
  · rw [upd_ne fun z => hc (by rw [z]; exact List.mem_singleton.mpr rfl)]
    exact n
  · rw [upd_ne (ne b _ e)]; exact e
  · rw [upd_ne (ne b _ e)]; exact e
  · rw [upd_ne (ne b _ e), e]; simp
  · by_cases hb : b = x
    · subst hb
      rw [upd_same] at q
      cases q
      exact new
    · rw [upd_ne hb] at q
      exact (I.hok b u q).stay (fun _ _ _ r => r) (fun c r => by rw [upd_ne (ne c _ r)]; exact r) fun c xs r => by rw [upd_ne (ne c _ r)]; exact r
end
section
variable {X : Cx} {k : Nat} {f C : Addr} {fd : FuncData} {ps : List Str} {sp : Sp} {dvs : List V} {ds : List Value} {E : XS} {x m : Str} {p pos apos : Pos} {e o : Expr} {es : List Expr} {ta te : TE} {t : TA}
end
end L2

/-! FIELDS OF EXCEPTIONS, THEIR BASE'S __init__, TRY (own work). -/
namespace L2
open PySem PySem.Spec PyProof.Rows Builtin Builtin.ObjectAttr
section
variable {X : Cx} {o e value : Expr} {f : Str} {pos pos' tpos : Pos} {ta tv : TE}
end
/-! ### B.__init__(self, ..), B an own class whose __init__ is ValueError's -/
section
variable {prog : Program} {w : World} {A : Around} {E : Value → Shared → Prop} {h : Heap} {g : Array GenState} {d : Drawn} {t : Nat} {os : OsState}
variable {nm q : Str} {C N x t0 : Addr} {bs bm : List Value} {sn : List Str} {sub : List Value} {ab : Bool} {col : Option Bool} {dd : Option Addr} {k0 k1 k2 k3 k5 : Option Value}
end
section
variable {X : Cx} {B : Addr} {y : Str} {p pos apos : Pos} {e : Expr} {es : List Expr} {t : TA}
end
/-! ### try .. except C as n -/
section
variable {X : Cx} {pins : List (Addr × Obj)} {σ : St} {H : Hp} {s : Shared} {x : Addr} {E : Value → Shared → Prop}
end
section
variable {X : Cx} {body : List Stmt} {cx n : Str} {b₀ : Stmt} {suite : List Stmt} {np hp pos : Pos} {CN : Addr} {i : Nat} {tb : Ends → TS} {ts : Addr → TS}
end
end L2

/-! zip OF TWO TUPLES (own work, on the pattern of the library's zip of two lists). -/
namespace L2
open PySem
section
variable {prog : Program} {w : World} {A : Around} {E : Value → Shared → Prop} {s : Shared}
theorem nextT_item {it t : Addr} {i : Nat} {xs : Array Value} {x : Value} {Q : Value → Shared → Prop} (hi : s.heap.IsTupleIter it t i) (ht : s.heap.IsTuple t xs) (hx : xs[i]? = some x)
    (hQ : ∀ h', h'.IsTupleIter it t (i + 1) → Heap.SameBut it s.heap h' → Q x { s with heap := h' }) : wpAny (model prog w) A (Builtin.SmallTypes.nextOf (.ref it)) Q E s := by
  obtain ⟨o, ho, hc, hd⟩ := id hi
  obtain ⟨ot, hot, _, nt, hdt⟩ := ht
  unfold Builtin.SmallTypes.nextOf
  refine wpAny_bind (wpAny_callSpecial?_slot (name := Str.ofString "__next__") hi.typeIs F.slot_tuple_iterator_next (wpAny_call_entry F.slot_tuple_iterator_next hi.typeIs F.entry_tuple_iterator_next ?_ (F.args_tuple_iterator_next_1 _)))
  show wpAny _ _ (field (.ref it) 0 >>= _) _ _ s
  refine wpAny_bind (wpAny_field ho hd (x := .ref t) rfl ?_)
  show wpAny _ _ (if (Value.ref t == Value.none) = true then _ else _) _ _ s
  rw [if_neg (show ¬ ((Value.ref t == Value.none) = true) from Bool.false_ne_true)]
  show wpAny _ _ (field (.ref it) 1 >>= _) _ _ s
  refine wpAny_bind (wpAny_field ho hd (x := .int i 0) rfl ?_)
  show wpAny _ _ (seqItems? (.ref t) >>= _) _ _ s
  refine wpAny_bind (wpAny_seqItems hot hdt ?_)
  simp only [Int.toNat_natCast, hx]
  refine wpAny_bind (wpAny_setField ho hd (by simp) (wpAny_pure ⟨x, rfl, wpAny_pure (hQ _ ⟨_, Heap.get?_update_self _ ho (Obj.isFreed_of_fields (Obj.data_mapFields hd _)), (Obj.cls_mapFields ..).trans hc, ?_⟩ (Heap.SameBut.update ..))⟩))
  rw [Obj.data_mapFields hd]
  simp [rawInt]
theorem nextT_end {it t : Addr} {i : Nat} {xs : Array Value} {Q : Value → Shared → Prop} (hh : A.handled = none) (hi : s.heap.IsTupleIter it t i) (ht : s.heap.IsTuple t xs) (hx : xs[i]? = none)
    (hE : ∀ h' e, Heap.ExtBut it s.heap h' → (∃ o, h'.get? e = some o ∧ o.cls = .type "StopIteration") → E (.ref e) { s with heap := h' }) : wpAny (model prog w) A (Builtin.SmallTypes.nextOf (.ref it)) Q E s := by
  obtain ⟨o, ho, hc, hd⟩ := id hi
  obtain ⟨ot, hot, _, nt, hdt⟩ := ht
  unfold Builtin.SmallTypes.nextOf
  refine wpAny_bind (wpAny_callSpecial?_slot (name := Str.ofString "__next__") hi.typeIs F.slot_tuple_iterator_next (wpAny_call_entry F.slot_tuple_iterator_next hi.typeIs F.entry_tuple_iterator_next ?_ (F.args_tuple_iterator_next_1 _)))
  show wpAny _ _ (field (.ref it) 0 >>= _) _ _ s
  refine wpAny_bind (wpAny_field ho hd (x := .ref t) rfl ?_)
  show wpAny _ _ (if (Value.ref t == Value.none) = true then _ else _) _ _ s
  rw [if_neg (show ¬ ((Value.ref t == Value.none) = true) from Bool.false_ne_true)]
  show wpAny _ _ (field (.ref it) 1 >>= _) _ _ s
  refine wpAny_bind (wpAny_field ho hd (x := .int i 0) rfl ?_)
  show wpAny _ _ (seqItems? (.ref t) >>= _) _ _ s
  refine wpAny_bind (wpAny_seqItems hot hdt ?_)
  simp only [Int.toNat_natCast, hx]
  refine wpAny_bind (wpAny_rule (wpAny_bind (wpAny_setField ho hd (by simp) ?_)))
  show wpAny _ _ (newExc (.type "StopIteration") [] >>= _) _ _ _
  refine wpAny_bind ?_
  simp only [newExc, newTuple]
  refine wpAny_bind (wpAny_newObj_type ?_ (by size_fits))
  refine wpAny_bind (m := firstArgMember _ _) (wpAny_of_eq (a := Value.none) (by first | rfl | (simp only [firstArgMember]; rfl)) ?_)
  refine wpAny_newObj_type ?_ (by size_fits)
  simp only [raiseNew]
  refine wpAny_bind (wpAny_handled ?_)
  first | rw [show A.in1.handled = none from hh] | rw [hh]
  refine wpAny_bind (wpAny_pure (wpAny_throw ?_))
  exact hE _ _ (((Heap.SameBut.update ..).extBut.push _).push _) ⟨_, Heap.get?_push_size _ rfl, rfl⟩
/-- the state of a zip of the tuples t1, t2 at place k -/
structure ZT (h : Heap) (z TI TO i1 i2 t1 t2 : Addr) (k : Nat) (xs ys : Array Value) (f0 : Value) : Prop where
  zp : IsZip h z TI TO f0
  ti : IsPair h TI (.ref i1) (.ref i2)
  to : ∃ a b, IsPair h TO a b
  j1 : h.IsTupleIter i1 t1 k
  j2 : h.IsTupleIter i2 t2 k
  l1 : h.IsTuple t1 xs
  l2 : h.IsTuple t2 ys
theorem zipT_item {z TI TO i1 i2 t1 t2 : Addr} {k : Nat} {xs ys : Array Value} {x y : Value} {Q : Value → Shared → Prop} (D : ZipApart z TI TO i1 i2 t1 t2) (Z : ZT s.heap z TI TO i1 i2 t1 t2 k xs ys .none) (hx : xs[k]? = some x) (hy : ys[k]? = some y)
    (hQ : ∀ h', ZT h' z TI TO i1 i2 t1 t2 (k + 1) xs ys (rawInt s.heap.objs.size) → IsPair h' s.heap.objs.size x y → h'.objs.size = s.heap.objs.size + 1 → (∀ c o, c ≠ z → c ≠ TO → c ≠ i1 → c ≠ i2 → s.heap.get? c = some o → h'.get? c = some o) → Q (.ref s.heap.objs.size) { s with heap := h' }) :
    wpAny (model prog w) A (Builtin.«zip.__next__» ⟨[.ref z], []⟩) (fun fin s' => ∃ v, fin = .done (.ret v) ∧ Q v s') E s := by
  obtain ⟨hz, hTI, ⟨a, b, hTO⟩, h1, h2, hl1, hl2⟩ := Z
  show wpAny _ _ (field (.ref z) 2 >>= _) _ _ _
  refine wpAny_bind (wpAny_field hz rfl (x := .bool false) rfl ?_)
  show wpAny _ _ (field (.ref z) 3 >>= _) _ _ _
  refine wpAny_bind (wpAny_field hz rfl (x := .ref TI) rfl ?_)
  refine wpAny_bind (wpAny_seqItems hTI rfl ?_)
  show wpAny _ _ (Builtin.SmallTypes.ownedTupleIsFree (.ref z) >>= _) _ _ _
  refine wpAny_bind ?_
  unfold Builtin.SmallTypes.ownedTupleIsFree
  refine wpAny_bind (wpAny_field hz rfl (x := .none) rfl (wpAny_pure ?_))
  simp only [if_true]
  refine wpAny_bind (wpAny_rule ?_)
  refine wpAny_bind (wpAny_field hz rfl (x := .ref TO) rfl ?_)
  refine wpAny_bind (wpAny_setField_rec hz (by simp) fun g1 z1 b1 => ?_)
  replace z1 : IsZip g1 z TI TO .ellipsis := z1
  refine wpAny_bind ?_
  simp only [List.zipIdx_cons, List.zipIdx_nil, List.forIn_cons, List.forIn_nil]
  refine wpAny_bind (wpAny_bind (wpAny_onRaise ?_))
  show wpAny _ _ (Builtin.SmallTypes.nextOf (.ref i1) >>= _) _ _ _
  refine wpAny_bind (nextT_item (s := { s with heap := g1 }) (h1.extBut b1.extBut D.i1z) (hl1.extBut b1.extBut D.l1z) hx fun g2 j2 b2 => wpAny_pure ?_)
  have o2 : IsPair g2 TO a b := b2.extBut _ _ D.TOi1 (b1.extBut _ _ D.TOz hTO)
  refine wpAny_bind (wpAny_seqItems o2 rfl ?_)
  refine wpAny_bind (wpAny_updateSeq_pair o2 fun g3 o3 b3 => ?_)
  replace o3 : IsPair g3 TO x b := o3
  refine wpAny_bind (wpAny_letGo (wpAny_pure ?_))
  refine wpAny_bind (wpAny_bind (wpAny_onRaise ?_))
  show wpAny _ _ (Builtin.SmallTypes.nextOf (.ref i2) >>= _) _ _ _
  refine wpAny_bind (nextT_item (s := { s with heap := g3 }) (((h2.extBut b1.extBut D.i2z).extBut b2.extBut D.i12.symm).extBut b3.extBut D.TOi2.symm) (((hl2.extBut b1.extBut D.l2z).extBut b2.extBut D.l2i1).extBut b3.extBut D.l2TO) hy fun g4 j4 b4 => wpAny_pure ?_)
  have o4 : IsPair g4 TO x b := b4.extBut _ _ D.TOi2 o3
  refine wpAny_bind (wpAny_seqItems o4 rfl ?_)
  refine wpAny_bind (wpAny_updateSeq_pair o4 fun g5 o5 b5 => ?_)
  replace o5 : IsPair g5 TO x y := o5
  refine wpAny_bind (wpAny_letGo (wpAny_pure (wpAny_pure ?_)))
  refine wpAny_bind (wpAny_seqItems o5 rfl ?_)
  refine wpAny_bind (wpAny_newTuple ?_)
  have sz : g5.objs.size = s.heap.objs.size := by rw [b5.1, b4.1, b3.1, b2.1, b1.1]
  have z5 : IsZip g5 z TI TO .ellipsis := b5.extBut _ _ D.TOz.symm (b4.extBut _ _ D.i2z.symm (b3.extBut _ _ D.TOz.symm (b2.extBut _ _ D.i1z.symm z1)))
  have k5 : ∀ c o, c ≠ z → c ≠ TO → c ≠ i1 → c ≠ i2 → s.heap.get? c = some o → g5.get? c = some o := fun c o c1 c2 c3 c4 e => b5.extBut _ _ c2 (b4.extBut _ _ c4 (b3.extBut _ _ c2 (b2.extBut _ _ c3 (b1.extBut _ _ c1 e))))
  have p1 : g5.IsTupleIter i1 t1 (k + 1) := ((j2.extBut b3.extBut D.TOi1.symm).extBut b4.extBut D.i12).extBut b5.extBut D.TOi1.symm
  have p2 : g5.IsTupleIter i2 t2 (k + 1) := j4.extBut b5.extBut D.TOi2.symm
  have zlt : z < g5.objs.size := Heap.lt_size z5
  show wpAny _ _ (Builtin.SmallTypes.ownedTupleHandOut (.ref z) (.ref g5.objs.size) >>= _) _ _ _
  refine wpAny_bind ?_
  unfold Builtin.SmallTypes.ownedTupleHandOut
  have z6 : IsZip (g5.push { cls := .type "tuple", data := .seq #[x, y] }) z TI TO .ellipsis := Heap.get?_push_of_some _ z5
  refine wpAny_bind (wpAny_setField_rec z6 (by simp) fun g7 z7 b7 => ?_)
  replace z7 : IsZip g7 z TI TO (rawInt g5.objs.size) := z7
  refine wpAny_setField_rec z7 (by simp) fun g8 z8 b8 => ?_
  replace z8 : IsZip g8 z TI TO (rawInt g5.objs.size) := z8
  have up : ∀ c o, c ≠ z → g5.get? c = some o → g8.get? c = some o := fun c o c1 e => b8.extBut _ _ c1 (b7.extBut _ _ c1 (Heap.get?_push_of_some _ e))
  have T8 : IsPair g8 g5.objs.size x y := b8.extBut _ _ (Nat.ne_of_gt zlt) (b7.extBut _ _ (Nat.ne_of_gt zlt) (Heap.get?_push_size _ rfl))
  have s8 : g8.objs.size = g5.objs.size + 1 := by rw [b8.1, b7.1, Heap.size_push]
  rw [sz] at z8 T8 s8
  refine wpAny_pure ⟨_, rfl, ?_⟩
  show Q (.ref g5.objs.size) _
  rw [sz]
  have kk : ∀ c o, c ≠ z → c ≠ TO → c ≠ i1 → c ≠ i2 → s.heap.get? c = some o → g8.get? c = some o := fun c o c1 c2 c3 c4 e => up c o c1 (k5 c o c1 c2 c3 c4 e)
  refine hQ g8 ⟨z8, kk _ _ D.TIz D.TITO D.TIi1 D.TIi2 hTI, ⟨x, y, up _ _ D.TOz o5⟩, ?_, ?_, ?_, ?_⟩ T8 s8 kk
  · obtain ⟨o, e, r⟩ := p1; exact ⟨o, up _ o D.i1z e, r⟩
  · obtain ⟨o, e, r⟩ := p2; exact ⟨o, up _ o D.i2z e, r⟩
  · obtain ⟨o, e, r⟩ := hl1; exact ⟨o, kk _ o D.l1z D.l1TO D.l1i1 D.l1i2 e, r⟩
  · obtain ⟨o, e, r⟩ := hl2; exact ⟨o, kk _ o D.l2z D.l2TO D.l2i1 D.l2i2 e, r⟩
theorem zipT_end {z TI TO i1 i2 t1 t2 : Addr} {k : Nat} {xs ys : Array Value} {Q : Fin → Shared → Prop} (hh : A.handled = none) (D : ZipApart z TI TO i1 i2 t1 t2) (Z : ZT s.heap z TI TO i1 i2 t1 t2 k xs ys .none) (hx : xs[k]? = none)
    (hE : ∀ h' e, (∀ c o, c ≠ z → c ≠ TO → c ≠ i1 → c ≠ i2 → s.heap.get? c = some o → h'.get? c = some o) → (∃ o, h'.get? e = some o ∧ o.cls = .type "StopIteration") → E (.ref e) { s with heap := h' }) :
    wpAny (model prog w) A (Builtin.«zip.__next__» ⟨[.ref z], []⟩) Q E s := by
  obtain ⟨hz, hTI, ⟨a, b, hTO⟩, h1, h2, hl1, hl2⟩ := Z
  show wpAny _ _ (field (.ref z) 2 >>= _) _ _ _
  refine wpAny_bind (wpAny_field hz rfl (x := .bool false) rfl ?_)
  show wpAny _ _ (field (.ref z) 3 >>= _) _ _ _
  refine wpAny_bind (wpAny_field hz rfl (x := .ref TI) rfl ?_)
  refine wpAny_bind (wpAny_seqItems hTI rfl ?_)
  show wpAny _ _ (Builtin.SmallTypes.ownedTupleIsFree (.ref z) >>= _) _ _ _
  refine wpAny_bind ?_
  unfold Builtin.SmallTypes.ownedTupleIsFree
  refine wpAny_bind (wpAny_field hz rfl (x := .none) rfl (wpAny_pure ?_))
  simp only [if_true]
  refine wpAny_bind (wpAny_rule ?_)
  refine wpAny_bind (wpAny_field hz rfl (x := .ref TO) rfl ?_)
  refine wpAny_bind (wpAny_setField_rec hz (by simp) fun g1 z1 b1 => ?_)
  replace z1 : IsZip g1 z TI TO .ellipsis := z1
  refine wpAny_bind ?_
  simp only [List.zipIdx_cons, List.zipIdx_nil, List.forIn_cons, List.forIn_nil]
  refine wpAny_bind (wpAny_bind (wpAny_onRaise ?_))
  show wpAny _ _ (Builtin.SmallTypes.nextOf (.ref i1) >>= _) _ _ _
  refine wpAny_bind (nextT_end (s := { s with heap := g1 }) hh (h1.extBut b1.extBut D.i1z) (hl1.extBut b1.extBut D.l1z) hx fun g2 e b2 he => ?_)
  obtain ⟨oe, hoe, hce⟩ := he
  have z2 : IsZip g2 z TI TO .ellipsis := b2 _ _ D.i1z.symm z1
  have hez : e ≠ z := fun q => by subst q; rw [z2] at hoe; cases hoe; simp at hce
  exact wpAny_setField_rec z2 (by simp) fun g3 _ b3 => hE g3 e (fun c o c1 _ c3 _ q => b3.extBut _ _ c1 (b2 _ _ c3 (b1.extBut _ _ c1 q))) ⟨oe, b3.extBut _ _ hez hoe, hce⟩
theorem zipT_next {z TI TO i1 i2 t1 t2 : Addr} {k : Nat} {xs ys : Array Value} {x y : Value} {Q : Option Value → Shared → Prop} (D : ZipApart z TI TO i1 i2 t1 t2) (Z : ZT s.heap z TI TO i1 i2 t1 t2 k xs ys .none) (hx : xs[k]? = some x) (hy : ys[k]? = some y)
    (hQ : ∀ h', ZT h' z TI TO i1 i2 t1 t2 (k + 1) xs ys (rawInt s.heap.objs.size) → IsPair h' s.heap.objs.size x y → h'.objs.size = s.heap.objs.size + 1 → (∀ c o, c ≠ z → c ≠ TO → c ≠ i1 → c ≠ i2 → s.heap.get? c = some o → h'.get? c = some o) → Q (some (.ref s.heap.objs.size)) { s with heap := h' }) :
    wpAny (model prog w) A (pyNext (.ref z)) Q E s := by
  have hT : s.TypeIs (.ref z) "zip" := ⟨_, Z.zp, rfl⟩
  unfold pyNext
  exact wpAny_bind (wpAny_attempt (wpAny_callSpecial?_slot (name := Str.ofString "__next__") hT F.slot_zip_next (wpAny_call_entry F.slot_zip_next hT F.entry_zip_next (zipT_item D Z hx hy fun h' a1 a2 a3 a4 => wpAny_pure (hQ h' a1 a2 a3 a4)) (F.args_zip_next_1 _))))
theorem zipT_stop {z TI TO i1 i2 t1 t2 : Addr} {k : Nat} {xs ys : Array Value} {Q : Option Value → Shared → Prop} (hh : A.handled = none) (D : ZipApart z TI TO i1 i2 t1 t2) (Z : ZT s.heap z TI TO i1 i2 t1 t2 k xs ys .none) (hx : xs[k]? = none)
    (hQ : ∀ h', (∀ c o, c ≠ z → c ≠ TO → c ≠ i1 → c ≠ i2 → s.heap.get? c = some o → h'.get? c = some o) → Q none { s with heap := h' }) : wpAny (model prog w) A (pyNext (.ref z)) Q E s := by
  have hT : s.TypeIs (.ref z) "zip" := ⟨_, Z.zp, rfl⟩
  unfold pyNext
  refine wpAny_bind (wpAny_attempt (wpAny_callSpecial?_slot (name := Str.ofString "__next__") hT F.slot_zip_next (wpAny_call_entry F.slot_zip_next hT F.entry_zip_next (zipT_end hh D Z hx fun h' e hk he => ?_) (F.args_zip_next_1 _))))
  obtain ⟨o, ho, hc⟩ := he
  refine wpAny_bind (wpAny_isInstance (T := "StopIteration") (b := true) ⟨o, ho, hc⟩ isSubtype_stop ?_)
  exact wpAny_pure (hQ _ hk)
end
abbrev zT1 (h : Heap) (l1 : Addr) : Heap := h.push { cls := .type "tuple_iterator", data := .fields #[.ref l1, .int 0 0] }
abbrev zT2 (h : Heap) (l1 l2 : Addr) : Heap := (zT1 h l1).push { cls := .type "tuple_iterator", data := .fields #[.ref l2, .int 0 0] }
abbrev zT3 (h : Heap) (l1 l2 : Addr) : Heap := (zT2 h l1 l2).push { cls := .type "tuple", data := .seq #[.ref h.objs.size, .ref (zT1 h l1).objs.size] }
abbrev zT4 (h : Heap) (l1 l2 : Addr) : Heap := (zT3 h l1 l2).push { cls := .type "tuple", data := .seq #[.none, .none] }
abbrev zT5 (h : Heap) (l1 l2 : Addr) : Heap := (zT4 h l1 l2).push { cls := .type "zip", data := .fields #[.none, .bool false, .bool false, .ref (zT2 h l1 l2).objs.size, .ref (zT3 h l1 l2).objs.size] }
theorem meets_zipT (l1 l2 : Addr) (xs ys : Array Value) :
    Meets (Builtin.«zip.__new__» ⟨[.type "zip", .ref l1, .ref l2], []⟩) (fun _ R s => s.heap.IsTuple l1 xs ∧ s.heap.IsTuple l2 ys ∧ R (.ok (.ret (.ref (zT4 s.heap l1 l2).objs.size))) { s with heap := zT5 s.heap l1 l2 }) :=
  .of_wp fun prog w A R s h => by
    obtain ⟨hp, g, d, tk, os⟩ := s; obtain ⟨hl1, hl2, h⟩ := h
    have hsub := sub_zip
    have m1 : Heap.IsTuple (Shared.heap ⟨hp, g, d, tk, os⟩) l1 xs := hl1
    have m2 : Heap.IsTuple (Shared.heap ⟨hp.push { cls := .type "tuple_iterator", data := .fields #[.ref l1, .int 0 0] }, g, d, tk, os⟩) l2 ys := Heap.IsTuple.push hl2 _
    wp_walk using wpAny_pyIter_tuple m1, wpAny_pyIter_tuple m2
    exact ⟨_, rfl, h⟩
theorem call_zipT {prog : Program} {w : World} {A : Around} {E : Value → Shared → Prop} {s : Shared} {l1 l2 : Addr} {xs ys : Array Value} {Q : Value → Shared → Prop} (hl1 : s.heap.IsTuple l1 xs) (hl2 : s.heap.IsTuple l2 ys)
    (h : ∀ h', ZT h' (s.heap.objs.size + 4) (s.heap.objs.size + 2) (s.heap.objs.size + 3) s.heap.objs.size (s.heap.objs.size + 1) l1 l2 0 xs ys .none → h'.objs.size = s.heap.objs.size + 5 → (∀ c o, s.heap.get? c = some o → h'.get? c = some o) → Q (.ref (s.heap.objs.size + 4)) { s with heap := h' }) :
    wpAny (model prog w) A (call (.type "zip") [.ref l1, .ref l2]) Q E s := by
  refine callType_new F.called_zip (by decide) (F.typeCall_zip_2 _ _) (F.newCall_zip_2 _ _) (fun obj => F.args_object_init_3 obj _ _) F.entry_zip_new (meets_zipT l1 l2 xs ys) ⟨hl1, hl2, ?_⟩
  have z1 : (zT1 s.heap l1).objs.size = s.heap.objs.size + 1 := Heap.size_push ..
  have z2 : (zT2 s.heap l1 l2).objs.size = s.heap.objs.size + 2 := by rw [Heap.size_push, z1]
  have z3 : (zT3 s.heap l1 l2).objs.size = s.heap.objs.size + 3 := by rw [Heap.size_push, z2]
  have z4 : (zT4 s.heap l1 l2).objs.size = s.heap.objs.size + 4 := by rw [Heap.size_push, z3]
  have z5 : (zT5 s.heap l1 l2).objs.size = s.heap.objs.size + 5 := by rw [Heap.size_push, z4]
  have kp : ∀ c o, s.heap.get? c = some o → (zT5 s.heap l1 l2).get? c = some o := fun c o x => Heap.get?_push_of_some _ (Heap.get?_push_of_some _ (Heap.get?_push_of_some _ (Heap.get?_push_of_some _ (Heap.get?_push_of_some _ x))))
  have g5 : (zT5 s.heap l1 l2).get? (zT4 s.heap l1 l2).objs.size = some _ := Heap.get?_push_size _ rfl
  have g4 : (zT5 s.heap l1 l2).get? (zT3 s.heap l1 l2).objs.size = some _ := Heap.get?_push_of_some _ (Heap.get?_push_size _ rfl)
  have g3 : (zT5 s.heap l1 l2).get? (zT2 s.heap l1 l2).objs.size = some _ := Heap.get?_push_of_some _ (Heap.get?_push_of_some _ (Heap.get?_push_size _ rfl))
  have g2 : (zT5 s.heap l1 l2).get? (zT1 s.heap l1).objs.size = some _ := Heap.get?_push_of_some _ (Heap.get?_push_of_some _ (Heap.get?_push_of_some _ (Heap.get?_push_size _ rfl)))
  have g1 : (zT5 s.heap l1 l2).get? s.heap.objs.size = some _ := Heap.get?_push_of_some _ (Heap.get?_push_of_some _ (Heap.get?_push_of_some _ (Heap.get?_push_of_some _ (Heap.get?_push_size _ rfl))))
  show _ ∧ _
  rw [z2, z3, z4] at g5
  rw [z1, z2] at g3
  rw [z3] at g4
  rw [z1] at g2
  rw [z4]
  refine ⟨⟨_, g5, rfl⟩, h _ ⟨g5, g3, ⟨_, _, g4⟩, ⟨_, g1, rfl, rfl⟩, ⟨_, g2, rfl, rfl⟩, ?_, ?_⟩ z5 kp⟩
  · obtain ⟨o, e, r⟩ := hl1; exact ⟨o, kp _ o e, r⟩
  · obtain ⟨o, e, r⟩ := hl2; exact ⟨o, kp _ o e, r⟩
end L2

/-! for (x, y) in zip(t, u), t and u tuples (own work). -/
namespace L2
open PySem PySem.Spec PyProof.Rows
section
variable {X : Cx} {pins : List (Addr × Obj)} {σ : St} {H : Hp} {s : Shared} {h' : Heap}
/-- several records of ours have turned -/
theorem Inv.turnedL {t' : Nat} {ch : List Addr} (I : Inv X pins σ H s) (k : ∀ b o, b ∉ ch → s.heap.get? b = some o → h'.get? b = some o) (f : ∀ b ∈ ch, FpOk X pins H b) : Inv X pins σ H { s with heap := h', toks := t' } := by
  have nit : ∀ b u, H b = some u → b ∉ ch := fun b u e z => by rw [(f b z).1] at e; cases e
  refine I.step (g' := s.gens) (d' := s.drawn) (ch := ch) (fun b hb => ?_) (fun b o _ _ hc e _ => k b o hc e) (fun b o _ _ hc e _ => ⟨o.slots, k b o hc e⟩) (fun _ _ _ _ n => n) (fun b o hc e => ⟨o, k b o hc e⟩) (fun _ _ e => e) (fun _ _ _ e => e) (fun b ps e => ⟨#[], by rw [e]; simp⟩) (fun m hm => ?_) (fun b u e => ?_) I.bare
  · obtain ⟨f0, f1, f2, f3, f4, f5⟩ := f b hb
    exact ⟨f3, f1, f4, f5⟩
  · obtain ⟨o, es, ep, ho, r⟩ := hm
    refine ⟨o, es, ep, k _ o (fun z => ?_) ho, r⟩
    obtain ⟨f0, f1, _⟩ := f _ z
    exact f1 rfl
  · refine (I.hok b u e).stay (fun c v hc q => k c v ?_ q) (fun _ q => q) fun _ _ q => q
    rcases hc with z | z
    · rw [z]; exact nit b u e
    · exact nit c _ z
end
/-- the records of a zip at place k -/
structure ZM (h : Heap) (z TI TO i1 i2 a b : Addr) (k : Nat) : Prop where
  zp : IsZip h z TI TO .none
  ti : IsPair h TI (.ref i1) (.ref i2)
  to : ∃ u v, IsPair h TO u v
  j1 : h.IsTupleIter i1 a k
  j2 : h.IsTupleIter i2 b k
def ItZ (K : PySem.W.Frag) (a b : Addr) : It :=
  ⟨fun i H => ∃ xs ys x y, SqT K H a xs ∧ SqT K H b ys ∧ xs[i]? = some x ∧ ys[i]? = some y, fun i H x H' => ∃ u v p, (∀ xs ys, SqT K H a xs → SqT K H b ys → xs[i]? = some u ∧ ys[i]? = some v) ∧ x = .ref p ∧ H p = none ∧ H' = upd H p (.tup [u, v]), fun i H => ∃ xs ys, SqT K H a xs ∧ SqT K H b ys ∧ xs.length ≤ i⟩
theorem turn_zipT {P : Program} {w : World} {K : PySem.W.Frag} {es : List Expr} {x1 : Nat} {tp : Pos} (a b z TI TO i1 i2 : Addr) (D : ZipApart z TI TO i1 i2 a b) : Turn P w K (.Tuple es x1 tp) (ItZ K a b) [z, TI, TO, i1, i2] z (fun i h => ZM h z TI TO i1 i2 a b i) where
  mem := by simp
  obj := fun i h st c hc => by
    obtain ⟨s1, s2, ⟨u, v, s3⟩, s4, s5⟩ := st
    simp only [List.mem_cons, List.not_mem_nil, or_false] at hc
    rcases hc with q | q | q | q | q
    · subst q; exact ⟨_, s1, fun v z => by cases z⟩
    · subst q; exact ⟨_, s2, fun v z => by cases z⟩
    · subst q; exact ⟨_, s3, fun v z => by cases z⟩
    · subst q; obtain ⟨o, e, _, d⟩ := s4; exact ⟨o, e, fun v z => by rw [d] at z; cases z⟩
    · subst q; obtain ⟨o, e, _, d⟩ := s5; exact ⟨o, e, fun v z => by rw [d] at z; cases z⟩
  keep := fun i h h' st k => by
    obtain ⟨s1, s2, ⟨u, v, s3⟩, ⟨o4, e4, r4⟩, ⟨o5, e5, r5⟩⟩ := st
    exact ⟨k z (by simp) _ s1, k TI (by simp) _ s2, ⟨u, v, k TO (by simp) _ s3⟩, ⟨o4, k i1 (by simp) _ e4, r4⟩, ⟨o5, k i2 (by simp) _ e5, r5⟩⟩
  item := by
    intro X hP hw hK hc i pins s σ H E I hf st hg
    subst hP hw hK
    obtain ⟨s1, s2, s3, s4, s5⟩ := st
    obtain ⟨xs, ys, x, y, hq1, hq2, hx, hy⟩ := hg
    obtain ⟨its, rv, p, hz⟩ := I.tuple hq1
    obtain ⟨jts, rw', p', hz'⟩ := I.tuple hq2
    obtain ⟨u, hu, ru⟩ := rv.get hx
    obtain ⟨v, hv, rv'⟩ := rw'.get hy
    have Z : ZT s.heap z TI TO i1 i2 a b i its.toArray jts.toArray .none := ⟨s1, s2, s3, s4, s5, p, p'⟩
    refine zipT_next D Z (x := u) (y := v) (by simpa using hu) (by simpa using hv) fun h' Z' ht hsz kp => ?_
    refine ⟨_, rfl, ?_⟩
    refine wpAny_letOwnedTupleGo_zip (s := { s with heap := h' }) Z'.zp fun h'' zp'' sb => ?_
    have zlt : z < s.heap.objs.size := Heap.lt_size s1
    have kp2 : ∀ c o, c ∉ [z, TI, TO, i1, i2] → s.heap.get? c = some o → h''.get? c = some o := fun c o hc e => by
      simp only [List.mem_cons, List.not_mem_nil, or_false, not_or] at hc
      exact (sb.2 c hc.1).trans (kp c o hc.1 hc.2.2.1 hc.2.2.2.1 hc.2.2.2.2 e)
    have I1 : Inv X pins σ H { s with heap := h'' } := I.turnedL (t' := s.toks) kp2 hf
    have hp : H s.heap.objs.size = none := I.hok.fresh (Nat.le_refl _)
    have e2 : h''.get? s.heap.objs.size = some { cls := .type "tuple", data := .seq #[u, v] } := (sb.2 _ (Nat.ne_of_gt zlt)).trans ht
    have I2 : Inv X pins σ (upd H s.heap.objs.size (.tup [x, y])) { s with heap := h'' } := I1.track (I.our (Nat.le_refl _)) ⟨(show 2 ≤ sizeLine by decide), [u, v], .cons ru (.cons rv' .nil), ⟨_, e2, rfl, _, rfl⟩⟩
    refine ⟨.ref s.heap.objs.size, _, I2, rfl, ⟨x, y, _, fun ws us h1 h2 => ?_, rfl, hp, rfl⟩, ?_, fun c hc => ?_⟩
    · rw [I.tuple_inj h1 hq1, I.tuple_inj h2 hq2]
      exact ⟨hx, hy⟩
    · have up : ∀ c o, c ≠ z → h'.get? c = some o → h''.get? c = some o := fun c o hc e => (sb.2 c hc).trans e
      obtain ⟨_, q2, ⟨q3a, q3b, q3⟩, ⟨o4, e4, r4⟩, ⟨o5, e5, r5⟩, _, _⟩ := Z'
      exact ⟨zp'', up _ _ D.TIz q2, ⟨q3a, q3b, up _ _ D.TOz q3⟩, ⟨o4, up _ _ D.i1z e4, r4⟩, ⟨o5, up _ _ D.i2z e5, r5⟩⟩
    · obtain ⟨f0, _⟩ := hf c hc
      rw [upd_ne fun q => ?_]
      · exact f0
      · have lt : ∀ c o, s.heap.get? c = some o → c ≠ s.heap.objs.size := fun c o e => Nat.ne_of_lt (Heap.lt_size e)
        obtain ⟨q3a, q3b, q3⟩ := s3
        obtain ⟨o4, e4, _⟩ := s4
        obtain ⟨o5, e5, _⟩ := s5
        simp only [List.mem_cons, List.not_mem_nil, or_false] at hc
        rcases hc with r | r | r | r | r
        · exact lt z _ s1 (r ▸ q)
        · exact lt TI _ s2 (r ▸ q)
        · exact lt TO _ q3 (r ▸ q)
        · exact lt i1 _ e4 (r ▸ q)
        · exact lt i2 _ e5 (r ▸ q)
  done := by
    intro X hP hw hK hc i pins s σ H E I hf st hg
    subst hP hw hK
    obtain ⟨s1, s2, s3, s4, s5⟩ := st
    obtain ⟨xs, ys, hq1, hq2, hx⟩ := hg
    obtain ⟨its, rv, p, hz⟩ := I.tuple hq1
    obtain ⟨jts, rw', p', hz'⟩ := I.tuple hq2
    have hl := rv.length
    have Z : ZT s.heap z TI TO i1 i2 a b i its.toArray jts.toArray .none := ⟨s1, s2, s3, s4, s5, p, p'⟩
    refine zipT_stop (I.ok.hd hc) D Z (by simp; omega) fun h' kp => ⟨rfl, I.turnedL (t' := s.toks) (fun c o hc e => ?_) hf⟩
    simp only [List.mem_cons, List.not_mem_nil, or_false, not_or] at hc
    exact kp c o hc.1 hc.2.2.1 hc.2.2.2.1 hc.2.2.2.2 e
  self := fun A i s Q E st h => wpAny_pyIter_zip st.zp h
section
variable {X : Cx}
theorem boot_zip : bootBuiltins "zip" = some (.type "zip") := by decide +kernel
def iZipT (K : PySem.W.Frag) (ta : TA) : TI := fun σ H R => ta σ H fun vs H1 => ∃ a b, vs = [.ref a, .ref b] ∧ (∃ xs, SqT K H1 a xs) ∧ (∃ ys, SqT K H1 b ys) ∧ R (ItZ K a b) H1
theorem pi_zipT {es : List Expr} {x1 : Nat} {tp : Pos} {l m : Expr} {ta : TA} {p pos : Pos} (hg : Gl X "zip") (hm : X.mg "zip" = none) (ha : PA X [l, m] ta) (hs : starEach [l, m] X.env = (false, eval l X.env) :: starEach [m] X.env := by rfl) (hpl : (backTo pos (starEach [m] X.env)).any (·.1) = false := by rfl) :
    PI X (.Tuple es x1 tp) (.Call (.Name "zip" p) [l, m] [] pos) (iZipT X.K ta) := by
  intro pins s σ H R I h
  refine Call_ (ld_blt I hg hm boot_zip (PyProof.Rows.callWith_type1 (thn (ha pos pins s σ H _ I h) fun us s1 ⟨vs, H1, I1, r1, q1⟩ => ?_) hs hpl))
  obtain ⟨a, b, e, ⟨xs, hq1⟩, ⟨ys, hq2⟩, q⟩ := q1
  subst e
  obtain ⟨u, v, rfl, rx, ry⟩ := vals2 r1
  cases rx
  cases ry
  obtain ⟨its, rv, p1, hz⟩ := I1.tuple hq1
  obtain ⟨jts, rw', p2, hz'⟩ := I1.tuple hq2
  have la : a < s1.heap.objs.size := by obtain ⟨o, e, _⟩ := p1; exact Heap.lt_size e
  have lb : b < s1.heap.objs.size := by obtain ⟨o, e, _⟩ := p2; exact Heap.lt_size e
  have D : ZipApart (s1.heap.objs.size + 4) (s1.heap.objs.size + 2) (s1.heap.objs.size + 3) s1.heap.objs.size (s1.heap.objs.size + 1) a b := by
    generalize s1.heap.objs.size = n at la lb
    constructor <;> (intro z; simp only [Addr] at *; omega)
  refine call_zipT p1 p2 fun h' Z hsz hk => ?_
  have I2 : Inv X pins σ H1 { s1 with heap := h' } := I1.kept (t' := s1.toks) hk
  refine wpAny_pyIter_zip (s := { s1 with heap := h' }) Z.zp ?_
  refine ⟨s1.heap.objs.size + 4, [s1.heap.objs.size + 4, s1.heap.objs.size + 2, s1.heap.objs.size + 3, s1.heap.objs.size, s1.heap.objs.size + 1], _, _, H1, rfl, I2, turn_zipT a b _ _ _ _ _ D, ⟨Z.zp, Z.ti, Z.to, Z.j1, Z.j2⟩, fun c hc => ?_, q⟩
  have nb : s1.heap.objs.size ≤ c := by
    simp only [List.mem_cons, List.not_mem_nil, or_false] at hc
    rcases hc with r | r | r | r | r <;> (rw [r]; first | exact Nat.le_refl _ | exact Nat.le_add_right _ _)
  exact I1.fpOk nb (I1.hok.fresh nb)
/-- the loop -/
theorem for_zipT {K : PySem.W.Frag} {a b : Addr} {xs ys : List V} {g : TG} {tb : TS} {D : Ends} {σ : St} {H : Hp} (Pv : Nat → St → Hp → Prop) (hlen : xs.length = ys.length) (h0 : Pv 0 σ H) (hl : ∀ i σ H, i ≤ xs.length → Pv i σ H → SqT K H a xs ∧ SqT K H b ys)
    (hs : ∀ i x y p σ H, xs[i]? = some x → ys[i]? = some y → Pv i σ H → H p = none → g (.ref p) σ (upd H p (.tup [x, y])) fun σ2 H2 => tb { D with nx := Pv (i + 1), ct := Pv (i + 1), bk := D.nx } σ2 H2) (hd : ∀ σ H, Pv xs.length σ H → D.nx σ H) :
    ∃ W : Nat → Nat → St → Hp → Prop, (∃ m, W 0 m σ H) ∧ ∀ i m σ H, W i m σ H →
      ((ItZ K a b).stop i H ∧ D.nx σ H) ∨ ((ItZ K a b).go i H ∧ ∃ N : St → Hp → Prop, (∀ σ' H', N σ' H' → ∃ m', m' < m ∧ W (i + 1) m' σ' H') ∧ ∀ x H', (ItZ K a b).yld i H x H' → g x σ H' fun σ2 H2 => tb { D with nx := N, ct := N, bk := D.nx } σ2 H2) := by
  refine ⟨fun i m σ H => m = xs.length - i ∧ i ≤ xs.length ∧ Pv i σ H, ⟨xs.length, by simp, Nat.zero_le _, h0⟩, ?_⟩
  rintro i m σ H ⟨rfl, hi, p⟩
  obtain ⟨q1, q2⟩ := hl i σ H hi p
  by_cases hlt : i < xs.length
  · have hlt2 : i < ys.length := by omega
    refine .inr ⟨⟨xs, ys, xs[i], ys[i], q1, q2, by simp [hlt], by simp [hlt2]⟩, Pv (i + 1), fun σ' H' p' => ⟨xs.length - (i + 1), by omega, rfl, hlt, p'⟩, fun x H' y => ?_⟩
    obtain ⟨u, v, pa, hk, ex, hn, e⟩ := y
    subst e ex
    exact hs i u v pa σ H (hk xs ys q1 q2).1 (hk xs ys q1 q2).2 p hn
  · have e : i = xs.length := by omega
    subst e
    exact .inl ⟨⟨xs, ys, q1, q2, Nat.le_refl _⟩, hd σ H p⟩
end
end L2

/-! range(n) as a value, list(range(n)); defs with defaults; defs that raise (own work). -/
namespace L2
open PySem PySem.Spec PyProof.Rows
section
variable {X : Cx}
end
/-- a def of the text, perhaps with defaults -/
structure FunX (K : PySem.W.Frag) (x qual : Str) (st : Stmt) (f : Addr) (fd : FuncData) : Prop where
  ex : ∃ (oc : Value) (od : Option Addr) (dV kV doc pm : Value) (an : Option Addr) (cdv ct : Value) (osl : Array (Option Value)),
    fd = PySem.W.fnOf x qual (defArgs st) (defBody st) (defScope st) dV kV doc pm an cdv ct ∧ K.lookup f = some ⟨oc, od, .func fd, osl⟩ ∧ PySem.W.codeIn K cdv qual = true
  kp : PySem.W.keepIn K (.ref f) = true
theorem funX_mk {K : PySem.W.Frag} {x qual : Str} {st : Stmt} {f : Addr} {oc : Value} {od an : Option Addr} {osl : Array (Option Value)} {dV kV doc pm cdv ct : Value} (l : K.lookup f = some ⟨oc, od, .func (PySem.W.fnOf x qual (defArgs st) (defBody st) (defScope st) dV kV doc pm an cdv ct), osl⟩)
    (c : PySem.W.codeIn K cdv qual = true) (k : PySem.W.keepIn K (.ref f) = true) : FunX K x qual st f (PySem.W.fnOf x qual (defArgs st) (defBody st) (defScope st) dV kV doc pm an cdv ct) := ⟨⟨oc, od, dV, kV, doc, pm, an, cdv, ct, osl, rfl, l, c⟩, k⟩
section
variable {P : Program} {w : World} {K : PySem.W.Frag} {mg : Str → Option Value} {base : Heap}
theorem FunX.ok {x qual : Str} {st : Stmt} {f : Addr} {fd : FuncData} {N ps : List Str} {k : Nat} {sp : Sp} (F : FunX K x qual st f fd) (S : FnScope N ps (defScope st)) (len : ∀ vs H Q E, sp vs H Q E → vs.length = ps.length)
    (hbody : ∀ (cdv : Value) (A : Around) (outer : List Env) (s : Shared) (H : Hp) (vs : List V) (Q : VK) (E : XK), Room k (A.deeper (envOfC qual (defScope st) s.heap.objs.size f cdv)) → sp vs H Q E →
      ∃ t, PSs (cxOf CX0 P w K mg base N qual (defScope st) f cdv A outer s H E).nox (defBody st) t ∧ t { nx := fun _ H' => Q .non H', rt := Q } (start N vs) H) : FnOk P w K mg base CX0 (k + 1) f fd ps sp := by
  obtain ⟨oc, od, dV, kV, doc, pm, an, cdv, ct, osl, rfl, lk, hcd⟩ := F.ex
  refine fn_of lk hcd S len fun A outer s H vs Q E hr hsp => ?_
  obtain ⟨t, h, q⟩ := hbody cdv A outer s H vs Q E hr hsp
  exact ⟨t, h.nox, q⟩
end
end L2

/-! for (x, y) in zip(l, m), l and m lists (own work). -/
namespace L2
open PySem PySem.Spec PyProof.Rows
/-- the records of a zip at place k -/
structure ZL (h : Heap) (z TI TO i1 i2 a b : Addr) (k : Nat) : Prop where
  zp : IsZip h z TI TO .none
  ti : IsPair h TI (.ref i1) (.ref i2)
  to : ∃ u v, IsPair h TO u v
  j1 : h.IsListIter i1 a k
  j2 : h.IsListIter i2 b k
def ItY (K : PySem.W.Frag) (a b : Addr) : It :=
  ⟨fun i H => ∃ xs ys x y, SqL K H a xs ∧ SqL K H b ys ∧ xs[i]? = some x ∧ ys[i]? = some y, fun i H x H' => ∃ u v p, (∀ xs ys, SqL K H a xs → SqL K H b ys → xs[i]? = some u ∧ ys[i]? = some v) ∧ x = .ref p ∧ H p = none ∧ H' = upd H p (.tup [u, v]), fun i H => ∃ xs ys, SqL K H a xs ∧ SqL K H b ys ∧ xs.length ≤ i⟩
theorem turn_zipL {P : Program} {w : World} {K : PySem.W.Frag} {es : List Expr} {x1 : Nat} {tp : Pos} (a b z TI TO i1 i2 : Addr) (D : ZipApart z TI TO i1 i2 a b) : Turn P w K (.Tuple es x1 tp) (ItY K a b) [z, TI, TO, i1, i2] z (fun i h => ZL h z TI TO i1 i2 a b i) where
  mem := by simp
  obj := fun i h st c hc => by
    obtain ⟨s1, s2, ⟨u, v, s3⟩, s4, s5⟩ := st
    simp only [List.mem_cons, List.not_mem_nil, or_false] at hc
    rcases hc with q | q | q | q | q
    · subst q; exact ⟨_, s1, fun v z => by cases z⟩
    · subst q; exact ⟨_, s2, fun v z => by cases z⟩
    · subst q; exact ⟨_, s3, fun v z => by cases z⟩
    · subst q; obtain ⟨o, e, _, d⟩ := s4; exact ⟨o, e, fun v z => by rw [d] at z; cases z⟩
    · subst q; obtain ⟨o, e, _, d⟩ := s5; exact ⟨o, e, fun v z => by rw [d] at z; cases z⟩
  keep := fun i h h' st k => by
    obtain ⟨s1, s2, ⟨u, v, s3⟩, ⟨o4, e4, r4⟩, ⟨o5, e5, r5⟩⟩ := st
    exact ⟨k z (by simp) _ s1, k TI (by simp) _ s2, ⟨u, v, k TO (by simp) _ s3⟩, ⟨o4, k i1 (by simp) _ e4, r4⟩, ⟨o5, k i2 (by simp) _ e5, r5⟩⟩
  item := by
    intro X hP hw hK hc i pins s σ H E I hf st hg
    subst hP hw hK
    obtain ⟨s1, s2, s3, s4, s5⟩ := st
    obtain ⟨xs, ys, x, y, hq1, hq2, hx, hy⟩ := hg
    obtain ⟨its, rv, p, hz⟩ := I.list hq1
    obtain ⟨jts, rw', p', hz'⟩ := I.list hq2
    obtain ⟨u, hu, ru⟩ := rv.get hx
    obtain ⟨v, hv, rv'⟩ := rw'.get hy
    obtain ⟨t3a, t3b, t3⟩ := id s3
    refine wpAny_pyNext_zip_item D s1 s2 t3 s4 s5 p.isList p'.isList (x := u) (y := v) (by simpa using hu) (by simpa using hv) fun h' z1 z3 z4 z5 ht hsz kp => ?_
    refine ⟨_, rfl, ?_⟩
    refine wpAny_letOwnedTupleGo_zip (s := { s with heap := h' }) z1 fun h'' zp'' sb => ?_
    have zlt : z < s.heap.objs.size := Heap.lt_size s1
    have kp2 : ∀ c o, c ∉ [z, TI, TO, i1, i2] → s.heap.get? c = some o → h''.get? c = some o := fun c o hc e => by
      simp only [List.mem_cons, List.not_mem_nil, or_false, not_or] at hc
      exact (sb.2 c hc.1).trans (kp c o hc.1 hc.2.2.1 hc.2.2.2.1 hc.2.2.2.2 e)
    have I1 : Inv X pins σ H { s with heap := h'' } := I.turnedL (t' := s.toks) kp2 hf
    have hp : H s.heap.objs.size = none := I.hok.fresh (Nat.le_refl _)
    have e2 : h''.get? s.heap.objs.size = some { cls := .type "tuple", data := .seq #[u, v] } := (sb.2 _ (Nat.ne_of_gt zlt)).trans ht
    have I2 : Inv X pins σ (upd H s.heap.objs.size (.tup [x, y])) { s with heap := h'' } := I1.track (I.our (Nat.le_refl _)) ⟨(show 2 ≤ sizeLine by decide), [u, v], .cons ru (.cons rv' .nil), ⟨_, e2, rfl, _, rfl⟩⟩
    refine ⟨.ref s.heap.objs.size, _, I2, rfl, ⟨x, y, _, fun ws us h1 h2 => ?_, rfl, hp, rfl⟩, ?_, fun c hc => ?_⟩
    · rw [I.list_inj h1 hq1, I.list_inj h2 hq2]
      exact ⟨hx, hy⟩
    · have up : ∀ c o, c ≠ z → h'.get? c = some o → h''.get? c = some o := fun c o hc e => (sb.2 c hc).trans e
      obtain ⟨o4, e4, r4⟩ := z4
      obtain ⟨o5, e5, r5⟩ := z5
      exact ⟨zp'', up _ _ D.TIz (kp _ _ D.TIz D.TITO D.TIi1 D.TIi2 s2), ⟨_, _, up _ _ D.TOz z3⟩, ⟨o4, up _ _ D.i1z e4, r4⟩, ⟨o5, up _ _ D.i2z e5, r5⟩⟩
    · obtain ⟨f0, _⟩ := hf c hc
      rw [upd_ne fun q => ?_]
      · exact f0
      · have lt : ∀ c o, s.heap.get? c = some o → c ≠ s.heap.objs.size := fun c o e => Nat.ne_of_lt (Heap.lt_size e)
        obtain ⟨q3a, q3b, q3⟩ := s3
        obtain ⟨o4, e4, _⟩ := s4
        obtain ⟨o5, e5, _⟩ := s5
        simp only [List.mem_cons, List.not_mem_nil, or_false] at hc
        rcases hc with r | r | r | r | r
        · exact lt z _ s1 (r ▸ q)
        · exact lt TI _ s2 (r ▸ q)
        · exact lt TO _ q3 (r ▸ q)
        · exact lt i1 _ e4 (r ▸ q)
        · exact lt i2 _ e5 (r ▸ q)
  done := by
    intro X hP hw hK hc i pins s σ H E I hf st hg
    subst hP hw hK
    obtain ⟨s1, s2, s3, s4, s5⟩ := st
    obtain ⟨xs, ys, hq1, hq2, hx⟩ := hg
    obtain ⟨its, rv, p, hz⟩ := I.list hq1
    obtain ⟨jts, rw', p', hz'⟩ := I.list hq2
    have hl := rv.length
    obtain ⟨t3a, t3b, t3⟩ := id s3
    refine wpAny_pyNext_zip_end (I.ok.hd hc) D s1 s2 t3 s4 s5 p.isList p'.isList (.inl (by simp; omega)) fun h' kp => ⟨rfl, I.turnedL (t' := s.toks) (fun c o hc e => ?_) hf⟩
    simp only [List.mem_cons, List.not_mem_nil, or_false, not_or] at hc
    exact kp c o hc.1 hc.2.2.1 hc.2.2.2.1 hc.2.2.2.2 e
  self := fun A i s Q E st h => wpAny_pyIter_zip st.zp h
section
variable {X : Cx}
def iZipL (K : PySem.W.Frag) (ta : TA) : TI := fun σ H R => ta σ H fun vs H1 => ∃ a b, vs = [.ref a, .ref b] ∧ (∃ xs, SqL K H1 a xs) ∧ (∃ ys, SqL K H1 b ys) ∧ R (ItY K a b) H1
theorem pi_zipL {es : List Expr} {x1 : Nat} {tp : Pos} {l m : Expr} {ta : TA} {p pos : Pos} (hg : Gl X "zip") (hm : X.mg "zip" = none) (ha : PA X [l, m] ta) (hs : starEach [l, m] X.env = (false, eval l X.env) :: starEach [m] X.env := by rfl) (hpl : (backTo pos (starEach [m] X.env)).any (·.1) = false := by rfl) :
    PI X (.Tuple es x1 tp) (.Call (.Name "zip" p) [l, m] [] pos) (iZipL X.K ta) := by
  intro pins s σ H R I h
  refine Call_ (ld_blt I hg hm boot_zip (PyProof.Rows.callWith_type1 (thn (ha pos pins s σ H _ I h) fun us s1 ⟨vs, H1, I1, r1, q1⟩ => ?_) hs hpl))
  obtain ⟨a, b, e, ⟨xs, hq1⟩, ⟨ys, hq2⟩, q⟩ := q1
  subst e
  obtain ⟨u, v, rfl, rx, ry⟩ := vals2 r1
  cases rx
  cases ry
  obtain ⟨its, rv, p1, hz⟩ := I1.list hq1
  obtain ⟨jts, rw', p2, hz'⟩ := I1.list hq2
  have la : a < s1.heap.objs.size := by obtain ⟨o, e, _⟩ := p1.isList; exact Heap.lt_size e
  have lb : b < s1.heap.objs.size := by obtain ⟨o, e, _⟩ := p2.isList; exact Heap.lt_size e
  have D : ZipApart (s1.heap.objs.size + 4) (s1.heap.objs.size + 2) (s1.heap.objs.size + 3) s1.heap.objs.size (s1.heap.objs.size + 1) a b := by
    generalize s1.heap.objs.size = n at la lb
    constructor <;> (intro z; simp only [Addr] at *; omega)
  refine call_zip_2 p1.isList p2.isList fun h' z1 z2 z3 z4 z5 hsz hk => ?_
  have I2 : Inv X pins σ H1 { s1 with heap := h' } := I1.kept (t' := s1.toks) hk
  refine wpAny_pyIter_zip (s := { s1 with heap := h' }) z1 ?_
  refine ⟨s1.heap.objs.size + 4, [s1.heap.objs.size + 4, s1.heap.objs.size + 2, s1.heap.objs.size + 3, s1.heap.objs.size, s1.heap.objs.size + 1], _, _, H1, rfl, I2, turn_zipL a b _ _ _ _ _ D, ⟨z1, z2, ⟨_, _, z3⟩, z4, z5⟩, fun c hc => ?_, q⟩
  have nb : s1.heap.objs.size ≤ c := by
    simp only [List.mem_cons, List.not_mem_nil, or_false] at hc
    rcases hc with r | r | r | r | r <;> (rw [r]; first | exact Nat.le_refl _ | exact Nat.le_add_right _ _)
  exact I1.fpOk nb (I1.hok.fresh nb)
/-- the loop -/
theorem for_zipL {K : PySem.W.Frag} {a b : Addr} {xs ys : List V} {g : TG} {tb : TS} {D : Ends} {σ : St} {H : Hp} (Pv : Nat → St → Hp → Prop) (hlen : xs.length = ys.length) (h0 : Pv 0 σ H) (hl : ∀ i σ H, i ≤ xs.length → Pv i σ H → SqL K H a xs ∧ SqL K H b ys)
    (hs : ∀ i x y p σ H, xs[i]? = some x → ys[i]? = some y → Pv i σ H → H p = none → g (.ref p) σ (upd H p (.tup [x, y])) fun σ2 H2 => tb { D with nx := Pv (i + 1), ct := Pv (i + 1), bk := D.nx } σ2 H2) (hd : ∀ σ H, Pv xs.length σ H → D.nx σ H) :
    ∃ W : Nat → Nat → St → Hp → Prop, (∃ m, W 0 m σ H) ∧ ∀ i m σ H, W i m σ H →
      ((ItY K a b).stop i H ∧ D.nx σ H) ∨ ((ItY K a b).go i H ∧ ∃ N : St → Hp → Prop, (∀ σ' H', N σ' H' → ∃ m', m' < m ∧ W (i + 1) m' σ' H') ∧ ∀ x H', (ItY K a b).yld i H x H' → g x σ H' fun σ2 H2 => tb { D with nx := N, ct := N, bk := D.nx } σ2 H2) := by
  refine ⟨fun i m σ H => m = xs.length - i ∧ i ≤ xs.length ∧ Pv i σ H, ⟨xs.length, by simp, Nat.zero_le _, h0⟩, ?_⟩
  rintro i m σ H ⟨rfl, hi, p⟩
  obtain ⟨q1, q2⟩ := hl i σ H hi p
  by_cases hlt : i < xs.length
  · have hlt2 : i < ys.length := by omega
    refine .inr ⟨⟨xs, ys, xs[i], ys[i], q1, q2, by simp [hlt], by simp [hlt2]⟩, Pv (i + 1), fun σ' H' p' => ⟨xs.length - (i + 1), by omega, rfl, hlt, p'⟩, fun x H' y => ?_⟩
    obtain ⟨u, v, pa, hk, ex, hn, e⟩ := y
    subst e ex
    exact hs i u v pa σ H (hk xs ys q1 q2).1 (hk xs ys q1 q2).2 p hn
  · have e : i = xs.length := by omega
    subst e
    exact .inl ⟨⟨xs, ys, q1, q2, Nat.le_refl _⟩, hd σ H p⟩
end
end L2

namespace L2
open PySem PySem.Spec PyProof.Rows
/-- a comprehension whose items are told by what has come so far -/
theorem compW_idx {J : It} {g : TG} {te : TE} {R : Addr → Hp → Prop} {D : Addr} {σ0 : St} {H0 : Hp} (n : Nat) (Pv : Nat → List V → St → Hp → Prop) (hn : n ≤ sizeLine) (h0 : Pv 0 [] σ0 H0) (hD0 : H0 D = some (.lst []))
    (hs : ∀ i σ H ys, i < n → Pv i ys σ H → ys.length = i → H D = some (.lst ys) → J.go i H ∧ ∀ x H', J.yld i H x H' → g x σ H' fun σ2 H2 => te σ2 H2 fun y H4 => H4 D = some (.lst ys) ∧ Pv (i + 1) (ys ++ [y]) σ2 (upd H4 D (.lst (ys ++ [y]))))
    (hd : ∀ σ H ys, Pv n ys σ H → H D = some (.lst ys) → ys.length = n → J.stop n H ∧ R D H) : CompW J g tYes te R D σ0 H0 := by
  refine ⟨fun i m σ H => m = n - i ∧ i ≤ n ∧ ∃ ys, Pv i ys σ H ∧ H D = some (.lst ys) ∧ ys.length = i, ⟨n, by omega, Nat.zero_le _, [], h0, hD0, rfl⟩, ?_⟩
  rintro i m σ H ⟨rfl, hi, ys, p, hD, hl⟩
  by_cases hlt : i < n
  · obtain ⟨go, st⟩ := hs i σ H ys hlt p hl hD
    refine .inr ⟨go, fun σ2 y H4 => H4 D = some (.lst ys) ∧ Pv (i + 1) (ys ++ [y]) σ2 (upd H4 D (.lst (ys ++ [y]))), fun _ _ => False, ?_, fun _ _ z => z.elim, st⟩
    rintro σ2 y H4 ⟨e, p'⟩
    exact ⟨_, e, by rw [hl]; omega, n - (i + 1), by omega, rfl, hlt, _, p', upd_same, by simp [hl]⟩
  · have e : i = n := by omega
    subst e
    exact .inl (hd σ H ys p hD hl)
theorem back_same {H H1 : Hp} {a : Addr} {o : Obj} {kvs : List (Key × V)} (hc : H a = some (.dK kvs)) (e : Same (L2.upd H a (.frz o (.dK kvs))) H1) : Same H (L2.upd H1 a (.dK kvs)) := fun b u hb => by
  by_cases eb : b = a
  · subst eb
    rw [hc] at hb
    rw [← hb]
    exact upd_same
  · rw [upd_ne eb]
    exact e b u (by rw [upd_ne eb]; exact hb)
end L2

/-! SORTING BY KEYS THAT DIFFER (own work): what the asking sort does, whoever answers. -/
namespace Srt
open PySem PySem.W PyProof.Rows
structure Ord (N : Nat) (r : Nat → Nat → Bool) : Prop where
  asym : ∀ a b, a < N → b < N → r a b = true → r b a = false
  trans : ∀ a b c, a < N → b < N → c < N → r b a = false → r c b = false → r c a = false
  dist : ∀ a b, a < N → b < N → a ≠ b → r a b = true ∨ r b a = true
def Cmp (N : Nat) (r : Nat → Nat → Bool) (cmp : Nat → Nat → (Bool → Shared → Prop) → Shared → Prop) (P : Shared → Prop) : Prop :=
  ∀ (i j : Nat) (C : Bool → Shared → Prop) (s : Shared), i < N → j < N → i ≠ j → P s → (∀ s', P s' → C (r i j) s') → cmp i j C s
def PN (N : Nat) (p : Array Nat) : Prop := p.toList.Perm (List.range N)
def Up (r : Nat → Nat → Bool) (p : Array Nat) (k : Nat) : Prop := ∀ i j, i ≤ j → j < k → r (p.getD j 0) (p.getD i 0) = false
def Dn (r : Nat → Nat → Bool) (p : Array Nat) (k : Nat) : Prop := ∀ i j, i ≤ j → j < k → r (p.getD i 0) (p.getD j 0) = false
section
variable {N : Nat} {r : Nat → Nat → Bool} {cmp : Nat → Nat → (Bool → Shared → Prop) → Shared → Prop} {P : Shared → Prop} {p : Array Nat}
theorem Ord.refl (O : Ord N r) {a : Nat} (h : a < N) : r a a = false := by
  cases e : r a a with
  | false => rfl
  | true => exact (O.asym a a h h e).symm.trans e |>.symm
theorem PN.size (h : PN N p) : p.size = N := by
  have := h.length_eq
  simpa using this
theorem getD_get {i : Nat} (hi : i < p.size) : p.getD i 0 = p[i] := by simp [Array.getD, hi]
theorem PN.lt (h : PN N p) {i : Nat} (hi : i < N) : p.getD i 0 < N := by
  have hs := h.size
  rw [getD_get (by omega)]
  have : p[i]'(by omega) ∈ p.toList := by simp
  exact List.mem_range.mp (h.mem_iff.mp this)
theorem PN.inj (h : PN N p) {i j : Nat} (hi : i < N) (hj : j < N) (e : p.getD i 0 = p.getD j 0) : i = j := by
  have hs := h.size
  rw [getD_get (by omega), getD_get (by omega)] at e
  have nd : p.toList.Nodup := h.nodup_iff.mpr List.nodup_range
  rcases Nat.lt_trichotomy i j with h1 | h1 | h1
  · exact absurd (show p.toList[i]'(by simp; omega) = p.toList[j]'(by simp; omega) by rw [Array.getElem_toList, Array.getElem_toList]; exact e) (List.pairwise_iff_getElem.mp nd i j (by simp; omega) (by simp; omega) h1)
  · exact h1
  · exact absurd (show p.toList[j]'(by simp; omega) = p.toList[i]'(by simp; omega) by rw [Array.getElem_toList, Array.getElem_toList]; exact e.symm) (List.pairwise_iff_getElem.mp nd j i (by simp; omega) (by simp; omega) h1)
theorem asc (O : Ord N r) (hc : Cmp N r cmp P) (hp : PN N p) : ∀ (f n : Nat) (s : Shared) (Q : Nat → Shared → Prop), 1 ≤ n → n + f ≤ N → Up r p n → P s →
    (∀ m s', n ≤ m → m ≤ n + f → (m = n + f ∨ r (p.getD m 0) (p.getD (m - 1) 0) = true) → Up r p m → P s' → Q m s') → (kas_asc p f n).kasWp cmp Q s
  | 0, n, s, Q, h1, hn, hu, hP, hq => hq n s (Nat.le_refl _) (Nat.le_refl _) (.inl rfl) hu hP
  | f + 1, n, s, Q, h1, hn, hu, hP, hq => by
    show cmp _ _ _ s
    refine hc _ _ _ s (hp.lt (by omega)) (hp.lt (by omega)) (fun z => by have := hp.inj (by omega) (by omega) z; omega) hP fun s' hs' => ?_
    cases e : r (p.getD n 0) (p.getD (n - 1) 0) with
    | true =>
      dsimp only
      rw [if_pos rfl]
      exact hq n s' (Nat.le_refl _) (by omega) (.inr e) hu hs'
    | false =>
      dsimp only
      rw [if_neg (by decide)]
      refine asc O hc hp f (n + 1) s' Q (by omega) (by omega) (fun i j hij hj => ?_) hs' fun m s'' h2 h3 h4 h5 h6 => hq m s'' (by omega) (by omega) (h4.imp (fun z => by omega) id) h5 h6
      by_cases hjn : j < n
      · exact hu i j hij hjn
      · have ej : j = n := by omega
        subst ej
        by_cases hi : i = j
        · subst hi
          exact O.refl (hp.lt (by omega))
        · exact O.trans _ _ _ (hp.lt (by omega)) (hp.lt (by omega)) (hp.lt (by omega)) (hu i (j - 1) (by omega) (by omega)) e
theorem desc (O : Ord N r) (hc : Cmp N r cmp P) (hp : PN N p) : ∀ (f n : Nat) (s : Shared) (Q : Array Nat × Nat × Nat → Shared → Prop), 1 ≤ n → n + f ≤ N → Dn r p n → P s →
    (∀ m s', n ≤ m → m ≤ n + f → Dn r p m → P s' → Q (p, m, 0) s') → (kas_desc f p n 0).kasWp cmp Q s
  | 0, n, s, Q, h1, hn, hu, hP, hq => hq n s (Nat.le_refl _) (Nat.le_refl _) hu hP
  | f + 1, n, s, Q, h1, hn, hu, hP, hq => by
    show cmp _ _ _ s
    refine hc _ _ _ s (hp.lt (by omega)) (hp.lt (by omega)) (fun z => by have := hp.inj (by omega) (by omega) z; omega) hP fun s' hs' => ?_
    cases e : r (p.getD n 0) (p.getD (n - 1) 0) with
    | true =>
      dsimp only
      rw [if_pos rfl, if_neg (by omega)]
      refine desc O hc hp f (n + 1) s' Q (by omega) (by omega) (fun i j hij hj => ?_) hs' fun m s'' h2 h3 h5 h6 => hq m s'' (by omega) (by omega) h5 h6
      by_cases hjn : j < n
      · exact hu i j hij hjn
      · have ej : j = n := by omega
        subst ej
        by_cases hi : i = j
        · subst hi
          exact O.refl (hp.lt (by omega))
        · exact O.trans _ _ _ (hp.lt (by omega)) (hp.lt (by omega)) (hp.lt (by omega)) (O.asym _ _ (hp.lt (by omega)) (hp.lt (by omega)) e) (hu i (j - 1) (by omega) (by omega))
    | false =>
      dsimp only
      rw [if_neg (by decide)]
      show cmp _ _ _ s'
      refine hc _ _ _ s' (hp.lt (by omega)) (hp.lt (by omega)) (fun z => by have := hp.inj (by omega) (by omega) z; omega) hs' fun s'' hs'' => ?_
      have hd : r (p.getD (n - 1) 0) (p.getD n 0) = true := by
        rcases O.dist _ _ (hp.lt (i := n - 1) (by omega)) (hp.lt (i := n) (by omega)) (fun z => by have := hp.inj (by omega) (by omega) z; omega) with h | h
        · exact h
        · rw [e] at h; cases h
      dsimp only
      rw [hd, if_pos rfl]
      exact hq n s'' (Nat.le_refl _) (by omega) hu hs''
theorem rev_at {i j : Nat} (hj : j ≤ p.size) (k : Nat) : (kas_rev p i j).getD k 0 = if i ≤ k ∧ k < j then p.getD (i + j - 1 - k) 0 else p.getD k 0 := by
  have h := getElem?_mirror_all (xs := p) (i := i) (j := j) hj k
  unfold kas_rev
  rw [Array.getD_eq_getD_getElem?, h]
  split <;> rw [Array.getD_eq_getD_getElem?]
theorem rev_pn {i j : Nat} (h : PN N p) : PN N (kas_rev p i j) := (Array.perm_iff_toList_perm.mp (mirror_perm p i j _)).trans h
theorem tail3 (O : Ord N r) (hc : Cmp N r cmp P) (hp : PN N p) {n : Nat} {s : Shared} {Q : Nat × Array Nat → Shared → Prop} (h1 : 1 ≤ n) (hn : n ≤ N) (hd : Dn r p n) (hP : P s)
    (hq : ∀ m p' s', n ≤ m → m ≤ N → PN N p' → Up r p' m → P s' → Q (m, p') s') : (kas_tail3 n N p).kasWp cmp Q s := by
  unfold kas_tail3
  rw [KasT.kasWp_bind]
  have hs := hp.size
  refine asc O hc (rev_pn hp) (N - n) n s _ h1 (by omega) (fun i j hij hj => ?_) hP fun m s' h2 h3 _ h5 h6 => hq m _ s' h2 (by omega) (rev_pn hp) h5 h6
  rw [rev_at (by omega), rev_at (by omega), if_pos (by omega), if_pos (by omega)]
  exact hd _ _ (by omega) (by omega)
theorem count (O : Ord N r) (hc : Cmp N r cmp P) (hp : PN N p) {s : Shared} {Q : Nat × Array Nat → Shared → Prop} (h1 : 1 ≤ N) (hP : P s)
    (hq : ∀ m p' s', 1 ≤ m → m ≤ N → PN N p' → Up r p' m → P s' → Q (m, p') s') : (kas_count N p).kasWp cmp Q s := by
  unfold kas_count
  rw [KasT.kasWp_bind]
  refine asc O hc hp (N - 1) 1 s _ (Nat.le_refl _) (by omega) (fun i j hij hj => ?_) hP fun m s' h2 h3 h4 h5 h6 => ?_
  · have ei : i = 0 := by omega
    have ej : j = 0 := by omega
    subst ei ej
    exact O.refl (hp.lt (by omega))
  · by_cases hm : m = N
    · rw [if_pos (by rw [hm]; exact beq_self_eq_true N)]
      exact hq m p s' h2 (by omega) hp h5 h6
    · rw [if_neg (by rw [beq_iff_eq]; exact hm)]
      have hr : r (p.getD m 0) (p.getD (m - 1) 0) = true := h4.resolve_left (by omega)
      by_cases hm1 : m > 1
      · rw [if_pos hm1]
        show cmp _ _ _ s'
        refine hc _ _ _ s' (hp.lt (by omega)) (hp.lt (by omega)) (fun z => by have := hp.inj (by omega) (by omega) z; omega) h6 fun s'' hs'' => ?_
        have hd : r (p.getD 0 0) (p.getD (m - 1) 0) = true := by
          rcases O.dist _ _ (hp.lt (i := 0) (by omega)) (hp.lt (i := m - 1) (by omega)) (fun z => by have := hp.inj (by omega) (by omega) z; omega) with h | h
          · exact h
          · rw [h5 0 (m - 1) (by omega) (by omega)] at h; cases h
        dsimp only
        rw [hd, if_pos rfl]
        exact hq m p s'' h2 (by omega) hp h5 hs''
      · rw [if_neg hm1]
        have em : m = 1 := by omega
        subst em
        unfold kas_descPart
        rw [KasT.kasWp_bind]
        refine desc O hc hp (N - (1 + 1)) (1 + 1) s' _ (by omega) (by omega) (fun i j hij hj => ?_) h6 fun m s'' g2 g3 g5 g6 => ?_
        · by_cases hi : i = j
          · subst hi
            exact O.refl (hp.lt (by omega))
          · have ei : i = 0 := by omega
            have ej : j = 1 := by omega
            subst ei ej
            exact O.asym _ _ (hp.lt (by omega)) (hp.lt (by omega)) hr
        · rw [if_neg (by show ¬ (0 > 0); omega)]
          exact tail3 O hc hp (by show 1 ≤ m; omega) (by show m ≤ N; omega) g5 g6 fun m' p' s3 a1 a2 a3 a4 a5 => hq m' p' s3 (by have : m ≤ m' := a1; omega) a2 a3 a4 a5
theorem place (O : Ord N r) (hc : Cmp N r cmp P) (hp : PN N p) {k : Nat} (hk : k < N) (hu : Up r p k) : ∀ (f l q : Nat) (s : Shared) (Q : Nat → Shared → Prop), l ≤ q → q ≤ k → q - l ≤ f → (∀ i, i < l → r (p.getD k 0) (p.getD i 0) = false) →
    (∀ i, q ≤ i → i < k → r (p.getD k 0) (p.getD i 0) = true) → P s →
    (∀ m s', m ≤ k → (∀ i, i < m → r (p.getD k 0) (p.getD i 0) = false) → (∀ i, m ≤ i → i < k → r (p.getD k 0) (p.getD i 0) = true) → P s' → Q m s') → (kas_place p k f l q).kasWp cmp Q s
  | 0, l, q, s, Q, hl, hq, hf, lo, hi, hP, h => h l s (by omega) lo (fun i h1 h2 => hi i (by omega) h2) hP
  | f + 1, l, q, s, Q, hl, hq, hf, lo, hi, hP, h => by
    unfold kas_place
    by_cases e : l ≥ q
    · rw [if_pos e]
      exact h l s (by omega) lo (fun i h1 h2 => hi i (by omega) h2) hP
    · rw [if_neg e]
      show cmp _ _ _ s
      have hm : (l + q) / 2 < q := by omega
      have hm2 : l ≤ (l + q) / 2 := by omega
      refine hc _ _ _ s (hp.lt (by omega)) (hp.lt (by omega)) (fun z => by have := hp.inj (by omega) (by omega) z; omega) hP fun s' hs' => ?_
      cases c : r (p.getD k 0) (p.getD ((l + q) / 2) 0) with
      | true =>
        dsimp only
        rw [if_pos rfl]
        refine place O hc hp hk hu f l ((l + q) / 2) s' Q (by omega) (by omega) (by omega) lo (fun i h1 h2 => ?_) hs' h
        cases d : r (p.getD k 0) (p.getD i 0) with
        | true => rfl
        | false =>
          have := O.trans _ _ _ (hp.lt (i := (l + q) / 2) (by omega)) (hp.lt (i := i) (by omega)) (hp.lt (i := k) (by omega)) (hu _ i h1 h2) d
          rw [this] at c
          cases c
      | false =>
        dsimp only
        rw [if_neg (by decide)]
        refine place O hc hp hk hu f ((l + q) / 2 + 1) q s' Q (by omega) (by omega) (by omega) (fun i h1 => ?_) hi hs' h
        exact O.trans _ _ _ (hp.lt (by omega)) (hp.lt (by omega)) (hp.lt (by omega)) (hu i ((l + q) / 2) (by omega) (by omega)) c
theorem bub_at {src d : Nat} (hs : src < p.size) (hd : d ≤ src) (k : Nat) : (bubble p src d).getD k 0 = if k = src - d then p.getD src 0 else if src - d < k ∧ k ≤ src then p.getD (k - 1) 0 else p.getD k 0 := by
  have h := getElem?_bubble hs d hd k
  rw [Array.getD_eq_getD_getElem?, h, Array.getD_eq_getD_getElem?, Array.getD_eq_getD_getElem?, Array.getD_eq_getD_getElem?]
  by_cases e1 : k = src - d
  · rw [if_pos e1, if_pos e1]
  · rw [if_neg e1, if_neg e1]
    by_cases e2 : src - d < k ∧ k ≤ src
    · rw [if_pos e2, if_pos e2]
    · rw [if_neg e2, if_neg e2]
theorem bin (O : Ord N r) (hc : Cmp N r cmp P) : ∀ (f : Nat) (p : Array Nat) (k : Nat) (s : Shared) (Q : Array Nat → Shared → Prop), PN N p → k + f = N → Up r p k → P s →
    (∀ p' s', PN N p' → Up r p' N → P s' → Q p' s') → (kas_bin f p k).kasWp cmp Q s
  | 0, p, k, s, Q, hp, hk, hu, hP, h => h p s hp ((show k = N from hk) ▸ hu) hP
  | f + 1, p, k, s, Q, hp, hk, hu, hP, h => by
    unfold kas_bin
    rw [KasT.kasWp_bind]
    have hs := hp.size
    refine place O hc hp (k := k) (by omega) hu k 0 k s _ (Nat.zero_le _) (Nat.le_refl _) (by omega) (fun i hi => absurd hi (Nat.not_lt_zero _)) (fun i h1 h2 => absurd h2 (by omega)) hP fun m s' h1 lo hi hs' => ?_
    refine bin O hc f _ (k + 1) s' Q ((Array.perm_iff_toList_perm.mp (bubble_perm p k _)).trans hp) (by omega) (fun i j hij hj => ?_) hs' h
    rw [bub_at (by omega) (by omega), bub_at (by omega) (by omega)]
    have e : k - (k - m) = m := by omega
    rw [e]
    have hi' : ∀ i, m ≤ i → i < k → r (p.getD i 0) (p.getD k 0) = false := fun i a b => O.asym _ _ (hp.lt (by omega)) (hp.lt (by omega)) (hi i a b)
    by_cases ej : j = m
    · rw [if_pos ej]
      by_cases ei : i = m
      · rw [if_pos ei]
        exact O.refl (hp.lt (by omega))
      · rw [if_neg ei, if_neg (by omega)]
        exact lo i (by omega)
    · rw [if_neg ej]
      by_cases ei : i = m
      · rw [if_pos ei, if_pos (by omega)]
        exact hi' (j - 1) (by omega) (by omega)
      · rw [if_neg ei]
        by_cases bj : m < j ∧ j ≤ k
        · rw [if_pos bj]
          by_cases bi : m < i ∧ i ≤ k
          · rw [if_pos bi]
            exact hu _ _ (by omega) (by omega)
          · rw [if_neg bi]
            exact hu _ _ (by omega) (by omega)
        · rw [if_neg bj, if_neg (by omega)]
          exact hu _ _ hij (by omega)
/-- the asking sort, by an order in which no two are alike -/
theorem sort (O : Ord N r) (hc : Cmp N r cmp P) {s : Shared} {Q : Array Nat → Shared → Prop} (h1 : 1 ≤ N) (hP : P s) (h : ∀ p' s', PN N p' → Up r p' N → P s' → Q p' s') : (kas_sort N).kasWp cmp Q s := by
  unfold kas_sort
  rw [KasT.kasWp_bind]
  refine count O hc (by unfold PN; simp) h1 hP fun m p' s' a1 a2 a3 a4 a5 => ?_
  show (if m < N then kas_bin (N - max m 1) p' (max m 1) else .ret p').kasWp cmp Q s'
  have em : max m 1 = m := by omega
  rw [em]
  by_cases hm : m < N
  · rw [if_pos hm]
    exact bin O hc _ p' m s' Q a3 (by omega) a4 a5 h
  · rw [if_neg hm]
    have : m = N := by omega
    subst this
    exact h p' s' a3 a4 a5
end
end Srt

/-! sorted OF A LIST OF TUPLES WHOSE FIRST THINGS ARE TEXTS THAT DIFFER (own work). -/
namespace Srt
open PySem PySem.W PyProof.Rows
/-- tuples with these texts ahead -/
def TA1 (h : Heap) (vs : List Value) (zs : List Str) : Prop := vs.length = zs.length ∧ ∀ (i : Nat) (z : Str), zs[i]? = some z → ∃ a o t rest n, vs[i]? = some (.ref a) ∧ h.get? a = some o ∧ o.cls = .type "tuple" ∧ o.data = .seq (Value.str z t :: rest).toArray n
def rz (zs : List Str) (i j : Nat) : Bool := decide ((zs.getD i "").cps.toList < (zs.getD j "").cps.toList)
theorem str_ext {a b : Str} (h : a.cps.toList = b.cps.toList) : a = b := by
  cases a
  cases b
  simp at h
  rw [h]
theorem ord_z {zs : List Str} (nd : zs.Nodup) : Ord zs.length (rz zs) where
  asym := fun a b _ _ h => by
    unfold rz at h ⊢
    rw [decide_eq_true_iff] at h
    rw [decide_eq_false_iff_not]
    exact List.lt_asymm h
  trans := fun a b c _ _ _ h1 h2 => by
    unfold rz at h1 h2 ⊢
    rw [decide_eq_false_iff_not] at h1 h2 ⊢
    rw [List.not_lt] at h1 h2 ⊢
    exact List.le_trans h1 h2
  dist := fun a b ha hb n => by
    unfold rz
    rw [decide_eq_true_iff, decide_eq_true_iff]
    apply Classical.byContradiction
    intro h
    rw [not_or, List.not_lt, List.not_lt] at h
    have e := str_ext (List.le_antisymm h.2 h.1)
    simp only [List.getD_eq_getElem?_getD, List.getElem?_eq_getElem ha, List.getElem?_eq_getElem hb, Option.getD_some] at e
    rcases Nat.lt_trichotomy a b with q | q | q
    · exact List.pairwise_iff_getElem.mp nd a b ha hb q e
    · exact n q
    · exact List.pairwise_iff_getElem.mp nd b a hb ha q e.symm
theorem TA1.keep {h h' : Heap} {vs : List Value} {zs : List Str} (t : TA1 h vs zs) (k : ∀ b o, o.cls = .type "tuple" → h.get? b = some o → h'.get? b = some o) : TA1 h' vs zs :=
  ⟨t.1, fun i z e => by
    obtain ⟨a, o, tk, rest, n, h1, h2, h3, h4⟩ := t.2 i z e
    exact ⟨a, o, tk, rest, n, h1, k a o h3 h2, h3, h4⟩⟩
theorem TA1.kat {h : Heap} : ∀ {vs : List Value} {zs : List Str}, TA1 h vs zs → ∃ fs, KatTups h vs fs ∧ fs.length = zs.length ∧ ∀ v ∈ fs, ∃ z t, v = Value.str z t
  | [], [], _ => ⟨[], KatTups.nil, rfl, fun v hv => by simp at hv⟩
  | [], _ :: _, t => by have := t.1; simp at this
  | _ :: _, [], t => by have := t.1; simp at this
  | v :: vs, z :: zs, t => by
    obtain ⟨a, o, tk, rest, n, h1, h2, h3, h4⟩ := t.2 0 z rfl
    have ev : v = .ref a := by simpa using h1
    subst ev
    obtain ⟨fs, k, hl, hs⟩ := TA1.kat (vs := vs) (zs := zs) ⟨by have := t.1; simpa using this, fun i y e => by
      obtain ⟨a, o, tk, rest, n, g1, g2⟩ := t.2 (i + 1) y (by simpa using e)
      exact ⟨a, o, tk, rest, n, by simpa using g1, g2⟩⟩
    refine ⟨.str z tk :: fs, KatTups.cons h2 h3 h4 (by simp) k, by simp [hl], fun w hw => ?_⟩
    rcases List.mem_cons.mp hw with e | hw
    · exact ⟨z, tk, e⟩
    · exact hs w hw
section
variable {prog : Program} {w : World} {A : Around} {E : Value → Shared → Prop} {s : Shared}
theorem cmp_z {vs : List Value} {zs : List Str} {s1 : Shared} (t : TA1 s1.heap vs zs) (nd : zs.Nodup) : Cmp zs.length (rz zs) (kas_ask prog w A (tuples' true) vs) (fun s' => s' = s1) := by
  intro i j C s' hi hj hij hs' hC
  subst hs'
  obtain ⟨a, o, tk, rest, n, h1, h2, h3, h4⟩ := t.2 i zs[i] (by simp [hi])
  obtain ⟨b, o', tk', rest', n', g1, g2, g3, g4⟩ := t.2 j zs[j] (by simp [hj])
  unfold kas_ask
  have e1 : vs.getD i Value.none = .ref a := by rw [List.getD_eq_getElem?_getD, h1]; rfl
  have e2 : vs.getD j Value.none = .ref b := by rw [List.getD_eq_getElem?_getD, g1]; rfl
  rw [e1, e2]
  refine kat_lt h2 h4 g2 g4 ?_
  have ez : (Value.str zs[i] tk :: rest).toArray.toList.zip (Value.str zs[j] tk' :: rest').toArray.toList = (Value.str zs[i] tk, Value.str zs[j] tk') :: rest.zip rest' := by simp
  rw [ez]
  refine kat_cons (wpAny_eqBool_str ?_)
  have en : decide (zs[i] = zs[j]) = false := by
    rw [decide_eq_false_iff_not]
    intro e
    rcases Nat.lt_trichotomy i j with q | q | q
    · exact List.pairwise_iff_getElem.mp nd i j hi hj q e
    · exact hij q
    · exact List.pairwise_iff_getElem.mp nd j i hj hi q e.symm
  rw [en]
  refine kat_no (oneLt_str ?_)
  have er : rz zs i j = decide (zs[i].cps.toList < zs[j].cps.toList) := by
    unfold rz
    simp only [List.getD_eq_getElem?_getD, List.getElem?_eq_getElem hi, List.getElem?_eq_getElem hj, Option.getD_some]
  rw [← er]
  exact hC s' rfl
theorem list_sort_tup {a : Addr} {vs : List Value} {zs : List Str} {n : Nat} {P : PySem.Fin → Shared → Prop} (ho : s.heap.get? a = some (seqObj "list" vs.toArray n)) (t : TA1 s.heap vs zs) (nd : zs.Nodup) (h64 : vs.length < 64)
    (h : ∀ (p : Array Nat), PN vs.length p → Up (rz zs) p vs.length → P (.done (.ret .none)) { s with heap := sortedHeap s.heap a vs (List.toArray (p.toList.map fun i => vs.getD i Value.none)) }) :
    wpAny (model prog w) A (Builtin.«list.sort» ⟨[.ref a], []⟩) P E s := by
  rw [list_sort_plain]
  have ha : a < s.heap.objs.size := Heap.lt_size ho
  refine wpAny_bind (listItems_at ho rfl ?_)
  refine wpAny_bind (listUpdate_at ho rfl ?_ (by rw [List.size_toArray, sizeLine_eq]; omega) (Nat.zero_le _))
  obtain ⟨e1, ho1⟩ : ∃ e1, (s.heap.update a (Obj.mapSeq fun _ => (#[] : Array Value))).get? a = some (seqObj "list" #[] e1) := ⟨_, get?_update_seq ho (fun _ => #[])⟩
  refine wpAny_bind (seqEpoch_at ho1 rfl ?_)
  refine wpAny_bind (wpAny_newTuple ?_ (by show vs.length ≤ _; rw [sizeLine_eq]; omega))
  refine wpAny_bind (wpAny_newList ?_ (Nat.zero_le _))
  refine wpAny_holding ?_
  have ho6 : (((s.heap.update a (Obj.mapSeq fun _ => (#[] : Array Value))).push (seqObj "tuple" vs.toArray 0)).push (seqObj "list" #[] 0)).get? a = some (seqObj "list" #[] e1) := by
    rw [Heap.get?_push_ne _ _ _ (by rw [size_push', Heap.size_update]; exact Nat.ne_of_lt (Nat.lt_succ_of_lt ha)), Heap.get?_push_ne _ _ _ (by rw [Heap.size_update]; exact Nat.ne_of_lt ha)]
    exact ho1
  have tk : TA1 (((s.heap.update a (Obj.mapSeq fun _ => (#[] : Array Value))).push (seqObj "tuple" vs.toArray 0)).push (seqObj "list" #[] 0)) vs zs := t.keep fun b o hc e => by
    have nb : b ≠ a := fun z => by
      rw [z, ho] at e
      have e' := Option.some.inj e
      rw [← e'] at hc
      exact absurd (show Value.type "list" = Value.type "tuple" from hc) (by decide)
    exact Heap.get?_push_of_some _ (Heap.get?_push_of_some _ ((Heap.get?_update_ne _ _ _ _ nb).trans e))
  show wpAny (model prog w) A _ P E { s with heap := ((s.heap.update a (Obj.mapSeq fun _ => (#[] : Array Value))).push (seqObj "tuple" vs.toArray 0)).push (seqObj "list" #[] 0) }
  dsimp only
  have hsz : vs.toArray.size = vs.length := by simp
  by_cases h2 : vs.toArray.size < 2
  · rw [if_pos h2, if_pos h2]
    refine wpAny_bind (wpAny_pure ?_)
    rw [StateT.run_pure]
    refine wpAny_bind (wpAny_pure ?_)
    dsimp only
    have hout := kat_snds (vs := vs) (ks := vs) rfl (st := SortSt.mk' general' (vs.toArray.zip vs.toArray) #[] 7 none) (p := List.toArray (List.range vs.length)) (by
      have e := kas_range (vs.toArray.zip vs.toArray)
      rw [show (vs.toArray.zip vs.toArray).size = vs.length by simp] at e
      exact e.symm)
    rw [hout]
    refine wpAny_bind (seqEpoch_at ho6 rfl ?_)
    refine wpAny_bind (listUpdate_at ho6 rfl ?_ (Nat.zero_le _) (by rw [List.size_toArray, List.length_map, List.length_range, sizeLine_eq]; omega))
    simp only [bne_self_eq_false, Bool.false_eq_true, if_false]
    refine wpAny_pure (h (List.toArray (List.range vs.length)) (by unfold PN; simp) fun i j hij hj => ?_)
    have ei : i = 0 := by omega
    have ej : j = 0 := by omega
    subst ei ej
    unfold rz
    rw [decide_eq_false_iff_not]
    exact List.lt_irrefl _
  · have hn2 : 2 ≤ vs.length := by omega
    rw [if_neg h2, if_neg h2]
    obtain ⟨fs, kt, hl, hs⟩ := tk.kat
    refine wpAny_bind (kat_kind (T := .type "str") kt (by have := t.1; omega) (fun v hv => ?_) rfl ?_)
    · obtain ⟨z, u, rfl⟩ := hs v hv
      exact PySem.W.Looks.of_pure rfl
    · refine wpAny_bind (wpAny_mono (kat_run (prog := prog) (w := w) (A := A) (E := E) (κ := tuples' true) (ks := vs) (vs := vs) (s := { s with heap := ((s.heap.update a (Obj.mapSeq fun _ => (#[] : Array Value))).push (seqObj "tuple" vs.toArray 0)).push (seqObj "list" #[] 0) })
        (Q := fun st' s' => ∃ p : Array Nat, p.size = vs.length ∧ arrOf st' = p.map (kas_item (vs.toArray.zip vs.toArray)) ∧ failedOf st' = none ∧ PN vs.length p ∧ Up (rz zs) p vs.length ∧ s' = { s with heap := ((s.heap.update a (Obj.mapSeq fun _ => (#[] : Array Value))).push (seqObj "tuple" vs.toArray 0)).push (seqObj "list" #[] 0) })
        (G := fun p s' => PN vs.length p ∧ Up (rz zs) p vs.length ∧ s' = { s with heap := ((s.heap.update a (Obj.mapSeq fun _ => (#[] : Array Value))).push (seqObj "tuple" vs.toArray 0)).push (seqObj "list" #[] 0) })
        rfl hn2 h64 (fun p' st' s' a1 a2 a3 a4 => ⟨p', a1, a2, a3, a4⟩) ?_) ?_ fun _ _ e => e)
      · have el := t.1
        rw [el]
        exact sort (ord_z nd) (cmp_z (s1 := { s with heap := ((s.heap.update a (Obj.mapSeq fun _ => (#[] : Array Value))).push (seqObj "tuple" vs.toArray 0)).push (seqObj "list" #[] 0) }) tk nd) (by omega) rfl fun p' s' b1 b2 b3 => ⟨b1, b2, b3⟩
      · rintro ⟨⟨⟩, st'⟩ s' ⟨p, hp, har, hf, pn, up, rfl⟩
        dsimp only
        have hout := kat_snds (vs := vs) (ks := vs) rfl har
        rw [hout]
        refine wpAny_bind (seqEpoch_at ho6 rfl ?_)
        refine wpAny_bind (listUpdate_at ho6 rfl ?_ (Nat.zero_le _) (by rw [List.size_toArray, List.length_map, Array.length_toList, hp, sizeLine_eq]; omega))
        rw [hf]
        simp only [bne_self_eq_false, Bool.false_eq_true, if_false]
        exact wpAny_pure (h p pn up)
end
end Srt
namespace L2
open PySem PySem.Spec PyProof.Rows
theorem vals_map {xs : List V} {us : List Value} (r : Vals xs us) : ∀ (q : List Nat), (∀ i ∈ q, i < xs.length) → Vals (q.map fun i => xs.getD i .non) (q.map fun i => us.getD i Value.none)
  | [], _ => .nil
  | i :: q, h => by
    refine .cons ?_ (vals_map r q fun j hj => h j (List.mem_cons_of_mem _ hj))
    have hi := h i List.mem_cons_self
    have hu : i < us.length := by rw [← r.length]; exact hi
    obtain ⟨u, e, ru⟩ := r.get (i := i) (x := xs[i]) (by simp [hi])
    simp only [List.getD_eq_getElem?_getD, List.getElem?_eq_getElem hi, e, Option.getD_some]
    exact ru
/-- these texts rise -/
def Rise (zs : List Str) : Prop := zs.Pairwise fun a b => ¬ b.cps.toList < a.cps.toList
section
variable {X : Cx}
end
end L2

/-! == OF TWO DICTS, where they are alike (own work). -/
namespace L2
open PySem PySem.Spec PyProof.Rows PySem.Builtin PySem.Builtin.Dict
section
variable {prog : Program} {w : World} {A : Around} {E : Value → Shared → Prop} {s : Shared} {a b : Addr} {oa ob : Obj} {es fs : Array DictEntry} {ep fp : Nat}
end
end L2

namespace L2
open PySem PySem.Spec PyProof.Rows PySem.Builtin PySem.Builtin.Dict
section
variable {A : Around} {s : Shared} {P : Program} {w : World}
end
end L2

/-! == AND != OF THINGS THAT ARE ALIKE ALL THE WAY DOWN (own work). -/
namespace L2
open PySem PySem.Spec PyProof.Rows
theorem kv_back : ∀ {kvs : List (Key × V)} {vs : List (Key × Value)} {k : Key} {u : Value} {i : Nat}, KV kvs vs → vs[i]? = some (k, u) → ∃ v, kvs[i]? = some (k, v) ∧ RelV v u
  | _, _, _, _, _, .nil, e => by simp at e
  | _, _, k, u, 0, .cons (a := p) r _, e => by
    simp at e
    subst e
    obtain ⟨p1, p2⟩ := p
    obtain ⟨r1, r2⟩ := r
    simp only at r1
    subst r1
    exact ⟨p2, rfl, r2⟩
  | _, _, k, u, i + 1, .cons _ t, e => by
    obtain ⟨v, h1, h2⟩ := kv_back (i := i) t (by simpa using e)
    exact ⟨v, by simpa using h1, h2⟩
section
variable {X : Cx} {pins : List (Addr × Obj)} {σ : St} {H : Hp} {s : Shared}
end
end L2

/-! != OF LISTS OF TEXTS, != OF TWO DICTS THAT ARE ALIKE (own work). -/
namespace L2
open PySem PySem.Spec PyProof.Rows PySem.Builtin PySem.Builtin.Dict
section
variable {X : Cx}
end
section
variable {A : Around} {s : Shared} {P : Program} {w : World}
end
section
variable {X : Cx}
end
end L2

/-! == OF TWO DICTS THAT ARE ALIKE (own work). -/
namespace L2
open PySem PySem.Spec PyProof.Rows PySem.Builtin PySem.Builtin.Dict
section
variable {A : Around} {s : Shared} {P : Program} {w : World}
end
section
variable {X : Cx}
end
end L2

/-! dict(A TUPLE OF PAIRS) (own work). -/
namespace L2
open PySem PySem.Spec PyProof.Rows PySem.Builtin PySem.Builtin.Dict
theorem tup_no_keys : typeLookup (.type "tuple") "keys" = pure none := am_miss_of_fast (by decide +kernel)
theorem miss_keys {prog : Program} {w : World} {A : Around} {E : Value → Shared → Prop} {s : Shared} {a : Addr} {o : Obj} {xs : Array Value} {k : Nat} {Q : Option Value → Shared → Prop}
    (hx : s.heap.get? a = some o) (hc : o.cls = .type "tuple") (hdat : o.data = .seq xs k) (hd : o.dict = none) (hA : A.handled = none)
    (h : ∀ h' tk, (∀ b ob, s.heap.get? b = some ob → h'.get? b = some ob) → Q none { s with heap := h', toks := tk }) : wpAny (model prog w) A (getAttr? (.ref a) "keys") Q E s := by
  obtain ⟨c, dct, dat, sl⟩ := o
  simp only at hc hdat hd
  subst hc hdat hd
  obtain ⟨hp, g, d, tk, os⟩ := s
  have hT : ∀ tk', (⟨hp, g, d, tk', os⟩ : Shared).TypeIs (.ref a) "tuple" := fun _ => ⟨_, hx, rfl⟩
  have f1 := sub_AttributeError
  have f3 := F.slot_tuple_getattribute.lookup
  have f4 := F.slot_tuple_getattribute.bind (.ref a)
  have f5 := am_tuple_getattr_none
  unfold getAttr? getAttrBy? getAttrBy
  repeat (any_goals (first | assumption | exact hT _ | ((with_reducible show wpAny _ _ (call (Value.builtin "tuple.__getattribute__") _ _) _ _ _); refine call_meets F.slot_tuple_getattribute (hT _) am_entry_tuple_getattribute (F.args_tuple_getattribute_2 _ _) (meets_getattribute_miss_tuple a xs k sl "keys" _ tup_no_keys (by decide +kernel) (by size_fits)) ⟨hx, hA, fun h' tk' e hx' => ?_⟩) | wp_step))
  obtain ⟨t', u', he⟩ := hx'.there
  show wpAny _ _ (getattributeRaised _ _ _ _ _ _ _) _ _ _
  unfold getattributeRaised
  repeat (any_goals (first | assumption | wp_step))
  exact h _ _ hx'.keeps
theorem entry_upd_loop : entryFor table "dict.update.loop" = some Builtin.«dict.update.loop» := entryFor_of_tree (by kernel_rfl)
section
variable {prog : Program} {w : World} {A : Around} {R : Result → Shared → Prop}
/-- the pairs, one by one -/
theorem upd_loop {h0 : Heap} {d it t : Addr} {items : Array Value} {ps : List (Key × Value)} (hh : A.handled = none) (ht : h0.IsTuple t items) (tne : t ≠ it ∧ t ≠ d) (idne : it ≠ d) (hl : ps.length = items.size) (hz : items.size ≤ 1000)
    (hp : ∀ (j : Nat) (k : Key) (v : Value), ps[j]? = some (k, v) → ∃ a o key n, items[j]? = some (.ref a) ∧ h0.get? a = some o ∧ o.cls = .type "tuple" ∧ o.data = .seq #[key, v] n ∧ (mixKind prog w).is k key = true ∧ a ≠ it ∧ a ≠ d)
    (nd : (ps.map (·.1)).Nodup) : ∀ (m i : Nat) (tk : Tok) (s : Shared), i + m = items.size → s.heap.IsTupleIter it t i → s.heap.DictOf (mixKind prog w) d (ps.take i) → (∀ b o, b ≠ it → b ≠ d → h0.get? b = some o → s.heap.get? b = some o) →
    (∀ (h' : Heap) (k : Nat), h'.DictOf (mixKind prog w) d ps → (∀ b o, b ≠ it → b ≠ d → h0.get? b = some o → h'.get? b = some o) → R (.ok (.ret .none)) { s with heap := h', toks := k }) →
    codeAny (model prog w) A (.builtin "dict.update.loop" ⟨[.ref d, .ref it, .int i tk, .none], []⟩) R s
  | 0, i, tk, s, hi, hit, hd, kp, hq => by
    refine codeAny_builtin entry_upd_loop ?_
    unfold Builtin.«dict.update.loop»
    dsimp only
    obtain ⟨o, ho, hc, n, hdt⟩ := id ht
    refine wpAny_bind (wpAny_pyNext_tuple_end (items := items) hh hit ⟨o, kp t o tne.1 tne.2 ho, hc, n, hdt⟩ (by rw [Array.getElem?_eq_none (by omega)]) fun h' ex => ?_)
    dsimp only
    refine wpAny_bind (wpAny_pure (wpAny_pure ?_))
    have e : ps.take i = ps := List.take_of_length_le (by omega)
    rw [e] at hd
    exact hq h' s.toks (hd.extBut ex idne.symm) fun b o hb1 hb2 q => ex b o hb1 (kp b o hb1 hb2 q)
  | m + 1, i, tk, s, hi, hit, hd, kp, hq => by
    refine codeAny_builtin entry_upd_loop ?_
    unfold Builtin.«dict.update.loop»
    dsimp only
    obtain ⟨o, ho, hc, n, hdt⟩ := id ht
    obtain ⟨⟨k, v⟩, hk⟩ : ∃ kv, ps[i]? = some kv := ⟨_, List.getElem?_eq_getElem (by omega)⟩
    obtain ⟨a, oa, key, na, e1, e2, e3, e4, e5, e6, e7⟩ := hp i k v hk
    refine wpAny_bind (wpAny_pyNext_tuple_item (items := items) hit ⟨o, kp t o tne.1 tne.2 ho, hc, n, hdt⟩ e1 fun h1 it1 sb => ?_)
    dsimp only
    have ha1 : h1.get? a = some oa := (sb.2 a e6).trans (kp a oa e6 e7 e2)
    have hd1 : h1.DictOf (mixKind prog w) d (ps.take i) := by
      obtain ⟨od, es, ep, g, r⟩ := hd
      exact ⟨od, es, ep, (sb.2 d idne.symm).trans g, r⟩
    refine wpAny_bind (wpAny_holding (wpAny_bind (wpAny_tryCatch ?_)))
    unfold Dict.pairItems
    refine wpAny_bind (wpAny_typeOf (T := "tuple") ⟨oa, ha1, e3⟩ ?_)
    rw [if_pos (by decide)]
    refine wpAny_bind (wpAny_seqItems ha1 e4 (wpAny_pure ?_))
    show wpAny _ _ (holding [key, v] (dictSet d key v)) _ _ _
    refine wpAny_holding (wpAny_dictSet_pairs (knd := mixKind prog w) (k := k) e5 hd1 (fun h2 hd2 sb2 => ?_) (by rw [List.length_take, sizeLine_eq]; omega))
    refine wpAny_pure ⟨Code.quiet_builtin _ (by decide +kernel), ?_⟩
    have es : stored (ps.take i) k v = ps.take (i + 1) := by
      have no : ((ps.take i).any fun kv => decide (kv.1 = k)) = false := by
        rw [List.any_eq_false]
        intro kv hkv
        rw [decide_eq_true_iff]
        intro ek
        obtain ⟨j, hj, ej⟩ := List.mem_take_iff_getElem.mp hkv
        have hj2 : j < ps.length := by omega
        have hij : j < i := by omega
        have hi2 : i < ps.length := by omega
        have ei : ps[i] = (k, v) := (List.getElem?_eq_some_iff.mp hk).2
        refine List.pairwise_iff_getElem.mp nd j i (by simpa using hj2) (by simpa using hi2) hij ?_
        rw [List.getElem_map, List.getElem_map, ej, ei, ek]
      unfold stored
      rw [if_neg (by rw [no]; decide), List.take_add_one, hk]
      rfl
    rw [es] at hd2
    exact upd_loop hh ht tne idne hl hz hp nd m (i + 1) _ _ (by omega) (by
      obtain ⟨oi, g1, g2⟩ := it1
      exact ⟨oi, (sb2.2 it idne).trans g1, g2⟩) hd2 (fun b o hb1 hb2 q => (sb2.2 b hb2).trans ((sb.2 b hb1).trans (kp b o hb1 hb2 q))) fun h' k' x y => hq h' k' x y
end
theorem pick {α β : Type} : ∀ (l : List α) (P : Nat → α → β → Prop), (∀ (j : Nat) (x : α), l[j]? = some x → ∃ u, P j x u) → ∃ us : List β, us.length = l.length ∧ ∀ (j : Nat) (x : α), l[j]? = some x → ∃ u, us[j]? = some u ∧ P j x u
  | [], _, _ => ⟨[], rfl, fun j x e => by simp at e⟩
  | y :: l, P, h => by
    obtain ⟨u, hu⟩ := h 0 y rfl
    obtain ⟨us, hl, hs⟩ := pick l (fun j => P (j + 1)) fun j x e => h (j + 1) x (by simpa using e)
    refine ⟨u :: us, by simp [hl], fun j x e => ?_⟩
    cases j with
    | zero =>
      simp at e
      subst e
      exact ⟨u, rfl, hu⟩
    | succ j =>
      obtain ⟨v, h1, h2⟩ := hs j x (by simpa using e)
      exact ⟨v, by simpa using h1, h2⟩
theorem kv_of : ∀ {kvs : List (Key × V)} {ps : List (Key × Value)}, ps.length = kvs.length → (∀ (j : Nat) (k : Key) (v : V), kvs[j]? = some (k, v) → ∃ u, ps[j]? = some (k, u) ∧ RelV v u) → KV kvs ps
  | [], [], _, _ => .nil
  | [], _ :: _, h, _ => by simp at h
  | _ :: _, [], h, _ => by simp at h
  | (k, v) :: kvs, (k', u') :: ps, h, f => by
    obtain ⟨u, e, r⟩ := f 0 k v rfl
    simp at e
    obtain ⟨rfl, rfl⟩ := e
    exact .cons ⟨rfl, r⟩ (kv_of (by simpa using h) fun j k v e => f (j + 1) k v (by simpa using e))
end L2

/-! dict(A TUPLE OF PAIRS), THE CALL (own work). -/
namespace L2
open PySem PySem.Spec PyProof.Rows PySem.Builtin PySem.Builtin.Dict
section
variable {X : Cx}
/-- tuple(a list), its object kept -/
theorem call_tupleF : CallR X (.type "tuple") (fun xs H Q => ∃ p ys, xs = [.ref p] ∧ SqL X.K H p ys ∧ ∀ l o, H l = none → o.dict = none → Q (.ref l) (upd H l (.frz o (.tup ys)))) := by
  intro pins s σ H xs us Q I r h
  obtain ⟨p, ys, rfl, hq, q⟩ := h
  obtain ⟨u, rfl, rx⟩ := vals1 r
  cases rx
  obtain ⟨its, r', pl, hz⟩ := I.list hq
  have hlen := r'.length
  refine call_tuple_list pl.isList (fun h' kp => ?_) (by simp only [List.size_toArray] <;> omega)
  have I1 : Inv X pins σ H { s with heap := h' } := I.kept (t' := s.toks) kp
  have I2 : Inv X pins σ (upd H h'.objs.size (.frz { cls := .type "tuple", data := .seq its.toArray } (.tup ys))) { s with heap := h'.push { cls := .type "tuple", data := .seq its.toArray } } :=
    I1.laid (t' := s.toks) (fun b o e => Heap.get?_push_of_some _ e) (Nat.le_refl _) (show ObjOk X.prog X.w _ _ _ (.frz _ (.tup ys)) from ⟨Heap.get?_push_size _ rfl, hz, its, r', IsTup.new _ _⟩)
  exact ⟨.ref h'.objs.size, _, I2, rfl, q _ _ (I1.hok.fresh (Nat.le_refl _)) rfl⟩
theorem call_dictT (hc : X.calm = true) : CallR X (.type "dict") (fun xs H Q => ∃ (t : Addr) (o : Obj) (ys : List V) (kvs : List (Key × V)), xs = [.ref t] ∧ H t = some (.frz o (.tup ys)) ∧ o.dict = none ∧ ys.length ≤ 1000 ∧ kvs.length = ys.length ∧
    (∀ (j : Nat) (k : Key) (v : V), kvs[j]? = some (k, v) → ∃ a, ys[j]? = some (.ref a) ∧ SqT X.K H a [kV k, v]) ∧ (kvs.map (·.1)).Nodup ∧ ∀ p, H p = none → Q (.ref p) (upd H p (.dK kvs))) := by
  intro pins s σ H xs us Q I r h
  obtain ⟨t, o, ys, kvs, rfl, ht, hod, hys, hkl, hp, nd, q⟩ := h
  obtain ⟨u, rfl, rx⟩ := vals1 r
  cases rx
  obtain ⟨g, hz, its, r', tp⟩ := I.hok t _ ht
  obtain ⟨o', g', hcl, n, hdat⟩ := tp
  rw [g] at g'
  cases g'
  have hlen := r'.length
  have hh := I.ok.hd hc
  -- the pairs as values
  have hpk : ∃ ps : List (Key × Value), ps.length = kvs.length ∧ ∀ (j : Nat) (kv : Key × V), kvs[j]? = some kv → ∃ u, ps[j]? = some u ∧ (u.1 = kv.1 ∧ RelV kv.2 u.2 ∧ ∃ a oa key na, its[j]? = some (.ref a) ∧ s.heap.get? a = some oa ∧ oa.cls = .type "tuple" ∧ oa.data = .seq #[key, u.2] na ∧ (mixKind X.prog X.w).is kv.1 key = true) := by
    refine pick kvs (fun (j : Nat) (kv : Key × V) (u : Key × Value) => u.1 = kv.1 ∧ RelV kv.2 u.2 ∧ ∃ a oa key na, its[j]? = some (.ref a) ∧ s.heap.get? a = some oa ∧ oa.cls = .type "tuple" ∧ oa.data = .seq #[key, u.2] na ∧ (mixKind X.prog X.w).is kv.1 key = true) fun j kv hj => ?_
    obtain ⟨k, v⟩ := kv
    obtain ⟨a, ea, sq⟩ := hp j k v hj
    obtain ⟨jts, rj, pj, _⟩ := I.tuple sq
    cases rj with
    | @cons _ j1 _ jr rk rr => cases rr with
      | @cons _ j2 _ jr2 rv rr2 =>
        cases rr2
        obtain ⟨oa, ga, ca, na, da⟩ := pj
        refine ⟨(k, j2), rfl, rv, a, oa, j1, na, ?_, ga, ca, da, kV_is rk⟩
        obtain ⟨w, ew, rw1⟩ := Vals.get r' ea
        cases rw1
        exact ew
  obtain ⟨ps, hpl, hps⟩ := hpk
  have gt : s.heap.get? t = some o := g
  have tlt : t < s.heap.objs.size := Heap.lt_size gt
  refine callType_codes (Q₁ := fun obj s₁ => obj = .ref s.heap.objs.size ∧ s₁ = { s with heap := s.heap.push { cls := .type "dict", data := .dict #[] } }) F.kt_called_dict (F.kt_typeCall_dict_1 _) F.entry_dict_init (kt_code_dict_new _ ⟨rfl, rfl⟩) ?_
  rintro obj s₁ ⟨rfl, rfl⟩
  have hnew : (s.heap.push { cls := .type "dict", data := .dict #[] }).DictOf (mixKind X.prog X.w) s.heap.objs.size [] := Heap.DictOf.new s.heap
  have gt1 : (s.heap.push { cls := .type "dict", data := .dict #[] }).get? t = some o := Heap.get?_push_of_some _ gt
  refine ⟨hnew.typeIs, F.args_dict_init_2 _ _, ?_⟩
  unfold Builtin.«dict.__init__»
  refine wpAny_bind ?_
  unfold Builtin.Dict.selfAndRest
  refine wpAny_bind (wpAny_notOrdered_dict hnew.typeIs ?_)
  show wpAny _ _ (pure (s.heap.objs.size, [Value.ref t])) _ _ _
  refine wpAny_pure ?_
  show wpAny _ _ (Builtin.Dict.updateFrom "dict.__init__" s.heap.objs.size (.ref t) [] .none) _ _ _
  unfold Builtin.Dict.updateFrom
  refine wpAny_bind (wpAny_typeOf (T := "tuple") ⟨o, gt1, hcl⟩ ?_)
  rw [if_pos (by decide)]
  refine wpAny_bind (miss_keys (o := o) (xs := its.toArray) (k := n) gt1 hcl hdat hod hh fun h1 tk1 kp1 => ?_)
  rw [if_pos (show (none : Option Value).isNone = true from rfl)]
  have kp : ∀ b ob, s.heap.get? b = some ob → h1.get? b = some ob := fun b ob e => kp1 b ob (Heap.get?_push_of_some _ e)
  have gt2 := kp t o gt
  have gd2 : h1.get? s.heap.objs.size = some { cls := .type "dict", data := .dict #[] } := kp1 _ _ (Heap.get?_push_size _ rfl)
  have dlt : s.heap.objs.size < h1.objs.size := Heap.lt_size gd2
  have dd1 : h1.DictOf (mixKind X.prog X.w) s.heap.objs.size [] := by
    obtain ⟨od, es, ep, gg, rr⟩ := hnew
    exact ⟨od, es, ep, kp1 _ _ gg, rr⟩
  refine wpAny_bind (wpAny_rule ?_)
  refine wpAny_bind (wpAny_pyIter_tuple (items := its.toArray) ⟨o, gt2, hcl, n, hdat⟩ ?_)
  refine wpAny_pure ⟨Code.quiet_builtin _ (by decide +kernel), ?_⟩
  have epl : ps.length = its.toArray.size := by simp; omega
  have fsts : ps.map (·.1) = kvs.map (·.1) := by
    refine List.ext_getElem (by simp [hpl]) fun j h1 h2 => ?_
    rw [List.getElem_map, List.getElem_map]
    rw [List.length_map] at h1 h2
    obtain ⟨u, eu, e1, _⟩ := hps j kvs[j] (List.getElem?_eq_getElem h2)
    rw [List.getElem?_eq_getElem h1] at eu
    cases eu
    exact e1
  refine upd_loop (A := X.A.in1) (ps := ps) (items := its.toArray) (h0 := h1.push { cls := .type "tuple_iterator", data := .fields #[.ref t, .int 0 0] }) (t := t) (d := s.heap.objs.size) (it := h1.objs.size) (show X.A.in1.handled = none from hh) ⟨o, Heap.get?_push_of_some _ gt2, hcl, n, hdat⟩ ⟨Nat.ne_of_lt (Nat.lt_trans tlt dlt), Nat.ne_of_lt tlt⟩ (Nat.ne_of_gt dlt) epl (by rw [← epl, hpl, hkl]; exact hys) (fun j k v hj => ?_) (by rw [fsts]; exact nd) its.toArray.size 0 _ { s with heap := h1.push { cls := .type "tuple_iterator", data := .fields #[.ref t, .int 0 0] }, toks := tk1 } (by omega) ⟨_, Heap.get?_push_size _ rfl, rfl, rfl⟩ (dd1.push _) (fun b o _ _ e => e) (fun h2 k2 dd2 kp2 => ?_)
  · have hjl : j < kvs.length := by
      have := (List.getElem?_eq_some_iff.mp hj).1
      omega
    obtain ⟨u, eu, e1, e2, a, oa, key, na, e3, e4, e5, e6, e7⟩ := hps j kvs[j] (List.getElem?_eq_getElem hjl)
    rw [hj] at eu
    cases eu
    have alt := Heap.lt_size e4
    refine ⟨a, oa, key, na, by simpa using e3, Heap.get?_push_of_some _ (kp a oa e4), e5, e6, ?_, Nat.ne_of_lt (Nat.lt_trans alt dlt), Nat.ne_of_lt alt⟩
    rw [show k = kvs[j].1 from e1]
    exact e7
  · refine ⟨rfl, .ref s.heap.objs.size, _, ?_, rfl, q s.heap.objs.size (I.hok.fresh (Nat.le_refl _))⟩
    have rel : KV kvs ps := kv_of hpl fun j k v e => by
      obtain ⟨u, eu, e1, e2, _⟩ := hps j (k, v) e
      obtain ⟨u1, u2⟩ := u
      cases (show u1 = k from e1)
      exact ⟨u2, eu, e2⟩
    refine I.laid (a := s.heap.objs.size) (o := .dK kvs) (fun b qo hb => ?_) (Nat.le_refl _) (dk_new (by rw [sizeLine_eq]; omega) (beq_eq_false_iff_ne.mpr (Ne.symm (Nat.ne_of_lt I.big))) rel dd2)
    have blt := Heap.lt_size hb
    exact kp2 b qo (Nat.ne_of_lt (Nat.lt_trans blt dlt)) (Nat.ne_of_lt blt) (Heap.get?_push_of_some _ (kp b qo hb))
end
end L2

/-! d.items() AS A VALUE, AND sorted(d.items()), d WITH TEXT KEYS (own work). -/
namespace L2
open PySem PySem.Spec PyProof.Rows
section
variable {X : Cx} {pins : List (Addr × Obj)} {σ : St} {H H' : Hp} {s : Shared} {h' : Heap}
/-- many new objects at once -/
theorem Inv.laidM {t' : Nat} (I : Inv X pins σ H s) (k : ∀ b u, s.heap.get? b = some u → h'.get? b = some u) (old : ∀ b u, s.heap.get? b = some u → H' b = H b) (new : ∀ b u, H' b = some u → s.heap.get? b = none → ObjOk X.prog X.w H' h' b u) : Inv X pins σ H' { s with heap := h', toks := t' } := by
  have oldH : ∀ b u, H b = some u → H' b = some u := fun b u q => by
    obtain ⟨ob, e⟩ := (I.hok b u q).there
    rw [old b ob e]
    exact q
  refine I.un ⟨fun b u q _ _ _ => k b u q, fun b u q _ _ _ => ⟨u.slots, k b u q⟩, fun b u q n _ => by rw [old b u q]; exact n, fun b u q _ => ⟨u, k b u q⟩,
    fun b xs q => oldH _ _ q, fun b u xs q => oldH _ _ q, fun b ps q => ⟨#[], by rw [oldH _ _ q]; simp⟩⟩ fun b u q => ?_
  cases e : s.heap.get? b with
  | none => exact new b u q e
  | some ob =>
    rw [old b ob e] at q
    exact (I.hok b u q).stay (fun c v _ r => k c v r) (fun c r => oldH _ _ r) fun c xs r => oldH _ _ r
end
theorem idx_nd : ∀ {as : List Addr} {j : Nat} {a : Addr}, as.Nodup → as[j]? = some a → as.idxOf a = j
  | [], _, _, _, h => by simp at h
  | b :: r, 0, a, nd, h => by
    have e : b = a := by simpa using h
    subst e
    exact List.idxOf_cons_self
  | b :: r, j + 1, a, nd, h => by
    have h' : r[j]? = some a := by simpa using h
    have ne : ¬ b = a := fun e => (List.nodup_cons.mp nd).1 (by rw [e]; exact List.mem_of_getElem? h')
    have nb : (b == a) = false := by simpa using ne
    rw [List.idxOf_cons, nb, idx_nd (List.nodup_cons.mp nd).2 h']
    rfl
def vwP (p d : Addr) (h : Heap) : Prop := h.IsItemsView p d
section
variable {X : Cx}
/-- d.items() -/
theorem mt_items : MtR X "dict.items" (fun x xs H Q => ∃ a kvs, x = .ref a ∧ xs = [] ∧ Rd H a (.dK kvs) ∧ ∀ p, H p = none → Q (.ref p) (upd H p (.ext (vwP p a)))) := by
  intro pins s σ H x xs v us Q I rx r h
  obtain ⟨a, kvs, rfl, rfl, e, q⟩ := h
  cases rx
  have hus := r.zero
  subst hus
  obtain ⟨_, lo, vs, kv, dd⟩ := e.ok I.hok
  refine call_meetsIn F.slot_dict_items dd.typeIs F.entry_dict_items (F.args_dict_items_1 _) (meets_dict_items (mixKind X.prog X.w) a lo) ⟨⟨vs, dd⟩, ?_⟩
  have hv : vwP s.heap.objs.size a (s.heap.push { cls := .type "dict_items", data := .fields #[.ref a] }) := ⟨_, Heap.get?_push_size _ rfl, rfl, rfl⟩
  refine ⟨.ref s.heap.objs.size, _, I.laid (t' := s.toks) (o := .ext (vwP s.heap.objs.size a)) (fun b ob e' => Heap.get?_push_of_some _ e') (Nat.le_refl _) ⟨hv, ?_, fun h1 h2 x k => ?_⟩, rfl, q _ (I.hok.fresh (Nat.le_refl _))⟩
  · obtain ⟨o, ho, _⟩ := hv
    exact ⟨o, ho⟩
  · obtain ⟨o, ho, r⟩ := x
    exact ⟨o, k o ho, r⟩
/-- the heap behind sorted(d.items()) -/
def itH (H : Hp) (l : Addr) (o : HO) (as : List Addr) (kvs : List (Key × V)) : Hp := fun b => if b = l then some o else if b ∈ as then some (.tup [kV (kvs.getD (as.idxOf b) (.inl 0, .non)).1, (kvs.getD (as.idxOf b) (.inl 0, .non)).2]) else H b
/-- sorted(d.items()) -/
theorem call_sortedIt (hc : X.calm = true) : CallR X (.builtin "sorted") (fun xs H Q => ∃ (p d : Addr) (kvs : List (Key × V)) (zs : List Str), xs = [.ref p] ∧ H p = some (.ext (vwP p d)) ∧ Rd H d (.dK kvs) ∧ kvs.map (·.1) = zs.map Sum.inr ∧ zs.Nodup ∧ zs.length < 64 ∧
    ∀ (l : Addr) (as : List Addr) (ix : List Nat) (H' : Hp), H l = none → (∀ a ∈ as, H a = none) → l ∉ as → as.Nodup → as.length = kvs.length → Same H H' → (∀ (j : Nat) (a : Addr) (k : Key) (v : V), as[j]? = some a → kvs[j]? = some (k, v) → H' a = some (.tup [kV k, v])) →
      ix.Perm (List.range as.length) → Rise (ix.map fun i => zs.getD i "") → H' l = some (.lst ((ix.map fun i => as.getD i 0).map V.ref)) → Q (.ref l) H') := by
  intro pins s σ H xs us Q I r h
  obtain ⟨p, d, kvs, zs, rfl, hp, hq, hz, nd, h64, q⟩ := h
  obtain ⟨u, rfl, rx⟩ := vals1 r
  cases rx
  obtain ⟨hlen, lo, vs, kv, dd⟩ := hq.ok I.hok
  obtain ⟨ep, da⟩ := dd.dictAt
  obtain ⟨hv, _⟩ := I.hok p _ hp
  have hl := kv.len
  have hl2 : kvs.length = zs.length := by simpa using congrArg List.length hz
  refine Calls.call_function_entry kind_sorted plain_sorted entry_sorted (args_sorted1 _) ?_
  unfold Builtin.«sorted»
  refine wpAny_bind (m := checkCount "sorted" 1 1 _) (wpAny_pure ?_)
  refine wpAny_bind (PySem.W.kdx_collect (knd := mixKind X.prog X.w) (kvs := vs) (ep := ep) (I.ok.hd hc) hv da (by rw [← hl]; exact hlen) fun h' tk as hk hal hG => ?_)
  have hal' : (as.map Value.ref).length = zs.length := by rw [List.length_map, hal, ← hl, hl2]
  refine wpAny_bind (wpAny_newList ?_ (by rw [hal', ← hl2]; exact hlen))
  have hoL : (h'.push (seqObj "list" (as.map Value.ref).toArray 0)).get? h'.objs.size = some (seqObj "list" (as.map Value.ref).toArray 0) := Heap.get?_push_size _ rfl
  have ta : Srt.TA1 (h'.push (seqObj "list" (as.map Value.ref).toArray 0)) (as.map Value.ref) zs := ⟨hal', fun i z e => by
    have hi : i < zs.length := (List.getElem?_eq_some_iff.mp e).1
    have hia : i < as.length := by rw [List.length_map] at hal'; omega
    obtain ⟨key, k, x, e1, e2, e3⟩ := hG.pairs i as[i] (List.getElem?_eq_getElem hia)
    have hk' := kv_key kv e1
    rw [hz, List.getElem?_map, e] at hk'
    have ek : Sum.inr z = k := by simpa using hk'
    subst ek
    obtain ⟨t, rfl⟩ := is_kV e2
    exact ⟨as[i], _, t, [x], 0, by rw [List.getElem?_map, List.getElem?_eq_getElem hia]; rfl, Heap.get?_push_of_some _ e3, rfl, rfl⟩⟩
  refine wpAny_bind (wpAny_holding (wpAny_call_entry slot_list_sort ⟨_, hoL, rfl⟩ entry_list_sort (Srt.list_sort_tup (s := { s with heap := h'.push (seqObj "list" (as.map Value.ref).toArray 0), toks := tk }) (zs := zs) hoL ta nd (by rw [hal']; exact h64) fun p' pn up => ⟨_, rfl, ?_⟩) (args_list_sort _)))
  have hndA : as.Nodup := hG.rise.imp fun h => Nat.ne_of_lt h
  have hltA : ∀ a ∈ as, a < h'.objs.size := fun a ha => hG.there ha
  have hlA : h'.objs.size ∉ as := fun hm => Nat.lt_irrefl _ (hltA _ hm)
  have hgA : ∀ a ∈ as, s.heap.get? a = none := fun a ha => by
    cases e : s.heap.get? a with
    | none => rfl
    | some ob => exact absurd (Heap.lt_size e) (Nat.lt_asymm (hG.above a ha))
  have hnL : s.heap.get? h'.objs.size = none := by
    cases e : s.heap.get? h'.objs.size with
    | none => rfl
    | some ob => exact absurd (Heap.lt_size (hk _ _ e)) (Nat.lt_irrefl _)
  obtain ⟨e, he⟩ := sortedHeap_at (out := List.toArray (p'.toList.map fun i => (as.map Value.ref).getD i Value.none)) hoL
  have keep : ∀ b ob, h'.get? b = some ob → (sortedHeap (h'.push (seqObj "list" (as.map Value.ref).toArray 0)) h'.objs.size (as.map Value.ref) (List.toArray (p'.toList.map fun i => (as.map Value.ref).getD i Value.none))).get? b = some ob := fun b ob q' => by
    have hlt := Heap.lt_size q'
    rw [sortedHeap_old (Nat.ne_of_lt hlt) (by rw [size_push']; exact Nat.lt_succ_of_lt hlt)]
    exact Heap.get?_push_of_some _ q'
  have la : as.length = kvs.length := by rw [hal, ← hl]
  have lt : ∀ i ∈ p'.toList, i < as.length := fun i hi => by
    have := List.mem_range.mp (pn.mem_iff.mp hi)
    rwa [List.length_map] at this
  have ev : (p'.toList.map fun i => as.getD i 0).map V.ref = p'.toList.map fun i => (as.map V.ref).getD i .non := by
    rw [List.map_map]
    apply List.map_congr_left
    intro i hi
    have h1 := lt i hi
    simp [List.getD_eq_getElem?_getD, h1]
  have hs := pn.size
  have rr : ∀ {bs : List Addr}, Vals (bs.map V.ref) (bs.map Value.ref) := fun {bs} => by
    induction bs with
    | nil => exact .nil
    | cons b r ih => exact .cons rfl ih
  have at_ : ∀ (j : Nat) (a : Addr) (k : Key) (v : V), as[j]? = some a → kvs[j]? = some (k, v) → itH H h'.objs.size (.lst ((p'.toList.map fun i => as.getD i 0).map V.ref)) as kvs a = some (.tup [kV k, v]) := fun j a k v h1 h2 => by
    have hm := List.mem_of_getElem? h1
    unfold itH
    rw [if_neg (Nat.ne_of_lt (hltA a hm)), if_pos hm, idx_nd hndA h1, List.getD_eq_getElem?_getD, h2]
    rfl
  have oldI : ∀ b u, s.heap.get? b = some u → itH H h'.objs.size (.lst ((p'.toList.map fun i => as.getD i 0).map V.ref)) as kvs b = H b := fun b u e => by
    unfold itH
    rw [if_neg (fun z => by rw [z, hnL] at e; cases e), if_neg (fun z => by rw [hgA b z] at e; cases e)]
  refine wpAny_pure ⟨_, rfl, .ref h'.objs.size, itH H h'.objs.size (.lst ((p'.toList.map fun i => as.getD i 0).map V.ref)) as kvs, I.laidM (t' := tk) (fun b ob e => keep b ob (hk b ob e)) oldI fun b u hu hn => ?_, rfl,
    q _ as p'.toList _ (I.none_at hnL) (fun a ha => I.none_at (hgA a ha)) hlA hndA la (fun b u hb => ?_) at_ (by have := pn; unfold Srt.PN at this; rw [List.length_map] at this; exact this) ?_ (by unfold itH; rw [if_pos rfl])⟩
  · by_cases hbl : b = h'.objs.size
    · subst hbl
      unfold itH at hu
      rw [if_pos rfl] at hu
      cases hu
      refine ⟨?_, _, e, ?_, he⟩
      · rw [List.length_map, List.length_map, Array.length_toList, hs, List.length_map, la]
        exact hlen
      · rw [ev]
        exact vals_map rr _ fun i hi => by rw [List.length_map]; exact lt i hi
    · by_cases hba : b ∈ as
      · obtain ⟨j, hj⟩ := List.getElem?_of_mem hba
        obtain ⟨key, k, x, e1, e2, e3⟩ := hG.pairs j b hj
        obtain ⟨v, e4, rv⟩ := kv_back kv e1
        rw [at_ j b k v hj e4] at hu
        cases hu
        exact ⟨by show 2 ≤ sizeLine; decide, [key, x], .cons (is_kV e2) (.cons rv .nil), _, keep _ _ e3, rfl, 0, rfl⟩
      · unfold itH at hu
        rw [if_neg hbl, if_neg hba] at hu
        obtain ⟨ob, z⟩ := (I.hok b u hu).there
        rw [hn] at z
        cases z
  · obtain ⟨ob, z⟩ := (I.hok b u hb).there
    rw [oldI b ob z]
    exact hb
  · unfold Rise
    rw [List.pairwise_map, List.pairwise_iff_getElem]
    intro i j hi hj hij
    have hi' : i < p'.size := by simpa using hi
    have hj' : j < p'.size := by simpa using hj
    have h0 := up i j (by omega) (by omega)
    unfold Srt.rz at h0
    rw [decide_eq_false_iff_not, Srt.getD_get hi', Srt.getD_get hj'] at h0
    rw [Array.getElem_toList, Array.getElem_toList]
    exact h0
end
end L2

/-! OWN EXCEPTIONS WITHOUT AN __init__ OF THEIR OWN (own work). -/
namespace L2
open PySem PySem.Spec PyProof.Rows Builtin Builtin.ObjectAttr
section
variable {prog : Program} {w : World} {A : Around} {E : Value → Shared → Prop} {h : Heap} {g : Array GenState} {d : Drawn} {t : Nat} {os : OsState}
variable {nm q : Str} {C N : Addr} {bs bm : List Value} {sn : List Str} {sub : List Value} {ab : Bool} {col : Option Bool} {dd : Option Addr} {k0 k1 k2 k3 k5 : Option Value}
end
section
variable {X : Cx} {C : Addr} {x : Str} {p pos : Pos} {e : Expr} {es : List Expr} {t : TA}
end
end L2

/-! isinstance OF EXCEPTIONS, except OF A CLASS ABOVE (own work). -/
namespace L2
open PySem PySem.Spec PyProof.Rows Builtin Builtin.ObjectAttr
section
variable {prog : Program} {w : World} {A : Around} {E : Value → Shared → Prop} {s : Shared} {K : PySem.W.Frag} {x C : Addr} {ox : Obj} {od : Option Obj}
end
section
variable {X : Cx} {pins : List (Addr × Obj)} {σ : St} {H : Hp} {s : Shared} {a C : Addr} {od : Option Addr}
end
/-! ### except of a class above -/
section
variable {M : Model} {A : Around} {E : Value → Shared → Prop} {h : Heap} {g : Array GenState} {d : Drawn} {t : Nat} {os : OsState}
variable {nm q : Str} {C N : Addr} {bs bm : List Value} {sn : List Str} {sub : List Value} {ab : Bool} {col : Option Bool} {dd : Option Addr} {k0 k1 k2 k3 k5 : Option Value}
variable {nm' q' : Str} {D N' : Addr} {bs' bm' : List Value} {sn' : List Str} {sub' : List Value} {ab' : Bool} {col' : Option Bool} {dd' : Option Addr} {j0 j1 j2 j3 j5 : Option Value}
end
section
variable {X : Cx} {body : List Stmt} {cx n : Str} {b₀ : Stmt} {suite : List Stmt} {np hp pos : Pos} {CN : Addr} {i : Nat} {tb : Ends → TS} {tc : Addr → Addr → TS} {ts : Addr → TS}
end
end L2

/-! TRY WITH TWO HANDLERS (own work). -/
namespace L2
open PySem PySem.Spec PyProof.Rows
section
variable {X : Cx} {body : List Stmt} {cx cy n : Str} {b₀ b₁ : Stmt} {suite suite' : List Stmt} {np hp np' hp' pos : Pos} {CN CM Cx : Addr} {i : Nat} {tb : Ends → TS} {tc td : Addr → Addr → TS} {ts : Addr → TS} {pins : List (Addr × Obj)} {σ1 : St} {H1 : Hp} {s : Shared} {x : Addr} {od : Option Addr} {D : Ends} {rest : List ExceptHandler}
end
end L2

/-! VALUES WITHOUT ADDRESSES, WHERE DICTS AND LISTS ARE STILL ONE'S OWN (own work). -/
namespace L2
open PySem PySem.Spec PyProof.Rows
/-- no address -/
def flt : V → Bool
  | .non => true
  | .bl _ => true
  | .int _ => true
  | .str _ => true
  | _ => false
theorem zw_get {zs : List Str} {vs : List V} {i : Nat} : (zs.zipWith (fun z v => ((Sum.inr z : Key), v)) vs)[i]? = match zs[i]?, vs[i]? with | some z, some v => some (.inr z, v) | _, _ => none := by
  rw [List.getElem?_zipWith]
  cases zs[i]? <;> cases vs[i]? <;> rfl
theorem zw_len {zs : List Str} {vs : List V} (h : vs.length = zs.length) : (zs.zipWith (fun z v => ((Sum.inr z : Key), v)) vs).length = zs.length := by
  rw [List.length_zipWith]; omega
theorem zw_mem {zs : List Str} {vs : List V} {k : Key} {v : V} (h : (k, v) ∈ zs.zipWith (fun z v => ((Sum.inr z : Key), v)) vs) : ∃ (i : Nat) (z : Str), zs[i]? = some z ∧ vs[i]? = some v ∧ k = .inr z := by
  obtain ⟨i, hi⟩ := List.getElem?_of_mem h
  rw [zw_get] at hi
  cases h1 : zs[i]? with
  | none => rw [h1] at hi; cases hi
  | some z =>
    cases h2 : vs[i]? with
    | none => rw [h1, h2] at hi; cases hi
    | some u =>
      rw [h1, h2] at hi
      injection hi with hi
      injection hi with e1 e2
      exact ⟨i, z, h1, by rw [h2, e2], e1.symm⟩
/-- the value at a key -/
theorem zw_val {zs : List Str} {vs : List V} (nd : zs.Nodup) {i : Nat} {z : Str} {v : V} (h1 : zs[i]? = some z) (h2 : vs[i]? = some v) : valV (zs.zipWith (fun z v => ((Sum.inr z : Key), v)) vs) (.inr z) = some v := by
  induction zs generalizing vs i with
  | nil => cases h1
  | cons y r ih =>
    cases vs with
    | nil => cases h2
    | cons u us =>
      rw [List.zipWith_cons_cons]
      rw [List.nodup_cons] at nd
      cases i with
      | zero =>
        cases h1
        cases h2
        exact valV_pos rfl
      | succ i =>
        rw [List.getElem?_cons_succ] at h1 h2
        have hne : ¬ (Sum.inr y : Key) = .inr z := fun e => by
          injection e with e
          exact nd.1 (by rw [e]; exact List.mem_of_getElem? h1)
        rw [valV_neg (p := ((Sum.inr y : Key), u)) hne]
        exact ih nd.2 h1 h2
end L2

/-! THE HEAD WHERE DEFS MAKE FUNCTIONS (own work): the tables of their code objects are tracked from the start. -/
namespace L2
open PySem PySem.Spec PyProof.Rows
/-- nothing is tracked but the script and the tables -/
def OnlyT (tabs : List Addr) (H : Hp) : Prop := (∀ b, H b = none ∨ (∃ o xs, H b = some (.frz o (.lst xs))) ∨ (b ∈ tabs ∧ H b = some (.tbl #[]))) ∧ ∀ b ∈ tabs, H b = some (.tbl #[])
/-- the module of the built-ins, as the globals name it -/
def BMain (h : Heap) (mg : Str → Option Value) : Prop := ∃ bm ob, mg "__builtins__" = some (.ref bm) ∧ bm ≠ builtinsNs ∧ h.get? bm = some ob ∧ ob.cls = .type "module" ∧ ob.dict = some builtinsNs ∧ ob.data = .plain
theorem law_callT {P : Program} {w : World} {K : PySem.W.Frag} {mg mb : Str → Option Value} {CX : CXT} {k : Nat} {fa a : Addr} {fd : FuncData} {x : Str} {sp : Sp} {s₁ : Shared} {vs : List Value} {ns : List Int} {tabs : List Addr}
    (KX : K.In s₁.heap) (hns : s₁.heap.Ns mainGlobals mg) (hb : s₁.heap.Ns builtinsNs mb) (hbb : ∀ x : Str, x ≠ "__name__" → mb x = bootBuiltins x) (hlim : s₁.heap.NoLimit) (hg : s₁.gens = #[])
    (ha : s₁.heap.get? a = some { cls := .type "list", data := .seq vs.toArray }) (hi : IntsAre vs ns) (hl : ns.length ≤ sizeLine) (hr : Room k callerA)
    (hT : ∀ b ∈ tabs, (∃ c, s₁.heap.TableAt c b #[]) ∧ K.lookup b = none)
    (hbm : BMain s₁.heap mg)
    (F : ∀ base : Heap, K.In base → base.Ns mainGlobals mg → BMain base mg → FnOk P w K mg base CX k fa fd [x] sp) (hbind : ∀ (s : Shared) (u : Value), BindsTo s fd ⟨[u], []⟩ [(x, u)])
    (hsp : ∀ H : Hp, OnlyT tabs H → SqL K H a (ns.map V.int) → sp [.ref a] H (fun v _ => v = .bl true) fun _ _ _ => False)
    (hCX : ∀ H e s', CX [] H s₁ (fun _ _ _ => False) e s' → False) :
    codeAny (model P w) callerA (.call (.ref fa) ⟨[.ref a], []⟩) (fun r s' => r = .ok (.ret (.bool true)) ∧ OldK s₁.heap s'.heap ∧ s'.os = s₁.os ∧ AllBare s'.gens) s₁ := by
  have rv := vals_ints hi
  have lenV := hi.length
  have tabG : ∀ b ∈ tabs, s₁.heap.get? b = some (PySem.W.tabObj #[]) := fun b hb => (hT b hb).1.elim fun c h => h.2
  have core : ∀ H : Hp, OnlyT tabs H → SqL K H a (ns.map V.int) → HOk P w H s₁.heap → (∀ b, H b ≠ none → b = a ∨ b ∈ tabs) → (H a ≠ none → K.lookup a = none) →
      codeAny (model P w) callerA (.call (.ref fa) ⟨[.ref a], []⟩) (fun r s' => r = .ok (.ret (.bool true)) ∧ OldK s₁.heap s'.heap ∧ s'.os = s₁.os ∧ AllBare s'.gens) s₁ := by
    intro H hO hS hok hA hK
    have base_of : ∀ {b : Addr} {o : Obj}, s₁.heap.get? b = some o → H b = none → (hidT s₁.heap H).get? b = some o := fun e n => hidT_get e n
    have noA : ∀ {b : Addr} {o : Obj} {es : Array DictEntry} {ep : Nat}, s₁.heap.get? b = some o → o.data = .dict es ep → H b = none := fun {b o es ep} e d => by
      cases q : H b with
      | none => rfl
      | some u =>
        rcases hA b (by rw [q]; simp) with e' | e'
        · subst e'
          rw [ha] at e; cases e
          have d' : Data.seq vs.toArray _ = Data.dict es ep := d
          cases d'
        · rw [tabG b e'] at e; cases e
          have d' : Data.fields #[] = Data.dict es ep := d
          cases d'
    have nsK : ∀ {b : Addr} {m : Str → Option Value}, s₁.heap.Ns b m → (hidT s₁.heap H).Ns b m := fun {b m} ⟨o, es, ep, e, d, r⟩ => ⟨o, es, ep, base_of e (noA e d), d, r⟩
    have hKb : K.In (hidT s₁.heap H) := fun b o e => base_of (KX b o e) (by
      cases q : H b with
      | none => rfl
      | some u =>
        rcases hA b (by rw [q]; simp) with e' | e'
        · subst e'
          rw [hK (by rw [q]; simp)] at e; cases e
        · rw [(hT b e').2] at e; cases e)
    have hM : Mod K mg (hidT s₁.heap H) := ⟨hKb, nsK hns, ⟨mb, nsK hb, hbb⟩, let ⟨mc, h1, h2⟩ := hlim; ⟨mc, nsK h1, h2⟩⟩
    have e0 : Env0 P w K mg (hidT s₁.heap H) callerA [] s₁ H := ⟨rfl, hM, fun b o e => of_hidT e, Nat.le_of_eq (hidT_size _ _), trivial, fun b hb => absurd (show b ∈ ([] : List Addr) from hb) (by simp), hok, .of_eq hg⟩
    have hB : BMain (hidT s₁.heap H) mg := by
      obtain ⟨bm, ob, b1, b2, b3, b4, b5, b6⟩ := hbm
      refine ⟨bm, ob, b1, b2, base_of b3 ?_, b4, b5, b6⟩
      cases q : H bm with
      | none => rfl
      | some u =>
        rcases hA bm (by rw [q]; simp) with e' | e'
        · rw [e', ha] at b3
          cases b3
          cases b6
        · rw [tabG bm e'] at b3
          cases b3
          cases b6
    refine codeAny_mono ((F _ hKb (nsK hns) hB).run callerA [] s₁ H ⟨[.ref a], []⟩ [.ref a] [.ref a] _ _ hr e0 (hbind s₁ (.ref a)) (.cons rfl .nil) (hsp H hO hS)) fun r s' h => ?_
    cases r with
    | error e => exact (hCX H e s' h).elim
    | ok fl =>
      cases fl with
      | next => exact False.elim h
      | brk => exact False.elim h
      | cont => exact False.elim h
      | ret u =>
        obtain ⟨v, H', os, bare, un, hok', r', q⟩ := h
        have q' : v = .bl true := q
        subst q'
        obtain rfl : u = Value.bool true := r'
        refine ⟨rfl, ⟨fun b o e => ?_, fun b o e => un.there b o e (by simp)⟩, os, bare⟩
        cases q : H b with
        | none => exact .inl (un.keep b o e q (by intro z; exact absurd (show b ∈ ([] : List Addr) from z) (by simp)) (by simp))
        | some u =>
          rcases hO.1 b with z | ⟨ob, xs, z⟩ | ⟨hb, z⟩
          · rw [q] at z; cases z
          · have z2 := un.frzs b ob _ z
            obtain ⟨e1, _⟩ := hok b _ z
            obtain ⟨e2, _⟩ := hok' b _ z2
            rw [e] at e1; cases e1
            exact .inl e2
          · obtain ⟨more, z2⟩ := un.tbls b _ z
            have e2 := hok' b _ z2
            obtain ⟨c, ht⟩ := (hT b hb).1
            rw [tabG b hb] at e
            cases e
            exact .inr (.inl ⟨ht.isCodeTable, rfl, #[], more, rfl, e2⟩)
  have na : a ∉ tabs := fun z => by
    have e := tabG a z
    rw [ha] at e
    have e' := congrArg Obj.data (Option.some.inj e)
    have e2 : Data.seq vs.toArray 0 = Data.fields #[] := e'
    cases e2
  cases hk : K.lookup a with
  | some o =>
    have e := KX a o hk
    rw [ha] at e
    cases e
    refine core (fun b => if b ∈ tabs then some (.tbl #[]) else none) ⟨fun b => ?_, fun b hb => if_pos hb⟩ (.inr ⟨_, vs.toArray, _, hk, rfl, rfl, rfl, by rw [List.size_toArray, lenV]; exact hl, by simpa using rv⟩) (fun b u z => ?_) (fun b z => ?_) (fun z => absurd (if_neg na) z)
    · by_cases hb : b ∈ tabs
      · exact .inr (.inr ⟨hb, if_pos hb⟩)
      · exact .inl (if_neg hb)
    · by_cases hb : b ∈ tabs
      · have z' := (if_pos hb).symm.trans z
        cases z'
        exact tabG b hb
      · have z' := (if_neg hb).symm.trans z
        cases z'
    · by_cases hb : b ∈ tabs
      · exact .inr hb
      · exact absurd (if_neg hb) z
  | none =>
    refine core (fun b => if b ∈ tabs then some (.tbl #[]) else if b = a then some (.frz { cls := .type "list", data := .seq vs.toArray } (.lst (ns.map V.int))) else none) ⟨fun b => ?_, fun b hb => if_pos hb⟩ (.inl (.inr ⟨{ cls := .type "list", data := .seq vs.toArray }, by
      show (if a ∈ tabs then _ else if a = a then _ else _) = _
      rw [if_neg na, if_pos rfl]⟩)) (fun b u z => ?_) (fun b z => ?_) (fun _ => hk)
    · by_cases hb : b ∈ tabs
      · exact .inr (.inr ⟨hb, if_pos hb⟩)
      · by_cases hb2 : b = a
        · refine .inr (.inl ⟨{ cls := .type "list", data := .seq vs.toArray }, ns.map V.int, ?_⟩)
          show (if b ∈ tabs then _ else if b = a then _ else _) = _
          rw [if_neg hb, if_pos hb2]
        · refine .inl ?_
          show (if b ∈ tabs then _ else if b = a then _ else _) = _
          rw [if_neg hb, if_neg hb2]
    · have z0 : (if b ∈ tabs then some (HO.tbl #[]) else if b = a then some (.frz { cls := .type "list", data := .seq vs.toArray } (.lst (ns.map V.int))) else none) = some u := z
      by_cases hb : b ∈ tabs
      · rw [if_pos hb] at z0
        cases z0
        exact tabG b hb
      · rw [if_neg hb] at z0
        by_cases hb2 : b = a
        · rw [if_pos hb2] at z0
          cases z0
          subst hb2
          exact ⟨ha, by rw [List.length_map]; exact hl, vs, _, rv, ha⟩
        · rw [if_neg hb2] at z0
          cases z0
    · by_cases hb : b ∈ tabs
      · exact .inr hb
      · by_cases hb2 : b = a
        · exact .inl hb2
        · refine absurd ?_ z
          show (if b ∈ tabs then _ else if b = a then _ else _) = _
          rw [if_neg hb, if_neg hb2]
/-- a table, as k_fill's hook tells of it -/
theorem tab_is {K : PySem.W.Frag} {h : Heap} {c P : Addr} (X : K.In h) (g : h.get? P = some (PySem.W.tabObj #[])) (e : PySem.W.codeHdIn K c P = true) (n : K.lookup P = none) : (∃ c, h.TableAt c P #[]) ∧ K.lookup P = none :=
  ⟨⟨c, (PySem.W.codeHd_of_K X e).tab g⟩, n⟩
/-- as walk_of, with the tables of the defs in tx -/
theorem walk_ofT {l : PySem.W.OpenLaw} {n k : Nat} {q : Program} {loose : List Str} {XP : (Str → Option Value) → Heap → Prop} {YP : World → Heap → Prop} {d : DefRec} {K : Params → PySem.W.Frag} {CX : World → CXT} {sp : World → Sp} {x : Str} {tx : World → List Addr}
    (hn : l.most = some n) (hn2 : n ≤ sizeLine) (hdf : d.params.defaults = []) (hr : Room k callerA)
    (hY : ∀ (w : World) (h : Heap), YP w h → (K w.params).In h)
    (hT : ∀ (w : World) (h : Heap), YP w h → ∀ b ∈ tx w, (∃ c, h.TableAt c b #[]) ∧ (K w.params).lookup b = none)
    (F : ∀ (w : World) (mg : Str → Option Value) (fa : Addr) (h : Heap), (K w.params).In h → h.Ns mainGlobals mg → mg d.name = some (.ref fa) →
      ∃ fd : FuncData, (∀ (s : Shared) (u : Value), BindsTo s fd ⟨[u], []⟩ [(x, u)]) ∧
        ∀ base : Heap, (K w.params).In base → base.Ns mainGlobals mg → BMain base mg → FnOk l.prog w (K w.params) mg base (CX w) k fa fd [x] (sp w))
    (hsp : ∀ (w : World) (H : Hp) (a : Addr) (ns : List Int), ns.length ≤ n → OnlyT (tx w) H → SqL (K w.params) H a (ns.map V.int) → sp w [.ref a] H (fun v _ => v = .bl true) fun _ _ _ => False)
    (hCX : ∀ (w : World) (H : Hp) (s : Shared) (e : Value) (s' : Shared), CX w [] H s (fun _ _ _ => False) e s' → False) :
    PySem.W.WalkO q loose XP YP l.row.toRowW d [] (fun f vs => PySem.call f vs) := by
  refine Att.attach_call hn hdf fun w s₀ s₁ mg mb fa o pm cd doc a vs ns G Y ho hd hcd hmg hobj hints hlen hg => ?_
  have KX := hY w _ Y
  obtain ⟨fd, hb, hF⟩ := F w mg fa _ KX G.T.g hmg
  exact law_callT KX G.T.g G.T.b G.T.builtins G.T.nolimit hg hobj hints (Nat.le_trans hlen hn2) hr (hT w _ Y) G.T.bmain hF hb (fun H hO hS => hsp w H a ns hlen hO hS) fun H e s' => hCX w H s₁ e s'
end L2

/-! LAMBDAS WITHOUT NAMES FROM AROUND (own work): made, called. -/
namespace L2
open PySem PySem.Spec PyProof.Rows
def codeP (c : Addr) (q : Str) (h : Heap) : Prop := h.CodeRec (.ref c) q
section
variable {P : Program} {w : World} {H : Hp} {h : Heap} {f c : Addr} {q : Str} {params : Arguments} {body : Expr} {scope : Scope} {pm : Value}
theorem codeP_ok (e : h.CodeRec (.ref c) q) : ObjOk P w H h c (.ext (codeP c q)) := by
  refine ⟨e, ?_, fun h1 h2 x k => ?_⟩
  · obtain ⟨c', o, vs, t, e1, e2, _⟩ := e
    cases e1
    exact ⟨o, e2⟩
  · obtain ⟨c', o, vs, t, e1, e2, e3⟩ := x
    cases e1
    exact ⟨c, o, vs, t, rfl, k o e2, e3⟩
end
section
variable {X : Cx} {params : Arguments} {body : Expr} {scope : Scope} {pos : Pos} {c P : Addr}
end
end L2

/-! LAMBDAS CALLED, sorted BY A LAMBDA (own work). -/
namespace L2
open PySem PySem.Spec PyProof.Rows
section
variable {X : Cx} {pins : List (Addr × Obj)} {σ : St} {H : Hp} {s : Shared} {Q : VK} {f c' : Addr} {q x : Str} {params : Arguments} {body : Expr} {scope : Scope} {pm : Value} {u : Value} {v : V} {k : Nat}
end
end L2

/-! LAMBDAS THAT KEEP A CELL (own work): made, lent to a callee, called through a name. -/
namespace L2
open PySem PySem.Spec PyProof.Rows
def lamC (f : Addr) (q : Str) (params : Arguments) (body : Expr) (scope : Scope) (clos : List (Str × Addr)) (pm : Value) (c' : Addr) (h : Heap) : Prop := ∃ ctv, h.get? f = some (PySem.W.kla_obj "<lambda>" q params body scope clos pm c' ctv)
section
variable {P : Program} {w : World} {H : Hp} {h : Heap} {f c : Addr} {q : Str} {params : Arguments} {body : Expr} {scope : Scope} {pm : Value} {clos : List (Str × Addr)}
theorem lamC_ok {ctv : Value} (e : h.get? f = some (PySem.W.kla_obj "<lambda>" q params body scope clos pm c ctv)) : ObjOk P w H h f (.ext (lamC f q params body scope clos pm c)) := ⟨⟨ctv, e⟩, ⟨_, e⟩, fun _ _ ⟨ctv, e⟩ k => ⟨ctv, k _ e⟩⟩
end
/-- as tLam, with cells taken over -/
def tLamC (P : Addr) (pos : Pos) (q : Str) (params : Arguments) (body : Expr) (scope : Scope) (clos : List (Str × Addr)) (pm : Value) : TE := fun σ H Q => ∃ ps, H P = some (.tbl ps) ∧ TriplesOk ps.toList ∧
  ((codeAmong pos ps.toList = none ∧ ∀ c' f, H c' = none → H f = none → c' ≠ f → c' ≠ P → f ≠ P → Q (.ref f) (upd (upd (upd H P (.tbl (ps ++ #[rawInt pos.line, rawInt pos.col, .ref c']))) c' (.ext (codeP c' q))) f (.ext (lamC f q params body scope clos pm c')))) ∨
   ∃ c', codeAmong pos ps.toList = some (.ref c') ∧ ∀ f, H f = none → Q (.ref f) (upd H f (.ext (lamC f q params body scope clos pm c'))))
section
variable {X : Cx} {params : Arguments} {body : Expr} {scope : Scope} {pos : Pos} {c P : Addr} {clos : List (Str × Addr)}
theorem pe_lamC (hcode : X.env.code = .ref c) (hC : PySem.W.codeHdIn X.K c P = true) (hB : BMain X.base X.mg) (hcl : closureFor scope X.env = pure clos) (hdef : defaultsOf params X.env = ([], []) := by rfl) :
    PE X (.Lambda params body scope pos) (tLamC P pos (X.env.qual ++ "<lambda>") params body scope clos ((X.mg "__name__").getD .none)) := by
  intro pins s σ H Q I h
  obtain ⟨ps, hp, tr, h⟩ := h
  have hg : s.heap.Ns mainGlobals X.mg := I.mod.glob.keeps I.bk
  have C := PySem.W.codeHd_of_K I.kIn hC
  have hP : s.heap.get? P = some (PySem.W.tabObj ps) := I.hok P _ hp
  have hgP : mainGlobals ≠ P := fun z => by
    obtain ⟨o, es, ep, e, d, _⟩ := id hg
    rw [z, hP] at e
    cases e
    cases d
  have hb : s.heap.BuiltinsAt X.mg P := by
    obtain ⟨bm, ob, b1, b2, b3, b4, b5, b6⟩ := hB
    have b3' := I.bk _ _ b3
    refine ⟨bm, ob, b1, b2, fun z => ?_, fun z => ?_, b3', b4, b5, b6⟩
    · obtain ⟨o, es, ep, e, d, _⟩ := id hg
      rw [z, e] at b3'
      cases b3'
      rw [d] at b6
      cases b6
    · rw [z, hP] at b3'
      cases b3'
      cases b6
  refine PySem.W.kla_eval hdef ?_
  rcases h with ⟨hnf, q⟩ | ⟨c', hf, q⟩
  · refine PySem.W.kla_makeFunction hcl I.ok.glob hg hcode C hP tr hnf hgP hb fun c' ctv h' tk hx hge hlt hrec htb => ?_
    have hcN : H c' = none := I.hok.fresh hge
    have hfN : H h'.objs.size = none := I.hok.fresh (Nat.le_trans hge (Nat.le_of_lt hlt))
    have cf : c' ≠ h'.objs.size := Nat.ne_of_lt hlt
    have cP : c' ≠ P := fun z => by rw [z, hp] at hcN; cases hcN
    have fP : h'.objs.size ≠ P := fun z => by rw [z, hp] at hfN; cases hfN
    have keep : ∀ b o, b ≠ P → s.heap.get? b = some o → (h'.push (PySem.W.kla_obj "<lambda>" (X.env.qual ++ "<lambda>") params body scope clos ((X.mg "__name__").getD .none) c' ctv)).get? b = some o := fun b o hb e => Heap.get?_push_of_some _ (hx b o hb e)
    have nP : ∀ b, H b = none → b ≠ P := fun b n z => by rw [z, hp] at n; cases n
    have old : ∀ b u, H b = some u → b ≠ P → upd (upd (upd H P (.tbl (ps ++ #[rawInt pos.line, rawInt pos.col, .ref c']))) c' (.ext (codeP c' (X.env.qual ++ "<lambda>")))) h'.objs.size (.ext (lamC h'.objs.size (X.env.qual ++ "<lambda>") params body scope clos ((X.mg "__name__").getD .none) c')) b = some u := fun b u e hb => by
      rw [upd_ne (fun z => by rw [z, hfN] at e; cases e), upd_ne (fun z => by rw [z, hcN] at e; cases e), upd_ne hb]
      exact e
    have atP : upd (upd (upd H P (.tbl (ps ++ #[rawInt pos.line, rawInt pos.col, .ref c']))) c' (.ext (codeP c' (X.env.qual ++ "<lambda>")))) h'.objs.size (.ext (lamC h'.objs.size (X.env.qual ++ "<lambda>") params body scope clos ((X.mg "__name__").getD .none) c')) P = some (.tbl (ps ++ #[rawInt pos.line, rawInt pos.col, .ref c'])) := by
      rw [upd_ne (Ne.symm fP), upd_ne (Ne.symm cP), upd_same]
    have noT : ∀ b u, H b = some u → (∀ zs, u ≠ .tbl zs) → b ≠ P := fun b u e hu z => by
      rw [z, hp] at e
      cases e
      exact hu ps rfl
    refine ⟨.ref h'.objs.size, _, I.un (t' := tk) ⟨fun b o e n _ _ => keep b o (nP b n) e, fun b o e n _ _ => ⟨o.slots, keep b o (nP b n) e⟩, fun b o e n _ => ?_, fun b o e _ => ?_, fun b xs e => old b _ e (noT b _ e fun zs z => by cases z), fun b o u e => old b _ e (noT b _ e fun zs z => by cases z), fun b zs e => ?_⟩ fun b u e => ?_, rfl, q c' h'.objs.size hcN hfN cf cP fP⟩
    · have hlt' : b < s.heap.objs.size := Heap.lt_size e
      rw [upd_ne (Nat.ne_of_lt (Nat.lt_of_lt_of_le hlt' (Nat.le_trans hge (Nat.le_of_lt hlt)))), upd_ne (Nat.ne_of_lt (Nat.lt_of_lt_of_le hlt' hge)), upd_ne (nP b n)]
      exact n
    · by_cases hbP : b = P
      · rw [hbP]
        exact ⟨_, Heap.get?_push_of_some _ htb⟩
      · exact ⟨o, keep b o hbP e⟩
    · by_cases hbP : b = P
      · subst hbP
        rw [hp] at e
        cases e
        exact ⟨_, atP⟩
      · exact ⟨#[], by rw [old b _ e hbP]; simp⟩
    · by_cases hbf : b = h'.objs.size
      · subst hbf
        rw [upd_same] at e
        cases e
        exact lamC_ok (Heap.get?_push_size _ rfl)
      · rw [upd_ne hbf] at e
        by_cases hbc : b = c'
        · subst hbc
          rw [upd_same] at e
          cases e
          exact codeP_ok (hrec.push _)
        · rw [upd_ne hbc] at e
          by_cases hbP : b = P
          · subst hbP
            rw [upd_same] at e
            cases e
            exact Heap.get?_push_of_some _ htb
          · rw [upd_ne hbP] at e
            refine (I.hok b u e).stay (fun d v hd r => keep d v ?_ r) (fun d r => old d _ r (noT d _ r fun zs z => by cases z)) fun d xs r => old d _ r (noT d _ r fun zs z => by cases z)
            rcases hd with rfl | hd
            · exact hbP
            · exact noT d _ hd fun zs z => by cases z
  · refine PySem.W.kla_makeFunctionHit hcl I.ok.glob hg hcode C hP tr hf hb fun ctv h' tk hk hsz => ?_
    have hfN : H h'.objs.size = none := I.hok.fresh hsz
    exact ⟨.ref h'.objs.size, _, I.laid (a := h'.objs.size) (t' := tk) (fun b o e => Heap.get?_push_of_some _ (hk b o e)) hsz (lamC_ok (Heap.get?_push_size _ rfl)), rfl, q _ hfN⟩
end
end L2

/-! A CELL LENT (own work): the callee sees it tracked, the lambda's body has it as its own. -/
namespace L2
open PySem PySem.Spec PyProof.Rows
/-- the object at c is just o -/
def atP (c : Addr) (o : Obj) (h : Heap) : Prop := h.get? c = some o
def del (H : Hp) (c : Addr) : Hp := fun b => if b = c then none else H b
theorem del_same {H : Hp} {c : Addr} : del H c c = none := if_pos rfl
theorem del_ne {H : Hp} {b c : Addr} (h : b ≠ c) : del H c b = H b := if_neg h
theorem upd_del {H : Hp} {c : Addr} {o : HO} (h : H c = some o) : upd (del H c) c o = H := by
  funext b
  by_cases e : b = c
  · rw [e, upd_same, h]
  · rw [upd_ne e, del_ne e]
section
variable {P : Program} {w : World} {H H' : Hp} {h h' : Heap} {c : Addr} {o : Obj} {fs : List Addr}
theorem HOk.del (x : HOk P w H h) (hc : ∃ φ, H c = some (.ext φ)) : HOk P w (del H c) h := fun b u e => by
  obtain ⟨φ, hc⟩ := hc
  have hb : b ≠ c := fun z => by rw [z, del_same] at e; cases e
  rw [del_ne hb] at e
  exact (x b u e).stay (fun _ _ _ q => q) (fun d r => by rw [del_ne fun z => by rw [z, hc] at r; cases r]; exact r) fun d xs r => by rw [del_ne fun z => by rw [z, hc] at r; cases r]; exact r
theorem HOk.lend (x : HOk P w H h) (hc : H c = none) (ho : h.get? c = some o) : HOk P w (upd H c (.ext (atP c o))) h := fun b u e => by
  by_cases hb : b = c
  · subst hb
    rw [upd_same] at e
    cases e
    exact ⟨ho, ⟨o, ho⟩, fun h1 h2 p k => k _ p⟩
  · rw [upd_ne hb] at e
    exact (x b u e).stay (fun _ _ _ q => q) (fun d r => by rw [upd_ne fun z => by rw [z, hc] at r; cases r]; exact r) fun d xs r => by rw [upd_ne fun z => by rw [z, hc] at r; cases r]; exact r
/-- behind the callee: the cell is the caller's own again -/
theorem Un.lent (u : Un fs [] (upd H c (.ext (atP c o))) H' h h') (hc : H c = none) (hf : c ∉ fs) (ho : h.get? c = some o) (x : HOk P w H' h') (e : H' c = some (.ext (atP c o))) : Un fs [] H (del H' c) h h' where
  keep := fun b v q n hb hx => by
    by_cases hbc : b = c
    · subst hbc
      rw [ho] at q
      cases q
      exact (x b _ e).1
    · exact u.keep b v q (by rw [upd_ne hbc]; exact n) hb hx
  slot := fun b v q n hb hx => by
    have hbc : b ≠ c := fun z => hf (z ▸ hb)
    exact u.slot b v q (by rw [upd_ne hbc]; exact n) hb hx
  free := fun b v q n hx => by
    by_cases hbc : b = c
    · rw [hbc]; exact del_same
    · rw [del_ne hbc]
      exact u.free b v q (by rw [upd_ne hbc]; exact n) hx
  there := u.there
  tups := fun b xs q => by
    have hbc : b ≠ c := fun z => by rw [z, hc] at q; cases q
    rw [del_ne hbc]
    exact u.tups b xs (by rw [upd_ne hbc]; exact q)
  frzs := fun b v y q => by
    have hbc : b ≠ c := fun z => by rw [z, hc] at q; cases q
    rw [del_ne hbc]
    exact u.frzs b v y (by rw [upd_ne hbc]; exact q)
  tbls := fun b xs q => by
    have hbc : b ≠ c := fun z => by rw [z, hc] at q; cases q
    obtain ⟨m, r⟩ := u.tbls b xs (by rw [upd_ne hbc]; exact q)
    exact ⟨m, by rw [del_ne hbc]; exact r⟩
/-- behind the lambda's body: the cell is tracked again -/
theorem Un.back (u : Un fs [] (del H c) H' h h') (hc : H c = some (.ext (atP c o))) : Un fs [] H (upd H' c (.ext (atP c o))) h h' := by
  have ne : ∀ b, H b = none → b ≠ c := fun b n z => by rw [z, hc] at n; cases n
  exact {
    keep := fun b v q n hb hx => u.keep b v q (by rw [del_ne (ne b n)]; exact n) hb hx
    slot := fun b v q n hb hx => u.slot b v q (by rw [del_ne (ne b n)]; exact n) hb hx
    free := fun b v q n hx => by rw [upd_ne (ne b n)]; exact u.free b v q (by rw [del_ne (ne b n)]; exact n) hx
    there := u.there
    tups := fun b xs q => by
      have hbc : b ≠ c := fun z => by rw [z, hc] at q; cases q
      rw [upd_ne hbc]
      exact u.tups b xs (by rw [del_ne hbc]; exact q)
    frzs := fun b v y q => by
      have hbc : b ≠ c := fun z => by rw [z, hc] at q; cases q
      rw [upd_ne hbc]
      exact u.frzs b v y (by rw [del_ne hbc]; exact q)
    tbls := fun b xs q => by
      have hbc : b ≠ c := fun z => by rw [z, hc] at q; cases q
      obtain ⟨m, r⟩ := u.tbls b xs (by rw [del_ne hbc]; exact q)
      exact ⟨m, by rw [upd_ne hbc]; exact r⟩ }
end
section
variable {X : Cx} {pins : List (Addr × Obj)} {σ : St} {H : Hp} {s : Shared} {c : Addr} {y : Str} {o : Obj}
/-- a def's own cell is no frame -/
theorem Inv.cell_nofr (I : Inv X pins σ H s) (hf : X.fn y = true) (hc : X.env.cells.lookup y = some c) : c ∉ frs X.stack := fun z => by
  rcases List.mem_cons.mp (I.stkSub c z) with z | z
  · obtain ⟨v, o, ho, hd⟩ := I.cell y c hc
    obtain ⟨m, ⟨o', es, ep, ho', hd', _⟩, _⟩ := id I.loc
    rw [← z, ho] at ho'
    cases ho'
    rw [hd] at hd'
    cases hd'
  · obtain ⟨_, o, ho, _⟩ := I.ok.funs.mem z
    exact absurd (Heap.lt_size ho) (Nat.not_lt.mpr (I.ok.cab y c hf hc))
theorem Inv.lend (I : Inv X pins σ H s) (hf : X.fn y = true) (hc : X.env.cells.lookup y = some c) (ho : s.heap.get? c = some o) : Env0 X.prog X.w X.K X.mg X.base X.A X.stack s (upd H c (.ext (atP c o))) := by
  have e0 := I.env0
  have hn := I.freeC y c hc
  refine ⟨e0.frames, e0.mod, fun b u e => ⟨(e0.bs b u e).1, ?_⟩, e0.bsz, e0.funs, fun b hb => ?_, I.hok.lend hn ho, e0.bare⟩
  · rw [upd_ne fun z => ?_]
    · exact (e0.bs b u e).2
    · rw [z] at e
      exact absurd (Heap.lt_size e) (Nat.not_lt.mpr (Nat.le_trans I.ok.bsz (I.ok.cab y c hf hc)))
  · have hbc : b ≠ c := fun z => I.cell_nofr hf hc (z ▸ hb)
    rw [upd_ne hbc]
    exact e0.frf b hb
theorem Inv.lent {Q : VK} {u : Value} {s' : Shared} (I : Inv X pins σ H s) (hf : X.fn y = true) (hc : X.env.cells.lookup y = some c) (ho : s.heap.get? c = some o)
    (h : CE X.stack X.prog X.w (upd H c (.ext (atP c o))) s (fun v H' => H' c = some (.ext (atP c o)) ∧ Q v (del H' c)) u s') : EP X pins σ Q u s' := by
  obtain ⟨v, H', os, bare, un, hok, r, e, q⟩ := h
  exact I.after ⟨v, del H' c, os, bare, un.lent (I.freeC y c hc) (I.cell_nofr hf hc) ho hok e, hok.del ⟨_, e⟩, r, q⟩
end
/-- f(..) while the cell c of the name at place i is lent -/
def tLend (c : Addr) (i : Nat) (sp : Sp) (dvs : List V) (t : TA) : TE := fun σ H Q => t σ H fun vs H1 => ∃ v, σ[i]? = some (some v) ∧ ∀ (o : Obj) (u : Value), RelV v u → o.data = .cell (some u) → H1 c = none →
  sp (vs ++ dvs) (upd H1 c (.ext (atP c o))) (fun r H' => H' c = some (.ext (atP c o)) ∧ Q r (del H' c)) E0
section
variable {X : Cx} {k i : Nat} {f c : Addr} {fd : FuncData} {ps : List Str} {sp : Sp} {dvs : List V} {ds : List Value} {x y : Str} {p pos : Pos} {e : Expr} {es : List Expr} {t : TA}
theorem pe_callLend (F : FnOk X.prog X.w X.K X.mg X.base CX0 k f fd ps sp) (hr : Room k X.A) (hg : Gl X x) (hm : X.mg x = some (.ref f)) (hk : PySem.W.keepIn X.K (.ref f) = true) (hb : Binds X.K fd ps ds) (hd : Vals dvs ds)
    (hN : X.N[i]? = some y) (hy : X.env.kindOf y = some .cell) (hf : X.fn y = true) (hc : X.env.cells.lookup y = some c)
    (ha : PA X (e :: es) t) (hdb : (x == ("__debug__" : Str)) = false := by decide) (he : starEach (e :: es) X.env = (false, eval e X.env) :: starEach es X.env := by rfl) (hpl : (backTo pos (starEach es X.env)).any (·.1) = false := by rfl) :
    PE X (.Call (.Name x p) (e :: es) [] pos) (tLend c i sp dvs t) := by
  intro pins s σ H Q I h
  refine wpAny_Call_Name_kw (ld_glob I hg hm ?_ hdb)
  refine PySem.W.callWith_K (h₀ := X.base) I.ok.mod.kin hk (thn (ha pos pins s σ H _ I h) fun us s1 ⟨vs, H1, I1, r, v, ev, q⟩ => ⟨I1.kIn, ?_⟩) he hpl
  obtain ⟨m, hn, hl⟩ := id I1.loc
  obtain ⟨u, rv, l⟩ := hl i y v hN ev (.inr (.inl hy))
  rcases l with ⟨hk', _⟩ | ⟨_, c2, hc2, o, ho, hd'⟩
  · rw [hy] at hk'; cases hk'
  · obtain rfl : c = c2 := Option.some.inj (hc.symm.trans hc2)
    have q := q o u rv hd' (I1.freeC y c hc)
    have r2 : Vals (vs ++ dvs) (us ++ ds) := r.append hd
    have hl : (us ++ ds).length = ps.length := by rw [← r2.length]; exact F.len _ _ _ _ q
    refine wpAny_call (codeAny_mono (F.run X.A X.stack s1 _ ⟨us, []⟩ (us ++ ds) (vs ++ dvs) _ E0 hr (I1.lend hf hc ho) (hb s1 us I1.kIn hl) r2 q) fun r s' hq => ?_)
    cases r with
    | error e => exact False.elim hq
    | ok fl =>
      cases fl with
      | ret u => exact I1.lent hf hc ho hq
      | next => exact False.elim hq
      | brk => exact False.elim hq
      | cont => exact False.elim hq
end
end L2

/-! A LAMBDA THAT KEEPS A CELL IS CALLED (own work). -/
namespace L2
open PySem PySem.Spec PyProof.Rows
/-- the lambda's frame -/
abbrev lamEnv (q : Str) (scope : Scope) (L f : Addr) (cd : Value) (clos : List (Str × Addr)) : Env := newEnv scope L mainGlobals clos (q ++ ".<locals>.") (some f) cd none builtinsNs
def cxLam (P : Program) (w : World) (K : PySem.W.Frag) (mg : Str → Option Value) (base : Heap) (N : List Str) (q : Str) (scope : Scope) (f : Addr) (cd : Value) (clos : List (Str × Addr)) (A : Around) (outer : List Env) (s : Shared) (H : Hp) : Cx where
  prog := P
  w := w
  K := K
  mg := mg
  base := base
  A := A.deeper (lamEnv q scope s.heap.objs.size f cd clos)
  N := N
  s₀ := s
  H₀ := H
  env := lamEnv q scope s.heap.objs.size f cd clos
  outer := outer
  stack := lamEnv q scope s.heap.objs.size f cd clos :: outer
  ex := []
  calm := true
  fn := fun _ => false
  pn := []
  xe := fun _ _ => False
/-- the names of a lambda of one parameter and one cell -/
structure LamScope (x y : Str) (sc : Scope) : Prop where
  kind : sc.kind = .function
  co : sc.isCoroutine = false
  gen : sc.isGenerator = false
  ne : x ≠ y
  par : sc.names.lookup x = some .local
  fre : sc.names.lookup y = some .free
  nocell : ∀ z ∈ sc.names, z.2 ≠ .cell
  one : ∀ z ∈ sc.names, z.2 = .free → z.1 = y
section
variable {P : Program} {w : World} {K : PySem.W.Frag} {mg : Str → Option Value} {base : Heap} {q x y : Str} {scope : Scope} {f c : Addr} {cd : Value} {A : Around} {outer : List Env} {s : Shared} {H : Hp} {o : Obj} {v vy : V} {u uy : Value} {h1 : Heap} {tk : Nat}
theorem inv_lam (S : LamScope x y scope) (hd : A.handled = none) (e0 : Env0 P w K mg base A outer s H) (hn : H c = none) (ho : s.heap.get? c = some o) (hoc : o.data = .cell (some uy)) (r : RelV v u) (ry : RelV vy uy)
    (ns : h1.Ns s.heap.objs.size (fun z => [(x, u)].reverse.lookup z)) (hk : ∀ b ob, s.heap.get? b = some ob → h1.get? b = some ob) :
    Inv (cxLam P w K mg base [x, y] q scope f cd [(y, c)] A outer s H) [] [some v, some vy] H { s with heap := h1, toks := tk } := by
  have noA : ∀ b : Addr, b ∉ (cxLam P w K mg base [x, y] q scope f cd [(y, c)] A outer s H).ex := fun b z => absurd (show b ∈ ([] : List Addr) from z) (by simp)
  have one : ∀ z c', (cxLam P w K mg base [x, y] q scope f cd [(y, c)] A outer s H).env.cells.lookup z = some c' → z = y ∧ c' = c := fun z c' e => by
    have e : List.lookup z [(y, c)] = some c' := e
    rw [List.lookup_cons] at e
    cases hz : z == y with
    | true =>
      rw [hz] at e
      exact ⟨eq_of_beq hz, (Option.some.inj e).symm⟩
    | false =>
      rw [hz] at e
      cases e
  have at_ : (cxLam P w K mg base [x, y] q scope f cd [(y, c)] A outer s H).env.cells.lookup y = some c := by
    show List.lookup y [(y, c)] = some c
    simp
  refine ⟨⟨e0.mod, S.kind, rfl, rfl, Nat.le_refl _, fun z z' c' e1 e2 => (one _ _ e1).1.trans (one _ _ e2).1.symm, fun z hz => ?_, fun z c' hf => (Bool.noConfusion hf), fun _ => hd, Around.frames_deeper e0.frames, .inr ⟨rfl, rfl⟩, fun b z => absurd z (noA b), e0.bs, e0.bsz, fun b _ _ => noA b, fun b z => absurd z (noA b), e0.funs, e0.frf⟩,
    rfl, e0.bare, Un.kept hk, ⟨_, ns, fun i z vv e1 e2 e3 => ?_⟩, fun z c' e => ?_, e0.hok.fresh (Nat.le_refl _), fun z c' e => ?_, fun p hp => absurd (show p ∈ ([] : List (Addr × Obj)) from hp) (by simp), e0.hok.kept hk, rfl⟩
  · rcases hz with hz | hz
    · exact absurd rfl (S.nocell _ (PySem.mem_of_lookup hz))
    · have := S.one _ (PySem.mem_of_lookup hz) rfl
      have e : z = y := this
      exact ⟨c, by rw [e]; exact at_⟩
  · match i, e1, e2 with
    | 0, e1, e2 =>
      have e1 : x = z := Option.some.inj e1
      have e2 : v = vv := Option.some.inj (Option.some.inj e2)
      subst e1; subst e2
      exact ⟨u, r, .inl ⟨S.par, by simp⟩⟩
    | 1, e1, e2 =>
      have e1 : y = z := Option.some.inj e1
      have e2 : vy = vv := Option.some.inj (Option.some.inj e2)
      subst e1; subst e2
      exact ⟨uy, ry, .inr ⟨.inr S.fre, c, at_, o, hk _ _ ho, hoc⟩⟩
    | i + 2, e1, e2 => cases e1
  · obtain ⟨_, rfl⟩ := one z c' e
    exact ⟨some uy, o, hk _ _ ho, hoc⟩
  · obtain ⟨_, rfl⟩ := one z c' e
    exact hn
end
section
variable {X : Cx} {pins : List (Addr × Obj)} {σ : St} {H : Hp} {s : Shared} {Q : VK} {f c c' : Addr} {q x y : Str} {params : Arguments} {body : Expr} {scope : Scope} {pm : Value} {u uy : Value} {v vy : V} {k : Nat} {o : Obj}
/-- it is called: its body's reading without the cell tracked -/
theorem code_lamC {t : TE} {A : Around} {outer : List Env} (e0 : Env0 X.prog X.w X.K X.mg X.base A outer s H) (hr : Room (k + 1) A) (hf : H f = some (.ext (lamC f q params body scope [(y, c)] pm c'))) (hc' : H c' = some (.ext (codeP c' q)))
    (hc : H c = some (.ext (atP c o))) (hoc : o.data = .cell (some uy)) (S : LamScope x y scope)
    (hb : ∀ (ctv u : Value), bindArgs (PySem.W.kla_fn "<lambda>" q params body scope [(y, c)] pm (.ref c') ctv) ⟨[u], []⟩ = pure [(x, u)])
    (hbody : PE (cxLam X.prog X.w X.K X.mg X.base [x, y] q scope f (.ref c') [(y, c)] A outer s (del H c)) body t) (r : RelV v u) (ry : RelV vy uy) (ht : t [some v, some vy] (del H c) (fun z H' => Q z (upd H' c (.ext (atP c o))))) :
    codeAny (model X.prog X.w) A (.call (.ref f) ⟨[u], []⟩) (CR CX0 outer X.prog X.w H s Q E0) s := by
  obtain ⟨⟨ctv, ho⟩, _⟩ := e0.hok f _ hf
  obtain ⟨hcd, _⟩ := e0.hok c' _ hc'
  have hco : s.heap.get? c = some o := (e0.hok c _ hc).1
  have lim : s.heap.NoLimit := e0.mod.nolimit.keeps fun b o e => (e0.bs b o e).1
  have e1 : Env0 X.prog X.w X.K X.mg X.base A outer s (del H c) := ⟨e0.frames, e0.mod, fun b ob e => ⟨(e0.bs b ob e).1, by
      have := (e0.bs b ob e).2
      have hb : b ≠ c := fun z => by rw [z, hc] at this; cases this
      rw [del_ne hb]; exact this⟩, e0.bsz, e0.funs, fun b hb => by
      have := e0.frf b hb
      have hb : b ≠ c := fun z => by rw [z, hc] at this; cases this
      rw [del_ne hb]; exact this, e0.hok.del ⟨_, hc⟩, e0.bare⟩
  have cfr : c ∉ frs outer := fun z => by
    have := e0.frf c z
    rw [hc] at this; cases this
  refine PySem.W.kla_callFunE hr.depth ho rfl S.co S.gen rfl hcd ?_
  rw [hb]
  refine wpAny_pure (wpAny_newFunctionEnv (binds := [(x, u)]) S.nocell (fun z hz => by
    have : z = (x, u) := by simpa using hz
    rw [this]; exact S.par) (fun h1 ns sb => ?_) S.kind)
  have hk : ∀ b ob, s.heap.get? b = some ob → h1.get? b = some ob := fun b ob e => by
    have hl := Heap.lt_size e
    rw [sb.2 b (Nat.ne_of_lt hl)]
    exact Heap.get?_push_of_some _ e
  refine ⟨lim.keeps hk, PySem.W.kla_codeExpr ?_⟩
  have I : Inv (cxLam X.prog X.w X.K X.mg X.base [x, y] q scope f (.ref c') [(y, c)] A outer s (del H c)) [] [some v, some vy] (del H c) { s with heap := h1, toks := s.toks + 1 } := inv_lam S hr.hd e1 del_same hco hoc r ry ns hk
  refine wpAny_mono (hbody [] _ _ _ _ I ht) (fun u' s' hs => ?_) fun e s' hs => False.elim hs
  obtain ⟨v', H', J, rv, q'⟩ := hs
  have jc : s'.heap.get? c = some o := J.base.keep c o hco del_same cfr (by simp [cxLam])
  have jn : H' c = none := J.base.free c o hco del_same (by simp [cxLam])
  exact ⟨v', upd H' c (.ext (atP c o)), J.os, J.bare, Un.back J.base hc, J.hok.lend jn jc, rv, q'⟩
end
/-- what a call of the function at f with one argument does: by R -/
def WayR (P : Program) (w : World) (K : PySem.W.Frag) (mg : Str → Option Value) (base : Heap) (k : Nat) (R : Addr → V → Hp → VK → Prop) : Prop := ∀ (A : Around) (outer : List Env) (s : Shared) (H : Hp) (f : Addr) (u : Value) (v : V) (Q : VK),
  Room k A → Env0 P w K mg base A outer s H → RelV v u → R f v H Q → PySem.W.FnAt f s.heap ∧ codeAny (model P w) A (.call (.ref f) ⟨[u], []⟩) (CR CX0 outer P w H s Q E0) s
theorem WayR.mono {P : Program} {w : World} {K : PySem.W.Frag} {mg : Str → Option Value} {base : Heap} {j k : Nat} {R : Addr → V → Hp → VK → Prop} (h : WayR P w K mg base j R) (l : j ≤ k) : WayR P w K mg base k R :=
  fun A outer s H f u v Q hr => h A outer s H f u v Q (hr.mono l)
theorem WayR.or {P : Program} {w : World} {K : PySem.W.Frag} {mg : Str → Option Value} {base : Heap} {k : Nat} {R S : Addr → V → Hp → VK → Prop} (h : WayR P w K mg base k R) (g : WayR P w K mg base k S) :
    WayR P w K mg base k (fun f v H Q => R f v H Q ∨ S f v H Q) := fun A outer s H f u v Q hr e r q => q.elim (h A outer s H f u v Q hr e r) (g A outer s H f u v Q hr e r)
theorem wayR_lam {P : Program} {w : World} {K : PySem.W.Frag} {mg : Str → Option Value} {base : Heap} {k : Nat} {q x y : Str} {params : Arguments} {body : Expr} {scope : Scope} {pm : Value} {t : TE} (S : LamScope x y scope)
    (hb : ∀ (c : Addr) (cd ctv u : Value), bindArgs (PySem.W.kla_fn "<lambda>" q params body scope [(y, c)] pm cd ctv) ⟨[u], []⟩ = pure [(x, u)])
    (hbody : ∀ (A : Around) (outer : List Env) (s : Shared) (H : Hp) (f c c' : Addr), Room k (A.deeper (lamEnv q scope s.heap.objs.size f (.ref c') [(y, c)])) → PE (cxLam P w K mg base [x, y] q scope f (.ref c') [(y, c)] A outer s H) body t) :
    WayR P w K mg base (k + 1) (fun f v H Q => ∃ (c c' a : Addr) (o : Obj), H f = some (.ext (lamC f q params body scope [(y, c)] pm c')) ∧ H c' = some (.ext (codeP c' q)) ∧ H c = some (.ext (atP c o)) ∧ o.data = .cell (some (.ref a)) ∧
      t [some v, some (.ref a)] (del H c) fun z H' => Q z (upd H' c (.ext (atP c o)))) := fun A outer s H f u v Q hr e r ⟨c, c', a, o, hf, hc', hc, ho, ht⟩ => by
  obtain ⟨⟨ctv, hof⟩, _⟩ := e.hok f _ hf
  exact ⟨⟨_, _, _, _, hof⟩, code_lamC (X := cxLam P w K mg base [x, y] q scope f (.ref c') [(y, c)] A outer s H) (vy := .ref a) e hr hf hc' hc ho S (fun _ _ => hb _ _ _ _) (hbody A outer s _ f c c' (hr.deeper _)) r rfl ht⟩
/-- way(e), way a local name -/
def tWay (i : Nat) (R : Addr → V → Hp → VK → Prop) (t : TA) : TE := fun σ H Q => ∃ f, σ[i]? = some (some (.ref f)) ∧ t σ H fun vs H1 => ∃ v, vs = [v] ∧ R f v H1 Q
section
variable {X : Cx} {k i : Nat} {R : Addr → V → Hp → VK → Prop} {x : Str} {p pos : Pos} {e : Expr} {es : List Expr} {t : TA}
theorem pe_callWay (W : WayR X.prog X.w X.K X.mg X.base k R) (hr : Room k X.A) (hN : X.N[i]? = some x) (hv : Vis X.env.scope x) (ha : PA X (e :: es) t)
    (hd : (x == ("__debug__" : Str)) = false := by decide) (hcd : (x == ("__classdict__" : Str)) = false := by decide) (he : starEach (e :: es) X.env = (false, eval e X.env) :: starEach es X.env := by rfl) (hpl : (backTo pos (starEach es X.env)).any (·.1) = false := by rfl) :
    PE X (.Call (.Name x p) (e :: es) [] pos) (tWay i R t) := by
  intro pins s σ H Q I h
  obtain ⟨f, ef, h⟩ := h
  refine wpAny_Call_Name_kw (thn (pe_var (X := X) (i := i) hN hv hd hcd pins s σ H (fun z H' => z = .ref f ∧ t σ H' fun vs H1 => ∃ v, vs = [v] ∧ R f v H1 Q) I ⟨_, ef, rfl, h⟩) fun u s0 ⟨z, H0, I0, rz, ez, h⟩ => ?_)
  subst ez
  obtain rfl : u = Value.ref f := rz
  have key : wpAny (model X.prog X.w) X.A (spliced (backTo pos (starEach (e :: es) X.env))) (fun vs s₁ => PySem.W.FnAt f s₁.heap ∧ wpAny (model X.prog X.w) X.A (call (.ref f) ([] ++ vs)) (EP X pins σ Q) X.xe s₁) X.xe s0 := by
    refine thn (ha pos pins s0 σ H0 _ I0 h) fun us s1 ⟨vs, H1, I1, r, v, ev, q⟩ => ?_
    subst ev
    cases r with
    | cons ru rn =>
      cases rn with
      | nil =>
        obtain ⟨fn, q⟩ := W X.A X.stack s1 H1 f _ v Q hr I1.env0 ru q
        refine ⟨fn, wpAny_call (codeAny_mono q fun r s' hq => ?_)⟩
        cases r with
        | error e => exact False.elim hq
        | ok fl =>
          cases fl with
          | ret u => exact I1.after hq
          | next => exact False.elim hq
          | brk => exact False.elim hq
          | cont => exact False.elim hq
  rw [he] at key ⊢
  exact PySem.W.callWith_of (P := PySem.W.FnAt f) (by show ((false || (backTo pos (starEach es X.env)).any (·.1)) || false) = false; rw [hpl]; rfl) PySem.W.keeps_F (Calls.evalArgs_plain key)
end
end L2

namespace L2
open PySem PySem.Spec PyProof.Rows
section
variable {X : Cx}
/-- == of a list and an empty list -/
theorem op_eqE (hu : X.A.units < cLine) : OpR X (compareOp .Eq) (fun x y H Q => ∃ (p b : Addr) (xs : List V), x = .ref p ∧ y = .ref b ∧ SqL X.K H p xs ∧ SqL X.K H b [] ∧ Q (.bl (decide (xs.length = 0))) H) := by
  intro pins s σ H x y v u Q I rx ry h
  obtain ⟨p, b, xs, rfl, rfl, hp, hb, q⟩ := h
  cases rx
  cases ry
  obtain ⟨its, r1, pl, _⟩ := I.list hp
  obtain ⟨jts, r2, ql, _⟩ := I.list hb
  have l1 : xs.length = its.length := r1.length
  have l2 : ([] : List V).length = jts.length := r2.length
  by_cases hl : its.length = jts.length
  · refine SeqAt.eq_listAt (e := fun _ => true) pl.isList ql.isList (by simpa using hl) hu (fun j g1 g2 => ?_) ?_
    · have g2' : j < jts.length := by simpa using g2
      rw [← l2] at g2'
      exact absurd g2' (Nat.not_lt_zero _)
    · have e : ((List.range its.toArray.size).all fun _ => true) = decide (xs.length = 0) := by
        rw [decide_eq_true (show xs.length = 0 by rw [l1, hl, ← l2]; rfl)]
        simp
      rw [e]
      exact ⟨.bl _, H, I, rfl, q⟩
  · refine SeqAt.eq_list_lengthsAt pl.isList ql.isList (by simpa using hl) hu ⟨.bl (decide (xs.length = 0)), H, I, ?_, q⟩
    have : ¬ xs.length = 0 := fun e => hl (by rw [← l1, ← l2, e]; rfl)
    rw [decide_eq_false this]
    rfl
/-- // by a positive divisor of any size that is not absurd -/
theorem op_fdivK : OpR X (binaryOp .FloorDiv) (rI (fun _ j => 0 < j ∧ j.natAbs.log2 < 9000) fun i j => .int (i / j)) := opI fun i j _ _ _ _ _ hc q => by
  have h1 : (0 : Int) < j := hc.1
  exact floordiv_int (by omega) (by rw [Int.fdiv_eq_ediv_of_nonneg i (by omega)]; exact q) (.inl (PyProof.noPylong_of_log2 hc.2))
end
end L2
namespace My
open PySem L2 PyProof.Rows
theorem gcd_step {g l : Int} : Int.gcd l (g % l) = Int.gcd g l := by
  have e : g % l + l * (g / l) = g := Int.emod_add_mul_ediv g l
  have h := Int.gcd_add_mul_left_right l (g % l) (g / l)
  rw [e] at h
  rw [← h, Int.gcd_comm]
theorem gcd_end {g : Int} (h : 0 ≤ g) : ((Int.gcd g 0 : Nat) : Int) = g := by
  rw [Int.gcd_zero_right]
  omega
theorem mod_meas {g l : Int} (h : 0 < l) : (g % l).toNat < l.toNat := by
  have h1 := Int.emod_nonneg g (show l ≠ 0 by omega)
  have h2 := Int.emod_lt_of_pos g h
  omega
theorem log_ok {j : Int} (h0 : 0 < j) (h1 : j ≤ 1000 * 10 ^ 60) : j.natAbs.log2 < 9000 := by
  rw [Nat.log2_lt (by omega)]
  have e : (1000 * 10 ^ 60 : Int) = ((1000 * 10 ^ 60 : Nat) : Int) := by decide +kernel
  have h2 : j.natAbs ≤ 1000 * 10 ^ 60 := by
    rw [e] at h1
    generalize (1000 * 10 ^ 60 : Nat) = B at h1
    omega
  exact Nat.lt_of_le_of_lt h2 (by decide +kernel)
/-- a turn of the inverse -/
theorem inv_turn {z t n l f lf : Int} (h1 : z ∣ t * f - n) (h2 : z ∣ t * lf - l) : z ∣ t * (f - n / l * lf) - (n - n / l * l) := by
  have e : t * (f - n / l * lf) - (n - n / l * l) = (t * f - n) - n / l * (t * lf - l) := by
    rw [Int.mul_sub, Int.mul_sub, Int.mul_left_comm t (n / l) lf]
    omega
  rw [e]
  exact Int.dvd_sub h1 (Int.dvd_mul_of_dvd_right h2)
theorem inv_end {z t f : Int} (h : z ∣ t * f - 1) : t * (f % z) % z = 1 % z := by
  rw [Int.mul_emod, Int.emod_emod_of_dvd _ (Int.dvd_refl z), ← Int.mul_emod]
  exact Int.emod_eq_emod_iff_emod_sub_eq_zero.mpr (Int.emod_eq_zero_of_dvd h)
theorem sub_mod {n l : Int} : n - n / l * l = n % l := by
  rw [Int.emod_def, Int.mul_comm]
theorem div_le {n l z : Int} (h0 : 0 ≤ n) (hz : n ≤ z) (hl : 0 < l) : 0 ≤ n / l ∧ n / l ≤ z := by
  refine ⟨Int.ediv_nonneg h0 (by omega), ?_⟩
  have := Int.ediv_le_self l h0
  omega
def top (i : Nat) : Stmt := PySem.Challenge.pw_halfmoved_k33_pointers_renumbered.main.body.getD i (.Pass ⟨0, 0, 0, 0⟩)
def cel (ns : List Int) (k : Int) : Int := if k < ns.length then ns.getD k.toNat 0 else if ns.length = 0 then k * 48271 % 65537 else ns.getD (k % ns.length).toNat 0 * 48271 % 2147483647 + 7919 * k
def spCe (K : PySem.W.Frag) : Sp := fun vs H Q _ => ∃ (a : Addr) (ns : List Int) (k : Int), vs = [.ref a, .int k] ∧ SqL K H a (ns.map V.int) ∧ 0 ≤ k ∧ k ≤ 1000000 ∧ ns.length ≤ 63 ∧ ∀ H' : Hp, Same H H' → Q (.int (cel ns k)) H'
def spDiv : Sp := fun vs H Q _ => ∃ (i j : Int), vs = [.int i, .int j] ∧ 0 ≤ i ∧ 0 ≤ j ∧ Q (.int (Int.gcd i j : Nat)) H
def spInv : Sp := fun vs H Q _ => ∃ (t z : Int), vs = [.int t, .int z] ∧ 0 < z ∧ z ≤ 1000000000000 ∧ (Int.gcd t z ≠ 1 → Q .non H) ∧ (Int.gcd t z = 1 → ∀ f : Int, 0 ≤ f → f < z → t * f % z = 1 % z → Q (.int f) H)
def intAt (i : Nat) (σ : L2.St) : Nat := match σ[i]? with
  | some (some (V.int l)) => l.toNat
  | _ => 0
section
variable {P : Program} {w : World} {K : PySem.W.Frag} {mg : Str → Option Value} {base : Heap}
theorem ok_cell {f : Addr} {fd : FuncData} (F : Fun K "_law_cell" "_law_cell" (top 18) f fd) (B : Bl mg) : FnOk P w K mg base CX0 1 f fd ["_law_script", "_law_k"] (spCe K) := by
  have sc : FnScope ["_law_script", "_law_k"] ["_law_script", "_law_k"] (defScope (top 18)) := ⟨rfl, rfl, rfl, by decide +kernel, rfl, by decide +kernel, by decide +kernel⟩
  refine F.ok sc (fun vs H Q E h => ?_) (fun cdv A outer s H vs Q E hr h => ?_)
  · obtain ⟨a, ns, k, rfl, _⟩ := h
    rfl
  · obtain ⟨a, ns, k, rfl, hS, h0, h1, h63, q⟩ := h
    have hl : (ns.map V.int).length = ns.length := List.length_map ..
    have hu : _ + 1 < cLine := hu_of hr
    refine ⟨_, pss_cons (ps_if (pt_cmpR op_lt (pv 1) (pe_callB call_len_seq (by rfl) B.len PySem.boot_len (pa_cons (pv 0) pa_nil)) (nomark _)) (pss_one (ps_ret (pe_ix ix_list (pv 0) (pv 1) (fun _ _ => rfl)))) pss_nil)
      (pss_cons (ps_if (pt_cmpR (op_eqE (Nat.lt_of_succ_lt hu)) (pv 0) (pe_lst pa_nil) (nomark _)) (pss_one (ps_ret (pe_op op_mod (pe_op op_mul (pv 1) pe_int) pe_int))) pss_nil)
      (pss_one (ps_ret (pe_op op_add (pe_op op_mod (pe_op op_mul (pe_ix ix_list (pv 0) (pe_op op_mod (pv 1) (pe_callB call_len_seq (by rfl) B.len PySem.boot_len (pa_cons (pv 0) pa_nil))) (fun _ _ => rfl)) pe_int) pe_int) (pe_op op_mul pe_int (pv 1)))))), ?_⟩
    refine ⟨_, rfl, _, rfl, _, _, rfl, .inl hS, _, _, rfl, rfl, _, rfl, ?_⟩
    refine ite2 (fun c => ?_) (fun c => ?_)
    · have c' : k < ns.length := by rw [← hl]; exact of_decide_eq_true c
      exact ⟨_, rfl, _, rfl, _, _, _, _, rfl, rfl, hS, item_ints h0 c', (by have := q _ (Same.refl H); unfold cel at this; rw [if_pos c'] at this; exact this)⟩
    · have nc : ¬ k < ns.length := fun e => c (decide_eq_true (by rw [hl]; exact e))
      refine ⟨_, rfl, Nat.zero_le _, fun p hp => ?_⟩
      have s1 : Same H (upd H p (.lst [])) := Same.upd hp
      refine ⟨_, _, _, rfl, rfl, s1.seq hS, SqL.of upd_same, _, rfl, ?_⟩
      refine ite2 (fun c2 => ?_) (fun c2 => ?_)
      · exact ⟨_, rfl, _, _, rfl, rfl, .inr ⟨by decide, by decide⟩, _, _, rfl, rfl, (pos rfl), (by have := q _ s1; unfold cel at this; rw [if_neg nc, if_pos (by rw [← hl]; exact of_decide_eq_true c2)] at this; exact this)⟩
      · have c3 : (0 : Int) < ns.length := by
          have : ¬ (ns.map V.int).length = 0 := fun e => c2 (decide_eq_true e)
          rw [hl] at this
          omega
        have m0 : 0 ≤ k % (ns.length : Int) := Int.emod_nonneg _ (by omega)
        have m1 : k % (ns.length : Int) < ns.length := Int.emod_lt_of_pos _ c3
        exact ⟨_, rfl, _, rfl, _, rfl, _, _, rfl, .inl (s1.seq hS), _, _, rfl, rfl, (by rw [hl]; exact c3), _, _, _, _, rfl, rfl, s1.seq hS, (by rw [hl]; exact item_ints m0 m1), _, _, rfl, rfl, .inr ⟨by decide, by decide⟩, _, _, rfl, rfl, (pos rfl), _, rfl, _, _, rfl, rfl, .inl ⟨by decide, by decide⟩, _, _, rfl, rfl, (by have := q _ s1; unfold cel at this; rw [if_neg nc, if_neg (by omega)] at this; exact this)⟩
theorem ok_share {f : Addr} {fd : FuncData} (F : Fun K "_law_share" "_law_share" (top 23) f fd) (B : Bl mg) : FnOk P w K mg base CX0 1 f fd ["_law_one", "_law_other"] spDiv := by
  have sc : FnScope ["_law_one", "_law_other", "_law_rest"] ["_law_one", "_law_other"] (defScope (top 23)) := ⟨rfl, rfl, rfl, by decide +kernel, rfl, by decide +kernel, by decide +kernel⟩
  refine F.ok sc (fun vs H Q E h => ?_) (fun cdv A outer s H vs Q E hr h => ?_)
  · obtain ⟨i, j, rfl, _⟩ := h
    rfl
  · obtain ⟨i, j, rfl, i0, j0, q⟩ := h
    refine ⟨_, (pss_cons (ps_while PassesOwn.never (pt_cmpR op_gt (pv 1) pe_int (nomark _))
        (pss_cons (ps_set (i := 2) sc.nd rfl (Or.inl rfl) (pe_op op_mod (pv 0) (pv 1)))
        (pss_cons (ps_set (i := 0) sc.nd rfl (Or.inl rfl) (pv 1))
        (pss_one (ps_set (i := 1) sc.nd rfl (Or.inl rfl) (pv 2))))))
      (pss_one (ps_ret (pv 0)))), ?_⟩
    refine while_by (fun σ H' => H' = H ∧ ∃ (g l : Int) (u : Option V), σ = [some (.int g), some (.int l), u] ∧ 0 ≤ g ∧ 0 ≤ l ∧ Int.gcd g l = Int.gcd i j)
      (fun σ _ => intAt 1 σ) ⟨rfl, _, _, _, rfl, i0, j0, rfl⟩ ?_ ?_
    · rintro σ H' ⟨rfl, g, l, u, rfl, g0, l0, e⟩
      refine ⟨_, rfl, _, _, rfl, rfl, _, rfl, ?_⟩
      refine ite2 (fun c => ?_) (fun c => ?_)
      · have l1 : 0 < l := of_decide_eq_true c
        refine ⟨_, rfl, _, rfl, _, _, rfl, rfl, l1, ?_⟩
        refine ⟨_, rfl, ?_⟩
        refine ⟨_, rfl, ?_⟩
        exact ⟨⟨rfl, _, _, _, rfl, l0, Int.emod_nonneg _ (by omega), gcd_step.trans e⟩, mod_meas l1⟩
      · have l1 : l = 0 := by
          have : ¬ 0 < l := fun h => c (decide_eq_true h)
          omega
        subst l1
        refine ⟨_, rfl, ?_⟩
        rw [← e, gcd_end g0] at q
        exact q
    · rintro σ H' Q1 Q2 k ⟨v, hv, i', j', h1, h2, b, hb, z⟩
      exact ⟨v, hv, i', j', h1, h2, b, hb, k _ _ z⟩
theorem ok_inv {f : Addr} {fd : FuncData} (F : Fun K "inverse" "inverse" (top 16) f fd) : FnOk P w K mg base CX0 1 f fd ["times", "size"] spInv := by
  have sc : FnScope ["times", "size", "number", "factor", "lesser", "lesser_factor", "many", "left_over", "left_factor"] ["times", "size"] (defScope (top 16)) := ⟨rfl, rfl, rfl, by decide +kernel, rfl, by decide +kernel, by decide +kernel⟩
  refine F.ok sc (fun vs H Q E h => ?_) (fun cdv A outer s H vs Q E hr h => ?_)
  · obtain ⟨t, z, rfl, _⟩ := h
    rfl
  · obtain ⟨t, z, rfl, z0, z1, qn, qf⟩ := h
    refine ⟨_, pss_cons (ps_set (i := 2) sc.nd rfl (Or.inl rfl) (pv 1))
      (pss_cons (ps_set (i := 3) sc.nd rfl (Or.inl rfl) pe_int)
      (pss_cons (ps_set (i := 4) sc.nd rfl (Or.inl rfl) (pe_op op_mod (pv 0) (pv 1)))
      (pss_cons (ps_set (i := 5) sc.nd rfl (Or.inl rfl) pe_int)
      (pss_cons (ps_while PassesOwn.never (pt_cmpR op_ne (pv 4) pe_int (nomark _))
        (pss_cons (ps_set (i := 6) sc.nd rfl (Or.inl rfl) (pe_op op_fdivK (pv 2) (pv 4)))
        (pss_cons (ps_set (i := 7) sc.nd rfl (Or.inl rfl) (pe_op op_sub (pv 2) (pe_op op_mul (pv 6) (pv 4))))
        (pss_cons (ps_set (i := 8) sc.nd rfl (Or.inl rfl) (pe_op op_sub (pv 3) (pe_op op_mul (pv 6) (pv 5))))
        (pss_cons (ps_set (i := 2) sc.nd rfl (Or.inl rfl) (pv 4))
        (pss_cons (ps_set (i := 3) sc.nd rfl (Or.inl rfl) (pv 5))
        (pss_cons (ps_set (i := 4) sc.nd rfl (Or.inl rfl) (pv 7))
        (pss_one (ps_set (i := 5) sc.nd rfl (Or.inl rfl) (pv 8))))))))))
      (pss_cons (ps_if (pt_cmpR op_ne (pv 2) pe_int (nomark _)) (pss_one (ps_ret pe_non)) pss_nil)
      (pss_one (ps_ret (pe_op op_mod (pv 3) (pv 1))))))))), ?_⟩
    refine ⟨_, rfl, ?_⟩
    refine ⟨_, rfl, _, rfl, _, _, rfl, rfl, z0, ?_⟩
    refine while_by (fun σ H' => H' = H ∧ ∃ (n f l lf : Int) (u1 u2 u3 : Option V), σ = [some (.int t), some (.int z), some (.int n), some (.int f), some (.int l), some (.int lf), u1, u2, u3] ∧ 0 < n ∧ n ≤ z ∧ 0 ≤ l ∧ l ≤ z ∧ Int.gcd n l = Int.gcd t z ∧ z ∣ t * f - n ∧ z ∣ t * lf - l)
      (fun σ _ => intAt 4 σ) ⟨rfl, _, _, _, _, _, _, _, rfl, z0, Int.le_refl _, Int.emod_nonneg _ (by omega), Int.le_of_lt (Int.emod_lt_of_pos _ z0), gcd_step, ?_, ?_⟩ ?_ ?_
    · rw [Int.mul_zero, Int.zero_sub]
      exact Int.dvd_neg.mpr (Int.dvd_refl z)
    · rw [Int.mul_one]
      exact Int.dvd_self_sub_emod
    · rintro σ H' ⟨rfl, n, f, l, lf, u1, u2, u3, rfl, n0, n1, l0, l1, e, d1, d2⟩
      refine ⟨_, rfl, rfl, _, rfl, ?_⟩
      refine ite2 (fun c => ?_) (fun c => ?_)
      · have l2 : 0 < l := by
          have : ¬ l = 0 := by
            rintro rfl
            exact absurd c (by decide)
          omega
        obtain ⟨m0, m1⟩ := div_le (l := l) (Int.le_of_lt n0) n1 l2
        have cm : ∀ x : Int, CMul (n / l) x := fun x => .inl ⟨by omega, by omega⟩
        refine ⟨_, rfl, _, rfl, _, _, rfl, rfl, ⟨l2, log_ok l2 (Int.le_trans (Int.le_trans l1 z1) (by decide +kernel))⟩, ?_⟩
        refine ⟨_, rfl, _, rfl, _, rfl, _, _, rfl, rfl, cm _, _, _, rfl, rfl, ?_⟩
        refine ⟨_, rfl, _, rfl, _, rfl, _, _, rfl, rfl, cm _, _, _, rfl, rfl, ?_⟩
        refine ⟨_, rfl, _, rfl, _, rfl, _, rfl, ?_⟩
        have es : n - n / l * l = n % l := sub_mod
        have b0 : 0 ≤ n % l := Int.emod_nonneg _ (by omega)
        have b1 : n % l < l := Int.emod_lt_of_pos _ l2
        refine ⟨⟨rfl, _, _, _, _, _, _, _, rfl, l2, l1, (by rw [es]; exact b0), (by rw [es]; omega), (by rw [es]; exact gcd_step.trans e), d2, inv_turn d1 d2⟩, ?_⟩
        show (n - n / l * l).toNat < l.toNat
        rw [es]
        exact mod_meas l2
      · have l2 : l = 0 := by
          by_cases h : l = 0
          · exact h
          · exact (c (by simp [h])).elim
        subst l2
        have e1 : n = (Int.gcd t z : Nat) := by
          rw [← e]
          exact (gcd_end (Int.le_of_lt n0)).symm
        refine ⟨_, rfl, rfl, _, rfl, ?_⟩
        refine ite2 (fun c1 => ?_) (fun c1 => ?_)
        · refine qn fun h => ?_
          rw [h] at e1
          subst e1
          exact absurd c1 (by decide)
        · have n1' : n = 1 := by
            by_cases h : n = 1
            · exact h
            · exact (c1 (by simp [h])).elim
          refine ⟨_, rfl, _, rfl, _, _, rfl, rfl, z0, ?_⟩
          refine qf (by omega) _ (Int.emod_nonneg _ (by omega)) (Int.emod_lt_of_pos _ z0) (inv_end ?_)
          rw [← n1']
          exact d1
    · rintro σ H' Q1 Q2 k ⟨v, hv, h1, b, hb, z⟩
      exact ⟨v, hv, h1, b, hb, k _ _ z⟩
end
end My

namespace My
open PySem L2 PyProof.Rows
/-! ### a Renumber -/
def flds (t p z : Int) : List (Str × V) := putF "size" (.int z) (putF "plus" (.int p) (putF "times" (.int t) []))
theorem flds_times (t p z : Int) : (flds t p z).lookup ("times" : Str) = some (.int t) := by
  unfold flds
  rw [lookup_putF, if_neg (by decide +kernel), lookup_putF, if_neg (by decide +kernel), lookup_putF, if_pos rfl]
theorem flds_plus (t p z : Int) : (flds t p z).lookup ("plus" : Str) = some (.int p) := by
  unfold flds
  rw [lookup_putF, if_neg (by decide +kernel), lookup_putF, if_pos rfl]
theorem flds_size (t p z : Int) : (flds t p z).lookup ("size" : Str) = some (.int z) := by
  unfold flds
  rw [lookup_putF, if_pos rfl]
theorem flds_no (t p z : Int) {m : Str} (h1 : ¬ m = "size") (h2 : ¬ m = "plus") (h3 : ¬ m = "times") : (flds t p z).lookup m = none := by
  unfold flds
  rw [lookup_putF, if_neg h1, lookup_putF, if_neg h2, lookup_putF, if_neg h3]
  rfl
def RenAt (CR : Addr) (H : Hp) (a : Addr) (t p z : Int) : Prop := ∃ dx, H a = some (.ins CR dx (flds t p z))
structure Tx3 (K : PySem.W.Frag) (mg : Str → Option Value) (CR : Addr) : Prop where
  cl : Cls K CR
  nT : NoAttr K CR "times"
  nP : NoAttr K CR "plus"
  nS : NoAttr K CR "size"
  mR : mg "Renumber" = some (.ref CR)
def spRInit (CR : Addr) : Sp := fun vs H Q _ => ∃ (a dx : Addr) (t p z : Int), vs = [.ref a, .int t, .int p, .int z] ∧ H a = some (.ins CR dx []) ∧ ∀ H', H' a = some (.ins CR dx (flds t p z)) → (∀ b, b ≠ a → H' b = H b) → Q .non H'
def spKF (CR : Addr) : Sp := fun vs H Q _ => ∃ (a : Addr) (t p z k : Int), vs = [.ref a, .int k] ∧ RenAt CR H a t p z ∧ 0 < z ∧ z ≤ 1000000000000 ∧ 0 ≤ k ∧ k < z ∧ Q (.int ((t * k + p) % z)) H
def spKB (CR : Addr) : Sp := fun vs H Q _ => ∃ (a : Addr) (t p z k : Int), vs = [.ref a, .int k] ∧ RenAt CR H a t p z ∧ 0 < z ∧ z ≤ 1000000000000 ∧ Int.gcd t z = 1 ∧ ∀ f : Int, 0 ≤ f → f < z → t * f % z = 1 % z → Q (.int ((k - p) * f % z)) H
section
variable {P : Program} {w : World} {K : PySem.W.Frag} {mg : Str → Option Value} {base : Heap} {CR : Addr}
theorem ok_rinit {f : Addr} {fd : FuncData} (F : Fun K "__init__" "Renumber.__init__" (inClass (top 13) 0) f fd) (T : Tx3 K mg CR) : FnOk P w K mg base CX0 1 f fd ["self", "times", "plus", "size"] (spRInit CR) := by
  have sc : FnScope ["self", "times", "plus", "size"] ["self", "times", "plus", "size"] (defScope (inClass (top 13) 0)) := ⟨rfl, rfl, rfl, by decide +kernel, rfl, by decide +kernel, by decide +kernel⟩
  refine F.ok sc (fun vs H Q E h => ?_) (fun cdv A outer s H vs Q E hr h => ?_)
  · obtain ⟨a, dx, t, p, z, rfl, _⟩ := h
    rfl
  · obtain ⟨a, dx, t, p, z, rfl, ha, q⟩ := h
    refine ⟨_, pss_cons (ps_fld (pv 0) (pv 1) rfl) (pss_cons (ps_fld (pv 0) (pv 2) rfl) (pss_one (ps_fld (pv 0) (pv 3) rfl))), ?_⟩
    refine ⟨_, rfl, _, rfl, a, CR, dx, [], rfl, ha, T.cl, T.nT, (by show 0 < 1000; decide), ?_⟩
    refine ⟨_, rfl, _, rfl, a, CR, dx, _, rfl, upd_same, T.cl, T.nP, (by show 1 < 1000; decide), ?_⟩
    refine ⟨_, rfl, _, rfl, a, CR, dx, _, rfl, upd_same, T.cl, T.nS, ?_, ?_⟩
    · have := length_putF "plus" (.int p) (putF "times" (.int t) [])
      have := length_putF "times" (.int t) []
      simp only [List.length_nil] at this
      omega
    · refine q _ upd_same fun b hb => ?_
      rw [upd_ne hb, upd_ne hb, upd_ne hb]
theorem ok_kf {f : Addr} {fd : FuncData} (F : Fun K "key_forth" "Renumber.key_forth" (inClass (top 13) 5) f fd) (T : Tx3 K mg CR) : FnOk P w K mg base CX0 1 f fd ["self", "key"] (spKF CR) := by
  have sc : FnScope ["self", "key"] ["self", "key"] (defScope (inClass (top 13) 5)) := ⟨rfl, rfl, rfl, by decide +kernel, rfl, by decide +kernel, by decide +kernel⟩
  refine F.ok sc (fun vs H Q E h => ?_) (fun cdv A outer s H vs Q E hr h => ?_)
  · obtain ⟨a, t, p, z, k, rfl, _⟩ := h
    rfl
  · obtain ⟨a, t, p, z, k, rfl, ⟨dx, ha⟩, z0, z1, k0, k1, q⟩ := h
    refine ⟨_, pss_one (ps_ret (pe_op op_mod (pe_op op_add (pe_op op_mul (pe_fld (pv 0) rfl) (pv 1)) (pe_fld (pv 0) rfl)) (pe_fld (pv 0) rfl))), ?_⟩
    exact ⟨_, rfl, a, CR, dx, _, _, rfl, ha, T.cl, T.nT, flds_times _ _ _, _, rfl, _, _, rfl, rfl, .inr ⟨by omega, by omega⟩, _, rfl, a, CR, dx, _, _, rfl, ha, T.cl, T.nP, flds_plus _ _ _, _, _, rfl, rfl, _, rfl, a, CR, dx, _, _, rfl, ha, T.cl, T.nS, flds_size _ _ _, _, _, rfl, rfl, z0, q⟩
theorem ok_kb {f fI : Addr} {fd fdI : FuncData} (F : Fun K "key_back" "Renumber.key_back" (inClass (top 13) 6) f fd) (T : Tx3 K mg CR) (DI : Df K mg "inverse" (top 16) fI fdI) : FnOk P w K mg base CX0 2 f fd ["self", "key"] (spKB CR) := by
  have sc : FnScope ["self", "key"] ["self", "key"] (defScope (inClass (top 13) 6)) := ⟨rfl, rfl, rfl, by decide +kernel, rfl, by decide +kernel, by decide +kernel⟩
  have GI : FnOk P w K mg base CX0 1 fI fdI ["times", "size"] spInv := ok_inv DI.fn
  have bI := DI.fn.binds (ps := ["times", "size"]) fun _ _ _ _ _ _ us hl => by obtain ⟨v0, v1, rfl⟩ := L2.ln2 hl; rfl
  refine F.ok sc (fun vs H Q E h => ?_) (fun cdv A outer s H vs Q E hr h => ?_)
  · obtain ⟨a, t, p, z, k, rfl, _⟩ := h
    rfl
  · obtain ⟨a, t, p, z, k, rfl, ⟨dx, ha⟩, z0, z1, g1, q⟩ := h
    refine ⟨_, pss_one (ps_ret (pe_op op_mod (pe_op op_mul (pe_op op_sub (pv 1) (pe_fld (pv 0) rfl)) (pe_call GI hr (by rfl) DI.mg DI.fn.kp bI .nil pass0 (pa_cons (pe_fld (pv 0) rfl) (pa_cons (pe_fld (pv 0) rfl) pa_nil)))) (pe_fld (pv 0) rfl))), ?_⟩
    refine ⟨_, rfl, _, rfl, a, CR, dx, _, _, rfl, ha, T.cl, T.nP, flds_plus _ _ _, _, _, rfl, rfl, _, rfl, a, CR, dx, _, _, rfl, ha, T.cl, T.nT, flds_times _ _ _, _, rfl, a, CR, dx, _, _, rfl, ha, T.cl, T.nS, flds_size _ _ _, t, z, rfl, z0, z1, fun h => absurd g1 h, fun _ f f0 f1 ef => ?_⟩
    exact ⟨_, _, rfl, rfl, .inr ⟨by omega, by omega⟩, _, rfl, a, CR, dx, _, _, rfl, ha, T.cl, T.nS, flds_size _ _ _, _, _, rfl, rfl, z0, q f f0 f1 ef⟩
end
end My

namespace L2
open PySem PySem.Spec PyProof.Rows
theorem strsOf : ∀ {zs : List Str} {us : List Value}, Vals (zs.map V.str) us → StrsAre us zs
  | [], _, .nil => .nil
  | z :: _, _, .cons r1 r2 => by
    obtain ⟨t, rfl⟩ := r1
    exact .cons z t (strsOf r2)
section
variable {X : Cx}
/-- sep.join(a list of texts) -/
theorem mt_joinL : MtR X "str.join" (fun x xs H Q => ∃ (z : Str) (p : Addr) (ys : List Str), x = .str z ∧ xs = [.ref p] ∧ SqL X.K H p (ys.map V.str) ∧ (ys.map (·.length)).sum + ys.length * z.length ≤ 16777216 ∧ Q (.str (Txt.join z ys)) H) := by
  intro pins s σ H x xs v us Q I rx r h
  obtain ⟨z, p, ys, rfl, rfl, hp, hz, q⟩ := h
  obtain ⟨t, rfl⟩ := rx
  obtain ⟨u, rfl, r1⟩ := vals1 r
  cases r1
  obtain ⟨its, r', pl, _⟩ := I.list hp
  exact join_list pl.isList (by simpa using strsOf r') hz fun t' k => ⟨.str (Txt.join z ys), H, I.tok _, ⟨_, rfl⟩, q⟩
end
end L2

namespace L2
open PySem PySem.Spec PyProof.Rows
def sCut21 (t : TS) : TS := fun D σ H => ∃ R : St → Hp → Prop, t { D with nx := R } σ H ∧ ∀ σ' H', R σ' H' → D.nx σ' H'
theorem ps_cut21 {X : Cx} {st : Stmt} {t : TS} (h : PS X st t) : PS X st (sCut21 t) := by
  intro pins s σ H D I hq
  obtain ⟨R, h1, h2⟩ := hq
  refine thn (h pins s σ H _ I h1) fun f s' hs => ?_
  cases f with
  | next => obtain ⟨σ', H', I', z⟩ := hs; exact ⟨σ', H', I', h2 _ _ z⟩
  | brk => exact hs
  | cont => exact hs
  | ret u => exact hs
end L2
namespace My
open PySem L2 PyProof.Rows
theorem mt_app {X : Cx} : MtR X "list.append" rAppend := mt_append
seal L2.PE L2.PT L2.PW L2.PS L2.PSs L2.PA L2.PI L2.PG L2.PGs L2.OpR L2.CallR L2.IxR L2.SlR L2.MtR L2.PIf L2.MtM L2.PC
def abcS : Str := "abcdefghijklmnopqrstuvwxyz"
def letters : List Nat := abcS.cps.toList
def letN (i : Int) : Nat := (letters[(i % 26).toNat]?).getD 0
theorem let_len : letters.length = 26 := by decide +kernel
theorem letN_at (i : Int) : atI letters (i % 26) = some (letN i) ∧ letN i ∈ letters := by
  have h0 := Int.emod_nonneg i (show (26 : Int) ≠ 0 by decide)
  have h1 := Int.emod_lt_of_pos i (show (0 : Int) < 26 by decide)
  obtain ⟨n, hn⟩ := Int.eq_ofNat_of_zero_le h0
  have hl : n < letters.length := by rw [let_len]; omega
  have e : letN i = letters[n] := by
    unfold letN
    rw [hn, Int.toNat_natCast, List.getElem?_eq_getElem hl]
    rfl
  rw [e, hn]
  exact ⟨atI_nat (List.getElem?_eq_getElem hl), List.getElem_mem hl⟩
theorem let_nd : letters.Nodup := by decide +kernel
theorem letN_inj {i j : Int} (h : letN i = letN j) : i % 26 = j % 26 := by
  have a0 := Int.emod_nonneg i (show (26 : Int) ≠ 0 by decide)
  have a1 := Int.emod_lt_of_pos i (show (0 : Int) < 26 by decide)
  have b0 := Int.emod_nonneg j (show (26 : Int) ≠ 0 by decide)
  have b1 := Int.emod_lt_of_pos j (show (0 : Int) < 26 by decide)
  obtain ⟨n, hn⟩ := Int.eq_ofNat_of_zero_le a0
  obtain ⟨m, hm⟩ := Int.eq_ofNat_of_zero_le b0
  have hl : n < letters.length := by rw [let_len]; omega
  have hk : m < letters.length := by rw [let_len]; omega
  unfold letN at h
  rw [hn, hm, Int.toNat_natCast, Int.toNat_natCast, List.getElem?_eq_getElem hl, List.getElem?_eq_getElem hk] at h
  have : n = m := (List.getElem_inj let_nd).mp h
  omega
def nmC (fi st at_ k : Int) (n : Nat) : List Nat := (List.range n).map fun (j : Nat) => letN (if (0 + (j : Int)) = at_ then fi + (0 + (j : Int)) * st + k else fi + (0 + (j : Int)) * st)
theorem nmC_len {fi st at_ k : Int} {n : Nat} : (nmC fi st at_ k n).length = n := by unfold nmC; rw [List.length_map, List.length_range]
theorem nmC_inj {fi st at_ k k' : Int} {n : Nat} (h0 : 0 ≤ at_) (h1 : at_ < n) (e : nmC fi st at_ k n = nmC fi st at_ k' n) : (fi + (0 + at_) * st + k) % 26 = (fi + (0 + at_) * st + k') % 26 := by
  obtain ⟨j, rfl⟩ := Int.eq_ofNat_of_zero_le h0
  have hj : j < n := by omega
  have g := congrArg (fun l : List Nat => l[j]?) e
  simp only [nmC, List.getElem?_map, List.getElem?_range hj, Option.map_some] at g
  have g' := Option.some.inj g
  rw [if_pos (by omega), if_pos (by omega)] at g'
  exact letN_inj g'
def spNames : Sp := fun vs H Q _ => ∃ c m : Int, vs = [.int c, .int m] ∧ 0 ≤ m ∧ m ≤ 12 ∧ ∀ (l : Addr) (zs : List Str) (H' : Hp), Same H H' → H l = none → H' l = some (.lst (zs.map V.str)) → (zs.length : Int) = m → zs.Nodup → (∀ z ∈ zs, 1 ≤ z.length ∧ z.length ≤ 8) → Q (.ref l) H'
theorem same_put {H H1 : Hp} {p : Addr} {o : HO} (s : Same H H1) (h : H p = none) : Same H (upd H1 p o) := fun b u e => by
  rw [upd_ne (ne_of_none e h)]
  exact s _ _ e
theorem nmC_succ {fi st at_ k : Int} {n : Nat} : nmC fi st at_ k (n + 1) = nmC fi st at_ k n ++ [letN (if (0 + (n : Int)) = at_ then fi + (0 + (n : Int)) * st + k else fi + (0 + (n : Int)) * st)] := by
  unfold nmC
  rw [List.range_succ, List.map_append]
  rfl
section
variable {P : Program} {w : World} {K : PySem.W.Frag} {mg : Str → Option Value} {base : Heap}
theorem ok_names {f : Addr} {fd : FuncData} (F : Fun K "_law_names" "_law_names" (top 19) f fd) (B : Bl mg) : FnOk P w K mg base CX0 1 f fd ["_law_cell_here", "_law_many"] spNames := by
  have sc : FnScope ["_law_cell_here", "_law_many", "_law_letters", "_law_long", "_law_at", "_law_names_here", "_law_k", "_law_name", "_law_j", "_law_step"] ["_law_cell_here", "_law_many"] (defScope (top 19)) := ⟨rfl, rfl, rfl, by decide +kernel, rfl, by decide +kernel, by decide +kernel⟩
  refine F.ok sc (fun vs H Q E h => ?_) (fun cdv A outer s H vs Q E hr h => ?_)
  · obtain ⟨c, m, rfl, _⟩ := h
    rfl
  · obtain ⟨c, m, rfl, m0, m12, q⟩ := h
    refine ⟨_, pss_cons (ps_set (i := 2) sc.nd rfl (Or.inl rfl) pe_str)
      (pss_cons (ps_set (i := 3) sc.nd rfl (Or.inl rfl) (pe_op op_add pe_int (pe_op op_mod (pv 0) pe_int)))
      (pss_cons (ps_set (i := 4) sc.nd rfl (Or.inl rfl) (pe_op op_mod (pe_op op_fdiv (pv 0) pe_int) (pv 3)))
      (pss_cons (ps_set (i := 5) sc.nd rfl (Or.inl rfl) (pe_lst pa_nil))
      (pss_cons (ps_for PassesOwn.never rfl (pi_range1 rfl B.range (pa_cons (pv 1) pa_nil)) (pg_name (i := 6) sc.nd rfl (Or.inl rfl))
        (pss_cons (ps_set (i := 7) sc.nd rfl (Or.inl rfl) pe_str)
        (pss_cons (ps_for PassesOwn.never rfl (pi_range1 rfl B.range (pa_cons (pv 3) pa_nil)) (pg_name (i := 8) sc.nd rfl (Or.inl rfl))
          (pss_cons (ps_set (i := 9) sc.nd rfl (Or.inl rfl) (pe_op op_add (pe_op op_fdiv (pv 0) pe_int) (pe_op op_mul (pv 8) (pe_op op_fdiv (pv 0) pe_int))))
          (pss_cons (ps_cut21 (ps_if (pt_cmpR op_eq (pv 8) (pv 4) (nomark _)) (pss_one (ps_set (i := 9) sc.nd rfl (Or.inl rfl) (pe_op op_add (pv 9) (pv 6)))) pss_nil))
          (pss_one (ps_set (i := 7) sc.nd rfl (Or.inl rfl) (pe_op op_add_str (pv 7) (pe_ix ix_str (pv 2) (pe_op op_mod (pv 9) pe_int) (fun _ _ => rfl))))))))
        (pss_one (ps_expr (pe_bm PySem.F.plainAttrs_list PySem.F.slot_list_append PySem.F.type_list_append mt_app (pv 5) (pa_cons (pv 7) pa_nil)))))))
      (pss_one (ps_ret (pv 5))))))), ?_⟩
    have l0 := Int.emod_nonneg c (show (8 : Int) ≠ 0 by decide)
    have l8 := Int.emod_lt_of_pos c (show (0 : Int) < 8 by decide)
    refine ⟨_, rfl, _, _, rfl, rfl, (pos rfl), _, _, rfl, rfl, ?_⟩
    have lp : (0 : Int) < 1 + c % 8 := by omega
    refine ⟨_, rfl, _, _, rfl, rfl, ⟨by decide, by decide⟩, _, rfl, _, _, rfl, rfl, lp, ?_⟩
    have a0 := Int.emod_nonneg (c / 8) (show (1 + c % 8 : Int) ≠ 0 by omega)
    have a9 := Int.emod_lt_of_pos (c / 8) lp
    refine ⟨Nat.zero_le _, fun l hl => ?_⟩
    have T1 := Same.upd (o := .lst []) hl
    have e1 := upd_same (H := H) (a := l) (o := .lst [])
    show tSeq _ _ _ [some (.int c), some (.int m), some (.str abcS), some (.int (1 + c % 8)), some (.int (c / 8 % (1 + c % 8))), some (.ref l), none, none, none, none] _
    generalize upd H l (.lst []) = H1 at *
    generalize c / 8 % (1 + c % 8) = at_ at *
    generalize hln : 1 + c % 8 = ln at *
    have abz : abcS.length ≤ sizeLine := by decide +kernel
    obtain ⟨nL, hnL⟩ := Int.eq_ofNat_of_zero_le (show 0 ≤ ln by omega)
    refine ⟨_, rfl, _, rfl, (by omega), (by omega), for_range (fun i σ H' => Same H H' ∧ (∃ u8 u9 u10 u11, σ = [some (.int c), some (.int m), some (.str abcS), some (.int ln), some (.int at_), some (.ref l), u8, u9, u10, u11]) ∧ ∃ zs : List Str, H' l = some (.lst (zs.map V.str)) ∧ zs.length = i ∧ ∀ (j : Nat) (z : Str), zs[j]? = some z → z.cps.toList = nmC (c / 64) (c / 1664) at_ (0 + (j : Int)) nL) ⟨T1, ⟨_, _, _, _, rfl⟩, [], e1, rfl, fun j z h => nomatch h⟩ ?_ ?_⟩
    · rintro i σ H' hi ⟨sm, ⟨u8, u9, u10, u11, rfl⟩, zs, g1, g2, g3⟩
      refine ⟨_, rfl, _, rfl, (by omega), (by omega), for_range (fun j σ H2 => H2 = H' ∧ ∃ (z : Str) (u10 u11 : Option V), σ = [some (.int c), some (.int m), some (.str abcS), some (.int ln), some (.int at_), some (.ref l), some (.int (0 + (i : Int))), some (.str z), u10, u11] ∧ z.cps.toList = nmC (c / 64) (c / 1664) at_ (0 + (i : Int)) j) ⟨rfl, "", _, _, rfl, rfl⟩ ?_ ?_⟩
      · rintro j σ H2 hj ⟨rfl, z, v10, v11, rfl, hz⟩
        refine ⟨_, rfl, _, _, rfl, rfl, ⟨by decide, by decide⟩, _, rfl, _, rfl, _, _, rfl, rfl, ⟨by decide, by decide⟩, _, _, rfl, rfl, .inl ⟨by omega, by omega⟩, _, _, rfl, rfl, ?_⟩
        refine ⟨fun σ' H3 => H3 = H2 ∧ σ' = [some (.int c), some (.int m), some (.str abcS), some (.int ln), some (.int at_), some (.ref l), some (.int (0 + (i : Int))), some (.str z), some (.int (0 + (j : Int))), some (.int (if (0 + (j : Int)) = at_ then c / 64 + (0 + (j : Int)) * (c / 1664) + (0 + (i : Int)) else c / 64 + (0 + (j : Int)) * (c / 1664)))], ?_, ?_⟩
        · refine ⟨_, rfl, _, rfl, rfl, _, rfl, ?_⟩
          by_cases hc : (0 + (j : Int)) = at_
          · refine iteB (by rw [hc]; exact decide_eq_true rfl) ⟨_, rfl, _, rfl, _, _, rfl, rfl, rfl, ?_⟩
            rw [if_pos hc]
            rfl
          · refine iteC (decide_eq_false fun e => hc (by injection e)) ⟨rfl, ?_⟩
            rw [if_neg hc]
            rfl
        rintro σ3 H3 ⟨rfl, rfl⟩
        have lt := letN_at (if (0 + (j : Int)) = at_ then c / 64 + (0 + (j : Int)) * (c / 1664) + (0 + (i : Int)) else c / 64 + (0 + (j : Int)) * (c / 1664))
        have zl : z.length = j := by
          have := congrArg List.length hz
          rw [nmC_len] at this
          show z.cps.size = j
          rw [← Array.length_toList]
          exact this
        refine ⟨_, rfl, _, rfl, _, rfl, _, _, rfl, rfl, (pos rfl), abcS, _, _, rfl, rfl, abz, lt.1, _, _, rfl, rfl, (by rw [sizeLine_eq]; show z.length + 1 ≤ _; omega), rfl, _, _, _, rfl, ?_⟩
        rw [Str.cps_append, Array.toList_append, hz, nmC_succ]
      · rintro σ H2 ⟨rfl, z, v10, v11, rfl, hz⟩
        refine ⟨_, rfl, .inl ⟨rfl, _, SqL.of g1⟩, _, rfl, l, _, _, rfl, rfl, g1, (by rw [List.length_map, sizeLine_eq]; omega), ?_⟩
        refine ⟨same_put sm hl, ⟨_, _, _, _, rfl⟩, zs ++ [z], by rw [upd_same, List.map_append]; rfl, by rw [List.length_append, g2]; rfl, fun j z' hj => ?_⟩
        by_cases hjl : j < zs.length
        · rw [List.getElem?_append_left hjl] at hj
          exact g3 j z' hj
        · have e : j = zs.length := by
            have := (List.getElem?_eq_some_iff.mp hj).1
            rw [List.length_append] at this
            simp at this
            omega
          subst e
          rw [List.getElem?_append_right (Nat.le_refl _), Nat.sub_self] at hj
          cases hj
          rw [g2]
          have en : ln.toNat = nL := by rw [hnL]; simp
          rw [en] at hz
          exact hz
    · rintro σ H' ⟨sm, ⟨u8, u9, u10, u11, rfl⟩, zs, g1, g2, g3⟩
      refine ⟨_, rfl, q l zs H' sm hl g1 (by omega) ?_ fun z hz => ?_⟩
      · rw [List.nodup_iff_pairwise_ne, List.pairwise_iff_getElem]
        intro i j hi hj hij e
        have h1 := g3 i zs[i] (List.getElem?_eq_getElem hi)
        have h2 := g3 j zs[j] (List.getElem?_eq_getElem hj)
        rw [e, h2] at h1
        have := nmC_inj a0 (by omega) h1
        omega
      · obtain ⟨j, hj⟩ := List.getElem?_of_mem hz
        have := congrArg List.length (g3 j z hj)
        rw [nmC_len] at this
        have zl : z.length = nL := by
          show z.cps.size = nL
          rw [← Array.length_toList]
          exact this
        omega
end
end My

namespace My
open PySem L2 PyProof.Rows
seal L2.PE L2.PT L2.PW L2.PS L2.PSs L2.PA L2.PI L2.PG L2.PGs L2.OpR L2.CallR L2.IxR L2.SlR L2.MtR L2.PIf L2.MtM L2.PC
theorem sum1 : ∀ l : List Nat, (l.map fun _ => 1).sum = l.length
  | [] => rfl
  | _ :: l => by rw [List.map_cons, List.sum_cons, sum1 l, List.length_cons, Nat.add_comm]
theorem gcd_next (z : Int) : Int.gcd (z + 1) z = 1 := by
  have h := Int.gcd_add_mul_left_right z 1 1
  rw [Int.mul_one, Int.gcd_comm, Int.add_comm] at h
  rw [h]
  simp
def spTimes : Sp := fun vs H Q _ => ∃ c z : Int, vs = [.int c, .int z] ∧ 0 < z ∧ ∀ t : Int, 0 ≤ t → t ≤ z + 1 → Int.gcd t z = 1 → Q (.int t) H
/-! ### the law's texts -/
def sgA : Str := " !\"#$&'()*+,-./0123456789:;<=>?@ABCDEFGHIJKLMNOPQRSTUVWXYZ[\\]^_`"
def sgB : Str := "abcdefghijklmnopqrstuvwxyz{|}~"
def sgN (i : Int) : Nat := ((sgA ++ sgB).cps.toList[(i % 94).toNat]?).getD 0
theorem sg_len : (sgA ++ sgB).cps.toList.length = 94 := by decide +kernel
theorem sgN_at (i : Int) : atI (sgA ++ sgB).cps.toList (i % 94) = some (sgN i) := by
  have h0 := Int.emod_nonneg i (show (94 : Int) ≠ 0 by decide)
  have h1 := Int.emod_lt_of_pos i (show (0 : Int) < 94 by decide)
  obtain ⟨n, hn⟩ := Int.eq_ofNat_of_zero_le h0
  have hl : n < (sgA ++ sgB).cps.toList.length := by rw [sg_len]; omega
  have e : sgN i = (sgA ++ sgB).cps.toList[n] := by
    unfold sgN
    rw [hn, Int.toNat_natCast, List.getElem?_eq_getElem hl]
    rfl
  rw [e, hn]
  exact atI_nat (List.getElem?_eq_getElem hl)
def txL (c : Int) : List Str := (List.range (c % 7).toNat).map fun (k : Nat) => (⟨#[sgN (c / 7 + (0 + (k : Int)) * (c / 658 % 94))]⟩ : Str)
def txF (c : Int) : Str := Txt.join "" (txL c)
def spTx : Sp := fun vs H Q _ => ∃ c : Int, vs = [.int c] ∧ ∀ H', Same H H' → Q (.str (txF c)) H'
/-! ### the law's pointers -/
def ptV (c z : Int) (g : Int → Int) : V := if c % 4 = 0 then .non else .int (g (c / 4 % z))
def wayF (z : Int) (o : Option (Int × Int)) (k : Int) : Int := match o with | none => k | some (t, p) => (t * k + p) % z
def WayAt (H : Hp) (v : V) : Option (Int × Int) → Prop
  | none => v = .non
  | some (t, p) => ∃ a, v = .ref a ∧ H a = some (.tup [.int t, .int p]) ∧ 0 ≤ t ∧ t ≤ 1000000000001
theorem WayAt.same {H H' : Hp} (s : Same H H') {v : V} {o : Option (Int × Int)} (h : WayAt H v o) : WayAt H' v o := by
  cases o with
  | none => exact h
  | some x => obtain ⟨a, e, f, g⟩ := h; exact ⟨a, e, s _ _ f, g⟩
def spPt : Sp := fun vs H Q _ => ∃ (c z : Int) (v : V) (o : Option (Int × Int)), vs = [.int c, .int z, v] ∧ 0 < z ∧ z ≤ 1000000000000 ∧ WayAt H v o ∧ Q (ptV c z (wayF z o)) H
section
variable {P : Program} {w : World} {K : PySem.W.Frag} {mg : Str → Option Value} {base : Heap}
theorem ok_times {f fS : Addr} {fd fdS : FuncData} (F : Fun K "_law_times" "_law_times" (top 24) f fd) (B : Bl mg) (DS : Df K mg "_law_share" (top 23) fS fdS) : FnOk P w K mg base CX0 2 f fd ["_law_cell_here", "_law_size"] spTimes := by
  have sc : FnScope ["_law_cell_here", "_law_size", "_law_times_here"] ["_law_cell_here", "_law_size"] (defScope (top 24)) := ⟨rfl, rfl, rfl, by decide +kernel, rfl, by decide +kernel, by decide +kernel⟩
  have GS : FnOk P w K mg base CX0 1 fS fdS ["_law_one", "_law_other"] spDiv := ok_share DS.fn B
  have bS := DS.fn.binds (ps := ["_law_one", "_law_other"]) fun _ _ _ _ _ _ us hl => by obtain ⟨v0, v1, rfl⟩ := L2.ln2 hl; rfl
  refine F.ok sc (fun vs H Q E h => ?_) (fun cdv A outer s H vs Q E hr h => ?_)
  · obtain ⟨c, z, rfl, _⟩ := h
    rfl
  · obtain ⟨c, z, rfl, z0, q⟩ := h
    refine ⟨_, pss_cons (ps_set (i := 2) sc.nd rfl (Or.inl rfl) (pe_op op_mod (pv 0) (pv 1)))
      (pss_cons (ps_while PassesOwn.never (pt_cmpR op_ne (pe_call GS hr (by rfl) DS.mg DS.fn.kp bS .nil pass0 (pa_cons (pv 2) (pa_cons (pv 1) pa_nil))) pe_int (nomark _)) (pss_one (ps_set (i := 2) sc.nd rfl (Or.inl rfl) (pe_op op_add (pv 2) pe_int))))
      (pss_one (ps_ret (pv 2)))), ?_⟩
    have m0 := Int.emod_nonneg c (show z ≠ 0 by omega)
    have m1 := Int.emod_lt_of_pos c z0
    refine ⟨_, rfl, _, rfl, _, _, rfl, rfl, z0, ?_⟩
    refine while_by (fun σ H' => H' = H ∧ ∃ t : Int, σ = [some (.int c), some (.int z), some (.int t)] ∧ 0 ≤ t ∧ t ≤ z + 1) (fun σ _ => (z + 1).toNat - intAt 2 σ) ⟨rfl, _, rfl, m0, by omega⟩ ?_ ?_
    · rintro σ H' ⟨rfl, t, rfl, t0, t1⟩
      refine ⟨_, rfl, _, rfl, t, z, rfl, t0, by omega, rfl, _, rfl, ?_⟩
      refine ite2 (fun cc => ?_) (fun cc => ?_)
      · have ng : Int.gcd t z ≠ 1 := fun e => by
          rw [e] at cc
          exact absurd cc (by decide)
        have nt : t ≠ z + 1 := fun e => ng (by rw [e]; exact gcd_next z)
        refine ⟨_, rfl, _, _, rfl, rfl, ⟨rfl, _, rfl, by omega, by omega⟩, ?_⟩
        show (z + 1).toNat - (t + 1).toNat < (z + 1).toNat - t.toNat
        omega
      · refine ⟨_, rfl, q t t0 t1 ?_⟩
        by_cases e : Int.gcd t z = 1
        · exact e
        · refine (cc ?_).elim
          have : ¬ (V.int ((Int.gcd t z : Nat) : Int) = V.int 1) := fun e2 => by
            injection e2 with e2
            omega
          simp [this]
    · rintro σ H' Q1 Q2 k ⟨v1, hv1, v2, hv2, i, j, e, i0, j0, h1, b, hb, z⟩
      exact ⟨v1, hv1, v2, hv2, i, j, e, i0, j0, h1, b, hb, k _ _ z⟩
theorem ok_tx {f : Addr} {fd : FuncData} (F : Fun K "_law_text" "_law_text" (top 22) f fd) (B : Bl mg) : FnOk P w K mg base CX0 1 f fd ["_law_cell_here"] spTx := by
  have sc : FnScope ["_law_cell_here", "_law_some"] ["_law_cell_here"] (defScope (top 22)) := ⟨rfl, rfl, rfl, by decide +kernel, rfl, by decide +kernel, by decide +kernel⟩
  refine F.ok sc (fun vs H Q E h => ?_) (fun cdv A outer s H vs Q E hr h => ?_)
  · obtain ⟨c, rfl, _⟩ := h
    rfl
  · obtain ⟨c, rfl, q⟩ := h
    refine ⟨_, pss_cons (ps_set (i := 1) sc.nd rfl (Or.inr rfl) pe_str) (pss_cons (ps_set (i := 1) sc.nd rfl (Or.inr rfl) (pe_op op_add_str (pv 1) pe_str))
      (pss_one (ps_ret (pe_bm PySem.F.plainAttrs_str PySem.F.slot_str_join PySem.F.type_str_join mt_joinL pe_str (pa_cons
        (pe_comp (osc := defScope (top 22)) (N0 := ["_law_cell_here", "_law_some"]) (xs := ["_law_k"]) (fr := [0, 1]) ⟨rfl, by decide +kernel, by decide +kernel, by decide +kernel, (fun j hj => by
            have e : j = 0 ∨ j = 1 := by simpa using hj
            rcases e with rfl | rfl
            · exact ⟨_, rfl, by decide +kernel⟩
            · exact ⟨_, rfl, by decide +kernel⟩), by decide +kernel⟩ rfl rfl rfl (pi_range1 rfl B.range (pa_cons (pe_op op_mod (pv 0) pe_int) pa_nil))
          (fun s H fp => pg_name (i := 0) (show (["_law_k", "_law_cell_here", "_law_some"] : List Str).Nodup by decide +kernel) rfl (Or.inl rfl)) (fun s H fp => pif_nil)
          (fun s H fp => pe_ix ix_str (pv 2) (pe_op op_mod (pe_op op_add (pe_op op_fdiv (pv 1) pe_int) (pe_op op_mul (pv 0) (pe_op op_mod (pe_op op_fdiv (pv 1) pe_int) pe_int))) pe_int) (fun _ _ => rfl))) pa_nil))))), ?_⟩
    have m0 := Int.emod_nonneg c (show (7 : Int) ≠ 0 by decide)
    have m1 := Int.emod_lt_of_pos c (show (0 : Int) < 7 by decide)
    refine ⟨_, rfl, sgA, sgB, rfl, rfl, (by decide +kernel), ?_⟩
    refine ⟨rfl, _, rfl, _, _, rfl, rfl, (pos rfl), _, rfl, (by omega), (by omega), fun D hD => ?_⟩
    have e3 : ((c % 7).toNat : Int) = c % 7 := Int.toNat_of_nonneg m0
    refine compW_map (c % 7).toNat (fun k => .str ⟨#[sgN (c / 7 + (0 + (k : Int)) * (c / 658 % 94))]⟩) (fun i σ' Hc => (∃ t, σ' = [t, some (.int c), some (.str (sgA ++ sgB))]) ∧ Same H Hc) (by rw [sizeLine_eq]; omega) ⟨⟨none, rfl⟩, Same.upd hD⟩ upd_same ?_ ?_
    · rintro i σ' Hc hi ⟨⟨t, rfl⟩, sm⟩ hDc
      refine ⟨hi, ?_⟩
      rintro x H' ⟨rfl, rfl⟩
      refine ⟨_, rfl, _, rfl, _, _, rfl, rfl, ⟨by decide, by decide⟩, _, rfl, _, rfl, _, _, rfl, rfl, ⟨by decide, by decide⟩, _, _, rfl, rfl, (pos rfl), _, _, rfl, rfl, .inl ⟨by omega, by omega⟩, _, _, rfl, rfl, _, _, rfl, rfl, (pos rfl), sgA ++ sgB, _, _, rfl, rfl, (by decide +kernel), sgN_at _, rfl, hDc, ⟨_, rfl⟩, same_put sm hD⟩
    · rintro σ' Hc ⟨_, sm⟩ hDc
      refine ⟨by show _ ≤ _; omega, "", D, txL c, rfl, rfl, SqL.of ?_, ?_, q _ sm⟩
      · rw [hDc]
        unfold txL
        rw [List.map_map]
        rfl
      · have e0 : ("" : Str).length = 0 := by decide +kernel
        have e1 : ((txL c).map (·.length)).sum = (c % 7).toNat := by
          unfold txL
          rw [List.map_map]
          have : ((fun x : Str => x.length) ∘ fun (k : Nat) => (⟨#[sgN (c / 7 + (0 + (k : Int)) * (c / 658 % 94))]⟩ : Str)) = fun _ => 1 := rfl
          rw [this, sum1, List.length_range]
        rw [e0, e1]
        omega
theorem ok_pt {f : Addr} {fd : FuncData} (F : Fun K "_law_pointer" "_law_pointer" (top 25) f fd) : FnOk P w K mg base CX0 1 f fd ["_law_cell_here", "_law_size", "_law_way"] spPt := by
  have sc : FnScope ["_law_cell_here", "_law_size", "_law_way", "_law_key"] ["_law_cell_here", "_law_size", "_law_way"] (defScope (top 25)) := ⟨rfl, rfl, rfl, by decide +kernel, rfl, by decide +kernel, by decide +kernel⟩
  refine F.ok sc (fun vs H Q E h => ?_) (fun cdv A outer s H vs Q E hr h => ?_)
  · obtain ⟨c, z, v, o, rfl, _⟩ := h
    rfl
  · obtain ⟨c, z, v, o, rfl, z0, z1, hw, q⟩ := h
    refine ⟨_, pss_cons (ps_if (pt_cmpR op_eq (pe_op op_mod (pv 0) pe_int) pe_int (nomark _)) (pss_one (ps_ret pe_non)) pss_nil)
      (pss_cons (ps_set (i := 3) sc.nd rfl (Or.inl rfl) (pe_op op_mod (pe_op op_fdiv (pv 0) pe_int) (pv 1)))
      (pss_cons (ps_if (pt_cmpR op_isN (pv 2) pe_non (nomark _)) (pss_one (ps_ret (pv 3))) pss_nil)
      (pss_one (ps_ret (pe_op op_mod (pe_op op_add (pe_op op_mul (pe_ix ix_tup (pv 2) pe_int (fun _ _ => rfl)) (pv 3)) (pe_ix ix_tup (pv 2) pe_int (fun _ _ => rfl))) (pv 1)))))), ?_⟩
    have k0 := Int.emod_nonneg (c / 4) (show z ≠ 0 by omega)
    have k1 := Int.emod_lt_of_pos (c / 4) z0
    refine ⟨_, rfl, _, _, rfl, rfl, (pos rfl), rfl, _, rfl, ?_⟩
    by_cases hc : c % 4 = 0
    · refine iteB (decide_eq_true (by show V.int (c % 4) = V.int 0; rw [hc])) ?_
      unfold ptV at q
      rw [if_pos hc] at q
      exact q
    · refine iteC (decide_eq_false fun e => hc (by injection e)) ?_
      unfold ptV at q
      rw [if_neg hc] at q
      refine ⟨_, rfl, _, _, rfl, rfl, ⟨by decide, by decide⟩, _, rfl, _, _, rfl, rfl, z0, ?_⟩
      cases o with
      | none =>
        cases (show v = .non from hw)
        refine ⟨_, rfl, rfl, _, rfl, iteB (decide_eq_true rfl) ⟨_, rfl, q⟩⟩
      | some x =>
        obtain ⟨t, p⟩ := x
        obtain ⟨a, rfl, ha, t0, t1⟩ := hw
        refine ⟨_, rfl, rfl, _, rfl, iteC (decide_eq_false fun e => by cases e) ?_⟩
        exact ⟨_, rfl, a, _, 0, _, rfl, rfl, SqT.of ha, atI_nat (j := 0) rfl, _, rfl, _, _, rfl, rfl, .inr ⟨by omega, by omega⟩, _, rfl, a, _, 1, _, rfl, rfl, SqT.of ha, atI_nat (j := 1) rfl, _, _, rfl, rfl, _, rfl, _, _, rfl, rfl, z0, q⟩
end
end My

namespace L2
open PySem PySem.Spec PyProof.Rows
theorem SqT.rd {K : PySem.W.Frag} {H : Hp} {a : Addr} {xs : List V} (h : Rd H a (.tup xs)) : SqT K H a xs := .inl h
/-- isinstance, of tuples frozen too -/
theorem call_isi5 {X : Cx} : CallR X (.builtin "isinstance") (fun xs H Q => ∃ x n t b, xs = [x, .ty n] ∧ (TyOf X.K H x t ∨ ∃ a ys, x = .ref a ∧ Rd H a (.tup ys) ∧ t = .type "tuple") ∧ PySem.W.kitOne X.K t (.type n) = some b ∧ Q (.bl b) H) := by
  intro pins s σ H xs us Q I r h
  obtain ⟨x, n, t, b, rfl, hx, e, q⟩ := h
  rcases hx with hx | ⟨a, ys, rfl, ha, rfl⟩
  · exact call_isi pins s σ H _ us Q I r ⟨x, n, t, b, rfl, hx, e, q⟩
  · obtain ⟨u, w', rfl, rx, rc⟩ := vals2 r
    cases rx
    cases (show w' = Value.type n from rc)
    obtain ⟨its, _, ⟨o, h1, h2, _⟩, _⟩ := I.tuple (SqT.rd ha)
    exact PySem.W.kia_one PySem.W.kitx_tuple I.kIn ⟨o, h1, h2⟩ e (fun z => nomatch z) fun tk => ⟨.bl b, H, I.tok tk, rfl, q⟩
end L2
namespace My
open PySem L2 PyProof.Rows
seal L2.PE L2.PT L2.PW L2.PS L2.PSs L2.PA L2.PI L2.PG L2.PGs L2.OpR L2.CallR L2.IxR L2.SlR L2.MtR L2.PIf L2.MtM L2.PC
def spSm (n : Nat) : Sp := fun vs H Q _ => ∃ x y, vs = [x, y] ∧ Lq H n x y ∧ ∀ H', Same H H' → Q (.bl true) H'
section
variable {P : Program} {w : World} {K : PySem.W.Frag} {mg : Str → Option Value} {base : Heap}
theorem kq {a b : String} {r : Bool} (h : kitTy a b = some r) : PySem.W.kitOne K (.type a) (.type b) = some r := kit_eq.trans h
theorem ok_al {fself : Addr} {fd : FuncData} (D : Df K mg "_law_alike" (top 20) fself fd) (B : Bl mg) (hz : mg "zip" = none) (n : Nat) (ih : ∀ m, n = m + 1 → FnOk P w K mg base CX0 (m + 1) fself fd ["_law_found", "_law_due"] (spSm m)) :
    FnOk P w K mg base CX0 (n + 1) fself fd ["_law_found", "_law_due"] (spSm n) := by
  have sc : FnScope ["_law_found", "_law_due", "_law_name", "_law_one", "_law_other"] ["_law_found", "_law_due"] (defScope (top 20)) := ⟨rfl, rfl, rfl, by decide +kernel, rfl, by decide +kernel, by decide +kernel⟩
  have bA := D.fn.binds (ps := ["_law_found", "_law_due"]) fun _ _ _ _ _ _ us hl => by obtain ⟨v0, v1, rfl⟩ := L2.ln2 hl; rfl
  refine D.fn.ok sc (fun vs H Q E h => ?_) (fun cdv A outer s H vs Q E' hr h => ?_)
  · obtain ⟨x, y, rfl, _⟩ := h
    rfl
  · obtain ⟨x, y, rfl, hl, q⟩ := h
    cases hl with
    | non =>
      refine ⟨_, (pss_cons (ps_if (pt_cmpR op_isN (pv 1) pe_non (nomark _)) (pss_one (ps_ret (pe_cmpR op_isN (pv 0) pe_non (nomark _)))) pss_nil)
          pss_never), ?_⟩
      refine ⟨_, rfl, rfl, _, rfl, iteB (decide_eq_true rfl) ?_⟩
      refine ⟨_, rfl, rfl, ?_⟩
      rw [decide_eq_true rfl]
      exact q H (Same.refl H)
    | bl =>
      refine ⟨_, (pss_cons (ps_if (pt_cmpR op_isN (pv 1) pe_non (nomark _)) pss_never pss_nil)
          (pss_cons (ps_if (PW.pt (pw_or (pt_val (pe_callB call_isi5 (by rfl) B.isi boot_isi (pa_cons (pv 1) (pa_cons (pe_bltn (v := .ty "bool") (by rfl) B.bool boot_bool rfl) pa_nil)))) (pw_or1 (pt_val (pe_callB call_isi5 (by rfl) B.isi boot_isi (pa_cons (pv 0) (pa_cons (pe_bltn (v := .ty "bool") (by rfl) B.bool boot_bool rfl) pa_nil))))))) (pss_one (ps_ret (pe_and (pe_callB call_isi5 (by rfl) B.isi boot_isi (pa_cons (pv 1) (pa_cons (pe_bltn (v := .ty "bool") (by rfl) B.bool boot_bool rfl) pa_nil))) (pe_and (pe_callB call_isi5 (by rfl) B.isi boot_isi (pa_cons (pv 0) (pa_cons (pe_bltn (v := .ty "bool") (by rfl) B.bool boot_bool rfl) pa_nil))) (pe_one (pe_cmpR op_eq (pv 0) (pv 1) (nomark _))))))) pss_nil)
          pss_never)), ?_⟩
      refine ⟨_, rfl, rfl, _, rfl, iteC (decide_eq_false fun e => by cases e) ?_⟩
      refine ⟨_, rfl, _, _, _, _, rfl, .inl (.bl _), kq (show kitTy "bool" "bool" = some true by decide +kernel), _, rfl, ?_⟩
      refine iteT ?_
      refine iteT ?_
      refine ⟨_, rfl, _, _, _, _, rfl, .inl (.bl _), kq (show kitTy "bool" "bool" = some true by decide +kernel), _, rfl, ?_⟩
      refine iteT ?_
      refine ⟨_, rfl, _, _, _, _, rfl, .inl (.bl _), kq (show kitTy "bool" "bool" = some true by decide +kernel), _, rfl, ?_⟩
      refine iteT ?_
      refine ⟨_, rfl, _, rfl, rfl, ?_⟩
      rw [decide_eq_true rfl]
      exact q H (Same.refl H)
    | int =>
      refine ⟨_, (pss_cons (ps_if (pt_cmpR op_isN (pv 1) pe_non (nomark _)) pss_never pss_nil)
          (pss_cons (ps_if (PW.pt (pw_or (pt_val (pe_callB call_isi5 (by rfl) B.isi boot_isi (pa_cons (pv 1) (pa_cons (pe_bltn (v := .ty "bool") (by rfl) B.bool boot_bool rfl) pa_nil)))) (pw_or1 (pt_val (pe_callB call_isi5 (by rfl) B.isi boot_isi (pa_cons (pv 0) (pa_cons (pe_bltn (v := .ty "bool") (by rfl) B.bool boot_bool rfl) pa_nil))))))) pss_never pss_nil)
          (pss_cons (ps_if (pt_val (pe_callB call_isi5 (by rfl) B.isi boot_isi (pa_cons (pv 1) (pa_cons (pe_bltn (v := .ty "int") (by rfl) B.int boot_int rfl) pa_nil)))) (pss_one (ps_ret (pe_and (pe_callB call_isi5 (by rfl) B.isi boot_isi (pa_cons (pv 0) (pa_cons (pe_bltn (v := .ty "int") (by rfl) B.int boot_int rfl) pa_nil))) (pe_one (pe_cmpR op_eq (pv 0) (pv 1) (nomark _)))))) pss_nil)
          pss_never))), ?_⟩
      refine ⟨_, rfl, rfl, _, rfl, iteC (decide_eq_false fun e => by cases e) ?_⟩
      refine ⟨_, rfl, _, _, _, _, rfl, .inl (.int _), kq (show kitTy "int" "bool" = some false by decide +kernel), _, rfl, ?_⟩
      refine iteF ?_
      refine ⟨_, rfl, _, _, _, _, rfl, .inl (.int _), kq (show kitTy "int" "bool" = some false by decide +kernel), _, rfl, ?_⟩
      refine iteF ?_
      refine ⟨_, rfl, _, _, _, _, rfl, .inl (.int _), kq (show kitTy "int" "int" = some true by decide +kernel), _, rfl, ?_⟩
      refine iteT ?_
      refine ⟨_, rfl, _, _, _, _, rfl, .inl (.int _), kq (show kitTy "int" "int" = some true by decide +kernel), _, rfl, ?_⟩
      refine iteT ?_
      refine ⟨_, rfl, _, rfl, rfl, ?_⟩
      rw [decide_eq_true rfl]
      exact q H (Same.refl H)
    | str =>
      refine ⟨_, (pss_cons (ps_if (pt_cmpR op_isN (pv 1) pe_non (nomark _)) pss_never pss_nil)
          (pss_cons (ps_if (PW.pt (pw_or (pt_val (pe_callB call_isi5 (by rfl) B.isi boot_isi (pa_cons (pv 1) (pa_cons (pe_bltn (v := .ty "bool") (by rfl) B.bool boot_bool rfl) pa_nil)))) (pw_or1 (pt_val (pe_callB call_isi5 (by rfl) B.isi boot_isi (pa_cons (pv 0) (pa_cons (pe_bltn (v := .ty "bool") (by rfl) B.bool boot_bool rfl) pa_nil))))))) pss_never pss_nil)
          (pss_cons (ps_if (pt_val (pe_callB call_isi5 (by rfl) B.isi boot_isi (pa_cons (pv 1) (pa_cons (pe_bltn (v := .ty "int") (by rfl) B.int boot_int rfl) pa_nil)))) pss_never pss_nil)
          (pss_cons (ps_if (pt_val (pe_callB call_isi5 (by rfl) B.isi boot_isi (pa_cons (pv 1) (pa_cons (pe_bltn (v := .ty "str") (by rfl) B.str boot_str rfl) pa_nil)))) (pss_one (ps_ret (pe_and (pe_callB call_isi5 (by rfl) B.isi boot_isi (pa_cons (pv 0) (pa_cons (pe_bltn (v := .ty "str") (by rfl) B.str boot_str rfl) pa_nil))) (pe_one (pe_cmpR op_eq (pv 0) (pv 1) (nomark _)))))) pss_nil)
          pss_never)))), ?_⟩
      refine ⟨_, rfl, rfl, _, rfl, iteC (decide_eq_false fun e => by cases e) ?_⟩
      refine ⟨_, rfl, _, _, _, _, rfl, .inl (.str _), kq (show kitTy "str" "bool" = some false by decide +kernel), _, rfl, ?_⟩
      refine iteF ?_
      refine ⟨_, rfl, _, _, _, _, rfl, .inl (.str _), kq (show kitTy "str" "bool" = some false by decide +kernel), _, rfl, ?_⟩
      refine iteF ?_
      refine ⟨_, rfl, _, _, _, _, rfl, .inl (.str _), kq (show kitTy "str" "int" = some false by decide +kernel), _, rfl, ?_⟩
      refine iteF ?_
      refine ⟨_, rfl, _, _, _, _, rfl, .inl (.str _), kq (show kitTy "str" "str" = some true by decide +kernel), _, rfl, ?_⟩
      refine iteT ?_
      refine ⟨_, rfl, _, _, _, _, rfl, .inl (.str _), kq (show kitTy "str" "str" = some true by decide +kernel), _, rfl, ?_⟩
      refine iteT ?_
      refine ⟨_, rfl, _, rfl, rfl, ?_⟩
      rw [decide_eq_true rfl]
      exact q H (Same.refl H)
    | @tup m a b xs ys ha hb hlen hi =>
      have ihS := ih m rfl
      have hrS : Room (m + 1) _ := hr
      refine ⟨_, (pss_cons (ps_if (pt_cmpR op_isN (pv 1) pe_non (nomark _)) pss_never pss_nil)
          (pss_cons (ps_if (PW.pt (pw_or (pt_val (pe_callB call_isi5 (by rfl) B.isi boot_isi (pa_cons (pv 1) (pa_cons (pe_bltn (v := .ty "bool") (by rfl) B.bool boot_bool rfl) pa_nil)))) (pw_or1 (pt_val (pe_callB call_isi5 (by rfl) B.isi boot_isi (pa_cons (pv 0) (pa_cons (pe_bltn (v := .ty "bool") (by rfl) B.bool boot_bool rfl) pa_nil))))))) pss_never pss_nil)
          (pss_cons (ps_if (pt_val (pe_callB call_isi5 (by rfl) B.isi boot_isi (pa_cons (pv 1) (pa_cons (pe_bltn (v := .ty "int") (by rfl) B.int boot_int rfl) pa_nil)))) pss_never pss_nil)
          (pss_cons (ps_if (pt_val (pe_callB call_isi5 (by rfl) B.isi boot_isi (pa_cons (pv 1) (pa_cons (pe_bltn (v := .ty "str") (by rfl) B.str boot_str rfl) pa_nil)))) pss_never pss_nil)
          (pss_cons (ps_if (pt_val (pe_callB call_isi5 (by rfl) B.isi boot_isi (pa_cons (pv 1) (pa_cons (pe_bltn (v := .ty "dict") (by rfl) B.dict boot_dict rfl) pa_nil)))) pss_never pss_nil)
          (pss_cons (ps_if (PW.pt (pw_or (pt_cmpR op_ne (pe_callB call_isi5 (by rfl) B.isi boot_isi (pa_cons (pv 1) (pa_cons (pe_bltn (v := .ty "list") (by rfl) B.list boot_list rfl) pa_nil))) (pe_callB call_isi5 (by rfl) B.isi boot_isi (pa_cons (pv 0) (pa_cons (pe_bltn (v := .ty "list") (by rfl) B.list boot_list rfl) pa_nil))) (nomark _)) (pw_or1 (pt_cmpR op_ne (pe_callB call_isi5 (by rfl) B.isi boot_isi (pa_cons (pv 1) (pa_cons (pe_bltn (v := .ty "tuple") (by rfl) B.tuple boot_tuple rfl) pa_nil))) (pe_callB call_isi5 (by rfl) B.isi boot_isi (pa_cons (pv 0) (pa_cons (pe_bltn (v := .ty "tuple") (by rfl) B.tuple boot_tuple rfl) pa_nil))) (nomark _))))) pss_never pss_nil)
          (pss_cons (ps_if (pt_cmpR op_ne (pe_callB call_len_seq (by rfl) B.len PySem.boot_len (pa_cons (pv 0) pa_nil)) (pe_callB call_len_seq (by rfl) B.len PySem.boot_len (pa_cons (pv 1) pa_nil)) (nomark _)) pss_never pss_nil)
          (pss_cons (ps_for PassesOwn.never rfl (pi_zipT (by rfl) hz (pa_cons (pv 0) (pa_cons (pv 1) pa_nil))) (pg_tup rfl (pgs_cons (pg_name (i := 3) sc.nd rfl (Or.inl rfl)) (pgs_cons (pg_name (i := 4) sc.nd rfl (Or.inl rfl)) pgs_nil)))
            (pss_one (ps_if (pt_not (pt_val (pe_call ihS hrS (by rfl) D.mg D.fn.kp bA .nil pass0 (pa_cons (pv 3) (pa_cons (pv 4) pa_nil))))) pss_never pss_nil)))
          (pss_one (ps_ret pe_bl)))))))))), ?_⟩
      refine ⟨_, rfl, rfl, _, rfl, iteC (decide_eq_false fun e => by cases e) ?_⟩
      refine ⟨_, rfl, _, _, _, _, rfl, .inr ⟨_, _, rfl, hb, rfl⟩, kq (show kitTy "tuple" "bool" = some false by decide +kernel), _, rfl, ?_⟩
      refine iteF ?_
      refine ⟨_, rfl, _, _, _, _, rfl, .inr ⟨_, _, rfl, ha, rfl⟩, kq (show kitTy "tuple" "bool" = some false by decide +kernel), _, rfl, ?_⟩
      refine iteF ?_
      refine ⟨_, rfl, _, _, _, _, rfl, .inr ⟨_, _, rfl, hb, rfl⟩, kq (show kitTy "tuple" "int" = some false by decide +kernel), _, rfl, ?_⟩
      refine iteF ?_
      refine ⟨_, rfl, _, _, _, _, rfl, .inr ⟨_, _, rfl, hb, rfl⟩, kq (show kitTy "tuple" "str" = some false by decide +kernel), _, rfl, ?_⟩
      refine iteF ?_
      refine ⟨_, rfl, _, _, _, _, rfl, .inr ⟨_, _, rfl, hb, rfl⟩, kq (show kitTy "tuple" "dict" = some false by decide +kernel), _, rfl, ?_⟩
      refine iteF ?_
      refine ⟨_, rfl, _, _, _, _, rfl, .inr ⟨_, _, rfl, hb, rfl⟩, kq (show kitTy "tuple" "list" = some false by decide +kernel), _, rfl, _, _, _, _, rfl, .inr ⟨_, _, rfl, ha, rfl⟩, kq (show kitTy "tuple" "list" = some false by decide +kernel), rfl, _, rfl, ?_⟩
      refine iteNS rfl ?_
      refine ⟨_, rfl, _, _, _, _, rfl, .inr ⟨_, _, rfl, hb, rfl⟩, kq (show kitTy "tuple" "tuple" = some true by decide +kernel), _, rfl, _, _, _, _, rfl, .inr ⟨_, _, rfl, ha, rfl⟩, kq (show kitTy "tuple" "tuple" = some true by decide +kernel), rfl, _, rfl, ?_⟩
      refine iteNS rfl ?_
      refine ⟨_, rfl, _, _, rfl, .inr (SqT.rd ha), _, rfl, _, _, rfl, .inr (SqT.rd hb), rfl, _, rfl, ?_⟩
      refine iteNS (by rw [hlen]) ?_
      refine ⟨_, rfl, _, rfl, a, b, rfl, ⟨_, SqT.rd ha⟩, ⟨_, SqT.rd hb⟩, for_zipT (K := K) (xs := xs) (ys := ys) (fun i σ H' => Same H H' ∧ ∃ (u v : Option V), σ = [some (.ref a), some (.ref b), none, u, v]) hlen ⟨Same.refl H, _, _, rfl⟩ (fun i σ H' _ p => ⟨SqT.rd (ha.same p.1), SqT.rd (hb.same p.1)⟩) ?_ ?_⟩
      · rintro i x y p σ H' hx hy ⟨s1, u, v, rfl⟩ hp
        refine ⟨p, [x, y], rfl, SqT.of upd_same, rfl, x, [y], rfl, y, [], rfl, rfl, ?_⟩
        have s2 := s1.trans (Same.upd (o := .tup [x, y]) hp)
        refine ⟨_, rfl, _, rfl, x, y, rfl, (hi i x y hx hy).same s2, fun H2 s3 => ⟨_, rfl, ?_⟩⟩
        refine iteF ?_
        exact ⟨s2.trans s3, _, _, rfl⟩
      · rintro σ H' ⟨s1, u, v, rfl⟩
        exact q H' s1
    | @lst m a b xs ys ha hb hlen hi =>
      have ihS := ih m rfl
      have hrS : Room (m + 1) _ := hr
      refine ⟨_, (pss_cons (ps_if (pt_cmpR op_isN (pv 1) pe_non (nomark _)) pss_never pss_nil)
          (pss_cons (ps_if (PW.pt (pw_or (pt_val (pe_callB call_isi5 (by rfl) B.isi boot_isi (pa_cons (pv 1) (pa_cons (pe_bltn (v := .ty "bool") (by rfl) B.bool boot_bool rfl) pa_nil)))) (pw_or1 (pt_val (pe_callB call_isi5 (by rfl) B.isi boot_isi (pa_cons (pv 0) (pa_cons (pe_bltn (v := .ty "bool") (by rfl) B.bool boot_bool rfl) pa_nil))))))) pss_never pss_nil)
          (pss_cons (ps_if (pt_val (pe_callB call_isi5 (by rfl) B.isi boot_isi (pa_cons (pv 1) (pa_cons (pe_bltn (v := .ty "int") (by rfl) B.int boot_int rfl) pa_nil)))) pss_never pss_nil)
          (pss_cons (ps_if (pt_val (pe_callB call_isi5 (by rfl) B.isi boot_isi (pa_cons (pv 1) (pa_cons (pe_bltn (v := .ty "str") (by rfl) B.str boot_str rfl) pa_nil)))) pss_never pss_nil)
          (pss_cons (ps_if (pt_val (pe_callB call_isi5 (by rfl) B.isi boot_isi (pa_cons (pv 1) (pa_cons (pe_bltn (v := .ty "dict") (by rfl) B.dict boot_dict rfl) pa_nil)))) pss_never pss_nil)
          (pss_cons (ps_if (PW.pt (pw_or (pt_cmpR op_ne (pe_callB call_isi5 (by rfl) B.isi boot_isi (pa_cons (pv 1) (pa_cons (pe_bltn (v := .ty "list") (by rfl) B.list boot_list rfl) pa_nil))) (pe_callB call_isi5 (by rfl) B.isi boot_isi (pa_cons (pv 0) (pa_cons (pe_bltn (v := .ty "list") (by rfl) B.list boot_list rfl) pa_nil))) (nomark _)) (pw_or1 (pt_cmpR op_ne (pe_callB call_isi5 (by rfl) B.isi boot_isi (pa_cons (pv 1) (pa_cons (pe_bltn (v := .ty "tuple") (by rfl) B.tuple boot_tuple rfl) pa_nil))) (pe_callB call_isi5 (by rfl) B.isi boot_isi (pa_cons (pv 0) (pa_cons (pe_bltn (v := .ty "tuple") (by rfl) B.tuple boot_tuple rfl) pa_nil))) (nomark _))))) pss_never pss_nil)
          (pss_cons (ps_if (pt_cmpR op_ne (pe_callB call_len_seq (by rfl) B.len PySem.boot_len (pa_cons (pv 0) pa_nil)) (pe_callB call_len_seq (by rfl) B.len PySem.boot_len (pa_cons (pv 1) pa_nil)) (nomark _)) pss_never pss_nil)
          (pss_cons (ps_for PassesOwn.never rfl (pi_zipL (by rfl) hz (pa_cons (pv 0) (pa_cons (pv 1) pa_nil))) (pg_tup rfl (pgs_cons (pg_name (i := 3) sc.nd rfl (Or.inl rfl)) (pgs_cons (pg_name (i := 4) sc.nd rfl (Or.inl rfl)) pgs_nil)))
            (pss_one (ps_if (pt_not (pt_val (pe_call ihS hrS (by rfl) D.mg D.fn.kp bA .nil pass0 (pa_cons (pv 3) (pa_cons (pv 4) pa_nil))))) pss_never pss_nil)))
          (pss_one (ps_ret pe_bl)))))))))), ?_⟩
      refine ⟨_, rfl, rfl, _, rfl, iteC (decide_eq_false fun e => by cases e) ?_⟩
      refine ⟨_, rfl, _, _, _, _, rfl, .inl (.lst hb), kq (show kitTy "list" "bool" = some false by decide +kernel), _, rfl, ?_⟩
      refine iteF ?_
      refine ⟨_, rfl, _, _, _, _, rfl, .inl (.lst ha), kq (show kitTy "list" "bool" = some false by decide +kernel), _, rfl, ?_⟩
      refine iteF ?_
      refine ⟨_, rfl, _, _, _, _, rfl, .inl (.lst hb), kq (show kitTy "list" "int" = some false by decide +kernel), _, rfl, ?_⟩
      refine iteF ?_
      refine ⟨_, rfl, _, _, _, _, rfl, .inl (.lst hb), kq (show kitTy "list" "str" = some false by decide +kernel), _, rfl, ?_⟩
      refine iteF ?_
      refine ⟨_, rfl, _, _, _, _, rfl, .inl (.lst hb), kq (show kitTy "list" "dict" = some false by decide +kernel), _, rfl, ?_⟩
      refine iteF ?_
      refine ⟨_, rfl, _, _, _, _, rfl, .inl (.lst hb), kq (show kitTy "list" "list" = some true by decide +kernel), _, rfl, _, _, _, _, rfl, .inl (.lst ha), kq (show kitTy "list" "list" = some true by decide +kernel), rfl, _, rfl, ?_⟩
      refine iteNS rfl ?_
      refine ⟨_, rfl, _, _, _, _, rfl, .inl (.lst hb), kq (show kitTy "list" "tuple" = some false by decide +kernel), _, rfl, _, _, _, _, rfl, .inl (.lst ha), kq (show kitTy "list" "tuple" = some false by decide +kernel), rfl, _, rfl, ?_⟩
      refine iteNS rfl ?_
      refine ⟨_, rfl, _, _, rfl, .inl (SqL.of ha), _, rfl, _, _, rfl, .inl (SqL.of hb), rfl, _, rfl, ?_⟩
      refine iteNS (by rw [hlen]) ?_
      refine ⟨_, rfl, _, rfl, a, b, rfl, ⟨_, SqL.of ha⟩, ⟨_, SqL.of hb⟩, for_zipL (K := K) (xs := xs) (ys := ys) (fun i σ H' => Same H H' ∧ ∃ (u v : Option V), σ = [some (.ref a), some (.ref b), none, u, v]) hlen ⟨Same.refl H, _, _, rfl⟩ (fun i σ H' _ p => ⟨SqL.of (p.1 _ _ ha), SqL.of (p.1 _ _ hb)⟩) ?_ ?_⟩
      · rintro i x y p σ H' hx hy ⟨s1, u, v, rfl⟩ hp
        refine ⟨p, [x, y], rfl, SqT.of upd_same, rfl, x, [y], rfl, y, [], rfl, rfl, ?_⟩
        have s2 := s1.trans (Same.upd (o := .tup [x, y]) hp)
        refine ⟨_, rfl, _, rfl, x, y, rfl, (hi i x y hx hy).same s2, fun H2 s3 => ⟨_, rfl, ?_⟩⟩
        refine iteF ?_
        exact ⟨s2.trans s3, _, _, rfl⟩
      · rintro σ H' ⟨s1, u, v, rfl⟩
        exact q H' s1
    | @dct m a b kvs kws f ha hb hlen hf hg hi =>
      have ihS := ih m rfl
      have hrS : Room (m + 1) _ := hr
      have hu : (A.deeper (envOfC "_law_alike" (defScope (top 20)) s.heap.objs.size fself cdv)).units + 1 < cLine := hu_of hr
      refine ⟨_, (pss_cons (ps_if (pt_cmpR op_isN (pv 1) pe_non (nomark _)) pss_never pss_nil)
          (pss_cons (ps_if (PW.pt (pw_or (pt_val (pe_callB call_isiD (by rfl) B.isi boot_isi (pa_cons (pv 1) (pa_cons (pe_bltn (v := .ty "bool") (by rfl) B.bool boot_bool rfl) pa_nil)))) (pw_or1 (pt_val (pe_callB call_isiD (by rfl) B.isi boot_isi (pa_cons (pv 0) (pa_cons (pe_bltn (v := .ty "bool") (by rfl) B.bool boot_bool rfl) pa_nil))))))) pss_never pss_nil)
          (pss_cons (ps_if (pt_val (pe_callB call_isiD (by rfl) B.isi boot_isi (pa_cons (pv 1) (pa_cons (pe_bltn (v := .ty "int") (by rfl) B.int boot_int rfl) pa_nil)))) pss_never pss_nil)
          (pss_cons (ps_if (pt_val (pe_callB call_isiD (by rfl) B.isi boot_isi (pa_cons (pv 1) (pa_cons (pe_bltn (v := .ty "str") (by rfl) B.str boot_str rfl) pa_nil)))) pss_never pss_nil)
          (pss_cons (ps_if (pt_val (pe_callB call_isiD (by rfl) B.isi boot_isi (pa_cons (pv 1) (pa_cons (pe_bltn (v := .ty "dict") (by rfl) B.dict boot_dict rfl) pa_nil)))) (pss_cons (ps_if (PW.pt (pw_or (pt_not (pt_val (pe_callB call_isiD (by rfl) B.isi boot_isi (pa_cons (pv 0) (pa_cons (pe_bltn (v := .ty "dict") (by rfl) B.dict boot_dict rfl) pa_nil))))) (pw_or1 (pt_cmpR op_ne (pe_callB call_lenR (by rfl) B.len PySem.boot_len (pa_cons (pv 0) pa_nil)) (pe_callB call_lenR (by rfl) B.len PySem.boot_len (pa_cons (pv 1) pa_nil)) (nomark _))))) pss_never pss_nil)
            (pss_cons (ps_frzR (ps_for PassesOwn.never rfl (pi_dict (pv 1)) (pg_name (i := 2) sc.nd rfl (Or.inl rfl))
              (pss_one (ps_if (PW.pt (pw_or (pt_cmp (pc_dnotin hu (pv 2) (pv 0))) (pw_or1 (pt_not (pt_val (pe_call ihS hrS (by rfl) D.mg D.fn.kp bA .nil pass0 (pa_cons (pe_dget hu (pv 0) (pv 2) (fun _ _ => rfl)) (pa_cons (pe_dget hu (pv 1) (pv 2) (fun _ _ => rfl)) pa_nil)))))))) pss_never pss_nil))))
            (pss_one (ps_ret pe_bl)))) pss_nil)
          pss_never))))), ?_⟩
      refine ⟨_, rfl, rfl, _, rfl, iteC (decide_eq_false fun e => by cases e) ?_⟩
      refine ⟨_, rfl, _, _, _, _, rfl, hb, kq (show kitTy "dict" "bool" = some false by decide +kernel), _, rfl, ?_⟩
      refine iteF ?_
      refine ⟨_, rfl, _, _, _, _, rfl, ha, kq (show kitTy "dict" "bool" = some false by decide +kernel), _, rfl, ?_⟩
      refine iteF ?_
      refine ⟨_, rfl, _, _, _, _, rfl, hb, kq (show kitTy "dict" "int" = some false by decide +kernel), _, rfl, ?_⟩
      refine iteF ?_
      refine ⟨_, rfl, _, _, _, _, rfl, hb, kq (show kitTy "dict" "str" = some false by decide +kernel), _, rfl, ?_⟩
      refine iteF ?_
      refine ⟨_, rfl, _, _, _, _, rfl, hb, kq (show kitTy "dict" "dict" = some true by decide +kernel), _, rfl, ?_⟩
      refine iteT ?_
      refine ⟨_, rfl, _, _, _, _, rfl, ha, kq (show kitTy "dict" "dict" = some true by decide +kernel), _, rfl, iteF ?_⟩
      refine ⟨_, rfl, a, kvs, rfl, ha, _, rfl, b, kws, rfl, hb, rfl, _, rfl, iteNS (by rw [hlen]) ?_⟩
      refine ⟨b, kws, hb, fun o ho => ?_, fun ho o => ?_⟩
      · refine ⟨_, rfl, b, o, _, rfl, ho, for_dict (a := b) (o := o) (kvs := kws) (fun i σ H1 => Same H H1 ∧ ∃ u, σ = [some (.ref a), some (.ref b), u, none, none]) ⟨Same.refl H, _, rfl⟩ (fun i σ H1 _ p => p.1 _ _ ho) ?_ ?_⟩
        · rintro i k v σ H1 hk ⟨s1, u, rfl⟩
          have hm := List.mem_of_getElem? hk
          refine ⟨_, rfl, _, rfl, a, _, rfl, .inl ⟨kvs, k, Rd.same s1 ha, rfl, (hf k v hm).symm⟩, _, rfl, iteF ?_⟩
          refine ⟨_, rfl, _, rfl, a, _, rfl, .inl ⟨kvs, k, Rd.same s1 ha, rfl, (hf k v hm).symm⟩, _, rfl, _, rfl, b, _, rfl, .inl ⟨kws, k, Rd.same s1 hb, rfl, (hg k v hm).symm⟩, _, _, rfl, (hi k v hm).same s1, fun H2 s2 => ⟨_, rfl, iteF ?_⟩⟩
          exact ⟨s1.trans s2, _, rfl⟩
        · rintro σ H1 ⟨s1, u, rfl⟩
          exact q H1 s1
      · have e1 : (upd H b (.frz o (.dK kws))) b = some (.frz o (.dK kws)) := upd_same
        have ha1 : Rd (upd H b (.frz o (.dK kws))) a (.dK kvs) := Rd.frz ho ha
        have hb1 : Rd (upd H b (.frz o (.dK kws))) b (.dK kws) := Rd.frz ho hb
        have hi1 : ∀ (k : Key) (v : V), (k, v) ∈ kws → Lq (upd H b (.frz o (.dK kws))) m (f k) v := fun k v hm => (hi k v hm).frz ho
        have bk : ∀ {G : Hp}, Same (upd H b (.frz o (.dK kws))) G → Same H (upd G b (.dK kws)) := fun {G} sg => back_same ho sg
        generalize upd H b (.frz o (.dK kws)) = H0 at *
        refine ⟨_, rfl, b, o, _, rfl, e1, for_dict (a := b) (o := o) (kvs := kws) (fun i σ H1 => Same H0 H1 ∧ ∃ u, σ = [some (.ref a), some (.ref b), u, none, none]) ⟨Same.refl H0, _, rfl⟩ (fun i σ H1 _ p => p.1 _ _ e1) ?_ ?_⟩
        · rintro i k v σ H1 hk ⟨s1, u, rfl⟩
          have hm := List.mem_of_getElem? hk
          refine ⟨_, rfl, _, rfl, a, _, rfl, .inl ⟨kvs, k, Rd.same s1 ha1, rfl, (hf k v hm).symm⟩, _, rfl, iteF ?_⟩
          refine ⟨_, rfl, _, rfl, a, _, rfl, .inl ⟨kvs, k, Rd.same s1 ha1, rfl, (hf k v hm).symm⟩, _, rfl, _, rfl, b, _, rfl, .inl ⟨kws, k, Rd.same s1 hb1, rfl, (hg k v hm).symm⟩, _, _, rfl, (hi1 k v hm).same s1, fun H2 s2 => ⟨_, rfl, iteF ?_⟩⟩
          exact ⟨s1.trans s2, _, rfl⟩
        · rintro σ H1 ⟨s1, u, rfl⟩
          exact ⟨s1 _ _ e1, q _ (bk s1)⟩
theorem ok_alike {f : Addr} {fd : FuncData} (D : Df K mg "_law_alike" (top 20) f fd) (B : Bl mg) (hz : mg "zip" = none) : ∀ n : Nat, FnOk P w K mg base CX0 (n + 1) f fd ["_law_found", "_law_due"] (spSm n)
  | 0 => ok_al D B hz 0 (fun m e => by cases e)
  | n + 1 => ok_al D B hz (n + 1) (fun m e => by cases e; exact ok_alike D B hz n)
end
end My

namespace L2
open PySem PySem.Spec PyProof.Rows
theorem Same.put {H H1 : Hp} {p : Addr} {o : HO} (s : Same H H1) (h : H p = none) : Same H (L2.upd H1 p o) := fun b u e => by
  rw [upd_ne (ne_of_none e h)]
  exact s _ _ e
def cut (H0 H : Hp) : Hp := fun b => match H0 b with | none => H b | some _ => none
theorem cut_sub {H0 H : Hp} : Same (cut H0 H) H := fun b o e => by
  unfold cut at e
  split at e
  · exact e
  · cases e
theorem cut_new {H0 H : Hp} {b : Addr} {o : HO} (e : cut H0 H b = some o) : H0 b = none := by
  unfold cut at e
  split at e
  · assumption
  · cases e
theorem cut_at {H0 H : Hp} {b : Addr} {o : HO} (h0 : H0 b = none) (e : H b = some o) : cut H0 H b = some o := by
  unfold cut
  rw [h0]
  exact e
theorem cut_up {H0 H H' : Hp} (s : Same H H') : Same (cut H0 H) (cut H0 H') := fun b o e => cut_at (cut_new e) (s _ _ (cut_sub _ _ e))
theorem none_of {H0 H1 : Hp} {b : Addr} (s : Same H0 H1) (h : H1 b = none) : H0 b = none := by
  cases e : H0 b with
  | none => rfl
  | some o => rw [s _ _ e] at h; cases h
/-- what comes behind a statement, said once -/
theorem cut_put {H H1 : Hp} {r : Addr} {o : HO} (h : H r = none) : cut H (upd H1 r o) = upd (cut H H1) r o := by
  funext b
  by_cases e : b = r
  · subst e
    rw [upd_same, cut]
    rw [h]
    exact upd_same
  · rw [upd_ne e]
    unfold cut
    split
    · rw [upd_ne e]
    · rfl
theorem cut_upd {H H2 : Hp} {a : Addr} {o o' : HO} (h : H a = some o') : Same (cut H H2) (cut H (upd H2 a o)) := fun b u e => by
  have nb : b ≠ a := fun e2 => by rw [e2, cut] at e; rw [h] at e; cases e
  exact cut_at (cut_new e) (by rw [upd_ne nb]; exact cut_sub _ _ e)
end L2
namespace My
open PySem L2 PyProof.Rows
seal L2.PE L2.PT L2.PW L2.PS L2.PSs L2.PA L2.PI L2.PG L2.PGs L2.OpR L2.CallR L2.IxR L2.SlR L2.MtR L2.PIf L2.MtM L2.PC
/-! ### rows, tables, pieces: contents without addresses -/
abbrev Rw := List (Str × V)
abbrev Pc := List (Str × List Rw)
def rK (row : Rw) : List (Key × V) := row.map fun c => (.inr c.1, c.2)
/-- values without an address, or tuples -/
def RwOk (H : Hp) (row : Rw) : Prop := ((row.map (·.1)).Nodup ∧ row.length ≤ 12) ∧ ∀ c ∈ row, flt c.2 = true ∨ ∃ a xs, c.2 = .ref a ∧ H a = some (.tup xs)
def RowsAt (H : Hp) (l : Addr) (rows : List Rw) : Prop := ∃ rs : List Addr, H l = some (.lst (rs.map V.ref)) ∧ rs.length = rows.length ∧ ∀ (j : Nat) (r : Addr) (row : Rw), rs[j]? = some r → rows[j]? = some row → H r = some (.dK (rK row))
def zK (zs : List Str) (ls : List Addr) : List (Key × V) := zs.zipWith (fun z v => ((Sum.inr z : Key), v)) (ls.map V.ref)
def PcAt (H : Hp) (p : Addr) (pc : Pc) : Prop := ∃ ls : List Addr, H p = some (.dK (zK (pc.map (·.1)) ls)) ∧ ls.length = pc.length ∧ ∀ (j : Nat) (l : Addr) (t : Str × List Rw), ls[j]? = some l → pc[j]? = some t → RowsAt H l t.2
/-- .. its rows apart from one another -/
def RowsD (H : Hp) (l : Addr) (rows : List Rw) : Prop := ∃ rs : List Addr, H l = some (.lst (rs.map V.ref)) ∧ rs.length = rows.length ∧ rs.Nodup ∧ ∀ (j : Nat) (r : Addr) (row : Rw), rs[j]? = some r → rows[j]? = some row → H r = some (.dK (rK row))
def PcD (H : Hp) (p : Addr) (pc : Pc) : Prop := ∃ ls : List Addr, H p = some (.dK (zK (pc.map (·.1)) ls)) ∧ ls.length = pc.length ∧ ∀ (j : Nat) (l : Addr) (t : Str × List Rw), ls[j]? = some l → pc[j]? = some t → RowsD H l t.2
/-- .. and each table's rows its own -/
def RowsO (H : Hp) (ow : Addr → Nat) (j : Nat) (l : Addr) (rows : List Rw) : Prop := ∃ rs : List Addr, H l = some (.lst (rs.map V.ref)) ∧ rs.length = rows.length ∧ rs.Nodup ∧ (∀ (j : Nat) (r : Addr) (row : Rw), rs[j]? = some r → rows[j]? = some row → H r = some (.dK (rK row))) ∧ ∀ r ∈ rs, ow r = j
def PcE (H : Hp) (p : Addr) (pc : Pc) : Prop := ∃ (ls : List Addr) (ow : Addr → Nat), H p = some (.dK (zK (pc.map (·.1)) ls)) ∧ ls.length = pc.length ∧ ∀ (j : Nat) (l : Addr) (t : Str × List Rw), ls[j]? = some l → pc[j]? = some t → RowsO H ow j l t.2
theorem RowsO.same {H H' : Hp} {ow : Addr → Nat} {j : Nat} {l : Addr} {rows : List Rw} (h : RowsO H ow j l rows) (s : Same H H') : RowsO H' ow j l rows := let ⟨rs, a, b, n, c, d⟩ := h; ⟨rs, s _ _ a, b, n, fun j r row x y => s _ _ (c j r row x y), d⟩
theorem PcE.same {H H' : Hp} {p : Addr} {pc : Pc} (h : PcE H p pc) (s : Same H H') : PcE H' p pc := let ⟨ls, ow, a, b, c⟩ := h; ⟨ls, ow, s _ _ a, b, fun j l t x y => (c j l t x y).same s⟩
theorem RowsO.d {H : Hp} {ow : Addr → Nat} {j : Nat} {l : Addr} {rows : List Rw} (h : RowsO H ow j l rows) : RowsD H l rows := let ⟨rs, a, b, n, c, _⟩ := h; ⟨rs, a, b, n, c⟩
theorem PcE.d {H : Hp} {p : Addr} {pc : Pc} (h : PcE H p pc) : PcD H p pc := let ⟨ls, ow, a, b, c⟩ := h; ⟨ls, a, b, fun j l t x y => (c j l t x y).d⟩
theorem RowsD.same {H H' : Hp} {l : Addr} {rows : List Rw} (h : RowsD H l rows) (s : Same H H') : RowsD H' l rows := let ⟨rs, a, b, n, c⟩ := h; ⟨rs, s _ _ a, b, n, fun j r row x y => s _ _ (c j r row x y)⟩
theorem PcD.same {H H' : Hp} {p : Addr} {pc : Pc} (h : PcD H p pc) (s : Same H H') : PcD H' p pc := let ⟨ls, a, b, c⟩ := h; ⟨ls, s _ _ a, b, fun j l t x y => (c j l t x y).same s⟩
theorem RowsD.rows {H : Hp} {l : Addr} {rows : List Rw} (h : RowsD H l rows) : RowsAt H l rows := let ⟨rs, a, b, _, c⟩ := h; ⟨rs, a, b, c⟩
theorem PcD.pc {H : Hp} {p : Addr} {pc : Pc} (h : PcD H p pc) : PcAt H p pc := let ⟨ls, a, b, c⟩ := h; ⟨ls, a, b, fun j l t x y => (c j l t x y).rows⟩
structure PcOk (H : Hp) (pc : Pc) : Prop where
  nd : (pc.map (·.1)).Nodup
  le : pc.length ≤ 8
  rl : ∀ t ∈ pc, t.2.length ≤ 1000
  rw_ : ∀ t ∈ pc, ∀ row ∈ t.2, RwOk H row
theorem RowsAt.same {H H' : Hp} {l : Addr} {rows : List Rw} (h : RowsAt H l rows) (s : Same H H') : RowsAt H' l rows := let ⟨rs, a, b, c⟩ := h; ⟨rs, s _ _ a, b, fun j r row x y => s _ _ (c j r row x y)⟩
theorem PcAt.same {H H' : Hp} {p : Addr} {pc : Pc} (h : PcAt H p pc) (s : Same H H') : PcAt H' p pc := let ⟨ls, a, b, c⟩ := h; ⟨ls, s _ _ a, b, fun j l t x y => (c j l t x y).same s⟩
theorem rK_flat {H : Hp} {row : Rw} (ok : RwOk H row) {k : Key} {a : Addr} (ha : ∀ xs, H a ≠ some (.tup xs)) : (k, V.ref a) ∉ rK row := fun h => by
  obtain ⟨c, hc, e⟩ := List.mem_map.mp h
  injection e with _ e2
  rcases ok.2 c hc with h | ⟨b, xs, h1, h2⟩
  · rw [e2] at h
    cases h
  · rw [e2] at h1
    injection h1 with h1
    exact ha xs (h1 ▸ h2)
theorem zK_mem {zs : List Str} {ls : List Addr} {j : Nat} {z : Str} {l : Addr} (h1 : zs[j]? = some z) (h2 : ls[j]? = some l) : ((.inr z : Key), V.ref l) ∈ zK zs ls := by
  refine List.mem_of_getElem? (i := j) ?_
  unfold zK
  rw [zw_get, h1, List.getElem?_map, h2]
  rfl
theorem zK_get {zs : List Str} {ls : List Addr} {j : Nat} {k : Key} {v : V} (h : (zK zs ls)[j]? = some (k, v)) : ∃ z l, zs[j]? = some z ∧ ls[j]? = some l ∧ k = .inr z ∧ v = .ref l := by
  unfold zK at h
  rw [zw_get, List.getElem?_map] at h
  cases h1 : zs[j]? with
  | none => rw [h1] at h; cases h
  | some z =>
    cases h2 : ls[j]? with
    | none => rw [h1, h2] at h; cases h
    | some l =>
      rw [h1, h2] at h
      cases h
      exact ⟨z, l, rfl, rfl, rfl, rfl⟩
theorem zK_len {zs : List Str} {ls : List Addr} (h : ls.length = zs.length) : (zK zs ls).length = zs.length := by
  unfold zK
  exact zw_len (by rw [List.length_map]; exact h)
theorem zK_snoc {zs : List Str} {ls : List Addr} {z : Str} {l : Addr} (h : ls.length = zs.length) : zK (zs ++ [z]) (ls ++ [l]) = zK zs ls ++ [(.inr z, .ref l)] := by
  unfold zK
  rw [List.map_append, List.zipWith_append (by rw [List.length_map]; exact h.symm)]
  rfl
theorem zK_new {zs : List Str} {ls : List Addr} {z : Str} (h : z ∉ zs) : valV (zK zs ls) (.inr z) = none := by
  unfold valV
  rw [List.find?_eq_none.mpr fun x hx => ?_]
  · rfl
  · obtain ⟨k, v⟩ := x
    obtain ⟨i, y, h1, h2, e⟩ := zw_mem hx
    intro hd
    have e2 := of_decide_eq_true hd
    rw [e] at e2
    injection e2 with e2
    exact h (by rw [← e2]; exact List.mem_of_getElem? h1)
/-- the piece's dict is none of its lists and rows -/
theorem PcAt.apart {H : Hp} {p : Addr} {pc : Pc} (ok : PcOk H pc) {ls : List Addr} (hp : H p = some (.dK (zK (pc.map (·.1)) ls))) (hl : ls.length = pc.length) {j : Nat} {l : Addr} {t : Str × List Rw} (h1 : ls[j]? = some l) (h2 : pc[j]? = some t) (hr : RowsAt H l t.2) :
    l ≠ p ∧ ∀ (r : Addr) (row : Rw), row ∈ t.2 → H r = some (.dK (rK row)) → r ≠ p := by
  obtain ⟨rs, a1, _⟩ := hr
  refine ⟨(fun e => by rw [e, hp] at a1; cases a1), fun r row hrow hrr e => ?_⟩
  rw [e, hp] at hrr
  injection hrr with e1
  injection e1 with e2
  have hm : ((.inr t.1 : Key), V.ref l) ∈ zK (pc.map (·.1)) ls := zK_mem (j := j) (by rw [List.getElem?_map, h2]; rfl) h1
  rw [e2] at hm
  exact rK_flat (ok.rw_ t (List.mem_of_getElem? h2) row hrow) (fun xs h => by rw [a1] at h; cases h) hm
def spCopied : Sp := fun vs H Q _ => ∃ (p : Addr) (pc : Pc), vs = [.ref p] ∧ PcAt H p pc ∧ PcOk H pc ∧ ∀ p' H', Same H H' → PcE (cut H H') p' pc → Q (.ref p') H'
section
variable {P : Program} {w : World} {K : PySem.W.Frag} {mg : Str → Option Value} {base : Heap}
theorem ok_copied {f : Addr} {fd : FuncData} (F : Fun K "copied" "copied" (top 9) f fd) (B : Bl mg) : FnOk P w K mg base CX0 1 f fd ["piece"] spCopied := by
  have sc : FnScope ["piece", "fresh", "table", "rows"] ["piece"] (defScope (top 9)) := ⟨rfl, rfl, rfl, by decide +kernel, rfl, by decide +kernel, by decide +kernel⟩
  refine F.ok sc (fun vs H Q E h => ?_) (fun cdv A outer s H vs Q E hr h => ?_)
  · obtain ⟨p, pc, rfl, _⟩ := h
    rfl
  · obtain ⟨p, pc, rfl, hpc, ok, q⟩ := h
    have hu : (A.deeper (envOfC "copied" (defScope (top 9)) s.heap.objs.size f cdv)).units + 1 < cLine := hu_of hr
    refine ⟨_, pss_cons (ps_set (i := 1) sc.nd rfl (Or.inl rfl) pe_dnewK) (pss_cons (ps_frz (ps_for PassesOwn.never rfl (pi_items (pv 0)) (pg_tup rfl (pgs_cons (pg_name (i := 2) sc.nd rfl (Or.inl rfl)) (pgs_cons (pg_name (i := 3) sc.nd rfl (Or.inl rfl)) pgs_nil)))
        (pss_one (ps_dput hu (pv 1) (pv 2) (pe_comp (osc := defScope (top 9)) (N0 := ["piece", "fresh", "table", "rows"]) (xs := ["row"]) (fr := []) ⟨rfl, by decide +kernel, by decide +kernel, by decide +kernel, by decide, by decide +kernel⟩ rfl rfl rfl (pi_list (pv 3))
          (fun s H fp => pg_name (i := 0) (show (["row"] : List Str).Nodup by decide +kernel) rfl (Or.inl rfl)) (fun s H fp => pif_nil) (fun s H fp => pe_callTy call_dict_of (by rfl) B.dict boot_dict (pa_cons (pv 0) pa_nil))) rfl)))) (pss_one (ps_ret (pv 1)))), ?_⟩
    obtain ⟨ls, hp, hll, hls⟩ := hpc
    refine fun fr hfr => ⟨p, _, (Same.upd hfr) _ _ hp, fun o => ?_⟩
    have np : p ≠ fr := fun e => by rw [← e, hp] at hfr; cases hfr
    have S0 : Same H (upd H fr (.dK [])) := Same.upd hfr
    have d0 : (upd H fr (.dK [])) fr = some (.dK []) := upd_same
    generalize upd H fr (.dK []) = H1 at *
    have hfa : (upd H1 p (.frz o (.dK (zK (pc.map (·.1)) ls)))) p = some (.frz o (.dK (zK (pc.map (·.1)) ls))) := upd_same
    have hb0 : Same H (upd (upd H1 p (.frz o (.dK (zK (pc.map (·.1)) ls)))) p (.dK (zK (pc.map (·.1)) ls))) := S0.trans (back_same (S0 _ _ hp) (Same.refl _))
    have d1 : (upd H1 p (.frz o (.dK (zK (pc.map (·.1)) ls)))) fr = some (.dK []) := by rw [upd_ne np.symm]; exact d0
    generalize upd H1 p (.frz o (.dK (zK (pc.map (·.1)) ls))) = H2 at *
    have kl : (zK (pc.map (·.1)) ls).length = pc.length := by rw [zK_len (by rw [List.length_map]; exact hll), List.length_map]
    refine ⟨_, rfl, p, o, _, rfl, hfa, for_items (a := p) (o := o) (kvs := zK (pc.map (·.1)) ls) (fun i σ H3 => H3 p = some (.frz o (.dK (zK (pc.map (·.1)) ls))) ∧ Same H (upd H3 p (.dK (zK (pc.map (·.1)) ls))) ∧ ∃ u2 u3, σ = [some (.ref p), some (.ref fr), u2, u3] ∧ PcE (cut H H3) fr (pc.take i))
      ⟨hfa, hb0, _, _, rfl, [], (fun _ => 0), cut_at hfr d1, rfl, fun j l t h => nomatch h⟩ (fun i σ H3 _ p => p.1) ?_ ?_⟩
    · rintro i k v p1 σ H3 hk ⟨h3p, sm, u2, u3, rfl, ls', ow, f1, f2, f3⟩ hp1
      have hi : i < pc.length := by
        have := (List.getElem?_eq_some_iff.mp hk).1
        omega
      obtain ⟨z, l, hz, hl, rfl, rfl⟩ := zK_get hk
      have hil : i < ls.length := by omega
      rw [List.getElem?_map, List.getElem?_eq_getElem hi] at hz
      cases hz
      rw [List.getElem?_eq_getElem hil] at hl
      cases hl
      have hR := hls i ls[i] pc[i] (List.getElem?_eq_getElem hil) (List.getElem?_eq_getElem hi)
      obtain ⟨nl, nr⟩ := PcAt.apart ok hp hll (List.getElem?_eq_getElem hil) (List.getElem?_eq_getElem hi) hR
      obtain ⟨rs, a1, a2, a3⟩ := id hR
      have okt := ok.rl pc[i] (List.getElem_mem hi)
      have T1 := Same.upd (o := .tup [kV (.inr pc[i].1), .ref ls[i]]) hp1
      refine ⟨p1, _, rfl, SqT.of upd_same, rfl, _, _, rfl, _, _, rfl, rfl, ?_⟩
      generalize upd H3 p1 (.tup [kV (.inr pc[i].1), .ref ls[i]]) = H4 at T1
      have back : ∀ {b : Addr} {ob : HO}, b ≠ p → H b = some ob → H4 b = some ob := fun {b ob} nb e => by
        have := sm b ob e
        rw [upd_ne nb] at this
        exact T1 _ _ this
      have l4 := back nl a1
      refine ⟨_, rfl, ls[i], rfl, ⟨_, SqL.of l4⟩, fun D hD => ?_⟩
      have nH : ∀ {b : Addr}, H4 b = none → H b = none := fun {b} e => by
        by_cases nb : b = p
        · rw [nb, T1 _ _ h3p] at e; cases e
        · cases e2 : H b with
          | none => rfl
          | some ob => rw [back nb e2] at e; cases e
      refine compW_idx rs.length (fun i' ys σ' Hc => (∃ t, σ' = [t]) ∧ Same H4 Hc ∧ ∃ qs : List Addr, ys = qs.map V.ref ∧ qs.Nodup ∧ ∀ (j : Nat) (r : Addr) (row : Rw), qs[j]? = some r → pc[i].2[j]? = some row → (H r = none ∧ H4 r = none) ∧ r ≠ D ∧ r ≠ fr ∧ Hc r = some (.dK (rK row))) (by rw [sizeLine_eq]; omega) ⟨⟨none, rfl⟩, Same.upd hD, [], rfl, List.nodup_nil, fun j r row h => nomatch h⟩ upd_same ?_ ?_
      · rintro i' σ' Hc ys hi' ⟨⟨u, rfl⟩, sc', qs, rfl, qnd, hqs⟩ hyl hD'
        rw [List.length_map] at hyl
        have hrow : i' < pc[i].2.length := by omega
        refine ⟨⟨_, V.ref rs[i'], SqL.of (sc' _ _ l4), by rw [List.getElem?_map, List.getElem?_eq_getElem hi']; rfl⟩, ?_⟩
        rintro x H' ⟨rfl, hx'⟩
        have ex := hx' _ (SqL.of (sc' _ _ l4))
        rw [List.getElem?_map, List.getElem?_eq_getElem hi'] at ex
        cases ex
        have r0 := a3 i' rs[i'] pc[i].2[i'] (List.getElem?_eq_getElem hi') (List.getElem?_eq_getElem hrow)
        have r4 := back (nr _ _ (List.getElem_mem hrow) r0) r0
        refine ⟨_, rfl, rs[i'], _, rfl, .inl (sc' _ _ r4), fun r' hr' => ?_⟩
        have T2 := Same.upd (o := .dK (rK pc[i].2[i'])) hr'
        have rD : r' ≠ D := fun e => by rw [e, hD'] at hr'; cases hr'
        refine ⟨T2 _ _ hD', ⟨_, rfl⟩, (sc'.trans T2).put hD, qs ++ [r'], by rw [List.map_append]; rfl, (by
          rw [List.nodup_append]
          refine ⟨qnd, List.nodup_cons.mpr ⟨List.not_mem_nil, List.nodup_nil⟩, fun x hx y hy e => ?_⟩
          rw [List.mem_singleton.mp hy] at e
          obtain ⟨j, hj⟩ := List.getElem?_of_mem hx
          have hjl : j < pc[i].2.length := by have := (List.getElem?_eq_some_iff.mp hj).1; omega
          have := (hqs j x _ hj (List.getElem?_eq_getElem hjl)).2.2.2
          rw [e, hr'] at this
          cases this), fun j r row h1 h2 => ?_⟩
        by_cases hj : j < qs.length
        · rw [List.getElem?_append_left hj] at h1
          obtain ⟨e1, e2, e4, e3⟩ := hqs j r row h1 h2
          exact ⟨e1, e2, e4, by rw [upd_ne e2]; exact T2 _ _ e3⟩
        · have hj' : j = qs.length := by
            have := (List.getElem?_eq_some_iff.mp h1).1
            rw [List.length_append] at this
            simp at this
            omega
          subst hj'
          rw [List.getElem?_append_right (Nat.le_refl _), Nat.sub_self] at h1
          cases h1
          rw [hyl, List.getElem?_eq_getElem hrow] at h2
          cases h2
          exact ⟨⟨nH (none_of sc' hr'), none_of sc' hr'⟩, rD, (fun e => by rw [e, (T1.trans sc') _ _ (cut_sub _ _ f1)] at hr'; cases hr'), by rw [upd_ne rD]; exact upd_same⟩
      · rintro σ' Hc ys ⟨_, sc', qs, rfl, qnd, hqs⟩ hDn hyl
        rw [List.length_map] at hyl
        have f1c := (T1.trans sc') _ _ (cut_sub _ _ f1)
        have lt' : ls'.length = i := by rw [f2, List.length_take]; omega
        refine ⟨⟨_, SqL.of (sc' _ _ l4), by rw [List.length_map]; exact Nat.le_refl _⟩, _, rfl, _, rfl, fr, _, rfl, .inl ⟨_, .inr pc[i].1, f1c, rfl, (by rw [zK_len (by rw [List.length_map]; exact f2), List.length_map, List.length_take, sizeLine_eq]; have := ok.le; omega), rfl⟩, ?_⟩
        have hnew : pc[i].1 ∉ (pc.take i).map (·.1) := fun hm => by
          have nd := ok.nd
          have e : pc.map (·.1) = (pc.take i).map (·.1) ++ (pc.drop i).map (·.1) := by rw [← List.map_append, List.take_append_drop]
          rw [e, List.nodup_append] at nd
          refine nd.2.2 _ hm pc[i].1 ?_ rfl
          rw [List.drop_eq_getElem_cons hi, List.map_cons]
          exact List.mem_cons_self
        rw [putK_new _ (zK_new hnew), ← zK_snoc (by rw [List.length_map]; exact f2)]
        have nDf : D ≠ fr := fun e => by rw [e, T1 _ _ (cut_sub _ _ f1)] at hD; cases hD
        refine ⟨by rw [upd_ne np]; exact (T1.trans sc') _ _ h3p, fun b ob hb => ?_, _, _, rfl, ls' ++ [D], (fun b => if b ∈ qs then i else ow b), cut_at hfr ?_, ?_, fun j l t h1 h2 => ?_⟩
        · by_cases e : b = p
          · subst e
            rw [upd_same]
            rw [hp] at hb
            exact hb
          · rw [upd_ne e, upd_ne (ne_of_none hb hfr)]
            exact sc' _ _ (back e hb)
        · rw [upd_same, List.take_succ, List.getElem?_eq_getElem hi, List.map_append]
          rfl
        · rw [List.length_append, lt', List.length_take]
          show i + 1 = _
          omega
        · by_cases hj : j < i
          · rw [List.getElem?_append_left (by omega)] at h1
            have h2' : (pc.take i)[j]? = some t := by
              rw [List.getElem?_take] at h2 ⊢
              rw [if_pos (by omega)] at h2 ⊢
              exact h2
            obtain ⟨qs', b1, b2, bn, b3, bo⟩ := f3 j l t h1 h2'
            have g := cut_up (H0 := H) (T1.trans sc')
            have nlf : l ≠ fr := fun e => by rw [e, f1] at b1; cases b1
            refine ⟨qs', ?_, b2, bn, fun j' r row c1 c2 => ?_, fun r hr => ?_⟩
            · rw [cut_put hfr, upd_ne nlf]
              exact g _ _ b1
            · have b4 := b3 j' r row c1 c2
              have htp : t ∈ pc := by
                rw [List.getElem?_take, if_pos hj] at h2'
                exact List.mem_of_getElem? h2'
              have nrf : r ≠ fr := fun e => by
                rw [e, f1] at b4
                injection b4 with e1
                injection e1 with e2
                have hm : ((.inr t.1 : Key), V.ref l) ∈ zK ((pc.take i).map (·.1)) ls' := zK_mem (j := j) (by rw [List.getElem?_map, h2']; rfl) h1
                rw [e2] at hm
                exact rK_flat (ok.rw_ t htp row (List.mem_of_getElem? c2)) (fun xs h => by rw [cut_new b1] at h; cases h) hm
              rw [cut_put hfr, upd_ne nrf]
              exact g _ _ b4
            · have nq : r ∉ qs := fun hq => by
                obtain ⟨n1, hn1⟩ := List.getElem?_of_mem hq
                have hl1 : n1 < pc[i].2.length := by have := (List.getElem?_eq_some_iff.mp hn1).1; omega
                have z1 := (hqs n1 r _ hn1 (List.getElem?_eq_getElem hl1)).1.2
                obtain ⟨n2, hn2⟩ := List.getElem?_of_mem hr
                have hl2 : n2 < t.2.length := by have := (List.getElem?_eq_some_iff.mp hn2).1; omega
                have z2 := T1 _ _ (cut_sub _ _ (b3 n2 r _ hn2 (List.getElem?_eq_getElem hl2)))
                rw [z1] at z2
                cases z2
              show (if r ∈ qs then i else ow r) = j
              rw [if_neg nq]
              exact bo r hr
          · have hj' : j = i := by
              have := (List.getElem?_eq_some_iff.mp h1).1
              rw [List.length_append, lt'] at this
              simp at this
              omega
            subst hj'
            rw [List.getElem?_append_right (by omega), lt', Nat.sub_self] at h1
            cases h1
            rw [List.getElem?_take, if_pos (by omega), List.getElem?_eq_getElem hi] at h2
            cases h2
            refine ⟨qs, cut_at (nH hD) (by rw [upd_ne nDf]; exact hDn), by omega, qnd, (fun j' r row c1 c2 => ?_), fun r hr => if_pos hr⟩
            obtain ⟨e1, e2, nrf, e3⟩ := hqs j' r row c1 c2
            exact cut_at e1.1 (by rw [upd_ne nrf]; exact e3)
    · rintro σ H3 ⟨h3p, sm, u2, u3, rfl, hfin⟩
      rw [kl, List.take_length] at hfin
      exact ⟨h3p, _, rfl, q fr _ sm (hfin.same (cut_upd hp))⟩
end
end My

namespace My
open PySem L2 PyProof.Rows
seal L2.PE L2.PT L2.PW L2.PS L2.PSs L2.PA L2.PI L2.PG L2.PGs L2.OpR L2.CallR L2.IxR L2.SlR L2.MtR L2.PIf L2.MtM L2.PC
/-! ### the form -/
structure Tb where
  name : Str
  sort : Str
  cols : List (Str × Addr)
def ColsAt (H : Hp) (ct : Addr) (cols : List (Str × Addr)) : Prop := ∃ (o : Obj) (ps : List Addr), o.dict = none ∧ H ct = some (.frz o (.tup (ps.map V.ref))) ∧ ps.length = cols.length ∧ ∀ (j : Nat) (p : Addr) (c : Str × Addr), ps[j]? = some p → cols[j]? = some c → H p = some (.tup [.str c.1, .ref c.2])
def EntAt (H : Hp) (e : Addr) (T : Tb) : Prop := ∃ ct, H e = some (.tup [.str T.name, .str T.sort, .ref ct]) ∧ ColsAt H ct T.cols
def FormAt (H : Hp) (f : Addr) (sz : Int) (Ts : List Tb) : Prop := ∃ (tt : Addr) (es : List Addr), H f = some (.tup [.int sz, .ref tt]) ∧ H tt = some (.tup (es.map V.ref)) ∧ es.length = Ts.length ∧ ∀ (j : Nat) (e : Addr) (T : Tb), es[j]? = some e → Ts[j]? = some T → EntAt H e T
theorem ColsAt.same {H H' : Hp} {e : Addr} {T : List (Str × Addr)} (h : ColsAt H e T) (s : Same H H') : ColsAt H' e T := by
  obtain ⟨o, ps, h0, h1, h2, h3⟩ := h
  exact ⟨o, ps, h0, s _ _ h1, h2, fun j p c a b => s _ _ (h3 j p c a b)⟩
theorem EntAt.same {H H' : Hp} {e : Addr} {T : Tb} (h : EntAt H e T) (s : Same H H') : EntAt H' e T := by
  obtain ⟨ct, h1, h2⟩ := h
  exact ⟨ct, s _ _ h1, h2.same s⟩
theorem FormAt.same {H H' : Hp} {f : Addr} {sz : Int} {Ts : List Tb} (h : FormAt H f sz Ts) (s : Same H H') : FormAt H' f sz Ts := by
  obtain ⟨tt, es, h1, h2, h3, h4⟩ := h
  exact ⟨tt, es, s _ _ h1, s _ _ h2, h3, fun j e T a b => (h4 j e T a b).same s⟩
def kvC (cols : List (Str × Addr)) : List (Key × V) := cols.map fun p => (.inr p.1, .ref p.2)
def spTabs : Sp := fun vs H Q _ => ∃ (f : Addr) (sz : Int) (Ts : List Tb), vs = [.ref f] ∧ FormAt H f sz Ts ∧ Ts.length ≤ 8 ∧ ∀ p H', H p = none → Same H H' → H' p = some (.lst ((Ts.map (·.name)).map V.str)) → Q (.ref p) H'
def spTabIn : Sp := fun vs H Q _ => ∃ (f : Addr) (sz : Int) (Ts : List Tb) (T : Tb), vs = [.ref f, .str T.name] ∧ FormAt H f sz Ts ∧ (Ts.map (·.name)).Nodup ∧ T ∈ Ts ∧ ∀ e, EntAt H e T → Q (.ref e) H
def spColsOf : Sp := fun vs H Q _ => ∃ (f : Addr) (sz : Int) (Ts : List Tb) (T : Tb), vs = [.ref f, .str T.name] ∧ FormAt H f sz Ts ∧ (Ts.map (·.name)).Nodup ∧ T ∈ Ts ∧ (T.cols.map (·.1)).Nodup ∧ T.cols.length ≤ 12 ∧
  ∀ (p : Addr) (H' : Hp), H p = none → Same H H' → H' p = some (.dK (kvC T.cols)) → Q (.ref p) H'
section
variable {P : Program} {w : World} {K : PySem.W.Frag} {mg : Str → Option Value} {base : Heap}
theorem ok_tabs {f : Addr} {fd : FuncData} (F : Fun K "tables_of" "tables_of" (top 6) f fd) : FnOk P w K mg base CX0 1 f fd ["form"] spTabs := by
  have sc : FnScope ["form"] ["form"] (defScope (top 6)) := ⟨rfl, rfl, rfl, by decide +kernel, rfl, by decide +kernel, by decide +kernel⟩
  refine F.ok sc (fun vs H Q E h => ?_) (fun cdv A outer s H vs Q E hr h => ?_)
  · obtain ⟨f, sz, Ts, rfl, _⟩ := h
    rfl
  · obtain ⟨f, sz, Ts, rfl, ⟨tt, es, h1, h2, h3, h4⟩, h8, q⟩ := h
    refine ⟨_, pss_one (ps_ret (pe_comp (osc := defScope (top 6)) (N0 := ["form"]) (xs := ["entry"]) (fr := []) ⟨rfl, by decide +kernel, by decide +kernel, by decide +kernel, by decide, by decide +kernel⟩ rfl rfl rfl (pi_tup (pe_ix ix_tup (pv 0) pe_int (fun _ _ => rfl)))
        (fun s H fp => pg_name (i := 0) (show (["entry"] : List Str).Nodup by decide +kernel) rfl (Or.inl rfl)) (fun s H fp => pif_nil) (fun s H fp => pe_ix (r := rIxT K) ix_tup (pv 0) pe_int (fun _ _ => rfl)))), ?_⟩
    refine ⟨_, rfl, _, _, 1, _, rfl, rfl, SqT.of h1, rfl, tt, rfl, ⟨_, SqT.of h2⟩, fun D hD => ?_⟩
    refine compW_map Ts.length (fun i => .str ((Ts.map (·.name)).getD i "")) (fun i σ' Hc => (∃ t, σ' = [t]) ∧ Same H Hc) (by rw [sizeLine_eq]; omega) ⟨⟨none, rfl⟩, Same.upd hD⟩ upd_same ?_ ?_
    · rintro i σ' Hc hi ⟨⟨t, rfl⟩, sm⟩ hD'
      have hie : i < es.length := by omega
      refine ⟨⟨_, V.ref es[i], SqT.of (sm _ _ h2), by rw [List.getElem?_map, List.getElem?_eq_getElem hie]; rfl⟩, ?_⟩
      rintro x H' ⟨rfl, hx'⟩
      have ex := hx' _ (SqT.of (sm _ _ h2))
      rw [List.getElem?_map, List.getElem?_eq_getElem hie] at ex
      cases ex
      obtain ⟨ct, g1, _⟩ := h4 i es[i] Ts[i] (List.getElem?_eq_getElem hie) (List.getElem?_eq_getElem hi)
      refine ⟨_, rfl, _, _, 0, _, rfl, rfl, SqT.of (sm _ _ g1), rfl, ?_, hD', ⟨_, rfl⟩, sm.put hD⟩
      rw [List.getD_eq_getElem?_getD, List.getElem?_map, List.getElem?_eq_getElem hi]
      rfl
    · rintro σ' Hc ⟨_, sm⟩ hDn
      refine ⟨⟨_, SqT.of (sm _ _ h2), by rw [List.length_map]; omega⟩, q D Hc hD sm ?_⟩
      have := range_map_getD (Ts.map (·.name)) ("" : Str) (fun z => V.str z)
      rw [List.length_map] at this
      rw [hDn, this]
theorem ok_tabIn {f : Addr} {fd : FuncData} (F : Fun K "table_in" "table_in" (top 8) f fd) : FnOk P w K mg base CX0 1 f fd ["form", "table"] spTabIn := by
  have sc : FnScope ["form", "table", "entry"] ["form", "table"] (defScope (top 8)) := ⟨rfl, rfl, rfl, by decide +kernel, rfl, by decide +kernel, by decide +kernel⟩
  refine F.ok sc (fun vs H Q E h => ?_) (fun cdv A outer s H vs Q E hr h => ?_)
  · obtain ⟨f, sz, Ts, T, rfl, _⟩ := h
    rfl
  · obtain ⟨f, sz, Ts, T, rfl, ⟨tt, es, h1, h2, h3, h4⟩, nd, hT, q⟩ := h
    refine ⟨_, pss_cons (ps_for PassesOwn.never rfl (pi_tup (pe_ix ix_tup (pv 0) pe_int (fun _ _ => rfl))) (pg_name (i := 2) sc.nd rfl (Or.inl rfl))
        (pss_one (ps_if (pt_cmpR op_eq (pe_ix ix_tup (pv 2) pe_int (fun _ _ => rfl)) (pv 1) (nomark _)) (pss_one (ps_ret (pv 2))) pss_nil))) pss_never, ?_⟩
    refine ⟨_, rfl, _, _, 1, _, rfl, rfl, SqT.of h1, rfl, tt, rfl, ⟨_, SqT.of h2⟩, for_tup (K := K) (a := tt) (xs := es.map V.ref) (fun i σ H' => H' = H ∧ (∃ u, σ = [some (.ref f), some (.str T.name), u]) ∧ ∀ j T', j < i → Ts[j]? = some T' → T'.name ≠ T.name) ⟨rfl, ⟨_, rfl⟩, fun j _ hj => absurd hj (Nat.not_lt_zero _)⟩ (fun i σ H' _ p => by rw [p.1]; exact SqT.of h2) ?_ ?_⟩
    · rintro i x σ H' hx ⟨rfl, ⟨u, rfl⟩, hn⟩
      have hie : i < es.length := by
        have := (List.getElem?_eq_some_iff.mp hx).1
        rwa [List.length_map] at this
      have hit : i < Ts.length := by omega
      rw [List.getElem?_map, List.getElem?_eq_getElem hie] at hx
      cases hx
      have ent := h4 i es[i] Ts[i] (List.getElem?_eq_getElem hie) (List.getElem?_eq_getElem hit)
      obtain ⟨ct, g1, g2⟩ := id ent
      refine ⟨_, rfl, _, _, 0, _, rfl, rfl, SqT.of g1, rfl, _, rfl, rfl, _, rfl, ?_⟩
      refine ite2 (fun hc => ?_) (fun hc => ?_)
      · have en : Ts[i].name = T.name := by
          have := of_decide_eq_true hc
          injection this
        have eT : Ts[i] = T := by
          obtain ⟨k, hk, ek⟩ := List.mem_iff_getElem.mp hT
          have : i = k := by
            refine (List.getElem_inj (h₀ := by rw [List.length_map]; exact hit) (h₁ := by rw [List.length_map]; exact hk) nd).mp ?_
            rw [List.getElem_map, List.getElem_map, ek, en]
          subst this
          exact ek
        rw [eT] at ent
        exact ⟨_, rfl, q _ ent⟩
      · refine ⟨rfl, ⟨_, rfl⟩, fun j T' hj hT' => ?_⟩
        by_cases hji : j < i
        · exact hn j T' hji hT'
        · have : j = i := by omega
          subst this
          rw [List.getElem?_eq_getElem hit] at hT'
          cases hT'
          exact fun e => hc (by rw [e]; exact decide_eq_true rfl)
    · rintro σ H' ⟨rfl, ⟨u, rfl⟩, hn⟩
      obtain ⟨k, hk, ek⟩ := List.mem_iff_getElem.mp hT
      exact absurd rfl (hn k T (by rw [List.length_map]; omega) (by rw [List.getElem?_eq_getElem hk, ek]))
theorem ok_colsOf {f fT : Addr} {fd fdT : FuncData} (F : Fun K "columns_of" "columns_of" (top 7) f fd) (B : Bl mg) (DT : Df K mg "table_in" (top 8) fT fdT) : FnOk P w K mg base CX0 2 f fd ["form", "table"] spColsOf := by
  have sc : FnScope ["form", "table"] ["form", "table"] (defScope (top 7)) := ⟨rfl, rfl, rfl, by decide +kernel, rfl, by decide +kernel, by decide +kernel⟩
  have GT : FnOk P w K mg base CX0 1 fT fdT ["form", "table"] spTabIn := ok_tabIn DT.fn
  have bT := DT.fn.binds (ps := ["form", "table"]) fun _ _ _ _ _ _ us hl => by obtain ⟨v0, v1, rfl⟩ := L2.ln2 hl; rfl
  refine F.ok sc (fun vs H Q E h => ?_) (fun cdv A outer s H vs Q E hr h => ?_)
  · obtain ⟨f, sz, Ts, T, rfl, _⟩ := h
    rfl
  · obtain ⟨f, sz, Ts, T, rfl, hf, nd, hT, ndc, c12, q⟩ := h
    refine ⟨_, pss_one (ps_ret (pe_callTy (call_dictT rfl) (by rfl) B.dict boot_dict (pa_cons (pe_ix ix_tup (pe_call GT hr (by rfl) DT.mg DT.fn.kp bT .nil pass0 (pa_cons (pv 0) (pa_cons (pv 1) pa_nil))) pe_int (fun _ _ => rfl)) pa_nil))), ?_⟩
    refine ⟨_, rfl, _, rfl, f, sz, Ts, T, rfl, hf, nd, hT, fun e he => ?_⟩
    obtain ⟨ct, g1, o, ps, ho, hct, hpl, hpz⟩ := he
    refine ⟨_, _, 2, _, rfl, rfl, SqT.of g1, rfl, ct, o, _, kvC T.cols, rfl, hct, ho, (by rw [List.length_map]; omega), (by unfold kvC; rw [List.length_map, List.length_map]; omega), (fun j k v hj => ?_), ?_, fun p hp => q p _ hp (Same.upd hp) upd_same⟩
    · unfold kvC at hj
      have hjz : j < T.cols.length := by
        have := (List.getElem?_eq_some_iff.mp hj).1
        rwa [List.length_map] at this
      have hjp : j < ps.length := by omega
      rw [List.getElem?_map, List.getElem?_eq_getElem hjz] at hj
      cases hj
      exact ⟨ps[j], by rw [List.getElem?_map, List.getElem?_eq_getElem hjp]; rfl, SqT.of (hpz j ps[j] T.cols[j] (List.getElem?_eq_getElem hjp) (List.getElem?_eq_getElem hjz))⟩
    · have e : (kvC T.cols).map (·.1) = (T.cols.map (·.1)).map fun z => (Sum.inr z : Key) := by
        unfold kvC
        rw [List.map_map, List.map_map]
        rfl
      rw [e]
      exact List.Pairwise.map _ (fun a b hab h => hab (by injection h)) ndc
end
end My

namespace L2
open PySem
theorem del_to {H : Hp} {l : Addr} : Same (del H l) H := fun b o e => by
  have hb : b ≠ l := fun z => by rw [z, del_same] at e; cases e
  rwa [del_ne hb] at e
theorem del_up {H H' : Hp} {l : Addr} {o : HO} (s : Same H H') : Same (del H l) (del (upd H' l o) l) := fun b u e => by
  have hb : b ≠ l := fun z => by rw [z, del_same] at e; cases e
  rw [del_ne hb] at e
  rw [del_ne hb, upd_ne hb]
  exact s _ _ e
end L2
namespace My
open PySem L2 PyProof.Rows
seal L2.PE L2.PT L2.PW L2.PS L2.PSs L2.PA L2.PI L2.PG L2.PGs L2.OpR L2.CallR L2.IxR L2.SlR L2.MtR L2.PIf L2.MtM L2.PC
abbrev Cl := List (Str × Addr)
def cg (cols : Cl) (i : Nat) : Str × Addr := cols.getD i ("", 0)
theorem cg_perm {cols : Cl} {ix : List Nat} {n : Nat} (hp : ix.Perm (List.range n)) (hn : n = cols.length) : (ix.map (cg cols)).Perm cols := by
  refine (hp.map _).trans (List.Perm.of_eq ?_)
  subst hn
  refine List.ext_getElem (by simp) fun i h1 h2 => ?_
  simp only [List.getElem_map, List.getElem_range, cg, List.getD_eq_getElem?_getD, List.getElem?_eq_getElem h2]
  rfl
/-- the columns of a dict, in order -/
theorem cols_of {H : Hp} {ct : Addr} {o : Obj} {as : List Addr} {ix : List Nat} {cols : Cl} (ho : o.dict = none) (hl : as.length = cols.length) (pm : ix.Perm (List.range as.length)) (hc : H ct = some (.frz o (.tup ((ix.map fun i => as.getD i 0).map V.ref))))
    (g : ∀ (i : Nat) (a : Addr) (c : Str × Addr), as[i]? = some a → cols[i]? = some c → H a = some (.tup [.str c.1, .ref c.2])) : ColsAt H ct (ix.map (cg cols)) := by
  refine ⟨o, _, ho, hc, by rw [List.length_map, List.length_map], fun j p c h1 h2 => ?_⟩
  rw [List.getElem?_map] at h1 h2
  cases e : ix[j]? with
  | none => rw [e] at h1; cases h1
  | some i =>
    rw [e] at h1 h2
    have hi : i < as.length := List.mem_range.mp (pm.mem_iff.mp (List.mem_of_getElem? e))
    have hi2 : i < cols.length := by omega
    have e1 : as[i]? = some p := by
      rw [← h1]
      show as[i]? = some (as.getD i 0)
      rw [List.getD_eq_getElem?_getD, List.getElem?_eq_getElem hi]
      rfl
    have e2 : cols[i]? = some c := by
      rw [← h2]
      show cols[i]? = some (cols.getD i ("", 0))
      rw [List.getD_eq_getElem?_getD, List.getElem?_eq_getElem hi2]
      rfl
    exact g i p c e1 e2
structure TbD (H : Hp) (d : Addr) (c : Cl) : Prop where
  at_ : H d = some (.dK (kvC c))
  nd : (c.map (·.1)).Nodup
  le : c.length ≤ 12
theorem TbD.same {H H' : Hp} {d : Addr} {c : Cl} (h : TbD H d c) (s : Same H H') : TbD H' d c := ⟨s _ _ h.at_, h.nd, h.le⟩
def spFrm : Sp := fun vs H Q _ => ∃ (z : Int) (n0 n1 n2 : Str) (cd sd t1 t2 d1 d2 : Addr) (c0 c1 c2 : Cl) (s1 s2 : Str), vs = [.int z, .str n0, .ref cd, .ref sd] ∧ TbD H cd c0 ∧ H sd = some (.dK [(.inr n1, .ref t1), (.inr n2, .ref t2)]) ∧ n1 ≠ n2 ∧
  H t1 = some (.tup [.str s1, .ref d1]) ∧ H t2 = some (.tup [.str s2, .ref d2]) ∧ TbD H d1 c1 ∧ TbD H d2 c2 ∧
  ∀ fm Ts H', Same H H' → FormAt H' fm z Ts → (Ts.map (·.name)).Perm [n0, n1, n2] → (∀ T ∈ Ts, ∃ c, (T.name, c) ∈ [(n0, c0), (n1, c1), (n2, c2)] ∧ T.cols.Perm c) → Q (.ref fm) H'
section
variable {P : Program} {w : World} {K : PySem.W.Frag} {mg : Str → Option Value} {base : Heap}
theorem ok_frm {f : Addr} {fd : FuncData} (F : Fun K "_law_form" "_law_form" (top 21) f fd) (B : Bl mg) : FnOk P w K mg base CX0 1 f fd ["_law_size", "_law_head", "_law_columns", "_law_sides"] spFrm := by
  have sc : FnScope ["_law_size", "_law_head", "_law_columns", "_law_sides", "_law_tables", "_law_name", "_law_sort", "_law_own"] ["_law_size", "_law_head", "_law_columns", "_law_sides"] (defScope (top 21)) := ⟨rfl, rfl, rfl, by decide +kernel, rfl, by decide +kernel, by decide +kernel⟩
  refine F.ok sc (fun vs H Q E h => ?_) (fun cdv A outer s H vs Q E hr h => ?_)
  · obtain ⟨z, n0, n1, n2, cd, sd, t1, t2, d1, d2, c0, c1, c2, s1, s2, rfl, _⟩ := h
    rfl
  · obtain ⟨z, n0, n1, n2, cd, sd, t1, t2, d1, d2, c0, c1, c2, s1, s2, rfl, hcd, hsd, n12, ht1, ht2, hd1, hd2, q⟩ := h
    have hu : (A.deeper (envOfC "_law_form" (defScope (top 21)) s.heap.objs.size f cdv)).units + 1 < cLine := hu_of hr
    refine ⟨_, pss_cons (ps_set (i := 4) sc.nd rfl (Or.inl rfl) (pe_lst (pa_cons (pe_tup (pa_cons (pv 1) (pa_cons pe_str (pa_cons (pe_callTy call_tupleF (by rfl) B.tuple boot_tuple (pa_cons (pe_callB (call_sortedIt rfl) (by rfl) B.sorted boot_sorted (pa_cons (pe_bm0 PySem.F.plainAttrs_dict PySem.F.slot_dict_items PySem.F.type_dict_items mt_items (pv 2)) pa_nil)) pa_nil)) pa_nil)))) pa_nil)))
      (pss_cons (ps_for PassesOwn.never rfl (pi_list (pe_callB (call_sortedD rfl) (by rfl) B.sorted boot_sorted (pa_cons (pv 3) pa_nil))) (pg_name (i := 5) sc.nd rfl (Or.inl rfl))
        (pss_cons (ps_asg (pe_dget hu (pv 3) (pv 5) (fun _ _ => rfl)) (pg_tup rfl (pgs_cons (pg_name (i := 6) sc.nd rfl (Or.inl rfl)) (pgs_cons (pg_name (i := 7) sc.nd rfl (Or.inl rfl)) pgs_nil))))
        (pss_one (ps_expr (pe_bm PySem.F.plainAttrs_list PySem.F.slot_list_append PySem.F.type_list_append mt_app (pv 4) (pa_cons (pe_tup (pa_cons (pv 5) (pa_cons (pv 6) (pa_cons (pe_callTy call_tupleF (by rfl) B.tuple boot_tuple (pa_cons (pe_callB (call_sortedIt rfl) (by rfl) B.sorted boot_sorted (pa_cons (pe_bm0 PySem.F.plainAttrs_dict PySem.F.slot_dict_items PySem.F.type_dict_items mt_items (pv 7)) pa_nil)) pa_nil)) pa_nil)))) pa_nil))))))
      (pss_one (ps_ret (pe_tup (pa_cons (pv 0) (pa_cons (pe_callTy call_tuple_of (by rfl) B.tuple boot_tuple (pa_cons (pv 4) pa_nil)) pa_nil)))))), ?_⟩
    have kvz : ∀ c : Cl, (kvC c).map (·.1) = (c.map (·.1)).map Sum.inr := fun c => by
      unfold kvC
      rw [List.map_map, List.map_map]
      rfl
    have kvl : ∀ c : Cl, (kvC c).length = c.length := fun c => by unfold kvC; rw [List.length_map]
    have kvg : ∀ (c : Cl) (i : Nat) (x : Str × Addr), c[i]? = some x → (kvC c)[i]? = some (.inr x.1, .ref x.2) := fun c i x h => by
      unfold kvC
      rw [List.getElem?_map, h]
      rfl
    refine ⟨_, rfl, _, rfl, .inr (.inr (.inl ⟨rfl, .inl ⟨_, hcd.at_⟩⟩)), cd, _, rfl, rfl, .inl hcd.at_, fun pw hpw => ?_⟩
    have T1 := Same.upd (o := .ext (vwP pw cd)) hpw
    refine ⟨pw, cd, _, c0.map (·.1), rfl, upd_same, .inl (T1 _ _ hcd.at_), kvz c0, hcd.nd, by rw [List.length_map]; have := hcd.le; omega, fun sl as ix H5 m1 m2 m3 nd len5 s5 g5 pm rise el => ?_⟩
    refine ⟨sl, _, rfl, SqL.of el, fun ct o hct ho => ⟨(show 3 ≤ sizeLine by decide), fun e0 he0 => ⟨(show 1 ≤ sizeLine by decide), fun l hl => ?_⟩⟩⟩
    have T6 := Same.upd (o := .frz o (.tup ((ix.map fun i => as.getD i 0).map V.ref))) hct
    have T7 := Same.upd (o := .tup [.str n0, .str "head", .ref ct]) he0
    have T8 := Same.upd (o := .lst [.ref e0]) hl
    have a6 := upd_same (H := H5) (a := ct) (o := .frz o (.tup ((ix.map fun i => as.getD i 0).map V.ref)))
    have cs : ColsAt (upd H5 ct (.frz o (.tup ((ix.map fun i => as.getD i 0).map V.ref)))) ct (ix.map (cg c0)) := cols_of ho (len5.trans (kvl c0)) pm a6 fun i a c h1 h2 => T6 _ _ (g5 i a _ _ h1 (kvg c0 i c h2))
    have sm0 := ((T1.trans s5).trans T6).trans T7
    have hlH : H l = none := none_of sm0 hl
    have en0 : EntAt (upd (upd H5 ct (.frz o (.tup ((ix.map fun i => as.getD i 0).map V.ref)))) e0 (.tup [.str n0, .str "head", .ref ct])) e0 ⟨n0, "head", ix.map (cg c0)⟩ := ⟨ct, upd_same, cs.same T7⟩
    have pm0 : (ix.map (cg c0)).Perm c0 := cg_perm pm (len5.trans (kvl c0))
    generalize upd (upd H5 ct (.frz o (.tup ((ix.map fun i => as.getD i 0).map V.ref)))) e0 (.tup [.str n0, .str "head", .ref ct]) = H7 at *
    have e8 := upd_same (H := H7) (a := l) (o := .lst [.ref e0])
    have dn8 : Same H7 (del (upd H7 l (.lst [.ref e0])) l) := fun b u e => by
      have hb : b ≠ l := fun z => by rw [z, hl] at e; cases e
      rw [del_ne hb, upd_ne hb]
      exact e
    generalize upd H7 l (.lst [.ref e0]) = H8 at *
    have s8 := sm0.trans T8
    refine ⟨_, rfl, sd, _, [n1, n2], rfl, .inl (s8 _ _ hsd), rfl, (by show 2 < 64; decide), fun ly ys hly yp _ => ?_⟩
    have T9 := Same.upd (o := .lst (ys.map V.str)) hly
    have e9 := upd_same (H := H8) (a := ly) (o := .lst (ys.map V.str))
    have nly : l ≠ ly := fun z => by rw [← z, e8] at hly; cases hly
    have dn9 : Same H7 (del (upd H8 ly (.lst (ys.map V.str))) l) := fun b u e => by
      have h1 := dn8 b u e
      have hb : b ≠ l := fun z => by rw [z, del_same] at h1; cases h1
      rw [del_ne hb] at h1
      rw [del_ne hb]
      exact T9 _ _ h1
    generalize upd H8 ly (.lst (ys.map V.str)) = H9 at *
    have y2 : ys.length = 2 := yp.length_eq
    have vd : ∀ y ∈ ys, ∃ (t d : Addr) (so : Str) (c : Cl), valV [((.inr n1 : Key), V.ref t1), (.inr n2, .ref t2)] (.inr y) = some (.ref t) ∧ H t = some (.tup [.str so, .ref d]) ∧ TbD H d c ∧ (y, c) ∈ [(n0, c0), (n1, c1), (n2, c2)] := fun y hy => by
      have hy' : y = n1 ∨ y = n2 := by simpa using yp.mem_iff.mp hy
      rcases hy' with rfl | rfl
      · exact ⟨t1, d1, s1, c1, by simp [valV], ht1, hd1, by simp⟩
      · refine ⟨t2, d2, s2, c2, ?_, ht2, hd2, by simp⟩
        unfold valV
        rw [List.find?_cons_of_neg (by simpa using n12), List.find?_cons_of_pos (by simp)]
        rfl
    refine ⟨ly, rfl, ⟨_, SqL.of e9⟩, ?_⟩
    refine for_list (K := K) (xs := ys.map V.str) (fun i σ H2 => (∃ u5 u6 u7, σ = [some (.int z), some (.str n0), some (.ref cd), some (.ref sd), some (.ref l), u5, u6, u7]) ∧ Same H H2 ∧ H2 ly = some (.lst (ys.map V.str)) ∧ ∃ (es : List Addr) (Ts : List Tb), H2 l = some (.lst (es.map V.ref)) ∧ es.length = i + 1 ∧ Ts.length = i + 1 ∧ (∀ (j : Nat) (e : Addr) (T : Tb), es[j]? = some e → Ts[j]? = some T → EntAt (del H2 l) e T) ∧ Ts.map (·.name) = n0 :: ys.take i ∧ ∀ T ∈ Ts, ∃ c, (T.name, c) ∈ [(n0, c0), (n1, c1), (n2, c2)] ∧ T.cols.Perm c) ⟨⟨_, _, _, rfl⟩, s8.trans T9, e9, [e0], [⟨n0, "head", ix.map (cg c0)⟩], T9 _ _ e8, rfl, rfl, fun j e T h1 h2 => ?_, rfl, fun T hT => ?_⟩ (fun i σ H2 _ p => SqL.of p.2.2.1) ?_ ?_
    · match j, h1, h2 with
      | 0, h1, h2 =>
        cases h1
        cases h2
        exact en0.same dn9
    · have : T = ⟨n0, "head", ix.map (cg c0)⟩ := by simpa using hT
      subst this
      exact ⟨c0, by simp, pm0⟩
    · rintro i x σ H2 hx ⟨⟨u5, u6, u7, rfl⟩, sm, hly2, es, Ts, hl2, esl, tsl, hes, hnm, hTs⟩
      obtain ⟨y, hy, rfl⟩ : ∃ y, ys[i]? = some y ∧ x = .str y := by
        rw [List.getElem?_map] at hx
        cases e : ys[i]? with
        | none => rw [e] at hx; cases hx
        | some y => rw [e] at hx; cases hx; exact ⟨y, rfl, rfl⟩
      obtain ⟨t, d, so, c, v1, v2, v3, v4⟩ := vd y (List.mem_of_getElem? hy)
      refine ⟨_, rfl, _, rfl, sd, _, rfl, .inl ⟨_, .inr y, .inl (sm _ _ hsd), rfl, v1.symm⟩, ?_⟩
      refine ⟨t, _, rfl, SqT.of (sm _ _ v2), rfl, _, _, rfl, _, _, rfl, rfl, ?_⟩
      have td := v3.same sm
      refine ⟨_, rfl, .inl ⟨rfl, _, SqL.of hl2⟩, _, rfl, _, rfl, _, rfl, .inr (.inr (.inl ⟨rfl, .inl ⟨_, td.at_⟩⟩)), d, _, rfl, rfl, .inl td.at_, fun pw' hpw' => ?_⟩
      have U1 := Same.upd (o := .ext (vwP pw' d)) hpw'
      refine ⟨pw', d, _, c.map (·.1), rfl, upd_same, .inl (U1 _ _ td.at_), kvz c, td.nd, by rw [List.length_map]; have := td.le; omega, fun sl' as' ix' H5' m1 m2 m3 nd' len5' s5' g5' pm' rise' el' => ?_⟩
      refine ⟨sl', _, rfl, SqL.of el', fun ct' o' hct' ho' => ⟨(show 3 ≤ sizeLine by decide), fun e' he' => ?_⟩⟩
      have U6 := Same.upd (o := .frz o' (.tup ((ix'.map fun i => as'.getD i 0).map V.ref))) hct'
      have U7 := Same.upd (o := .tup [.str y, .str so, .ref ct']) he'
      have a6' := upd_same (H := H5') (a := ct') (o := .frz o' (.tup ((ix'.map fun i => as'.getD i 0).map V.ref)))
      have cs' : ColsAt (upd H5' ct' (.frz o' (.tup ((ix'.map fun i => as'.getD i 0).map V.ref)))) ct' (ix'.map (cg c)) := cols_of ho' (len5'.trans (kvl c)) pm' a6' fun i a c' h1 h2 => U6 _ _ (g5' i a _ _ h1 (kvg c i c' h2))
      have su := ((U1.trans s5').trans U6).trans U7
      have en' : EntAt (upd (upd H5' ct' (.frz o' (.tup ((ix'.map fun i => as'.getD i 0).map V.ref)))) e' (.tup [.str y, .str so, .ref ct'])) e' ⟨y, so, ix'.map (cg c)⟩ := ⟨ct', upd_same, cs'.same U7⟩
      have pm1 : (ix'.map (cg c)).Perm c := cg_perm pm' (len5'.trans (kvl c))
      have dd : EntAt (del (upd (upd H5' ct' (.frz o' (.tup ((ix'.map fun i => as'.getD i 0).map V.ref)))) e' (.tup [.str y, .str so, .ref ct'])) l) e' ⟨y, so, ix'.map (cg c)⟩ := by
        have hl7 := su _ _ hl2
        obtain ⟨ct2, x1, o2, ps2, x2, x3, x4, x5⟩ := en'
        have ne : ∀ b xs, upd (upd H5' ct' (.frz o' (.tup ((ix'.map fun i => as'.getD i 0).map V.ref)))) e' (.tup [.str y, .str so, .ref ct']) b = some (.tup xs) → b ≠ l := fun b xs e z => by rw [z, hl7] at e; cases e
        have nf : ∀ b oo xs, upd (upd H5' ct' (.frz o' (.tup ((ix'.map fun i => as'.getD i 0).map V.ref)))) e' (.tup [.str y, .str so, .ref ct']) b = some (.frz oo xs) → b ≠ l := fun b oo xs e z => by rw [z, hl7] at e; cases e
        exact ⟨ct2, (del_ne (ne _ _ x1)).trans x1, o2, ps2, x2, (del_ne (nf _ _ _ x3)).trans x3, x4, fun j p c h1 h2 => (del_ne (ne _ _ (x5 j p c h1 h2))).trans (x5 j p c h1 h2)⟩
      generalize upd (upd H5' ct' (.frz o' (.tup ((ix'.map fun i => as'.getD i 0).map V.ref)))) e' (.tup [.str y, .str so, .ref ct']) = H7' at *
      have il : i < 2 := by have := (List.getElem?_eq_some_iff.mp hy).1; omega
      refine ⟨l, _, _, rfl, rfl, su _ _ hl2, (by rw [List.length_map, sizeLine_eq]; omega), ⟨_, _, _, rfl⟩, (sm.trans su).put hlH, ?_, es ++ [e'], Ts ++ [⟨y, so, ix'.map (cg c)⟩], ?_, by rw [List.length_append, esl]; rfl, by rw [List.length_append, tsl]; rfl, fun j e T h1 h2 => ?_, ?_, fun T hT => ?_⟩
      · rw [upd_ne (Ne.symm nly)]
        exact su _ _ hly2
      · rw [upd_same, List.map_append]
        rfl
      · by_cases hj : j < es.length
        · rw [List.getElem?_append_left hj] at h1
          rw [List.getElem?_append_left (by omega)] at h2
          exact (hes j e T h1 h2).same (del_up su)
        · have ej : j = es.length := by
            have := (List.getElem?_eq_some_iff.mp h1).1
            rw [List.length_append] at this
            simp at this
            omega
          subst ej
          rw [List.getElem?_append_right (Nat.le_refl _), Nat.sub_self] at h1
          rw [List.getElem?_append_right (by omega), esl, tsl, Nat.sub_self] at h2
          cases h1
          cases h2
          refine dd.same fun b u e => ?_
          have hb : b ≠ l := fun z => by rw [z, del_same] at e; cases e
          rw [del_ne hb] at e
          rw [del_ne hb, upd_ne hb]
          exact e
      · rw [List.map_append, hnm, List.take_add_one, hy]
        rfl
      · rcases List.mem_append.mp hT with h | h
        · exact hTs T h
        · have : T = ⟨y, so, ix'.map (cg c)⟩ := by simpa using h
          subst this
          exact ⟨c, v4, pm1⟩
    · rintro σ H2 ⟨⟨u5, u6, u7, rfl⟩, sm, hly2, es, Ts, hl2, esl, tsl, hes, hnm, hTs⟩
      refine ⟨_, rfl, _, rfl, l, _, rfl, .inl ⟨SqL.of hl2, fun tt htt => ⟨(show 2 ≤ sizeLine by decide), fun fm hfm => ?_⟩⟩⟩
      have U1 := Same.upd (o := .tup (es.map V.ref)) htt
      have U2 := Same.upd (o := .tup [.int z, .ref tt]) hfm
      refine q fm Ts _ (sm.trans (U1.trans U2)) ⟨tt, es, upd_same, U2 _ _ upd_same, by omega, fun j e T h1 h2 => (hes j e T h1 h2).same (del_to.trans (U1.trans U2))⟩ ?_ hTs
      rw [hnm, List.length_map, y2]
      have : ys.take 2 = ys := List.take_of_length_le (by omega)
      rw [this]
      exact List.Perm.cons _ yp
end
end My

namespace My
open PySem L2 PyProof.Rows
seal L2.PE L2.PT L2.PW L2.PS L2.PSs L2.PA L2.PI L2.PG L2.PGs L2.OpR L2.CallR L2.IxR L2.SlR L2.MtR L2.PIf L2.MtM L2.PC
def Cc (ns : List Int) (k : Int) : Int := cel ns (5 + k)
theorem cells_at {ns : List Int} {i : Int} (h0 : 0 ≤ i) (h1 : i < 12) : atI ((List.range 12).map fun (k : Nat) => V.int (Cc ns (0 + (k : Int)))) i = some (.int (Cc ns i)) := by
  obtain ⟨j, rfl⟩ := Int.eq_ofNat_of_zero_le h0
  refine atI_nat ?_
  rw [List.getElem?_map, List.getElem?_range (by omega)]
  show some (V.int (Cc ns (0 + (j : Int)))) = _
  rw [Int.zero_add]
def hdR (ns : List Int) (nm : Nat → Str) (z : Int) (g : Int → Int) : Rw := [(nm 3, ptV (Cc ns 0) z g), (nm 4, .int (Cc ns 1 % z))]
def twR (ns : List Int) (nm : Nat → Str) (z : Int) (g : Int → Int) : Rw := [(nm 5, .int (Cc ns 2 % z)), (nm 6, ptV (Cc ns 3) z g)]
def rwR (ns : List Int) (nm : Nat → Str) (z : Int) (g : Int → Int) (k : Nat) : Rw := [(nm 3, ptV (Cc ns (4 + (0 + (k : Int)))) z g), (nm 7, .str (txF (Cc ns (8 + (0 + (k : Int)))))), (nm 8, ptV (Cc ns (8 + (0 + (k : Int))) / 5) z g)]
def rwsR (ns : List Int) (nm : Nat → Str) (z : Int) (g : Int → Int) : List Rw := (List.range (cel ns 4 % 5).toNat).map (rwR ns nm z g)
def pcG (ns : List Int) (nm : Nat → Str) (z : Int) (g : Int → Int) : Pc := [(nm 0, [hdR ns nm z g]), (nm 1, [twR ns nm z g]), (nm 2, rwsR ns nm z g)]
def Inj9 (nm : Nat → Str) : Prop := ∀ i j, i < 9 → j < 9 → nm i = nm j → i = j
theorem Inj9.ne {nm : Nat → Str} (h : Inj9 nm) {i j : Nat} (hi : i < 9 := by decide) (hj : j < 9 := by decide) (n : i ≠ j := by decide) : nm i ≠ nm j := fun e => n (h i j hi hj e)
theorem putK1 {a b : Str} {v u : V} (h : a ≠ b) : putK [((.inr a : Key), v)] (.inr b) u = [(.inr a, v), (.inr b, u)] := by
  unfold putK
  rw [if_neg]
  · rfl
  · simp [h]
theorem putK2 {a b c : Str} {v u x : V} (h1 : a ≠ c) (h2 : b ≠ c) : putK [((.inr a : Key), v), (.inr b, u)] (.inr c) x = [(.inr a, v), (.inr b, u), (.inr c, x)] := by
  unfold putK
  rw [if_neg]
  · rfl
  · simp [h1, h2]
theorem merge2 {a b : Str} {v u : V} (h : a ≠ b) : mergeK [] [((.inr a : Key), v), (.inr b, u)] = [(.inr a, v), (.inr b, u)] := putK1 h
theorem merge3 {a b c : Str} {v u x : V} (h : a ≠ b) (h1 : a ≠ c) (h2 : b ≠ c) : mergeK [] [((.inr a : Key), v), (.inr b, u), (.inr c, x)] = [(.inr a, v), (.inr b, u), (.inr c, x)] := by
  show putK (putK [((.inr a : Key), v)] (.inr b) u) (.inr c) x = _
  rw [putK1 h, putK2 h1 h2]
abbrev nmL (nm : Nat → Str) : List V := (List.range 9).map fun i => V.str (nm i)
def spPc (K : PySem.W.Frag) : Sp := fun vs H Q _ => ∃ (a nl : Addr) (ns : List Int) (nm : Nat → Str) (z : Int) (v : V) (o : Option (Int × Int)), vs = [.ref a, .ref nl, .int z, v] ∧ SqL K H a (ns.map V.int) ∧ ns.length ≤ 63 ∧ H nl = some (.lst (nmL nm)) ∧ Inj9 nm ∧ 0 < z ∧ z ≤ 1000000000000 ∧ WayAt H v o ∧
  ∀ p H', Same H H' → PcE (cut H H') p (pcG ns nm z (wayF z o)) → Q (.ref p) H'
def nPc : List Str := ["_law_script", "_law_names_here", "_law_size", "_law_way", "_law_cells", "_law_head", "_law_twin", "_law_rows", "_law_k", "_law_row"]
section
variable {P : Program} {w : World} {K : PySem.W.Frag} {mg : Str → Option Value} {base : Heap}
theorem ok_pc {f fC fP fT : Addr} {fd fdC fdP fdT : FuncData} (F : Fun K "_law_piece" "_law_piece" (top 26) f fd) (B : Bl mg) (DC : Df K mg "_law_cell" (top 18) fC fdC) (DP : Df K mg "_law_pointer" (top 25) fP fdP) (DT : Df K mg "_law_text" (top 22) fT fdT) : FnOk P w K mg base CX0 2 f fd ["_law_script", "_law_names_here", "_law_size", "_law_way"] (spPc K) := by
  have sc : FnScope nPc ["_law_script", "_law_names_here", "_law_size", "_law_way"] (defScope (top 26)) := ⟨rfl, rfl, rfl, by decide +kernel, rfl, by decide +kernel, by decide +kernel⟩
  have GC : FnOk P w K mg base CX0 1 fC fdC ["_law_script", "_law_k"] (spCe K) := ok_cell DC.fn B
  have bC := DC.fn.binds (ps := ["_law_script", "_law_k"]) fun _ _ _ _ _ _ us hl => by obtain ⟨v0, v1, rfl⟩ := L2.ln2 hl; rfl
  have GP : FnOk P w K mg base CX0 1 fP fdP ["_law_cell_here", "_law_size", "_law_way"] spPt := ok_pt DP.fn
  have bP := DP.fn.binds (ps := ["_law_cell_here", "_law_size", "_law_way"]) fun _ _ _ _ _ _ us hl => by obtain ⟨v0, v1, v2, rfl⟩ := L2.ln3 hl; rfl
  have GT : FnOk P w K mg base CX0 1 fT fdT ["_law_cell_here"] spTx := ok_tx DT.fn B
  have bT := DT.fn.binds (ps := ["_law_cell_here"]) fun _ _ _ _ _ _ us hl => by obtain ⟨v0, rfl⟩ := L2.ln1 hl; rfl
  refine F.ok sc (fun vs H Q E h => ?_) (fun cdv A outer s H vs Q E hr h => ?_)
  · obtain ⟨a, nl, ns, nm, z, v, o, rfl, _⟩ := h
    rfl
  · obtain ⟨a, nl, ns, nm, z, v, o, rfl, ha, h63, hnl, inj, z0, z1, hw, q⟩ := h
    have hu : (A.deeper (envOfC "_law_piece" (defScope (top 26)) s.heap.objs.size f cdv)).units + 1 < cLine := hu_of hr
    refine ⟨_, pss_cons (ps_comp (i := 4) (osc := defScope (top 26)) (N0 := nPc) (xs := ["_law_k"]) (fr := [0]) ⟨rfl, by decide +kernel, by decide +kernel, by decide +kernel, (fun j hj => by
            have e : j = 0 := by simpa using hj
            subst e
            exact ⟨_, rfl, by decide +kernel⟩), by decide +kernel⟩ rfl rfl rfl (pi_range1 rfl B.range (pa_cons pe_int pa_nil))
          (fun s H fp => pg_name (i := 0) (show (["_law_k", "_law_script"] : List Str).Nodup by decide +kernel) rfl (Or.inl rfl)) (fun s H fp => pif_nil)
          (fun s H fp => pe_call GC hr (by rfl) DC.mg DC.fn.kp bC .nil pass0 (pa_cons (pv 1) (pa_cons (pe_op op_add pe_int (pv 0)) pa_nil))) sc.nd rfl (Or.inl rfl))
      (pss_cons (ps_set (i := 5) sc.nd rfl (Or.inl rfl) (pe_disp (pps_cons (pe_ix ix_list (pv 1) pe_int (fun _ _ => rfl)) (pe_call GP hr (by rfl) DP.mg DP.fn.kp bP .nil pass0 (pa_cons (pe_ix ix_list (pv 4) pe_int (fun _ _ => rfl)) (pa_cons (pv 2) (pa_cons (pv 3) pa_nil)))) (pps_cons (pe_ix ix_list (pv 1) pe_int (fun _ _ => rfl)) (pe_op op_mod (pe_ix ix_list (pv 4) pe_int (fun _ _ => rfl)) (pv 2)) pps_nil)) rfl rfl (by simp) (by decide)))
      (pss_cons (ps_set (i := 6) sc.nd rfl (Or.inl rfl) (pe_disp (pps_cons (pe_ix ix_list (pv 1) pe_int (fun _ _ => rfl)) (pe_op op_mod (pe_ix ix_list (pv 4) pe_int (fun _ _ => rfl)) (pv 2)) (pps_cons (pe_ix ix_list (pv 1) pe_int (fun _ _ => rfl)) (pe_call GP hr (by rfl) DP.mg DP.fn.kp bP .nil pass0 (pa_cons (pe_ix ix_list (pv 4) pe_int (fun _ _ => rfl)) (pa_cons (pv 2) (pa_cons (pv 3) pa_nil)))) pps_nil)) rfl rfl (by simp) (by decide)))
      (pss_cons (ps_set (i := 7) sc.nd rfl (Or.inl rfl) (pe_lst pa_nil))
      (pss_cons (ps_for PassesOwn.never rfl (pi_range1 rfl B.range (pa_cons (pe_op op_mod (pe_call GC hr (by rfl) DC.mg DC.fn.kp bC .nil pass0 (pa_cons (pv 0) (pa_cons pe_int pa_nil))) pe_int) pa_nil)) (pg_name (i := 8) sc.nd rfl (Or.inl rfl))
        (pss_cons (ps_set (i := 9) sc.nd rfl (Or.inl rfl) (pe_disp (pps_cons (pe_ix ix_list (pv 1) pe_int (fun _ _ => rfl)) (pe_call GP hr (by rfl) DP.mg DP.fn.kp bP .nil pass0 (pa_cons (pe_ix ix_list (pv 4) (pe_op op_add pe_int (pv 8)) (fun _ _ => rfl)) (pa_cons (pv 2) (pa_cons (pv 3) pa_nil)))) (pps_cons (pe_ix ix_list (pv 1) pe_int (fun _ _ => rfl)) (pe_call GT hr (by rfl) DT.mg DT.fn.kp bT .nil pass0 (pa_cons (pe_ix ix_list (pv 4) (pe_op op_add pe_int (pv 8)) (fun _ _ => rfl)) pa_nil)) pps_nil)) rfl rfl (by simp) (by decide)))
        (pss_cons (ps_dput hu (pv 9) (pe_ix ix_list (pv 1) pe_int (fun _ _ => rfl)) (pe_call GP hr (by rfl) DP.mg DP.fn.kp bP .nil pass0 (pa_cons (pe_op op_fdiv (pe_ix ix_list (pv 4) (pe_op op_add pe_int (pv 8)) (fun _ _ => rfl)) pe_int) (pa_cons (pv 2) (pa_cons (pv 3) pa_nil)))) rfl)
        (pss_one (ps_expr (pe_bm PySem.F.plainAttrs_list PySem.F.slot_list_append PySem.F.type_list_append mt_app (pv 7) (pa_cons (pv 9) pa_nil)))))))
      (pss_one (ps_ret (pe_disp (pps_cons (pe_ix ix_list (pv 1) pe_int (fun _ _ => rfl)) (pe_lst (pa_cons (pv 5) pa_nil)) (pps_cons (pe_ix ix_list (pv 1) pe_int (fun _ _ => rfl)) (pe_lst (pa_cons (pv 6) pa_nil)) (pps_cons (pe_ix ix_list (pv 1) pe_int (fun _ _ => rfl)) (pv 7) pps_nil))) rfl rfl (by simp) (by decide)))))))), ?_⟩
    have m0 := Int.emod_nonneg (cel ns 4) (show (5 : Int) ≠ 0 by decide)
    have m5 := Int.emod_lt_of_pos (cel ns 4) (show (0 : Int) < 5 by decide)
    have em : ((cel ns 4 % 5).toNat : Int) = cel ns 4 % 5 := Int.toNat_of_nonneg m0
    have atn : ∀ (i : Nat), i < 9 → atI (nmL nm) (i : Int) = some (.str (nm i)) := fun i hi => atI_nat (by rw [List.getElem?_map, List.getElem?_range hi]; rfl)
    refine ⟨12, rfl, by decide, by decide, fun cl hcl => ?_⟩
    refine compW_map 12 (fun k => .int (Cc ns (0 + (k : Int)))) (fun i σ' Hc => (∃ t, σ' = [t, some (.ref a)]) ∧ Same H Hc) (by decide) ⟨⟨none, rfl⟩, Same.upd hcl⟩ upd_same ?_ ?_
    · rintro i σ' Hc hi ⟨⟨t, rfl⟩, sm⟩ hDc
      refine ⟨hi, ?_⟩
      rintro x H' ⟨rfl, rfl⟩
      exact ⟨_, rfl, _, rfl, _, _, rfl, rfl, a, ns, _, rfl, sm.seq ha, by omega, by omega, h63, fun H4 s4 => ⟨rfl, s4 _ _ hDc, ⟨_, rfl⟩, same_put (sm.trans s4) hcl⟩⟩
    rintro σ1 H1 ⟨_, s1⟩ hc1
    refine ⟨Nat.le_refl _, ?_⟩
    have hw1 := hw.same s1
    -- the head
    intro hd hhd
    have T2 := Same.upd (o := .dK []) hhd
    refine ⟨_, rfl, nl, _, 3, _, rfl, rfl, SqL.of (T2 _ _ (s1 _ _ hnl)), atn 3 (by decide), _, rfl, cl, _, 0, _, rfl, rfl, SqL.of (T2 _ _ hc1), cells_at (by decide) (by decide), _, rfl, _, rfl, _, z, v, o, rfl, z0, z1, hw1.same T2, ?_⟩
    refine ⟨_, rfl, nl, _, 4, _, rfl, rfl, SqL.of (T2 _ _ (s1 _ _ hnl)), atn 4 (by decide), _, rfl, cl, _, 1, _, rfl, rfl, SqL.of (T2 _ _ hc1), cells_at (by decide) (by decide), _, rfl, _, _, rfl, rfl, z0, upd_same, [(.inr (nm 3), ptV (Cc ns 0) z (wayF z o)), (.inr (nm 4), .int (Cc ns 1 % z))], rfl, (by show 2 ≤ 15; decide), ?_⟩
    rw [merge2 inj.ne]
    have hdH : H hd = none := none_of s1 hhd
    have s2 : Same H1 (upd (upd H1 hd (.dK [])) hd (.dK [(.inr (nm 3), ptV (Cc ns 0) z (wayF z o)), (.inr (nm 4), .int (Cc ns 1 % z))])) := T2.put hhd
    have e2 := upd_same (H := upd H1 hd (.dK [])) (a := hd) (o := .dK [(.inr (nm 3), ptV (Cc ns 0) z (wayF z o)), (.inr (nm 4), .int (Cc ns 1 % z))])
    generalize upd (upd H1 hd (.dK [])) hd (.dK [(.inr (nm 3), ptV (Cc ns 0) z (wayF z o)), (.inr (nm 4), .int (Cc ns 1 % z))]) = H2 at *
    have s02 := s1.trans s2
    -- the twin
    intro tw htw
    have T3 := Same.upd (o := .dK []) htw
    refine ⟨_, rfl, nl, _, 5, _, rfl, rfl, SqL.of (T3 _ _ (s02 _ _ hnl)), atn 5 (by decide), _, rfl, cl, _, 2, _, rfl, rfl, SqL.of (T3 _ _ (s2 _ _ hc1)), cells_at (by decide) (by decide), _, rfl, _, _, rfl, rfl, z0, ?_⟩
    refine ⟨_, rfl, nl, _, 6, _, rfl, rfl, SqL.of (T3 _ _ (s02 _ _ hnl)), atn 6 (by decide), _, rfl, cl, _, 3, _, rfl, rfl, SqL.of (T3 _ _ (s2 _ _ hc1)), cells_at (by decide) (by decide), _, rfl, _, rfl, _, z, v, o, rfl, z0, z1, hw.same (s02.trans T3), upd_same, [(.inr (nm 5), .int (Cc ns 2 % z)), (.inr (nm 6), ptV (Cc ns 3) z (wayF z o))], rfl, (by show 2 ≤ 15; decide), ?_⟩
    rw [merge2 inj.ne]
    have twH : H tw = none := none_of s02 htw
    have s3 : Same H2 (upd (upd H2 tw (.dK [])) tw (.dK [(.inr (nm 5), .int (Cc ns 2 % z)), (.inr (nm 6), ptV (Cc ns 3) z (wayF z o))])) := T3.put htw
    have e3 := upd_same (H := upd H2 tw (.dK [])) (a := tw) (o := .dK [(.inr (nm 5), .int (Cc ns 2 % z)), (.inr (nm 6), ptV (Cc ns 3) z (wayF z o))])
    generalize upd (upd H2 tw (.dK [])) tw (.dK [(.inr (nm 5), .int (Cc ns 2 % z)), (.inr (nm 6), ptV (Cc ns 3) z (wayF z o))]) = H3 at *
    have s03 := s02.trans s3
    have hdtw : hd ≠ tw := fun e => by rw [← e, e2] at htw; cases htw
    -- the rows
    refine ⟨Nat.zero_le _, fun l hl => ?_⟩
    have T4 := Same.upd (o := .lst []) hl
    have e4 := upd_same (H := H3) (a := l) (o := .lst [])
    generalize upd H3 l (.lst []) = H4 at *
    have s04 := s03.trans T4
    have lH : H l = none := none_of s03 hl
    refine ⟨_, rfl, a, ns, 4, rfl, s04.seq ha, by decide, by decide, h63, fun H5 s5 => ?_⟩
    have s05 := s04.trans s5
    refine ⟨_, _, rfl, rfl, (pos rfl), _, rfl, (by omega), (by omega), ?_⟩
    refine for_range (fun i σ H6 => (∃ u8 u9, σ = [some (.ref a), some (.ref nl), some (.int z), some v, some (.ref cl), some (.ref hd), some (.ref tw), some (.ref l), u8, u9]) ∧ Same H H6 ∧ (H6 cl = some (.lst ((List.range 12).map fun (k : Nat) => V.int (Cc ns (0 + (k : Int))))) ∧ H6 hd = some (.dK (rK (hdR ns nm z (wayF z o)))) ∧ H6 tw = some (.dK (rK (twR ns nm z (wayF z o))))) ∧ ∃ rs : List Addr, H6 l = some (.lst (rs.map V.ref)) ∧ rs.length = i ∧ rs.Nodup ∧ ∀ (j : Nat) (r : Addr), rs[j]? = some r → (H r = none ∧ r ≠ hd ∧ r ≠ tw) ∧ H6 r = some (.dK (rK (rwR ns nm z (wayF z o) j)))) ⟨⟨_, _, rfl⟩, s05, ⟨(s2.trans (s3.trans (T4.trans s5))) _ _ hc1, (s3.trans (T4.trans s5)) _ _ e2, (T4.trans s5) _ _ e3⟩, [], s5 _ _ e4, rfl, .nil, fun j r h => nomatch h⟩ ?_ ?_
    · rintro i σ H6 hi ⟨⟨u8, u9, rfl⟩, s06, ⟨hc6, hd6, tw6⟩, rs, hl6, rl, rnd, hrs⟩
      intro r hr6
      have T7 := Same.upd (o := .dK []) hr6
      refine ⟨_, rfl, nl, _, 3, _, rfl, rfl, SqL.of (T7 _ _ (s06 _ _ hnl)), atn 3 (by decide), _, rfl, _, rfl, _, _, rfl, rfl, cl, _, _, _, rfl, rfl, SqL.of (T7 _ _ hc6), cells_at (by omega) (by omega), _, rfl, _, rfl, _, z, v, o, rfl, z0, z1, hw.same (s06.trans T7), ?_⟩
      refine ⟨_, rfl, nl, _, 7, _, rfl, rfl, SqL.of (T7 _ _ (s06 _ _ hnl)), atn 7 (by decide), _, rfl, _, rfl, _, _, rfl, rfl, cl, _, _, _, rfl, rfl, SqL.of (T7 _ _ hc6), cells_at (by omega) (by omega), _, rfl, fun H8 s8 => ?_⟩
      refine ⟨s8 _ _ upd_same, [(.inr (nm 3), ptV (Cc ns (4 + (0 + (i : Int)))) z (wayF z o)), (.inr (nm 7), .str (txF (Cc ns (8 + (0 + (i : Int))))))], rfl, (by show 2 ≤ 15; decide), ?_⟩
      rw [merge2 inj.ne]
      have rH : H r = none := none_of s06 hr6
      have s9 : Same H6 (upd H8 r (.dK [(.inr (nm 3), ptV (Cc ns (4 + (0 + (i : Int)))) z (wayF z o)), (.inr (nm 7), .str (txF (Cc ns (8 + (0 + (i : Int))))))])) := (T7.trans s8).put hr6
      have e9 := upd_same (H := H8) (a := r) (o := .dK [(.inr (nm 3), ptV (Cc ns (4 + (0 + (i : Int)))) z (wayF z o)), (.inr (nm 7), .str (txF (Cc ns (8 + (0 + (i : Int))))))])
      generalize upd H8 r (.dK [(.inr (nm 3), ptV (Cc ns (4 + (0 + (i : Int)))) z (wayF z o)), (.inr (nm 7), .str (txF (Cc ns (8 + (0 + (i : Int))))))]) = H9 at *
      refine ⟨_, rfl, _, rfl, _, _, rfl, rfl, cl, _, _, _, rfl, rfl, SqL.of (s9 _ _ hc6), cells_at (by omega) (by omega), _, _, rfl, rfl, ⟨by decide, by decide⟩, _, rfl, _, rfl, _, z, v, o, rfl, z0, z1, hw.same (s06.trans s9), ?_⟩
      refine ⟨_, rfl, _, rfl, nl, _, 8, _, rfl, rfl, SqL.of (s9 _ _ (s06 _ _ hnl)), atn 8 (by decide), r, _, rfl, DPut.k (k := .inr (nm 8)) e9 (by show 2 < sizeLine; decide), ?_⟩
      rw [putK2 inj.ne inj.ne]
      have s10 : Same H6 (upd H9 r (.dK [(.inr (nm 3), ptV (Cc ns (4 + (0 + (i : Int)))) z (wayF z o)), (.inr (nm 7), .str (txF (Cc ns (8 + (0 + (i : Int)))))), (.inr (nm 8), ptV (Cc ns (8 + (0 + (i : Int))) / 5) z (wayF z o))])) := s9.put hr6
      have e10 := upd_same (H := H9) (a := r) (o := .dK [(.inr (nm 3), ptV (Cc ns (4 + (0 + (i : Int)))) z (wayF z o)), (.inr (nm 7), .str (txF (Cc ns (8 + (0 + (i : Int)))))), (.inr (nm 8), ptV (Cc ns (8 + (0 + (i : Int))) / 5) z (wayF z o))])
      generalize upd H9 r (.dK [(.inr (nm 3), ptV (Cc ns (4 + (0 + (i : Int)))) z (wayF z o)), (.inr (nm 7), .str (txF (Cc ns (8 + (0 + (i : Int)))))), (.inr (nm 8), ptV (Cc ns (8 + (0 + (i : Int))) / 5) z (wayF z o))]) = H10 at *
      have l10 := s10 _ _ hl6
      refine ⟨_, rfl, .inl ⟨rfl, _, SqL.of l10⟩, _, rfl, l, _, _, rfl, rfl, l10, (by rw [List.length_map, sizeLine_eq]; omega), ?_⟩
      have ne : ∀ b kv, H10 b = some (.dK kv) → upd H10 l (.lst (rs.map V.ref ++ [.ref r])) b = some (.dK kv) := fun b kv e => (upd_ne fun z => by rw [z, l10] at e; cases e).trans e
      have ncl : cl ≠ l := fun e => by rw [← e] at hl; rw [(s2.trans s3) _ _ hc1] at hl; cases hl
      refine ⟨⟨_, _, rfl⟩, (s06.trans s10).put lH, ⟨(upd_ne ncl).trans (s10 _ _ hc6), ne _ _ (s10 _ _ hd6), ne _ _ (s10 _ _ tw6)⟩, rs ++ [r], by rw [upd_same, List.map_append]; rfl, by rw [List.length_append, rl]; rfl, ?_, fun j r' hj => ?_⟩
      · rw [List.nodup_append]
        refine ⟨rnd, by simp, fun x hx b hb e => ?_⟩
        rw [List.mem_singleton.mp hb] at e
        obtain ⟨j, hj⟩ := List.getElem?_of_mem hx
        have := (hrs j x hj).2
        rw [e, hr6] at this
        cases this
      · by_cases hjl : j < rs.length
        · rw [List.getElem?_append_left hjl] at hj
          exact ⟨(hrs j r' hj).1, ne _ _ (s10 _ _ (hrs j r' hj).2)⟩
        · have e : j = rs.length := by
            have := (List.getElem?_eq_some_iff.mp hj).1
            rw [List.length_append] at this
            simp at this
            omega
          subst e
          rw [List.getElem?_append_right (Nat.le_refl _), Nat.sub_self] at hj
          cases hj
          refine ⟨⟨rH, (fun e => by rw [e, hd6] at hr6; cases hr6), (fun e => by rw [e, tw6] at hr6; cases hr6)⟩, ne _ _ ?_⟩
          rw [rl]
          exact e10
    · rintro σ H6 ⟨⟨u8, u9, rfl⟩, s06, ⟨hc6, hd6, tw6⟩, rs, hl6, rl, rnd, hrs⟩
      intro p hp
      have T7 := Same.upd (o := .dK []) hp
      have p7 := upd_same (H := H6) (a := p) (o := .dK [])
      generalize upd H6 p (.dK []) = H7 at *
      refine ⟨_, rfl, nl, _, 0, _, rfl, rfl, SqL.of (T7 _ _ (s06 _ _ hnl)), atn 0 (by decide), _, rfl, (show 1 ≤ sizeLine by decide), fun l0 hl0 => ?_⟩
      have T8 := Same.upd (o := .lst [.ref hd]) hl0
      have e8 := upd_same (H := H7) (a := l0) (o := .lst [.ref hd])
      generalize upd H7 l0 (.lst [.ref hd]) = H8 at *
      refine ⟨_, rfl, nl, _, 1, _, rfl, rfl, SqL.of (T8 _ _ (T7 _ _ (s06 _ _ hnl))), atn 1 (by decide), _, rfl, (show 1 ≤ sizeLine by decide), fun l1 hl1 => ?_⟩
      have T9 := Same.upd (o := .lst [.ref tw]) hl1
      have e9 := upd_same (H := H8) (a := l1) (o := .lst [.ref tw])
      generalize upd H8 l1 (.lst [.ref tw]) = H9 at *
      have s79 := T8.trans T9
      have s69 := T7.trans s79
      refine ⟨_, rfl, nl, _, 2, _, rfl, rfl, SqL.of (s69 _ _ (s06 _ _ hnl)), atn 2 (by decide), _, rfl, s79 _ _ p7, [(.inr (nm 0), .ref l0), (.inr (nm 1), .ref l1), (.inr (nm 2), .ref l)], rfl, (by show 3 ≤ 15; decide), ?_⟩
      rw [merge3 inj.ne inj.ne inj.ne]
      have pH : H p = none := none_of s06 hp
      have nep : ∀ b u, H9 b = some u → u ≠ .dK [] → upd H9 p (.dK [(.inr (nm 0), .ref l0), (.inr (nm 1), .ref l1), (.inr (nm 2), .ref l)]) b = some u := fun b u e n => (upd_ne fun z => by
        rw [z, s79 _ _ p7] at e
        cases e
        exact n rfl).trans e
      refine q p _ ((s06.trans s69).put pH) ⟨[l0, l1, l], fun x => if x = hd then 0 else if x = tw then 1 else 2, cut_at pH upd_same, rfl, fun j lj t h1 h2 => ?_⟩
      match j, h1, h2 with
      | 0, h1, h2 =>
        cases h1
        cases h2
        refine ⟨[hd], cut_at (none_of (s06.trans T7) hl0) (nep _ _ (T9 _ _ e8) (by simp)), rfl, by simp, fun j r row a1 a2 => ?_, fun r hr => ?_⟩
        · match j, a1, a2 with
          | 0, a1, a2 =>
            cases a1
            cases a2
            exact cut_at hdH (nep _ _ (s69 _ _ hd6) (by simp [rK, hdR]))
        · rw [List.mem_singleton.mp hr]; exact if_pos rfl
      | 1, h1, h2 =>
        cases h1
        cases h2
        refine ⟨[tw], cut_at (none_of ((s06.trans T7).trans T8) hl1) (nep _ _ e9 (by simp)), rfl, by simp, fun j r row a1 a2 => ?_, fun r hr => ?_⟩
        · match j, a1, a2 with
          | 0, a1, a2 =>
            cases a1
            cases a2
            exact cut_at twH (nep _ _ (s69 _ _ tw6) (by simp [rK, twR]))
        · rw [List.mem_singleton.mp hr]; exact (if_neg (Ne.symm hdtw)).trans (if_pos rfl)
      | 2, h1, h2 =>
        cases h1
        cases h2
        refine ⟨rs, cut_at lH (nep _ _ (s69 _ _ hl6) (by simp)), by rw [rl]; simp [rwsR], rnd, fun j r row a1 a2 => ?_, fun r hr => ?_⟩
        · obtain ⟨⟨rH, _, _⟩, er⟩ := hrs j r a1
          have er2 : row = rwR ns nm z (wayF z o) j := by
            unfold rwsR at a2
            rw [List.getElem?_map] at a2
            cases e : (List.range (cel ns 4 % 5).toNat)[j]? with
            | none => rw [e] at a2; cases a2
            | some k =>
              rw [e] at a2
              cases a2
              have := List.getElem?_eq_some_iff.mp e
              obtain ⟨_, e'⟩ := this
              rw [List.getElem_range] at e'
              rw [e']
          rw [er2]
          exact cut_at rH (nep _ _ (s69 _ _ er) (by simp [rK, rwR]))
        · obtain ⟨j, hj⟩ := List.getElem?_of_mem hr
          obtain ⟨⟨_, n1, n2⟩, _⟩ := hrs j r hj
          exact (if_neg n1).trans (if_neg n2)
      | j + 3, h1, h2 => cases h1
end
end My

namespace My
open PySem L2 PyProof.Rows
seal L2.PE L2.PT L2.PW L2.PS L2.PSs L2.PA L2.PI L2.PG L2.PGs L2.OpR L2.CallR L2.IxR L2.SlR L2.MtR L2.PIf L2.MtM L2.PC
def tv (g : Int → Int) : V → V
  | .int k => .int (g k)
  | v => v
def trR (g : Int → Int) (ps : List Str) (row : Rw) : Rw := row.map fun c => (c.1, if c.1 ∈ ps then tv g c.2 else c.2)
theorem trR_keys {g : Int → Int} {ps : List Str} {row : Rw} : (trR g ps row).map (·.1) = row.map (·.1) := by
  unfold trR
  rw [List.map_map]
  rfl
theorem trR_nil {g : Int → Int} {row : Rw} : trR g [] row = row := by
  unfold trR
  refine (List.map_congr_left fun c _ => ?_).trans (List.map_id _)
  simp
theorem one_val {row : Rw} (nd : (row.map (·.1)).Nodup) {c : Str} {v u : V} (h1 : (c, v) ∈ row) (h2 : (c, u) ∈ row) : v = u := by
  obtain ⟨i, hi, ei⟩ := List.mem_iff_getElem.mp h1
  obtain ⟨j, hj, ej⟩ := List.mem_iff_getElem.mp h2
  have : i = j := (List.getElem_inj (h₀ := by rw [List.length_map]; exact hi) (h₁ := by rw [List.length_map]; exact hj) nd).mp (by rw [List.getElem_map, List.getElem_map, ei, ej])
  subst this
  rw [ei] at ej
  exact (Prod.mk.inj ej).2
theorem val_rw : ∀ {row : Rw} (nd : (row.map (·.1)).Nodup) {c : Str} {v : V}, (c, v) ∈ row → valV (rK row) (.inr c) = some v
  | [], _, _, _, h => nomatch h
  | p :: r, nd, c, v, h => by
    rw [List.map_cons, List.nodup_cons] at nd
    rcases List.mem_cons.mp h with e | e
    · subst e
      exact valV_pos rfl
    · have : ¬ ((Sum.inr p.1 : Key) = .inr c) := fun e2 => nd.1 (by
        injection e2 with e2
        rw [e2]
        exact List.mem_map.mpr ⟨_, e, rfl⟩)
      show valV ((.inr p.1, p.2) :: rK r) (.inr c) = _
      rw [valV_neg this]
      exact val_rw nd.2 e
theorem trR_mem {g : Int → Int} {ps : List Str} {row : Rw} {c : Str} {v : V} (h : (c, v) ∈ row) (hc : c ∉ ps) : (c, v) ∈ trR g ps row := by
  refine List.mem_map.mpr ⟨_, h, ?_⟩
  rw [if_neg hc]
theorem trR_put {g : Int → Int} {ps : List Str} {row : Rw} {c : Str} {v : V} (nd : (row.map (·.1)).Nodup) (h : (c, v) ∈ row) (hc : c ∉ ps) : putK (rK (trR g ps row)) (.inr c) (tv g v) = rK (trR g (ps ++ [c]) row) := by
  unfold putK
  rw [if_pos]
  · unfold rK trR
    rw [List.map_map, List.map_map, List.map_map]
    refine List.map_congr_left fun x hx => ?_
    show (if (Sum.inr x.1 : Key) = .inr c then ((Sum.inr x.1 : Key), tv g v) else (.inr x.1, if x.1 ∈ ps then tv g x.2 else x.2)) = (.inr x.1, if x.1 ∈ ps ++ [c] then tv g x.2 else x.2)
    by_cases e : x.1 = c
    · have ev : x.2 = v := one_val nd (c := c) (by rw [← e]; exact hx) h
      rw [if_pos (by rw [e]), if_pos (by rw [e]; simp), ev]
    · rw [if_neg (fun z => e (by injection z))]
      have : (x.1 ∈ ps ++ [c]) ↔ x.1 ∈ ps := by simp [e]
      by_cases h2 : x.1 ∈ ps
      · rw [if_pos h2, if_pos (this.mpr h2)]
      · rw [if_neg h2, if_neg fun z => h2 (this.mp z)]
  · refine List.any_eq_true.mpr ⟨(.inr c, v), List.mem_map.mpr ⟨_, trR_mem h hc, rfl⟩, decide_eq_true rfl⟩
theorem trR_non {g : Int → Int} {ps : List Str} {row : Rw} {c : Str} (nd : (row.map (·.1)).Nodup) (h : (c, V.non) ∈ row) : trR g (ps ++ [c]) row = trR g ps row := by
  unfold trR
  refine List.map_congr_left fun x hx => ?_
  by_cases e : x.1 = c
  · have ev : x.2 = .non := one_val nd (c := c) (by rw [← e]; exact hx) h
    rw [ev]
    by_cases h2 : x.1 ∈ ps
    · rw [if_pos h2, if_pos (by simp [h2])]
    · rw [if_neg h2, if_pos (by simp [e])]
      rfl
  · have : (x.1 ∈ ps ++ [c]) ↔ x.1 ∈ ps := by simp [e]
    by_cases h2 : x.1 ∈ ps
    · rw [if_pos h2, if_pos (this.mpr h2)]
    · rw [if_neg h2, if_neg fun z => h2 (this.mp z)]
/-- the pointers of a row that may be turned -/
def PtOk (z : Int) (ps : List Str) (row : Rw) : Prop := ∀ c ∈ ps, (c, V.non) ∈ row ∨ ∃ k : Int, (c, V.int k) ∈ row ∧ 0 ≤ k ∧ k < z
/-- calling the function at fw turns numbers below z by g, in all heaps that hold H0 -/
def WOk (R : Addr → V → Hp → VK → Prop) (H0 : Hp) (fw : Addr) (z : Int) (g : Int → Int) : Prop := ∀ (H : Hp) (k : Int) (Q : VK), Same H0 H → 0 ≤ k → k < z → Q (.int (g k)) H → R fw (.int k) H Q
def spTu (R : Addr → V → Hp → VK → Prop) : Sp := fun vs H Q _ => ∃ (H0 : Hp) (r pl fw : Addr) (z : Int) (g : Int → Int) (ps : List Str) (row : Rw), vs = [.ref r, .ref pl, .ref fw] ∧ Same H0 H ∧ H0 r = none ∧ WOk R H0 fw z g ∧ H r = some (.dK (rK row)) ∧ H pl = some (.lst (ps.map V.str)) ∧ ps.Nodup ∧ (row.map (·.1)).Nodup ∧ row.length ≤ 12 ∧ PtOk z ps row ∧
  ∀ H', H' r = some (.dK (rK (trR g ps row))) → (∀ b, b ≠ r → H' b = H b) → Q .non H'
section
variable {P : Program} {w : World} {K : PySem.W.Frag} {mg : Str → Option Value} {base : Heap} {R : Addr → V → Hp → VK → Prop} {j : Nat}
theorem ok_tu {f : Addr} {fd : FuncData} (F : Fun K "turn_pointers" "turn_pointers" (top 15) f fd) (W : WayR P w K mg base j R) : FnOk P w K mg base CX0 (j + 1) f fd ["row", "pointers", "way"] (spTu R) := by
  have sc : FnScope ["row", "pointers", "way", "column"] ["row", "pointers", "way"] (defScope (top 15)) := ⟨rfl, rfl, rfl, by decide +kernel, rfl, by decide +kernel, by decide +kernel⟩
  refine F.ok sc (fun vs H Q E h => ?_) (fun cdv A outer s H vs Q E hr h => ?_)
  · obtain ⟨H0, r, pl, fw, z, g, ps, row, rfl, _⟩ := h
    rfl
  · obtain ⟨H0, r, pl, fw, z, g, ps, row, rfl, s0, h0r, wok, hr0, hpl, psn, nd, r12, pok, q⟩ := h
    have hu : (A.deeper (envOfC "turn_pointers" (defScope (top 15)) s.heap.objs.size f cdv)).units + 1 < cLine := hu_of hr
    refine ⟨_, pss_one (ps_for PassesOwn.never rfl (pi_list (pv 1)) (pg_name (i := 3) sc.nd rfl (Or.inl rfl))
      (pss_one (ps_if (pt_cmpR op_notN (pe_dget hu (pv 0) (pv 3) (fun _ _ => rfl)) pe_non (nomark _)) (pss_one (ps_dput hu (pv 0) (pv 3) (pe_callWay (i := 2) W hr rfl (.inl rfl) (pa_cons (pe_dget hu (pv 0) (pv 3) (fun _ _ => rfl)) pa_nil)) rfl)) pss_nil))), ?_⟩
    have npl : pl ≠ r := fun e => by rw [e, hr0] at hpl; cases hpl
    refine ⟨_, rfl, pl, rfl, ⟨_, SqL.of hpl⟩, ?_⟩
    refine for_list (K := K) (xs := ps.map V.str) (fun i σ H2 => (∃ u, σ = [some (.ref r), some (.ref pl), some (.ref fw), u]) ∧ Same H0 H2 ∧ H2 r = some (.dK (rK (trR g (ps.take i) row))) ∧ ∀ b, b ≠ r → H2 b = H b) ⟨⟨_, rfl⟩, s0, by rw [List.take_zero, trR_nil]; exact hr0, fun b _ => rfl⟩ (fun i σ H2 _ p => SqL.of ((p.2.2.2 pl npl).trans hpl)) ?_ ?_
    · rintro i x σ H2 hx ⟨⟨u, rfl⟩, s2, h2, o2⟩
      obtain ⟨c, hc, rfl⟩ : ∃ c, ps[i]? = some c ∧ x = .str c := by
        rw [List.getElem?_map] at hx
        cases e : ps[i]? with
        | none => rw [e] at hx; cases hx
        | some y => rw [e] at hx; cases hx; exact ⟨y, rfl, rfl⟩
      have ci : c ∉ ps.take i := fun hm => by
        obtain ⟨k, hk, ek⟩ := List.mem_iff_getElem.mp hm
        obtain ⟨hi, ei⟩ := List.getElem?_eq_some_iff.mp hc
        rw [List.length_take] at hk
        rw [List.getElem_take] at ek
        have := (List.getElem_inj psn).mp (ek.trans ei.symm)
        omega
      have nd2 : ((trR g (ps.take i) row).map (·.1)).Nodup := by rw [trR_keys]; exact nd
      have tk : ps.take (i + 1) = ps.take i ++ [c] := by rw [List.take_add_one, hc]; rfl
      rcases pok c (List.mem_of_getElem? hc) with hv | ⟨k, hv, k0, k1⟩
      · refine ⟨_, rfl, _, rfl, r, .non, rfl, .inl ⟨_, .inr c, .inl h2, rfl, (val_rw nd2 (trR_mem hv ci)).symm⟩, rfl, _, rfl, iteC (by simp) ?_⟩
        exact ⟨⟨_, rfl⟩, s2, by rw [tk, trR_non nd hv]; exact h2, o2⟩
      · refine ⟨_, rfl, _, rfl, r, .int k, rfl, .inl ⟨_, .inr c, .inl h2, rfl, (val_rw nd2 (trR_mem hv ci)).symm⟩, rfl, _, rfl, iteB (by simp) ?_⟩
        refine ⟨fw, rfl, _, rfl, _, rfl, r, .int k, rfl, .inl ⟨_, .inr c, .inl h2, rfl, (val_rw nd2 (trR_mem hv ci)).symm⟩, _, rfl, wok H2 k _ s2 k0 k1 ?_⟩
        refine ⟨_, rfl, _, rfl, r, _, rfl, DPut.k (k := .inr c) h2 ?_, ?_⟩
        · unfold rK trR
          rw [List.length_map, List.length_map, sizeLine_eq]
          omega
        · have e := trR_put (g := g) nd hv ci
          have e' : putK (rK (trR g (ps.take i) row)) (.inr c) (.int (g k)) = rK (trR g (ps.take i ++ [c]) row) := e
          rw [e']
          refine ⟨⟨_, rfl⟩, s2.put h0r, by rw [upd_same, tk], fun b hb => (upd_ne hb).trans (o2 b hb)⟩
    · rintro σ H2 ⟨⟨u, rfl⟩, s2, h2, o2⟩
      rw [List.length_map, List.take_length] at h2
      exact q H2 h2 o2
end
end My

namespace L2
open PySem PySem.Spec PyProof.Rows
/-- a comprehension with a test -/
theorem compW_flt {J : It} {g : TG} {tt : TT} {te : TE} {R : Addr → Hp → Prop} {D : Addr} {σ0 : St} {H0 : Hp} (n : Nat) (Pv : Nat → List V → St → Hp → Prop) (hn : n ≤ sizeLine) (h0 : Pv 0 [] σ0 H0) (hD0 : H0 D = some (.lst []))
    (hs : ∀ i σ H ys, i < n → Pv i ys σ H → H D = some (.lst ys) → J.go i H ∧ ∀ x H', J.yld i H x H' → g x σ H' fun σ2 H2 => tt σ2 H2 fun b H3 => if b = true then te σ2 H3 (fun y H4 => H4 D = some (.lst ys) ∧ Pv (i + 1) (ys ++ [y]) σ2 (upd H4 D (.lst (ys ++ [y])))) else H3 D = some (.lst ys) ∧ Pv (i + 1) ys σ2 H3)
    (hd : ∀ σ H ys, Pv n ys σ H → H D = some (.lst ys) → J.stop n H ∧ R D H) : CompW J g tt te R D σ0 H0 := by
  refine ⟨fun i m σ H => m = n - i ∧ i ≤ n ∧ ∃ ys, Pv i ys σ H ∧ H D = some (.lst ys) ∧ ys.length ≤ i, ⟨n, by omega, Nat.zero_le _, [], h0, hD0, Nat.le_refl _⟩, ?_⟩
  rintro i m σ H ⟨rfl, hi, ys, p, hD, hl⟩
  by_cases hlt : i < n
  · obtain ⟨go, st⟩ := hs i σ H ys hlt p hD
    refine .inr ⟨go, fun σ2 y H4 => H4 D = some (.lst ys) ∧ Pv (i + 1) (ys ++ [y]) σ2 (upd H4 D (.lst (ys ++ [y]))), fun σ2 H3 => H3 D = some (.lst ys) ∧ Pv (i + 1) ys σ2 H3, ?_, ?_, st⟩
    · rintro σ2 y H4 ⟨e, p'⟩
      exact ⟨_, e, by omega, n - (i + 1), by omega, rfl, hlt, _, p', upd_same, by simp; omega⟩
    · rintro σ2 H3 ⟨e, p'⟩
      exact ⟨n - (i + 1), by omega, rfl, hlt, _, p', e, by omega⟩
  · have e : i = n := by omega
    subst e
    exact .inl (hd σ H ys p hD)
section
variable {X : Cx}
/-- == of a tuple with a text ahead and a tuple of one text -/
theorem op_eqT1 (hu : X.A.units < cLine) : OpR X (compareOp .Eq) (fun x y H Q => ∃ (a b : Addr) (s t : Str) (xs : List V), x = .ref a ∧ y = .ref b ∧ SqT X.K H a (.str s :: xs) ∧ SqT X.K H b [.str t] ∧ Q (.bl (decide (s = t) && xs.isEmpty)) H) := by
  intro pins st σ H x y v u Q I rx ry h
  obtain ⟨a, b, s, t, xs, rfl, rfl, ha, hb, q⟩ := h
  cases rx
  cases ry
  obtain ⟨its, r1, pl, _⟩ := I.tuple ha
  obtain ⟨jts, r2, ql, _⟩ := I.tuple hb
  cases r1 with
  | @cons _ i1 _ ir ri rr =>
    cases r2 with
    | @cons _ j1 _ jr rj rs =>
      cases rs
      obtain ⟨tk, rfl⟩ := ri
      obtain ⟨tk', rfl⟩ := rj
      have hlen : xs.length = ir.length := rr.length
      have hpl : IsTup st.heap a (Value.str s tk :: ir).toArray := pl
      obtain ⟨oa, ea, ca, na, da⟩ := hpl
      obtain ⟨ob, eb, cb, nb, db⟩ := ql
      refine SeqAt.eq_tupleAt (e := fun _ => decide (s = t)) ⟨oa, ea, ca, na, da⟩ ⟨ob, eb, cb, nb, db⟩ hu (fun j g1 g2 => ?_) ?_
      · have g2' : j < 1 := g2
        have e0 : j = 0 := by omega
        subst e0
        have := SeqAt.EqAt.str_str (A := X.A.in1) (s := st) s tk t tk'
        have e : (s == t) = decide (s = t) := by
          by_cases h : s = t
          · subst h; simp
          · rw [decide_eq_false h]; exact beq_eq_false_iff_ne.mpr h
        rw [e] at this
        exact this
      · refine ⟨.bl _, H, I, rfl, ?_⟩
        have e1 : ((List.range (min (Value.str s tk :: ir).toArray.size [Value.str t tk'].toArray.size)).all (fun _ => decide (s = t)) && (Value.str s tk :: ir).toArray.size == [Value.str t tk'].toArray.size) = (decide (s = t) && xs.isEmpty) := by
          have m1 : min (Value.str s tk :: ir).toArray.size [Value.str t tk'].toArray.size = 1 := by simp
          rw [m1]
          have e2 : ((Value.str s tk :: ir).toArray.size == [Value.str t tk'].toArray.size) = xs.isEmpty := by
            cases xs with
            | nil =>
              have : ir.length = 0 := hlen.symm
              simp [this]
            | cons y ys =>
              have : ir.length = ys.length + 1 := hlen.symm
              simp [this]
          rw [e2]
          simp
        rw [e1]
        exact q
end
def rEqT1 (K : PySem.W.Frag) (x y : V) (H : Hp) (Q : VK) : Prop := ∃ (a b : Addr) (s t : Str) (xs : List V), x = .ref a ∧ y = .ref b ∧ SqT K H a (.str s :: xs) ∧ SqT K H b [.str t] ∧ Q (.bl (decide (s = t) && xs.isEmpty)) H
theorem op_eqT1K {X : Cx} {K : PySem.W.Frag} (hK : X.K = K) (hu : X.A.units < cLine) : OpR X (compareOp .Eq) (rEqT1 K) := by
  subst hK
  exact op_eqT1 hu
end L2
namespace My
open PySem L2 PyProof.Rows
seal L2.PE L2.PT L2.PW L2.PS L2.PSs L2.PA L2.PI L2.PG L2.PGs L2.OpR L2.CallR L2.IxR L2.SlR L2.MtR L2.PIf L2.MtM L2.PC
theorem trR_congr {g : Int → Int} {ps qs : List Str} {row : Rw} (h : ∀ c, c ∈ ps ↔ c ∈ qs) : trR g ps row = trR g qs row := by
  unfold trR
  refine List.map_congr_left fun x _ => ?_
  by_cases e : x.1 ∈ ps
  · rw [if_pos e, if_pos ((h _).mp e)]
  · rw [if_neg e, if_neg fun z => e ((h _).mpr z)]
def rwC (cols : Cl) : Rw := cols.map fun c => (c.1, V.ref c.2)
theorem kvC_rK (cols : Cl) : kvC cols = rK (rwC cols) := by
  unfold kvC rK rwC
  rw [List.map_map]
  rfl
theorem kvC_val {cols : Cl} (nd : (cols.map (·.1)).Nodup) {c : Str × Addr} (h : c ∈ cols) : valV (kvC cols) (.inr c.1) = some (.ref c.2) := by
  rw [kvC_rK]
  refine val_rw ?_ (List.mem_map.mpr ⟨c, h, rfl⟩)
  unfold rwC
  rw [List.map_map]
  exact nd
def KdAt (H : Hp) (kk : Addr → Bool) (a : Addr) : Prop := (kk a = true ∧ H a = some (.tup [.str "key"])) ∨ (kk a = false ∧ ∃ s xs, H a = some (.tup (.str s :: xs)) ∧ s ≠ "key")
theorem KdAt.to {H H' : Hp} {kk : Addr → Bool} {a : Addr} (h : KdAt H kk a) (s : ∀ xs, H a = some (.tup xs) → H' a = some (.tup xs)) : KdAt H' kk a := by
  rcases h with ⟨h1, h2⟩ | ⟨h1, z, xs, h2, h3⟩
  · exact .inl ⟨h1, s _ h2⟩
  · exact .inr ⟨h1, z, xs, s _ h2, h3⟩
def ptr (kk : Addr → Bool) (cols : Cl) : List Str := (cols.filter fun c => kk c.2).map (·.1)
def trP (g : Int → Int) (pt : Str → List Str) (pc : Pc) : Pc := pc.map fun t => (t.1, t.2.map (trR g (pt t.1)))
structure WpOk (H : Hp) (fm p : Addr) (sz : Int) (Ts : List Tb) (pc : Pc) (kk : Addr → Bool) (pt : Str → List Str) (z : Int) : Prop where
  fmA : FormAt H fm sz Ts
  t8 : Ts.length ≤ 8
  nd : (Ts.map (·.name)).Nodup
  pcA : PcAt H p pc
  ok : PcOk H pc
  cn : ∀ T ∈ Ts, (T.cols.map (·.1)).Nodup ∧ T.cols.length ≤ 12 ∧ ∀ c ∈ T.cols, KdAt H kk c.2
  ptA : ∀ T ∈ Ts, ∀ c, c ∈ ptr kk T.cols ↔ c ∈ pt T.name
  at_ : ∀ T ∈ Ts, ∃ (j : Nat) (t : Str × List Rw), pc[j]? = some t ∧ t.1 = T.name ∧ ∀ row ∈ t.2, PtOk z (pt T.name) row
  all : ∀ t ∈ pc, t.1 ∈ Ts.map (·.name)
def spWp (R : Addr → V → Hp → VK → Prop) : Sp := fun vs H Q _ => ∃ (fm p fw : Addr) (sz z : Int) (Ts : List Tb) (pc : Pc) (kk : Addr → Bool) (pt : Str → List Str) (g : Int → Int), vs = [.ref fm, .ref p, .ref fw] ∧ WpOk H fm p sz Ts pc kk pt z ∧ WOk R H fw z g ∧
  ∀ p' H', Same H H' → PcE (cut H H') p' (trP g pt pc) → Q (.ref p') H'
section
variable {P : Program} {w : World} {K : PySem.W.Frag} {mg : Str → Option Value} {base : Heap} {R : Addr → V → Hp → VK → Prop} {j : Nat}
theorem ok_wp {f fC fT fO fI fU : Addr} {fd fdC fdT fdO fdI fdU : FuncData} (F : Fun K "with_pointers" "with_pointers" (top 14) f fd) (B : Bl mg) (W : WayR P w K mg base j R) (DC : Df K mg "copied" (top 9) fC fdC) (DT : Df K mg "tables_of" (top 6) fT fdT) (DO : Df K mg "columns_of" (top 7) fO fdO) (DI : Df K mg "table_in" (top 8) fI fdI) (DU : Df K mg "turn_pointers" (top 15) fU fdU) :
    FnOk P w K mg base CX0 (j + 3) f fd ["form", "piece", "way"] (spWp R) := by
  have sc : FnScope ["form", "piece", "way", "fresh", "table", "columns", "pointers", "row"] ["form", "piece", "way"] (defScope (top 14)) := ⟨rfl, rfl, rfl, by decide +kernel, rfl, by decide +kernel, by decide +kernel⟩
  have GC : FnOk P w K mg base CX0 1 fC fdC ["piece"] spCopied := ok_copied DC.fn B
  have bC := DC.fn.binds (ps := ["piece"]) fun _ _ _ _ _ _ us hl => by obtain ⟨v0, rfl⟩ := L2.ln1 hl; rfl
  have GT : FnOk P w K mg base CX0 1 fT fdT ["form"] spTabs := ok_tabs DT.fn
  have bT := DT.fn.binds (ps := ["form"]) fun _ _ _ _ _ _ us hl => by obtain ⟨v0, rfl⟩ := L2.ln1 hl; rfl
  have GO : FnOk P w K mg base CX0 2 fO fdO ["form", "table"] spColsOf := ok_colsOf DO.fn B DI
  have bO := DO.fn.binds (ps := ["form", "table"]) fun _ _ _ _ _ _ us hl => by obtain ⟨v0, v1, rfl⟩ := L2.ln2 hl; rfl
  have GU : FnOk P w K mg base CX0 (j + 1) fU fdU ["row", "pointers", "way"] (spTu R) := ok_tu DU.fn W
  have bU := DU.fn.binds (ps := ["row", "pointers", "way"]) fun _ _ _ _ _ _ us hl => by obtain ⟨v0, v1, v2, rfl⟩ := L2.ln3 hl; rfl
  refine F.ok sc (fun vs H Q E h => ?_) (fun cdv A outer s H vs Q E hr h => ?_)
  · obtain ⟨fm, p, fw, sz, z, Ts, pc, kk, pt, g, rfl, _⟩ := h
    rfl
  · obtain ⟨fm, p, fw, sz, z, Ts, pc, kk, pt, g, rfl, O, wok, q⟩ := h
    have hu : (A.deeper (envOfC "with_pointers" (defScope (top 14)) s.heap.objs.size f cdv)).units + 1 < cLine := hu_of hr
    have hr1 : Room 1 _ := hr.mono (by omega)
    have hr2 : Room 2 _ := hr.mono (by omega)
    have hrU : Room (j + 1) _ := hr.mono (by omega)
    refine ⟨_, pss_cons (ps_set (i := 3) sc.nd rfl (Or.inl rfl) (pe_call GC hr1 (by rfl) DC.mg DC.fn.kp bC .nil pass0 (pa_cons (pv 1) pa_nil)))
      (pss_cons (ps_for PassesOwn.never rfl (pi_list (pe_call GT hr1 (by rfl) DT.mg DT.fn.kp bT .nil pass0 (pa_cons (pv 0) pa_nil))) (pg_name (i := 4) sc.nd rfl (Or.inl rfl))
        (pss_cons (ps_set (i := 5) sc.nd rfl (Or.inr rfl) (pe_call GO hr2 (by rfl) DO.mg DO.fn.kp bO .nil pass0 (pa_cons (pv 0) (pa_cons (pv 4) pa_nil))))
        (pss_cons (ps_frzR (ps_comp (i := 6) (osc := defScope (top 14)) (N0 := ["form", "piece", "way", "fresh", "table", "columns", "pointers", "row"]) (xs := ["column"]) (fr := [5]) ⟨rfl, by decide +kernel, by decide +kernel, by decide +kernel, (fun j hj => by
              have e : j = 5 := by simpa using hj
              subst e
              exact ⟨_, rfl, by decide +kernel⟩), by decide +kernel⟩ rfl rfl rfl (pi_dict (pv 5))
            (fun s H fp => pg_name (i := 0) (show (["column", "columns"] : List Str).Nodup by decide +kernel) rfl (Or.inl rfl)) (fun s H fp => pif_one (pt_cmpR (op_eqT1K (K := K) rfl (Nat.lt_of_succ_lt hu)) (pe_dget hu (pv 1) (pv 0) (fun _ _ => rfl)) (pe_tup (pa_cons pe_str pa_nil)) (nomark _)))
            (fun s H fp => pv 0) sc.nd rfl (Or.inl rfl)))
        (pss_one (ps_for PassesOwn.never rfl (pi_list (pe_dget hu (pv 3) (pv 4) (fun _ _ => rfl))) (pg_name (i := 7) sc.nd rfl (Or.inl rfl))
          (pss_one (ps_expr (pe_call GU hrU (by rfl) DU.mg DU.fn.kp bU .nil pass0 (pa_cons (pv 7) (pa_cons (pv 6) (pa_cons (pv 2) pa_nil))))))))))) 
      (pss_one (ps_ret (pv 3)))), ?_⟩
    refine ⟨_, rfl, p, pc, rfl, O.pcA, O.ok, fun p' H1 s1 d1 => ?_⟩
    obtain ⟨ls, ow, a1, a2, a3⟩ := d1
    refine ⟨_, rfl, fm, sz, Ts, rfl, O.fmA.same s1, O.t8, fun tl Ht ntl st htl => ?_⟩
    have tlH : H tl = none := none_of s1 ntl
    refine ⟨tl, rfl, ⟨_, SqL.of htl⟩, ?_⟩
    refine for_list (K := K) (xs := (Ts.map (·.name)).map V.str) (fun i σ H2 => (∃ u4 u5 u6 u7, σ = [some (.ref fm), some (.ref p), some (.ref fw), some (.ref p'), u4, u5, u6, u7]) ∧ Same H H2 ∧ H2 tl = some (.lst ((Ts.map (·.name)).map V.str)) ∧ cut H H2 p' = some (.dK (zK (pc.map (·.1)) ls)) ∧ ∀ (j : Nat) (l : Addr) (t : Str × List Rw), ls[j]? = some l → pc[j]? = some t → RowsO (cut H H2) ow j l (if t.1 ∈ (Ts.map (·.name)).take i then t.2.map (trR g (pt t.1)) else t.2)) ⟨⟨_, _, _, _, rfl⟩, s1.trans st, htl, cut_up st _ _ a1, fun j l t h1 h2 => ?_⟩ (fun i σ H2 _ q => SqL.of q.2.2.1) ?_ ?_
    · rw [List.take_zero, if_neg (by simp)]
      exact (a3 j l t h1 h2).same (cut_up st)
    · rintro i x σ H2 hx ⟨⟨u4, u5, u6, u7, rfl⟩, s2, htl2, hp2, hrows⟩
      obtain ⟨T, hT, rfl⟩ : ∃ T, Ts[i]? = some T ∧ x = .str T.name := by
        rw [List.getElem?_map, List.getElem?_map] at hx
        cases e : Ts[i]? with
        | none => rw [e] at hx; cases hx
        | some y => rw [e] at hx; cases hx; exact ⟨y, rfl, rfl⟩
      have hTm := List.mem_of_getElem? hT
      have hni : (Ts.map (·.name))[i]? = some T.name := by rw [List.getElem?_map, hT]; rfl
      have nti : T.name ∉ (Ts.map (·.name)).take i := fun hm => by
        obtain ⟨k, hk, ek⟩ := List.mem_iff_getElem.mp hm
        obtain ⟨hi, ei⟩ := List.getElem?_eq_some_iff.mp hni
        rw [List.length_take] at hk
        rw [List.getElem_take] at ek
        have := (List.getElem_inj O.nd).mp (ek.trans ei.symm)
        omega
      have tk : (Ts.map (·.name)).take (i + 1) = (Ts.map (·.name)).take i ++ [T.name] := by rw [List.take_add_one, hni]; rfl
      obtain ⟨cnd, c12, ckd⟩ := O.cn T hTm
      obtain ⟨j0, t0, hj0, et0, hpt⟩ := O.at_ T hTm
      refine ⟨_, rfl, _, rfl, fm, sz, Ts, T, rfl, O.fmA.same s2, O.nd, hTm, cnd, c12, fun cd Hb ncd sb hcd => ?_⟩
      refine ⟨cd, kvC T.cols, .inl hcd, (fun o ho => by rw [hcd] at ho; cases ho), fun _ o => ?_⟩
      have bk : ∀ {G : Hp}, Same (upd Hb cd (.frz o (.dK (kvC T.cols)))) G → Same Hb (upd G cd (.dK (kvC T.cols))) := fun {G} sg => back_same hcd sg
      have ef := upd_same (H := Hb) (a := cd) (o := .frz o (.dK (kvC T.cols)))
      have kdf : ∀ c ∈ T.cols, KdAt (upd Hb cd (.frz o (.dK (kvC T.cols)))) kk c.2 := fun c hc => (ckd c hc).to fun xs e => by
        have e1 := sb _ _ (s2 _ _ e)
        exact (upd_ne fun z => by rw [z, hcd] at e1; cases e1).trans e1
      generalize upd Hb cd (.frz o (.dK (kvC T.cols))) = Hf at *
      have kl : (kvC T.cols).length = T.cols.length := by unfold kvC; rw [List.length_map]
      refine ⟨_, rfl, cd, o, _, rfl, ef, fun pl hpl => ?_⟩
      refine compW_flt T.cols.length (fun i ys σ' Hc => (∃ t, σ' = [t, some (.ref cd)]) ∧ Same Hf Hc ∧ ys = (ptr kk (T.cols.take i)).map V.str) (by rw [sizeLine_eq]; omega) ⟨⟨_, rfl⟩, Same.upd hpl, rfl⟩ upd_same ?_ ?_
      · rintro m σ' Hc ys hm ⟨⟨t, rfl⟩, sm, rfl⟩ hDc
        refine ⟨⟨by rw [kl]; exact hm, sm _ _ ef⟩, ?_⟩
        rintro x H' ⟨rfl, k, v, hkv, rfl⟩
        have hcm : T.cols[m]? = some T.cols[m] := List.getElem?_eq_getElem hm
        have hcs : T.cols[m] ∈ T.cols := List.getElem_mem hm
        have ekv : (k, v) = ((.inr T.cols[m].1 : Key), V.ref T.cols[m].2) := by
          unfold kvC at hkv
          rw [List.getElem?_map, hcm] at hkv
          exact (Option.some.inj hkv).symm
        cases ekv
        have tkm : ptr kk (T.cols.take (m + 1)) = ptr kk (T.cols.take m) ++ (if kk T.cols[m].2 = true then [T.cols[m].1] else []) := by
          unfold ptr
          rw [List.take_add_one, hcm, Option.toList_some, List.filter_append, List.map_append]
          by_cases hk : kk T.cols[m].2 = true
          · rw [if_pos hk, List.filter_cons_of_pos (p := fun c : Str × Addr => kk c.2) hk]
            rfl
          · rw [if_neg hk, List.filter_cons_of_neg (p := fun c : Str × Addr => kk c.2) hk]
            rfl
        refine ⟨_, rfl, _, rfl, cd, .ref T.cols[m].2, rfl, .inl ⟨_, .inr T.cols[m].1, .inr ⟨o, sm _ _ ef⟩, rfl, (kvC_val cnd hcs).symm⟩, (show 1 ≤ sizeLine by decide), fun tp htp => ?_⟩
        have TT := Same.upd (o := .tup [.str "key"]) htp
        rcases kdf _ hcs with ⟨hk, ek⟩ | ⟨hk, so, xs, ek, nk⟩
        · refine ⟨_, tp, "key", "key", [], rfl, rfl, SqT.of (TT _ _ (sm _ _ ek)), SqT.of upd_same, _, rfl, iteB rfl ?_⟩
          refine ⟨_, rfl, TT _ _ hDc, ⟨_, rfl⟩, same_put (sm.trans TT) hpl, ?_⟩
          rw [tkm, if_pos hk, List.map_append]
          rfl
        · refine ⟨_, tp, so, "key", xs, rfl, rfl, SqT.of (TT _ _ (sm _ _ ek)), SqT.of upd_same, _, rfl, iteC (by rw [decide_eq_false nk]; rfl) ?_⟩
          refine ⟨TT _ _ hDc, ⟨_, rfl⟩, sm.trans TT, ?_⟩
          rw [tkm, if_neg (by rw [hk]; decide), List.append_nil]
      rintro σ' Hc ys ⟨_, sm, rfl⟩ hDc
      refine ⟨⟨by rw [kl]; exact Nat.le_refl _, sm _ _ ef⟩, sm _ _ ef, ?_⟩
      rw [List.take_length] at hDc
      have sd := sb.trans (bk sm)
      have npc : pl ≠ cd := fun e => by rw [e, ef] at hpl; cases hpl
      have hpl2 : upd Hc cd (.dK (kvC T.cols)) pl = some (.lst ((ptr kk T.cols).map V.str)) := (upd_ne npc).trans hDc
      have plb : Hb pl = none := by
        cases e : Hb pl with
        | none => rfl
        | some u =>
          have := bk (Same.refl Hf) _ _ e
          rw [upd_ne npc, hpl] at this
          cases this
      generalize upd Hc cd (.dK (kvC T.cols)) = Hd at *
      have sHd := s2.trans sd
      have plH : H pl = none := none_of (s2.trans sb) plb
      have hjp : j0 < pc.length := (List.getElem?_eq_some_iff.mp hj0).1
      have hjl : j0 < ls.length := by omega
      have r0 := hrows j0 ls[j0] t0 (List.getElem?_eq_getElem hjl) hj0
      rw [et0, if_neg nti] at r0
      obtain ⟨rs, b1, b2, b3, b4, b5⟩ := r0
      have isd : ∀ r ∈ rs, ∃ row, row ∈ t0.2 ∧ cut H H2 r = some (.dK (rK row)) := fun r hr' => by
        obtain ⟨j', hj'⟩ := List.getElem?_of_mem hr'
        have hjt : j' < t0.2.length := by have := (List.getElem?_eq_some_iff.mp hj').1; omega
        exact ⟨_, List.getElem_mem hjt, b4 j' r _ hj' (List.getElem?_eq_getElem hjt)⟩
      have nls : ∀ b xs, Hd b = some (.lst xs) → b ∉ rs := fun b xs e hm => by
        obtain ⟨row, _, e'⟩ := isd _ hm
        rw [sd _ _ (cut_sub _ _ e')] at e
        cases e
      have npr : p' ∉ rs := fun hm => by
        obtain ⟨row, hrow, e⟩ := isd p' hm
        rw [hp2] at e
        injection e with x1
        injection x1 with x2
        have hm' : ((.inr t0.1 : Key), V.ref ls[j0]) ∈ zK (pc.map (·.1)) ls := zK_mem (j := j0) (by rw [List.getElem?_map, hj0]; rfl) (List.getElem?_eq_getElem hjl)
        rw [x2] at hm'
        exact rK_flat (O.ok.rw_ t0 (List.mem_of_getElem? hj0) row hrow) (fun xs h => by rw [cut_new b1] at h; cases h) hm'
      have vz : valV (zK (pc.map (·.1)) ls) (.inr T.name) = some (.ref ls[j0]) := zw_val O.ok.nd (by rw [List.getElem?_map, hj0, ← et0]; rfl) (by rw [List.getElem?_map, List.getElem?_eq_getElem hjl]; rfl)
      have pcm : ∀ c, c ∈ ptr kk T.cols ↔ c ∈ pt T.name := O.ptA T hTm
      have pnd : (ptr kk T.cols).Nodup := by
        unfold ptr
        exact cnd.sublist ((List.filter_sublist (p := fun c : Str × Addr => kk c.2)).map _)
      have rl1000 := O.ok.rl t0 (List.mem_of_getElem? hj0)
      refine ⟨_, rfl, _, rfl, p', .ref ls[j0], rfl, .inl ⟨_, .inr T.name, .inl (sd _ _ (cut_sub _ _ hp2)), rfl, vz.symm⟩, ls[j0], rfl, ⟨_, SqL.of (sd _ _ (cut_sub _ _ b1))⟩, ?_⟩
      refine for_list (K := K) (xs := rs.map V.ref) (fun m σ H3 => (∃ u7, σ = [some (.ref fm), some (.ref p), some (.ref fw), some (.ref p'), some (.str T.name), some (.ref cd), some (.ref pl), u7]) ∧ Same H H3 ∧ (∀ b o, cut H Hd b = some o → b ∉ rs → H3 b = some o) ∧ ∀ (j' : Nat) (r : Addr) (row : Rw), rs[j']? = some r → t0.2[j']? = some row → H3 r = some (.dK (rK (if j' < m then trR g (ptr kk T.cols) row else row)))) ⟨⟨_, rfl⟩, sHd, fun b o e _ => cut_sub _ _ e, fun j' r row h1 h2 => sd _ _ (cut_sub _ _ (b4 j' r row h1 h2))⟩ (fun m σ H3 _ q => SqL.of (q.2.2.1 _ _ (cut_up sd _ _ b1) (nls _ _ (sd _ _ (cut_sub _ _ b1))))) ?_ ?_
      · rintro m y σ H3 hy ⟨⟨u7', rfl⟩, s3, kp, rq⟩
        have hmr : m < rs.length := by have := (List.getElem?_eq_some_iff.mp hy).1; rw [List.length_map] at this; exact this
        have hmt : m < t0.2.length := by omega
        rw [List.getElem?_map, List.getElem?_eq_getElem hmr] at hy
        cases hy
        have er := rq m rs[m] t0.2[m] (List.getElem?_eq_getElem hmr) (List.getElem?_eq_getElem hmt)
        rw [if_neg (Nat.lt_irrefl m)] at er
        have rwk := O.ok.rw_ t0 (List.mem_of_getElem? hj0) t0.2[m] (List.getElem_mem hmt)
        have rH : H rs[m] = none := cut_new (b4 m rs[m] t0.2[m] (List.getElem?_eq_getElem hmr) (List.getElem?_eq_getElem hmt))
        refine ⟨_, rfl, _, rfl, _, rfl, H, rs[m], pl, fw, z, g, ptr kk T.cols, t0.2[m], rfl, s3, rH, wok, er, kp _ _ (cut_at plH hpl2) (nls _ _ hpl2), pnd, rwk.1.1, rwk.1.2, (fun c hc => hpt _ (List.getElem_mem hmt) c ((pcm c).mp hc)), fun H4 e4 o4 => ?_⟩
        refine ⟨⟨_, rfl⟩, fun b o e => ?_, fun b o e hb => ?_, fun j' r row h1 h2 => ?_⟩
        · have hb : b ≠ rs[m] := fun z => by rw [z, rH] at e; cases e
          rw [o4 b hb]
          exact s3 _ _ e
        · rw [o4 b fun z => hb (by rw [z]; exact List.getElem_mem hmr)]
          exact kp b o e hb
        · by_cases hj' : j' = m
          · subst hj'
            rw [List.getElem?_eq_getElem hmr] at h1
            rw [List.getElem?_eq_getElem hmt] at h2
            cases h1
            cases h2
            rw [e4, if_pos (Nat.lt_succ_self _)]
          · have nr' : r ≠ rs[m] := fun e => by
              obtain ⟨h1', e1⟩ := List.getElem?_eq_some_iff.mp h1
              exact hj' ((List.getElem_inj b3).mp (e1.trans e))
            rw [o4 r nr', rq j' r row h1 h2]
            have : (j' < m + 1) ↔ j' < m := by omega
            by_cases hlt : j' < m
            · rw [if_pos hlt, if_pos (this.mpr hlt)]
            · rw [if_neg hlt, if_neg fun z => hlt (this.mp z)]
      · rintro σ H3 ⟨⟨u7', rfl⟩, s3, kp, rq⟩
        rw [List.length_map] at rq
        refine ⟨⟨_, _, _, _, rfl⟩, s3, kp _ _ (cut_at tlH (sd _ _ htl2)) (nls _ _ (sd _ _ htl2)), cut_at (cut_new hp2) (kp _ _ (cut_up sd _ _ hp2) npr), fun j l t h1 h2 => ?_⟩
        rw [tk]
        by_cases hj : j = j0
        · subst hj
          rw [hj0] at h2
          cases h2
          rw [List.getElem?_eq_getElem hjl] at h1
          cases h1
          rw [if_pos (by rw [et0]; simp), et0]
          refine ⟨rs, cut_at (cut_new b1) (kp _ _ (cut_up sd _ _ b1) (nls _ _ (sd _ _ (cut_sub _ _ b1)))), by rw [List.length_map]; exact b2, b3, fun j' r row c1 c2 => ?_, b5⟩
          rw [List.getElem?_map] at c2
          cases e : t0.2[j']? with
          | none => rw [e] at c2; cases c2
          | some row0 =>
            rw [e] at c2
            cases c2
            have := rq j' r row0 c1 e
            rw [if_pos (List.getElem?_eq_some_iff.mp c1).1, trR_congr pcm] at this
            exact cut_at (cut_new (b4 j' r row0 c1 e)) this
        · have tn : t.1 ≠ T.name := fun e => hj (by
            obtain ⟨h2', e2⟩ := List.getElem?_eq_some_iff.mp h2
            obtain ⟨h3', e3⟩ := List.getElem?_eq_some_iff.mp hj0
            refine (List.getElem_inj (h₀ := by rw [List.length_map]; exact h2') (h₁ := by rw [List.length_map]; exact h3') O.ok.nd).mp ?_
            rw [List.getElem_map, List.getElem_map, e2, e3, et0, e])
          have old := hrows j l t h1 h2
          have em : (t.1 ∈ (Ts.map (·.name)).take i ++ [T.name]) ↔ t.1 ∈ (Ts.map (·.name)).take i := by simp [tn]
          have eif : (if t.1 ∈ (Ts.map (·.name)).take i ++ [T.name] then t.2.map (trR g (pt t.1)) else t.2) = if t.1 ∈ (Ts.map (·.name)).take i then t.2.map (trR g (pt t.1)) else t.2 := by
            by_cases hh : t.1 ∈ (Ts.map (·.name)).take i
            · rw [if_pos hh, if_pos (em.mpr hh)]
            · rw [if_neg hh, if_neg fun z => hh (em.mp z)]
          rw [eif]
          obtain ⟨qs, c1, c2, c3, c4, c5⟩ := old
          refine ⟨qs, cut_at (cut_new c1) (kp _ _ (cut_up sd _ _ c1) (nls _ _ (sd _ _ (cut_sub _ _ c1)))), c2, c3, fun j' r row x1 x2 => ?_, c5⟩
          have x3 := c4 j' r row x1 x2
          refine cut_at (cut_new x3) (kp _ _ (cut_up sd _ _ x3) fun hm => hj ?_)
          rw [← c5 r (List.mem_of_getElem? x1), b5 r hm]
    · rintro σ H2 ⟨⟨u4, u5, u6, u7, rfl⟩, s2, htl2, hp2, hrows⟩
      rw [List.length_map, List.length_map] at hrows
      have tall : (Ts.map (·.name)).take Ts.length = Ts.map (·.name) := List.take_of_length_le (by rw [List.length_map]; exact Nat.le_refl _)
      rw [tall] at hrows
      have ek : (trP g pt pc).map (·.1) = pc.map (·.1) := by
        unfold trP
        rw [List.map_map]
        rfl
      refine ⟨_, rfl, q p' H2 s2 ⟨ls, ow, by rw [ek]; exact hp2, by unfold trP; rw [List.length_map]; exact a2, fun j l t h1 h2 => ?_⟩⟩
      unfold trP at h2
      rw [List.getElem?_map] at h2
      cases e : pc[j]? with
      | none => rw [e] at h2; cases h2
      | some t' =>
        rw [e] at h2
        cases h2
        have := hrows j l t' h1 e
        rw [if_pos (O.all t' (List.mem_of_getElem? e))] at this
        exact this
end
end My

namespace L2
open PySem PySem.Spec PyProof.Rows
structure FunC (K : PySem.W.Frag) (x qual : Str) (st : Stmt) (f : Addr) (fd : FuncData) (c : Addr) : Prop where
  ex : ∃ (oc : Value) (od : Option Addr) (kV doc pm : Value) (an : Option Addr) (ct : Value) (osl : Array (Option Value)),
    fd = PySem.W.fnOf x qual (defArgs st) (defBody st) (defScope st) .none kV doc pm an (.ref c) ct ∧ K.lookup f = some ⟨oc, od, .func fd, osl⟩ ∧ PySem.W.codeIn K (.ref c) qual = true
  kp : PySem.W.keepIn K (.ref f) = true
section
variable {P : Program} {w : World} {K : PySem.W.Frag} {mg : Str → Option Value} {base : Heap}
theorem FunC.fn {x qual : Str} {st : Stmt} {f c : Addr} {fd : FuncData} (F : FunC K x qual st f fd c) : Fun K x qual st f fd := by
  obtain ⟨⟨oc, od, kV, doc, pm, an, ct, osl, h1, h2, h3⟩, kp⟩ := F
  exact ⟨⟨oc, od, kV, doc, pm, an, .ref c, ct, osl, h1, h2, h3⟩, kp⟩
theorem FunC.ok {x qual : Str} {st : Stmt} {f c : Addr} {fd : FuncData} {N ps : List Str} {k : Nat} {sp : Sp} (F : FunC K x qual st f fd c) (S : FnScope N ps (defScope st)) (len : ∀ vs H Q E, sp vs H Q E → vs.length = ps.length)
    (hbody : ∀ (A : Around) (outer : List Env) (s : Shared) (H : Hp) (vs : List V) (Q : VK) (E : XK), Room k (A.deeper (envOfC qual (defScope st) s.heap.objs.size f (.ref c))) → sp vs H Q E →
      ∃ t, PSs (cxOf CX0 P w K mg base N qual (defScope st) f (.ref c) A outer s H E).nox (defBody st) t ∧ t { nx := fun _ H' => Q .non H', rt := Q } (start N vs) H) : FnOk P w K mg base CX0 (k + 1) f fd ps sp := by
  obtain ⟨oc, od, kV, doc, pm, an, ct, osl, rfl, lk, hcd⟩ := F.ex
  refine fn_of lk hcd S len fun A outer s H vs Q E hr hsp => ?_
  obtain ⟨t, h, q⟩ := hbody A outer s H vs Q E hr hsp
  exact ⟨t, h.nox, q⟩
end
end L2
namespace My
open PySem L2 PyProof.Rows
seal L2.PE L2.PT L2.PW L2.PS L2.PSs L2.PA L2.PI L2.PG L2.PGs L2.OpR L2.CallR L2.IxR L2.SlR L2.MtR L2.PIf L2.MtM L2.PC
def TabOk (P : Addr) (pos : Pos) (q : Str) (H : Hp) : Prop := H P = some (.tbl #[]) ∨ ∃ c', H P = some (.tbl #[rawInt pos.line, rawInt pos.col, .ref c']) ∧ H c' = some (.ext (codeP c' q))
theorem TabOk.same {P : Addr} {pos : Pos} {q : Str} {H H' : Hp} (h : TabOk P pos q H) (s : Same H H') : TabOk P pos q H' := by
  rcases h with h | ⟨c', h1, h2⟩
  · exact .inl (s _ _ h)
  · exact .inr ⟨c', s _ _ h1, s _ _ h2⟩
theorem lam_madeC {P : Addr} {pos : Pos} {q : Str} {params : Arguments} {body : Expr} {scope : Scope} {pm : Value} {clos : List (Str × Addr)} {σ : L2.St} {H : Hp} {Q : VK} (h : TabOk P pos q H)
    (hq : ∀ f c' H', (∀ a, a ≠ P → H a ≠ none → H' a = H a) → TabOk P pos q H' → H' f = some (.ext (lamC f q params body scope clos pm c')) → H' c' = some (.ext (codeP c' q)) → Q (.ref f) H') : tLamC P pos q params body scope clos pm σ H Q := by
  rcases h with h | ⟨c', h1, h2⟩
  · refine ⟨#[], h, trivial, .inl ⟨rfl, fun c' f n1 n2 n3 n4 n5 => ?_⟩⟩
    have fr : ∀ a, a ≠ P → H a ≠ none → (L2.upd (L2.upd (L2.upd H P (.tbl (#[] ++ #[rawInt pos.line, rawInt pos.col, .ref c']))) c' (.ext (codeP c' q))) f (.ext (lamC f q params body scope clos pm c'))) a = H a := fun a n n0 => by
      rw [upd_ne (fun e => n0 (by rw [e]; exact n2)), upd_ne (fun e => n0 (by rw [e]; exact n1)), upd_ne n]
    refine hq f c' _ fr ?_ upd_same (by rw [upd_ne n3]; exact upd_same)
    · refine .inr ⟨c', ?_, by rw [upd_ne n3]; exact upd_same⟩
      rw [upd_ne (Ne.symm n5), upd_ne (Ne.symm n4)]
      exact upd_same
  · refine ⟨_, h1, trivial, .inr ⟨c', by simp [codeAmong, rawInt], fun f n => ?_⟩⟩
    have S := Same.upd (o := .ext (lamC f q params body scope clos pm c')) n
    exact hq f c' _ (fun a _ n0 => upd_ne fun e => n0 (by rw [e]; exact n)) (.inr ⟨c', S _ _ h1, S _ _ h2⟩) upd_same (S _ _ h2)
theorem dvd_of_mod {t f z : Int} (h : t * f % z = 1 % z) : ∃ m, t * f = 1 + z * m := by
  have h1 : (t * f - 1) % z = 0 := Int.emod_eq_emod_iff_emod_sub_eq_zero.mp h
  obtain ⟨m, hm⟩ := Int.dvd_of_emod_eq_zero h1
  exact ⟨m, by omega⟩
theorem mod_is {x z k c : Int} (e : x = k + z * c) (k0 : 0 ≤ k) (k1 : k < z) : x % z = k := by
  rw [e, Int.add_mul_emod_self_left]
  exact Int.emod_eq_of_lt k0 k1
theorem kf_kb {t p z f k : Int} (hf : t * f % z = 1 % z) (k0 : 0 ≤ k) (k1 : k < z) : ((t * k + p) % z - p) * f % z = k := by
  obtain ⟨m, hm⟩ := dvd_of_mod hf
  have e := Int.emod_add_mul_ediv (t * k + p) z
  generalize (t * k + p) % z = r at e
  generalize (t * k + p) / z = q at e
  refine mod_is (c := k * m - q * f) ?_ k0 k1
  grind
theorem kf_inj {t p z f i j : Int} (hf : t * f % z = 1 % z) (i0 : 0 ≤ i) (i1 : i < z) (j0 : 0 ≤ j) (j1 : j < z) (e : (t * i + p) % z = (t * j + p) % z) : i = j := by
  rw [← kf_kb (p := p) hf i0 i1, ← kf_kb (p := p) hf j0 j1, e]
theorem bez : ∀ m n : Nat, ∃ a b : Int, ((Nat.gcd m n : Nat) : Int) = a * m + b * n := fun m n => by
  induction m, n using Nat.gcd.induction with
  | H0 n => exact ⟨0, 1, by simp⟩
  | H1 m n hm ih =>
    obtain ⟨a, b, e⟩ := ih
    refine ⟨b - a * (n / m : Nat), a, ?_⟩
    rw [Nat.gcd_rec, e]
    have h : ((n % m : Nat) : Int) = n - m * (n / m : Nat) := by
      have := Nat.mod_add_div n m
      have h2 : ((n % m + m * (n / m) : Nat) : Int) = n := by rw [this]
      rw [Int.natCast_add, Int.natCast_mul] at h2
      omega
    rw [h, Int.mul_sub, Int.sub_mul, Int.mul_assoc, Int.mul_comm (m : Int) (n / m : Nat)]
    omega
theorem inv_ex {t z : Int} (t0 : 0 ≤ t) (z0 : 0 < z) (g : Int.gcd t z = 1) : ∃ f, 0 ≤ f ∧ f < z ∧ t * f % z = 1 % z := by
  obtain ⟨m, rfl⟩ := Int.eq_ofNat_of_zero_le t0
  obtain ⟨n, rfl⟩ := Int.eq_ofNat_of_zero_le (Int.le_of_lt z0)
  obtain ⟨a, b, e⟩ := bez m n
  have g' : Nat.gcd m n = 1 := g
  rw [g'] at e
  refine ⟨a % n, Int.emod_nonneg _ (by omega), Int.emod_lt_of_pos _ z0, inv_end ⟨-b, ?_⟩⟩
  have e' : (1 : Int) = a * m + b * n := e
  rw [Int.mul_neg, Int.mul_comm (n : Int) b, Int.mul_comm (m : Int) a]
  omega
theorem inv_un {t z f f' : Int} (h : t * f % z = 1 % z) (h' : t * f' % z = 1 % z) (a0 : 0 ≤ f) (a1 : f < z) (b0 : 0 ≤ f') (b1 : f' < z) : f = f' := kf_inj (p := 0) h a0 a1 b0 b1 (by rw [Int.add_zero, Int.add_zero, h, h'])
/-! ### the lambdas -/
def lamIn : Stmt → Expr
  | .Return (some (.Tuple (.Call _ [_, _, e] _ _ :: _) _ _)) _ => e
  | _ => .Constant .none 0 ⟨0, 0, 0, 0⟩
def lamPos : Expr → Pos
  | .Lambda _ _ _ p => p
  | _ => ⟨0, 0, 0, 0⟩
def lamArgs : Expr → Arguments
  | .Lambda a _ _ _ => a
  | _ => defArgs (top 14)
def lamBody : Expr → Expr
  | .Lambda _ b _ _ => b
  | e => e
def lamScope : Expr → Scope
  | .Lambda _ _ s _ => s
  | _ => defScope (top 14)
def lF : Expr := lamIn ((defBody (inClass (top 13) 3)).getD 0 (.Pass ⟨0, 0, 0, 0⟩))
def lB : Expr := lamIn ((defBody (inClass (top 13) 4)).getD 0 (.Pass ⟨0, 0, 0, 0⟩))
def qF : Str := "Renumber.forth.<locals>.<lambda>"
def qB : Str := "Renumber.back.<locals>.<lambda>"
def tKF (CR : Addr) : TE := tMeth CR "key_forth" (spKF CR) [] E0 (tVar 1) (tCons (tVar 0) tNil)
def tKB (CR : Addr) : TE := tMeth CR "key_back" (spKB CR) [] E0 (tVar 1) (tCons (tVar 0) tNil)
def RL (q : Str) (l : Expr) (pm : Value) (t : TE) (f : Addr) (v : V) (H : Hp) (Q : VK) : Prop := ∃ (c c' a : Addr) (o : Obj), H f = some (.ext (lamC f q (lamArgs l) (lamBody l) (lamScope l) [("self", c)] pm c')) ∧ H c' = some (.ext (codeP c' q)) ∧ H c = some (.ext (atP c o)) ∧ o.data = .cell (some (.ref a)) ∧
      t [some v, some (.ref a)] (del H c) fun z H' => Q z (upd H' c (.ext (atP c o)))
def RR (CR : Addr) (pm : Value) (f : Addr) (v : V) (H : Hp) (Q : VK) : Prop := RL qF lF pm (tKF CR) f v H Q ∨ RL qB lB pm (tKB CR) f v H Q
section
variable {P : Program} {w : World} {K : PySem.W.Frag} {mg : Str → Option Value} {base : Heap} {CR : Addr}
theorem way_ok {fF fB fI : Addr} {fdF fdB fdI : FuncData} (T : Tx3 K mg CR) (FF : Fun K "key_forth" "Renumber.key_forth" (inClass (top 13) 5) fF fdF) (MF : Meth K CR "key_forth" fF) (FB : Fun K "key_back" "Renumber.key_back" (inClass (top 13) 6) fB fdB) (MB : Meth K CR "key_back" fB) (DI : Df K mg "inverse" (top 16) fI fdI) {pm : Value} :
    WayR P w K mg base 3 (RR CR pm) := by
  have GF : FnOk P w K mg base CX0 1 fF fdF ["self", "key"] (spKF CR) := ok_kf FF T
  have GB : FnOk P w K mg base CX0 2 fB fdB ["self", "key"] (spKB CR) := ok_kb FB T DI
  have bF := FF.binds (ps := ["self", "key"]) fun _ _ _ _ _ _ us hl => by obtain ⟨v0, v1, rfl⟩ := L2.ln2 hl; rfl
  have bB := FB.binds (ps := ["self", "key"]) fun _ _ _ _ _ _ us hl => by obtain ⟨v0, v1, rfl⟩ := L2.ln2 hl; rfl
  have SF : LamScope "key" "self" (lamScope lF) := ⟨rfl, rfl, rfl, by decide +kernel, rfl, rfl, by decide +kernel, by decide +kernel⟩
  have SB : LamScope "key" "self" (lamScope lB) := ⟨rfl, rfl, rfl, by decide +kernel, rfl, rfl, by decide +kernel, by decide +kernel⟩
  refine WayR.or (WayR.mono (j := 2) ?_ (by decide)) ?_
  · exact wayR_lam (t := tKF CR) SF (fun _ _ _ _ => rfl) fun A outer s H f c c' hr => pe_meth (pv 1) T.cl MF GF hr bF .nil pass0 (pa_cons (pv 0) pa_nil)
  · exact wayR_lam (t := tKB CR) SB (fun _ _ _ _ => rfl) fun A outer s H f c c' hr => pe_meth (pv 1) T.cl MB GB hr bB .nil pass0 (pa_cons (pv 0) pa_nil)
end
end My

namespace My
open PySem L2 PyProof.Rows
seal L2.PE L2.PT L2.PW L2.PS L2.PSs L2.PA L2.PI L2.PG L2.PGs L2.OpR L2.CallR L2.IxR L2.SlR L2.MtR L2.PIf L2.MtM L2.PC
/-- as it was, but at P -/
def Fr (P : Addr) (H H' : Hp) : Prop := ∀ b o, b ≠ P → H b = some o → H' b = some o
theorem PcOk.same {H H' : Hp} {pc : Pc} (h : PcOk H pc) (s : Same H H') : PcOk H' pc := ⟨h.nd, h.le, h.rl, fun t ht row hr => ⟨(h.rw_ t ht row hr).1, fun c hc => ((h.rw_ t ht row hr).2 c hc).imp id fun ⟨a, xs, e1, e2⟩ => ⟨a, xs, e1, s _ _ e2⟩⟩⟩
theorem WpOk.same {H H' : Hp} {fm p : Addr} {sz : Int} {Ts : List Tb} {pc : Pc} {kk : Addr → Bool} {pt : Str → List Str} {z : Int} (O : WpOk H fm p sz Ts pc kk pt z) (s : Same H H') : WpOk H' fm p sz Ts pc kk pt z :=
  ⟨O.fmA.same s, O.t8, O.nd, O.pcA.same s, O.ok.same s, fun T hT => ⟨(O.cn T hT).1, (O.cn T hT).2.1, fun c hc => ((O.cn T hT).2.2 c hc).to fun xs e => s _ _ e⟩, O.ptA, O.at_, O.all⟩
theorem TabOk.some {P : Addr} {pos : Pos} {q : Str} {H : Hp} (h : TabOk P pos q H) : ∃ ps, H P = some (.tbl ps) := by
  rcases h with h | ⟨c', h, _⟩
  · exact ⟨_, h⟩
  · exact ⟨_, h⟩
def spRF (CR PT : Addr) : Sp := fun vs H Q _ => ∃ (mv fm p : Addr) (t pl z sz f0 : Int) (Ts : List Tb) (pc : Pc) (kk : Addr → Bool) (pt : Str → List Str), vs = [.ref mv, .ref fm, .ref p, .non] ∧ RenAt CR H mv t pl z ∧ 0 < z ∧ z ≤ 1000000000000 ∧ (Int.gcd t z = 1 ∧ 0 ≤ f0 ∧ f0 < z ∧ t * f0 % z = 1 % z) ∧ WpOk (del H PT) fm p sz Ts pc kk pt z ∧ TabOk PT (lamPos lF) qF H ∧
  ∀ r p' H', Fr PT H H' → TabOk PT (lamPos lF) qF H' → H' r = some (.tup [.ref p', .non]) → H r = none → PcE (cut H H') p' (trP (fun k => (t * k + pl) % z) pt pc) → Q (.ref r) H'
def spRB (CR PT : Addr) : Sp := fun vs H Q _ => ∃ (mv fm p : Addr) (t pl z sz f0 : Int) (Ts : List Tb) (pc : Pc) (kk : Addr → Bool) (pt : Str → List Str), vs = [.ref mv, .ref fm, .ref p, .non] ∧ RenAt CR H mv t pl z ∧ 0 < z ∧ z ≤ 1000000000000 ∧ (Int.gcd t z = 1 ∧ 0 ≤ f0 ∧ f0 < z ∧ t * f0 % z = 1 % z) ∧ WpOk (del H PT) fm p sz Ts pc kk pt z ∧ TabOk PT (lamPos lB) qB H ∧
  ∀ r p' H', Fr PT H H' → TabOk PT (lamPos lB) qB H' → H' r = some (.tup [.ref p', .non]) → H r = none → PcE (cut H H') p' (trP (fun k => (k - pl) * f0 % z) pt pc) → Q (.ref r) H'
section
variable {P : Program} {w : World} {K : PySem.W.Frag} {mg : Str → Option Value} {base : Heap} {CR : Addr}
theorem ok_rf {f c0 PT fW fC fT fO fI fU fF fB fV : Addr} {fd fdW fdC fdT fdO fdI fdU fdF fdB fdV : FuncData} (F : FunC K "forth" "Renumber.forth" (inClass (top 13) 3) f fd c0) (hC : PySem.W.codeHdIn K c0 PT = true) (hB : L2.BMain base mg) (T : Tx3 K mg CR) (B : Bl mg)
    (DW : Df K mg "with_pointers" (top 14) fW fdW) (DC : Df K mg "copied" (top 9) fC fdC) (DT : Df K mg "tables_of" (top 6) fT fdT) (DO : Df K mg "columns_of" (top 7) fO fdO) (DI : Df K mg "table_in" (top 8) fI fdI) (DU : Df K mg "turn_pointers" (top 15) fU fdU)
    (FF : Fun K "key_forth" "Renumber.key_forth" (inClass (top 13) 5) fF fdF) (MF : Meth K CR "key_forth" fF) (FB : Fun K "key_back" "Renumber.key_back" (inClass (top 13) 6) fB fdB) (MB : Meth K CR "key_back" fB) (DV : Df K mg "inverse" (top 16) fV fdV) :
    FnOk P w K mg base CX0 7 f fd ["self", "form", "piece", "rest"] (spRF CR PT) := by
  have sc : FnScope ["self", "form", "piece", "rest"] ["self", "form", "piece", "rest"] (defScope (inClass (top 13) 3)) := ⟨rfl, rfl, rfl, by decide +kernel, rfl, by decide +kernel, by decide +kernel⟩
  have SL : LamScope "key" "self" (lamScope lF) := ⟨rfl, rfl, rfl, by decide +kernel, rfl, rfl, by decide +kernel, by decide +kernel⟩
  have GW : FnOk P w K mg base CX0 6 fW fdW ["form", "piece", "way"] (spWp (RR CR ((mg "__name__").getD .none))) := ok_wp DW.fn B (way_ok T FF MF FB MB DV) DC DT DO DI DU
  have bW := DW.fn.binds (ps := ["form", "piece", "way"]) fun _ _ _ _ _ _ us hl => by obtain ⟨v0, v1, v2, rfl⟩ := L2.ln3 hl; rfl
  refine F.ok sc (fun vs H Q E h => ?_) (fun A outer s H vs Q E hr h => ?_)
  · obtain ⟨mv, fm, p, t, pl, z, sz, f0, Ts, pc, kk, pt, rfl, _⟩ := h
    rfl
  · obtain ⟨mv, fm, p, t, pl, z, sz, f0, Ts, pc, kk, pt, rfl, ⟨dx, hmv⟩, z0, z1, ⟨g1, f00, f01, ef0⟩, O, tab, q⟩ := h
    have hlk : (envOfC "Renumber.forth" (defScope (inClass (top 13) 3)) s.heap.objs.size f (.ref c0)).cells.lookup ("self" : Str) = some (s.heap.objs.size + 1) := rfl
    have hnm : (lamScope lF).names = [(("key" : Str), NameKind.local), ("self", NameKind.free)] := rfl
    have hL : closL (envOfC "Renumber.forth" (defScope (inClass (top 13) 3)) s.heap.objs.size f (.ref c0)) (lamScope lF).names = [(("self" : Str), s.heap.objs.size + 1)] := by
      rw [hnm]
      show [(("self" : Str), ((envOfC "Renumber.forth" (defScope (inClass (top 13) 3)) s.heap.objs.size f (.ref c0)).cells.lookup ("self" : Str)).getD 0)] = _
      rw [hlk]
      rfl
    have hcl : closureFor (lamScope lF) (envOfC "Renumber.forth" (defScope (inClass (top 13) 3)) s.heap.objs.size f (.ref c0)) = pure [(("self" : Str), s.heap.objs.size + 1)] := by
      rw [clos_ok (env := envOfC "Renumber.forth" (defScope (inClass (top 13) 3)) s.heap.objs.size f (.ref c0)) (scope := lamScope lF) fun y hy e => ⟨s.heap.objs.size + 1, by rw [SL.one y hy e]; exact hlk⟩, hL]
    refine ⟨_, pss_one (ps_ret (pe_tup (pa_cons (pe_callLend (y := "self") (i := 0) (c := s.heap.objs.size + 1) GW hr (by rfl) DW.mg DW.fn.kp bW .nil rfl rfl rfl rfl (pa_cons (pv 1) (pa_cons (pv 2) (pa_cons (pe_lamC (clos := [(("self" : Str), s.heap.objs.size + 1)]) rfl hC hB hcl) pa_nil)))) (pa_cons pe_non pa_nil)))), ?_⟩
    generalize s.heap.objs.size + 1 = c
    refine ⟨_, rfl, _, rfl, lam_madeC (q := qF) tab fun fw c' Hl keep tab' hfw hc' => ⟨.ref mv, rfl, fun o u ru ho hcn => ?_⟩⟩
    obtain rfl : u = Value.ref mv := ru
    obtain ⟨tps, htp⟩ := tab.some
    obtain ⟨tps', htp'⟩ := tab'.some
    have up : ∀ b, H b ≠ none → Hl b ≠ none := fun b hb => by
      by_cases e : b = PT
      · rw [e, htp']; simp
      · rw [keep b e hb]; exact hb
    have nc : ∀ b x, Hl b = some x → b ≠ c := fun b x e z => by rw [z, hcn] at e; cases e
    have to : Same Hl (upd Hl c (.ext (atP c o))) := fun b x e => (upd_ne (nc b x e)).trans e
    have S0 : Fr PT H Hl := fun b x n e => (keep b n (by rw [e]; simp)).trans e
    have S1 : Same (del H PT) (upd Hl c (.ext (atP c o))) := fun b x e => by
      have hb : b ≠ PT := fun z => by rw [z, del_same] at e; cases e
      rw [del_ne hb] at e
      exact to _ _ (S0 b x hb e)
    have nmv : mv ≠ PT := fun e => by rw [e, htp] at hmv; cases hmv
    have hmvl := S0 _ _ nmv hmv
    refine ⟨fm, p, fw, sz, z, Ts, pc, kk, pt, (fun k => (t * k + pl) % z), rfl, O.same S1, ?_, fun p' H' s' pe => ⟨s' _ _ upd_same, (show 2 ≤ sizeLine by decide), fun r hr' => ?_⟩⟩
    · intro H2 k Q2 s2 k0 k1 q2
      have S2 := to.trans s2
      have hc2 := s2 _ _ (upd_same (H := Hl) (a := c) (o := .ext (atP c o)))
      have em : del H2 c mv = some (.ins CR dx (flds t pl z)) := (del_ne (nc _ _ hmvl)).trans (S2 _ _ hmvl)
      refine .inl ⟨c, c', mv, o, S2 _ _ hfw, S2 _ _ hc', hc2, ho, ?_⟩
      refine ⟨_, rfl, mv, dx, _, rfl, em, flds_no _ _ _ (by decide +kernel) (by decide +kernel) (by decide +kernel), _, rfl, mv, t, pl, z, k, rfl, ⟨dx, em⟩, z0, z1, k0, k1, by dsimp only; rw [upd_del hc2]; exact q2⟩
    · have SF : Same Hl (upd (del H' c) r (.tup [.ref p', .non])) := fun b x e => by
        have e1 := s' _ _ (to _ _ e)
        have e2 : del H' c b = some x := (del_ne (nc b x e)).trans e1
        exact (upd_ne (ne_of_none e2 hr')).trans e2
      refine q r p' _ (fun b x n e => SF _ _ (S0 b x n e)) (tab'.same SF) upd_same ?_ (pe.same fun b x e => ?_)
      · cases e : H r with
        | none => rfl
        | some x =>
          have := up r (by rw [e]; simp)
          cases e3 : Hl r with
          | none => exact absurd e3 this
          | some y =>
            have e4 := s' _ _ (to _ _ e3)
            rw [del_ne (nc _ _ e3), e4] at hr'
            cases hr'
      · have h1 := cut_new e
        have h2 := cut_sub _ _ e
        have bc : b ≠ c := fun z => by rw [z, upd_same] at h1; cases h1
        have e2 : del H' c b = some x := (del_ne bc).trans h2
        refine cut_at ?_ ((upd_ne (ne_of_none e2 hr')).trans e2)
        cases e5 : H b with
        | none => rfl
        | some y =>
          have := up b (by rw [e5]; simp)
          rw [upd_ne bc] at h1
          exact absurd h1 this
theorem ok_rb {f c0 PT fW fC fT fO fI fU fF fB fV : Addr} {fd fdW fdC fdT fdO fdI fdU fdF fdB fdV : FuncData} (F : FunC K "back" "Renumber.back" (inClass (top 13) 4) f fd c0) (hC : PySem.W.codeHdIn K c0 PT = true) (hB : L2.BMain base mg) (T : Tx3 K mg CR) (B : Bl mg)
    (DW : Df K mg "with_pointers" (top 14) fW fdW) (DC : Df K mg "copied" (top 9) fC fdC) (DT : Df K mg "tables_of" (top 6) fT fdT) (DO : Df K mg "columns_of" (top 7) fO fdO) (DI : Df K mg "table_in" (top 8) fI fdI) (DU : Df K mg "turn_pointers" (top 15) fU fdU)
    (FF : Fun K "key_forth" "Renumber.key_forth" (inClass (top 13) 5) fF fdF) (MF : Meth K CR "key_forth" fF) (FB : Fun K "key_back" "Renumber.key_back" (inClass (top 13) 6) fB fdB) (MB : Meth K CR "key_back" fB) (DV : Df K mg "inverse" (top 16) fV fdV) :
    FnOk P w K mg base CX0 7 f fd ["self", "form", "piece", "rest"] (spRB CR PT) := by
  have sc : FnScope ["self", "form", "piece", "rest"] ["self", "form", "piece", "rest"] (defScope (inClass (top 13) 4)) := ⟨rfl, rfl, rfl, by decide +kernel, rfl, by decide +kernel, by decide +kernel⟩
  have SL : LamScope "key" "self" (lamScope lB) := ⟨rfl, rfl, rfl, by decide +kernel, rfl, rfl, by decide +kernel, by decide +kernel⟩
  have GW : FnOk P w K mg base CX0 6 fW fdW ["form", "piece", "way"] (spWp (RR CR ((mg "__name__").getD .none))) := ok_wp DW.fn B (way_ok T FF MF FB MB DV) DC DT DO DI DU
  have bW := DW.fn.binds (ps := ["form", "piece", "way"]) fun _ _ _ _ _ _ us hl => by obtain ⟨v0, v1, v2, rfl⟩ := L2.ln3 hl; rfl
  refine F.ok sc (fun vs H Q E h => ?_) (fun A outer s H vs Q E hr h => ?_)
  · obtain ⟨mv, fm, p, t, pl, z, sz, f0, Ts, pc, kk, pt, rfl, _⟩ := h
    rfl
  · obtain ⟨mv, fm, p, t, pl, z, sz, f0, Ts, pc, kk, pt, rfl, ⟨dx, hmv⟩, z0, z1, ⟨g1, f00, f01, ef0⟩, O, tab, q⟩ := h
    have hlk : (envOfC "Renumber.back" (defScope (inClass (top 13) 4)) s.heap.objs.size f (.ref c0)).cells.lookup ("self" : Str) = some (s.heap.objs.size + 1) := rfl
    have hnm : (lamScope lB).names = [(("key" : Str), NameKind.local), ("self", NameKind.free)] := rfl
    have hL : closL (envOfC "Renumber.back" (defScope (inClass (top 13) 4)) s.heap.objs.size f (.ref c0)) (lamScope lB).names = [(("self" : Str), s.heap.objs.size + 1)] := by
      rw [hnm]
      show [(("self" : Str), ((envOfC "Renumber.back" (defScope (inClass (top 13) 4)) s.heap.objs.size f (.ref c0)).cells.lookup ("self" : Str)).getD 0)] = _
      rw [hlk]
      rfl
    have hcl : closureFor (lamScope lB) (envOfC "Renumber.back" (defScope (inClass (top 13) 4)) s.heap.objs.size f (.ref c0)) = pure [(("self" : Str), s.heap.objs.size + 1)] := by
      rw [clos_ok (env := envOfC "Renumber.back" (defScope (inClass (top 13) 4)) s.heap.objs.size f (.ref c0)) (scope := lamScope lB) fun y hy e => ⟨s.heap.objs.size + 1, by rw [SL.one y hy e]; exact hlk⟩, hL]
    refine ⟨_, pss_one (ps_ret (pe_tup (pa_cons (pe_callLend (y := "self") (i := 0) (c := s.heap.objs.size + 1) GW hr (by rfl) DW.mg DW.fn.kp bW .nil rfl rfl rfl rfl (pa_cons (pv 1) (pa_cons (pv 2) (pa_cons (pe_lamC (clos := [(("self" : Str), s.heap.objs.size + 1)]) rfl hC hB hcl) pa_nil)))) (pa_cons pe_non pa_nil)))), ?_⟩
    generalize s.heap.objs.size + 1 = c
    refine ⟨_, rfl, _, rfl, lam_madeC (q := qB) tab fun fw c' Hl keep tab' hfw hc' => ⟨.ref mv, rfl, fun o u ru ho hcn => ?_⟩⟩
    obtain rfl : u = Value.ref mv := ru
    obtain ⟨tps, htp⟩ := tab.some
    obtain ⟨tps', htp'⟩ := tab'.some
    have up : ∀ b, H b ≠ none → Hl b ≠ none := fun b hb => by
      by_cases e : b = PT
      · rw [e, htp']; simp
      · rw [keep b e hb]; exact hb
    have nc : ∀ b x, Hl b = some x → b ≠ c := fun b x e z => by rw [z, hcn] at e; cases e
    have to : Same Hl (upd Hl c (.ext (atP c o))) := fun b x e => (upd_ne (nc b x e)).trans e
    have S0 : Fr PT H Hl := fun b x n e => (keep b n (by rw [e]; simp)).trans e
    have S1 : Same (del H PT) (upd Hl c (.ext (atP c o))) := fun b x e => by
      have hb : b ≠ PT := fun z => by rw [z, del_same] at e; cases e
      rw [del_ne hb] at e
      exact to _ _ (S0 b x hb e)
    have nmv : mv ≠ PT := fun e => by rw [e, htp] at hmv; cases hmv
    have hmvl := S0 _ _ nmv hmv
    refine ⟨fm, p, fw, sz, z, Ts, pc, kk, pt, (fun k => (k - pl) * f0 % z), rfl, O.same S1, ?_, fun p' H' s' pe => ⟨s' _ _ upd_same, (show 2 ≤ sizeLine by decide), fun r hr' => ?_⟩⟩
    · intro H2 k Q2 s2 k0 k1 q2
      have S2 := to.trans s2
      have hc2 := s2 _ _ (upd_same (H := Hl) (a := c) (o := .ext (atP c o)))
      have em : del H2 c mv = some (.ins CR dx (flds t pl z)) := (del_ne (nc _ _ hmvl)).trans (S2 _ _ hmvl)
      refine .inr ⟨c, c', mv, o, S2 _ _ hfw, S2 _ _ hc', hc2, ho, ?_⟩
      refine ⟨_, rfl, mv, dx, _, rfl, em, flds_no _ _ _ (by decide +kernel) (by decide +kernel) (by decide +kernel), _, rfl, mv, t, pl, z, k, rfl, ⟨dx, em⟩, z0, z1, g1, fun f1 a0 a1 ea => by rw [inv_un ea ef0 a0 a1 f00 f01]; dsimp only; rw [upd_del hc2]; exact q2⟩
    · have SF : Same Hl (upd (del H' c) r (.tup [.ref p', .non])) := fun b x e => by
        have e1 := s' _ _ (to _ _ e)
        have e2 : del H' c b = some x := (del_ne (nc b x e)).trans e1
        exact (upd_ne (ne_of_none e2 hr')).trans e2
      refine q r p' _ (fun b x n e => SF _ _ (S0 b x n e)) (tab'.same SF) upd_same ?_ (pe.same fun b x e => ?_)
      · cases e : H r with
        | none => rfl
        | some x =>
          have := up r (by rw [e]; simp)
          cases e3 : Hl r with
          | none => exact absurd e3 this
          | some y =>
            have e4 := s' _ _ (to _ _ e3)
            rw [del_ne (nc _ _ e3), e4] at hr'
            cases hr'
      · have h1 := cut_new e
        have h2 := cut_sub _ _ e
        have bc : b ≠ c := fun z => by rw [z, upd_same] at h1; cases h1
        have e2 : del H' c b = some x := (del_ne bc).trans h2
        refine cut_at ?_ ((upd_ne (ne_of_none e2 hr')).trans e2)
        cases e5 : H b with
        | none => rfl
        | some y =>
          have := up b (by rw [e5]; simp)
          rw [upd_ne bc] at h1
          exact absurd h1 this
end
end My

namespace My
open PySem L2 PyProof.Rows
seal L2.PE L2.PT L2.PW L2.PS L2.PSs L2.PA L2.PI L2.PG L2.PGs L2.OpR L2.CallR L2.IxR L2.SlR L2.MtR L2.PIf L2.MtM L2.PC
def RwF (H : Hp) (row : Rw) : Prop := ∀ c ∈ row, flt c.2 = true ∨ ∃ a xs, c.2 = .ref a ∧ H a = some (.tup xs) ∧ ∀ x ∈ xs, flt x = true
theorem lq_flt {H : Hp} {n : Nat} {v : V} (h : flt v = true) : Lq H n v v := by
  cases v with
  | non => exact .non
  | bl b => exact .bl
  | int i => exact .int
  | str z => exact .str
  | _ => cases h
theorem val_lq {H : Hp} {n : Nat} {v : V} (h : flt v = true ∨ ∃ a xs, v = .ref a ∧ H a = some (.tup xs) ∧ ∀ x ∈ xs, flt x = true) : Lq H (n + 1) v v := by
  rcases h with h | ⟨a, xs, rfl, e, hf⟩
  · exact lq_flt h
  · exact .tup (.inl e) (.inl e) rfl fun i x y h1 h2 => by
      rw [h1] at h2
      cases h2
      exact lq_flt (hf x (List.mem_of_getElem? h1))
theorem rK_val {row : Rw} (nd : (row.map (·.1)).Nodup) {c : Str × V} (hc : c ∈ row) : valV (rK row) (.inr c.1) = some c.2 := by
  induction row with
  | nil => cases hc
  | cons a r ih =>
    rw [List.map_cons, List.nodup_cons] at nd
    unfold rK
    rw [List.map_cons]
    rcases List.mem_cons.mp hc with rfl | hc
    · exact valV_pos rfl
    · rw [valV_neg (p := ((Sum.inr a.1 : Key), a.2)) (fun e => by
        injection e with e
        exact nd.1 (by rw [e]; exact List.mem_map.mpr ⟨c, hc, rfl⟩))]
      exact ih nd.2 hc
theorem row_lq {H : Hp} {n : Nat} {r r' : Addr} {row : Rw} (nd : (row.map (·.1)).Nodup) (ok : RwF H row) (h1 : H r = some (.dK (rK row))) (h2 : H r' = some (.dK (rK row))) : Lq H (n + 2) (.ref r) (.ref r') := by
  have val : ∀ (k : Key) (v : V), (k, v) ∈ rK row → valV (rK row) k = some v ∧ Lq H (n + 1) v v := fun k v h => by
    obtain ⟨c, hc, e⟩ := List.mem_map.mp h
    cases e
    exact ⟨rK_val nd hc, val_lq (ok c hc)⟩
  refine .dct (fun k => (valV (rK row) k).getD .non) (.inl h1) (.inl h2) rfl (fun k v h => ?_) (fun k v h => (val k v h).1) fun k v h => ?_
  · rw [(val k v h).1]
    rfl
  · rw [(val k v h).1]
    exact (val k v h).2
theorem rows_lq {H : Hp} {n : Nat} {l l' : Addr} {rows : List Rw} (nd : ∀ row ∈ rows, (row.map (·.1)).Nodup) (ok : ∀ row ∈ rows, RwF H row) (h1 : RowsAt H l rows) (h2 : RowsAt H l' rows) : Lq H (n + 3) (.ref l) (.ref l') := by
  obtain ⟨rs, a1, b1, c1⟩ := h1
  obtain ⟨rs', a2, b2, c2⟩ := h2
  refine .lst a1 a2 (by rw [List.length_map, List.length_map, b1, b2]) fun i x y e1 e2 => ?_
  rw [List.getElem?_map] at e1 e2
  cases d1 : rs[i]? with
  | none => rw [d1] at e1; cases e1
  | some r =>
    cases d2 : rs'[i]? with
    | none => rw [d2] at e2; cases e2
    | some r' =>
      rw [d1] at e1
      rw [d2] at e2
      cases e1
      cases e2
      have hi : i < rows.length := by rw [← b1]; exact (List.getElem?_eq_some_iff.mp d1).1
      exact row_lq (nd _ (List.getElem_mem hi)) (ok _ (List.getElem_mem hi)) (c1 i r _ d1 (List.getElem?_eq_getElem hi)) (c2 i r' _ d2 (List.getElem?_eq_getElem hi))
theorem pc_lq {H : Hp} {n : Nat} {p p' : Addr} {pc : Pc} (ndp : (pc.map (·.1)).Nodup) (nd : ∀ t ∈ pc, ∀ row ∈ t.2, (row.map (·.1)).Nodup) (ok : ∀ t ∈ pc, ∀ row ∈ t.2, RwF H row) (h1 : PcAt H p pc) (h2 : PcAt H p' pc) : Lq H (n + 4) (.ref p) (.ref p') := by
  obtain ⟨ls, a1, b1, c1⟩ := h1
  obtain ⟨ls', a2, b2, c2⟩ := h2
  have val : ∀ (k : Key) (v : V), (k, v) ∈ zK (pc.map (·.1)) ls' → ∃ v', valV (zK (pc.map (·.1)) ls) k = some v' ∧ valV (zK (pc.map (·.1)) ls') k = some v ∧ Lq H (n + 3) v' v := fun k v h => by
    obtain ⟨i, hi⟩ := List.getElem?_of_mem h
    obtain ⟨z, l, hz, hl, rfl, rfl⟩ := zK_get hi
    have hil : i < pc.length := by rw [← b2]; exact (List.getElem?_eq_some_iff.mp hl).1
    have hil' : i < ls.length := by omega
    exact ⟨.ref ls[i], zw_val ndp hz (by rw [List.getElem?_map, List.getElem?_eq_getElem hil']; rfl), zw_val ndp hz (by rw [List.getElem?_map, hl]; rfl), rows_lq (nd _ (List.getElem_mem hil)) (ok _ (List.getElem_mem hil)) (c1 i _ pc[i] (List.getElem?_eq_getElem hil') (List.getElem?_eq_getElem hil)) (c2 i l pc[i] hl (List.getElem?_eq_getElem hil))⟩
  refine .dct (fun k => (valV (zK (pc.map (·.1)) ls) k).getD .non) (.inl a1) (.inl a2) ?_ (fun k v h => ?_) (fun k v h => ?_) fun k v h => ?_
  · rw [zK_len (by rw [List.length_map]; exact b1), zK_len (by rw [List.length_map]; exact b2)]
  · obtain ⟨v', e1, _⟩ := val k v h
    rw [e1]
    rfl
  · exact (val k v h).choose_spec.2.1
  · obtain ⟨v', e1, _, e3⟩ := val k v h
    rw [e1]
    exact e3
def spNon3 : Sp := fun vs H Q _ => ∃ x y z r : V, vs = [x, y, z, r] ∧ Q .non H

theorem flt_pt {c z : Int} {h : Int → Int} : flt (ptV c z h) = true := by
  unfold ptV
  split <;> rfl
theorem tv_pt {c z : Int} {g h h' : Int → Int} (z0 : 0 < z) (e : ∀ k, 0 ≤ k → k < z → g (h k) = h' k) : tv g (ptV c z h) = ptV c z h' := by
  unfold ptV
  split
  · rfl
  · show V.int (g (h (c / 4 % z))) = _
    rw [e _ (Int.emod_nonneg _ (by omega)) (Int.emod_lt_of_pos _ z0)]
def ptN (nm : Nat → Str) (n : Str) : List Str := if n = nm 0 then [nm 3] else if n = nm 1 then [nm 6] else [nm 3, nm 8]
theorem ptN0 {nm : Nat → Str} : ptN nm (nm 0) = [nm 3] := if_pos rfl
theorem ptN1 {nm : Nat → Str} (i : Inj9 nm) : ptN nm (nm 1) = [nm 6] := (if_neg i.ne).trans (if_pos rfl)
theorem ptN2 {nm : Nat → Str} (i : Inj9 nm) : ptN nm (nm 2) = [nm 3, nm 8] := (if_neg i.ne).trans (if_neg i.ne)
theorem tr_pc {ns : List Int} {nm : Nat → Str} {z : Int} {g h h' : Int → Int} (i : Inj9 nm) (z0 : 0 < z) (e : ∀ k, 0 ≤ k → k < z → g (h k) = h' k) : trP g (ptN nm) (pcG ns nm z h) = pcG ns nm z h' := by
  have n34 : ¬ nm 4 = nm 3 := i.ne
  have n56 : ¬ nm 5 = nm 6 := i.ne
  have n73 : ¬ nm 7 = nm 3 := i.ne
  have n78 : ¬ nm 7 = nm 8 := i.ne
  have e1 : trR g [nm 3] (hdR ns nm z h) = hdR ns nm z h' := by
    unfold trR hdR
    simp only [List.map_cons, List.map_nil, List.mem_singleton, if_pos, n34, if_false, tv_pt z0 e]
  have e2 : trR g [nm 6] (twR ns nm z h) = twR ns nm z h' := by
    unfold trR twR
    simp only [List.map_cons, List.map_nil, List.mem_singleton, if_pos, n56, if_false, tv_pt z0 e]
  have e3 : ∀ k, trR g [nm 3, nm 8] (rwR ns nm z h k) = rwR ns nm z h' k := fun k => by
    unfold trR rwR
    have m1 : nm 3 ∈ [nm 3, nm 8] := by simp
    have m2 : nm 8 ∈ [nm 3, nm 8] := by simp
    have m3 : nm 7 ∉ [nm 3, nm 8] := by simp [n73, n78]
    simp only [List.map_cons, List.map_nil, if_pos m1, if_pos m2, if_neg m3, tv_pt z0 e]
  unfold trP pcG
  simp only [List.map_cons, List.map_nil, ptN0, ptN1 i, ptN2 i, e1, e2]
  have e4 : (rwsR ns nm z h).map (trR g [nm 3, nm 8]) = rwsR ns nm z h' := by
    unfold rwsR
    rw [List.map_map]
    exact List.map_congr_left fun k _ => e3 k
  rw [e4]
theorem pt_in {c z : Int} {h : Int → Int} {row : Rw} {n : Str} (z0 : 0 < z) (r : ∀ k, 0 ≤ k → k < z → 0 ≤ h k ∧ h k < z) (hm : (n, ptV c z h) ∈ row) : (n, V.non) ∈ row ∨ ∃ k : Int, (n, V.int k) ∈ row ∧ 0 ≤ k ∧ k < z := by
  unfold ptV at hm
  split at hm
  · exact .inl hm
  · exact .inr ⟨_, hm, r _ (Int.emod_nonneg _ (by omega)) (Int.emod_lt_of_pos _ z0)⟩
theorem rows_of {ns : List Int} {nm : Nat → Str} {z : Int} {h : Int → Int} {row : Rw} (hr : row ∈ rwsR ns nm z h) : ∃ k, row = rwR ns nm z h k := by
  obtain ⟨k, _, e⟩ := List.mem_map.mp hr
  exact ⟨k, e.symm⟩
theorem pcG_cases {ns : List Int} {nm : Nat → Str} {z : Int} {h : Int → Int} {t : Str × List Rw} {row : Rw} (ht : t ∈ pcG ns nm z h) (hr : row ∈ t.2) : row = hdR ns nm z h ∨ row = twR ns nm z h ∨ ∃ k, row = rwR ns nm z h k := by
  unfold pcG at ht
  rcases List.mem_cons.mp ht with rfl | ht
  · exact .inl (List.mem_singleton.mp hr)
  rcases List.mem_cons.mp ht with rfl | ht
  · exact .inr (.inl (List.mem_singleton.mp hr))
  · rw [List.mem_singleton.mp ht] at hr
    exact .inr (.inr (rows_of hr))
theorem pcG_row {ns : List Int} {nm : Nat → Str} {z : Int} {h : Int → Int} (i : Inj9 nm) {t : Str × List Rw} {row : Rw} (ht : t ∈ pcG ns nm z h) (hr : row ∈ t.2) : ((row.map (·.1)).Nodup ∧ row.length ≤ 12) ∧ ∀ c ∈ row, flt c.2 = true := by
  have a1 : nm 3 ≠ nm 4 := i.ne
  have a2 : nm 5 ≠ nm 6 := i.ne
  have a3 : nm 3 ≠ nm 7 := i.ne
  have a4 : nm 3 ≠ nm 8 := i.ne
  have a5 : nm 7 ≠ nm 8 := i.ne
  rcases pcG_cases ht hr with rfl | rfl | ⟨k, rfl⟩
  · refine ⟨⟨by simp [hdR, a1], by simp [hdR]⟩, fun c hc => ?_⟩
    have : c = (nm 3, ptV (Cc ns 0) z h) ∨ c = (nm 4, .int (Cc ns 1 % z)) := by simpa [hdR] using hc
    rcases this with rfl | rfl
    · exact flt_pt
    · rfl
  · refine ⟨⟨by simp [twR, a2], by simp [twR]⟩, fun c hc => ?_⟩
    have : c = (nm 5, .int (Cc ns 2 % z)) ∨ c = (nm 6, ptV (Cc ns 3) z h) := by simpa [twR] using hc
    rcases this with rfl | rfl
    · rfl
    · exact flt_pt
  · refine ⟨⟨by simp [rwR, a3, a4, a5], by simp [rwR]⟩, fun c hc => ?_⟩
    unfold rwR at hc
    rcases List.mem_cons.mp hc with rfl | hc
    · exact flt_pt
    rcases List.mem_cons.mp hc with rfl | hc
    · rfl
    · rw [List.mem_singleton.mp hc]
      exact flt_pt
theorem pcG_nd {ns : List Int} {nm : Nat → Str} {z : Int} {h : Int → Int} (i : Inj9 nm) : ((pcG ns nm z h).map (·.1)).Nodup := by
  have a1 : nm 0 ≠ nm 1 := i.ne
  have a2 : nm 0 ≠ nm 2 := i.ne
  have a3 : nm 1 ≠ nm 2 := i.ne
  simp [pcG, a1, a2, a3]
theorem pcG_ok {ns : List Int} {nm : Nat → Str} {z : Int} {h : Int → Int} {H : Hp} (i : Inj9 nm) : PcOk H (pcG ns nm z h) := by
  refine ⟨pcG_nd i, by simp [pcG], fun t ht => ?_, fun t ht row hr => ⟨(pcG_row i ht hr).1, fun c hc => .inl ((pcG_row i ht hr).2 c hc)⟩⟩
  unfold pcG at ht
  rcases List.mem_cons.mp ht with rfl | ht
  · show 1 ≤ 1000; decide
  rcases List.mem_cons.mp ht with rfl | ht
  · show 1 ≤ 1000; decide
  · rw [List.mem_singleton.mp ht]
    have m5 := Int.emod_lt_of_pos (cel ns 4) (show (0 : Int) < 5 by decide)
    show (rwsR ns nm z h).length ≤ 1000
    unfold rwsR
    rw [List.length_map, List.length_range]
    omega
theorem lq_pc {ns : List Int} {nm : Nat → Str} {z : Int} {h : Int → Int} {H : Hp} {p p' : Addr} (i : Inj9 nm) (h1 : PcAt H p (pcG ns nm z h)) (h2 : PcAt H p' (pcG ns nm z h)) : Lq H 4 (.ref p) (.ref p') :=
  pc_lq (n := 0) (pcG_nd i) (fun t ht row hr => (pcG_row i ht hr).1.1) (fun t ht row hr c hc => .inl ((pcG_row i ht hr).2 c hc)) h1 h2
theorem lq_two {H : Hp} {a b : Addr} {x y : V} (ha : H a = some (.tup [x, .non])) (hb : H b = some (.tup [y, .non])) (l : Lq H 4 x y) : Lq H 5 (.ref a) (.ref b) :=
  .tup (.inl ha) (.inl hb) rfl fun i u v hu hv => by
    match i, hu, hv with
    | 0, hu, hv => cases hu; cases hv; exact l
    | 1, hu, hv => cases hu; cases hv; exact .non
    | i + 2, hu, hv => cases hu
/-- the kinds of the law's columns -/
structure KdsAt (H : Hp) (nm : Nat → Str) (z : Int) (c0 c1 c2 : Cl) : Prop where
  e0 : ∃ a b, c0 = [(nm 3, a), (nm 4, b)] ∧ H a = some (.tup [.str "key"]) ∧ H b = some (.tup [.str "below", .int z])
  e1 : ∃ a b, c1 = [(nm 5, a), (nm 6, b)] ∧ H a = some (.tup [.str "below", .int z]) ∧ H b = some (.tup [.str "key"])
  e2 : ∃ a b c, c2 = [(nm 3, a), (nm 7, b), (nm 8, c)] ∧ H a = some (.tup [.str "key"]) ∧ H b = some (.tup [.str "word"]) ∧ H c = some (.tup [.str "key"])
def kkOf (H : Hp) (a : Addr) : Bool := match H a with | some (.tup [.str s]) => decide (s = "key") | _ => false
theorem kk_key {H : Hp} {a : Addr} (h : H a = some (.tup [.str "key"])) : KdAt H (kkOf H) a ∧ kkOf H a = true := by
  have e : kkOf H a = true := by unfold kkOf; rw [h]; rfl
  exact ⟨.inl ⟨e, h⟩, e⟩
theorem kk_bel {H : Hp} {a : Addr} {z : Int} (h : H a = some (.tup [.str "below", .int z])) : KdAt H (kkOf H) a ∧ kkOf H a = false := by
  have e : kkOf H a = false := by unfold kkOf; rw [h]
  exact ⟨.inr ⟨e, _, _, h, by decide +kernel⟩, e⟩
theorem kk_wrd {H : Hp} {a : Addr} (h : H a = some (.tup [.str "word"])) : KdAt H (kkOf H) a ∧ kkOf H a = false := by
  have e : kkOf H a = false := by unfold kkOf; rw [h]; exact decide_eq_false (by decide +kernel)
  exact ⟨.inr ⟨e, _, _, h, by decide +kernel⟩, e⟩
/-- what the law knows of its columns -/
structure ColOk (H : Hp) (nm : Nat → Str) (kk : Addr → Bool) (Ts : List Tb) : Prop where
  nms : (Ts.map (·.name)).Perm [nm 0, nm 1, nm 2]
  nd : ∀ T ∈ Ts, (T.cols.map (·.1)).Nodup ∧ T.cols.length ≤ 12
  kd : ∀ T ∈ Ts, ∀ c ∈ T.cols, KdAt H kk c.2
  pt : ∀ T ∈ Ts, ∀ c, c ∈ ptr kk T.cols ↔ c ∈ ptN nm T.name
theorem ColOk.same {H H' : Hp} {nm : Nat → Str} {kk : Addr → Bool} {Ts : List Tb} (h : ColOk H nm kk Ts) (s : Same H H') : ColOk H' nm kk Ts := ⟨h.nms, h.nd, fun T hT c hc => (h.kd T hT c hc).to fun xs e => s _ _ e, h.pt⟩
theorem ptr_perm {kk : Addr → Bool} {a b : Cl} (h : a.Perm b) {c : Str} : c ∈ ptr kk a ↔ c ∈ ptr kk b := ((h.filter _).map _).mem_iff
theorem colOk {H : Hp} {nm : Nat → Str} {z : Int} {c0 c1 c2 : Cl} {Ts : List Tb} (i : Inj9 nm) (k : KdsAt H nm z c0 c1 c2) (pm : (Ts.map (·.name)).Perm [nm 0, nm 1, nm 2]) (h : ∀ T ∈ Ts, ∃ c, (T.name, c) ∈ [(nm 0, c0), (nm 1, c1), (nm 2, c2)] ∧ T.cols.Perm c) : ColOk H nm (kkOf H) Ts := by
  obtain ⟨⟨a0, b0, r0, x0, y0⟩, ⟨a1, b1, r1, x1, y1⟩, ⟨a2, b2, d2, r2, x2, y2, w2⟩⟩ := k
  have n1 : nm 3 ≠ nm 4 := i.ne
  have n2 : nm 5 ≠ nm 6 := i.ne
  have n3 : nm 3 ≠ nm 7 := i.ne
  have n4 : nm 3 ≠ nm 8 := i.ne
  have n5 : nm 7 ≠ nm 8 := i.ne
  have key : ∀ T ∈ Ts, ((T.cols.map (·.1)).Nodup ∧ T.cols.length ≤ 12) ∧ (∀ c ∈ T.cols, KdAt H (kkOf H) c.2) ∧ ∀ c, c ∈ ptr (kkOf H) T.cols ↔ c ∈ ptN nm T.name := fun T hT => by
    obtain ⟨c, hc, pc⟩ := h T hT
    have red : ((c.map (·.1)).Nodup ∧ c.length ≤ 12) ∧ (∀ x ∈ c, KdAt H (kkOf H) x.2) ∧ ∀ x, x ∈ ptr (kkOf H) c ↔ x ∈ ptN nm T.name := by
      have hc' : (T.name = nm 0 ∧ c = c0) ∨ (T.name = nm 1 ∧ c = c1) ∨ (T.name = nm 2 ∧ c = c2) := by simpa using hc
      rcases hc' with ⟨e, rfl⟩ | ⟨e, rfl⟩ | ⟨e, rfl⟩
      · rw [r0, e, ptN0]
        refine ⟨⟨by simp [n1], by simp⟩, fun x hx => ?_, fun x => ?_⟩
        · have : x = (nm 3, a0) ∨ x = (nm 4, b0) := by simpa using hx
          rcases this with rfl | rfl
          · exact (kk_key x0).1
          · exact (kk_bel y0).1
        · simp [ptr, (kk_key x0).2, (kk_bel y0).2]
      · rw [r1, e, ptN1 i]
        refine ⟨⟨by simp [n2], by simp⟩, fun x hx => ?_, fun x => ?_⟩
        · have : x = (nm 5, a1) ∨ x = (nm 6, b1) := by simpa using hx
          rcases this with rfl | rfl
          · exact (kk_bel x1).1
          · exact (kk_key y1).1
        · simp [ptr, (kk_bel x1).2, (kk_key y1).2]
      · rw [r2, e, ptN2 i]
        refine ⟨⟨by simp [n3, n4, n5], by simp⟩, fun x hx => ?_, fun x => ?_⟩
        · have : x = (nm 3, a2) ∨ x = (nm 7, b2) ∨ x = (nm 8, d2) := by simpa using hx
          rcases this with rfl | rfl | rfl
          · exact (kk_key x2).1
          · exact (kk_wrd y2).1
          · exact (kk_key w2).1
        · simp [ptr, (kk_key x2).2, (kk_wrd y2).2, (kk_key w2).2]
    refine ⟨⟨(pc.map _).nodup_iff.mpr red.1.1, by rw [pc.length_eq]; exact red.1.2⟩, fun x hx => red.2.1 x (pc.mem_iff.mp hx), fun x => (ptr_perm pc).trans (red.2.2 x)⟩
  exact ⟨pm, fun T hT => (key T hT).1, fun T hT => (key T hT).2.1, fun T hT => (key T hT).2.2⟩
theorem wp_of {H : Hp} {fm p : Addr} {z : Int} {Ts : List Tb} {ns : List Int} {nm : Nat → Str} {kk : Addr → Bool} {h : Int → Int} (i : Inj9 nm) (z0 : 0 < z) (f : FormAt H fm z Ts) (c : ColOk H nm kk Ts) (r : ∀ k, 0 ≤ k → k < z → 0 ≤ h k ∧ h k < z) (hp : PcAt H p (pcG ns nm z h)) : WpOk H fm p z Ts (pcG ns nm z h) kk (ptN nm) z := by
  have l3 : Ts.length = 3 := by have := c.nms.length_eq; rwa [List.length_map] at this
  have n01 : nm 0 ≠ nm 1 := i.ne
  have n02 : nm 0 ≠ nm 2 := i.ne
  have n12 : nm 1 ≠ nm 2 := i.ne
  refine ⟨f, by omega, c.nms.nodup_iff.mpr (by simp [n01, n02, n12]), hp, pcG_ok i, fun T hT => ⟨(c.nd T hT).1, (c.nd T hT).2, c.kd T hT⟩, c.pt, fun T hT => ?_, fun t ht => ?_⟩
  · have hn : T.name = nm 0 ∨ T.name = nm 1 ∨ T.name = nm 2 := by simpa using c.nms.mem_iff.mp (List.mem_map.mpr ⟨T, hT, rfl⟩)
    rcases hn with e | e | e
    · refine ⟨0, _, rfl, e.symm, fun row hr x hx => ?_⟩
      rw [e, ptN0] at hx
      rw [List.mem_singleton.mp hr, List.mem_singleton.mp hx]
      exact pt_in z0 r (c := Cc ns 0) (by simp [hdR])
    · refine ⟨1, _, rfl, e.symm, fun row hr x hx => ?_⟩
      rw [e, ptN1 i] at hx
      rw [List.mem_singleton.mp hr, List.mem_singleton.mp hx]
      exact pt_in z0 r (c := Cc ns 3) (by simp [twR])
    · refine ⟨2, _, rfl, e.symm, fun row hr x hx => ?_⟩
      rw [e, ptN2 i] at hx
      obtain ⟨k, rfl⟩ := rows_of hr
      have hx' : x = nm 3 ∨ x = nm 8 := by simpa using hx
      rcases hx' with rfl | rfl
      · exact pt_in z0 r (c := Cc ns (4 + (0 + (k : Int)))) (by simp [rwR])
      · exact pt_in z0 r (c := Cc ns (8 + (0 + (k : Int))) / 5) (by simp [rwR])
  · refine c.nms.mem_iff.mpr ?_
    unfold pcG at ht
    rcases List.mem_cons.mp ht with rfl | ht
    · simp
    rcases List.mem_cons.mp ht with rfl | ht
    · simp
    · rw [List.mem_singleton.mp ht]
      simp
section
variable {P : Program} {w : World} {K : PySem.W.Frag} {mg : Str → Option Value} {base : Heap}
theorem ok_left {f : Addr} {fd : FuncData} (F : FunX K "left" "Move.left" (inClass (top 11) 4) f fd) : FnOk P w K mg base CX0 1 f fd ["self", "form", "piece", "rest"] spNon3 := by
  have sc : FnScope ["self", "form", "piece", "rest"] ["self", "form", "piece", "rest"] (defScope (inClass (top 11) 4)) := ⟨rfl, rfl, rfl, by decide +kernel, rfl, by decide +kernel, by decide +kernel⟩
  refine F.ok sc (fun vs H Q E h => ?_) (fun cdv A outer s H vs Q E hr h => ?_)
  · obtain ⟨x, y, z, r, rfl, _⟩ := h
    rfl
  · obtain ⟨x, y, z, r, rfl, q⟩ := h
    exact ⟨_, pss_one (ps_ret pe_non), q⟩
theorem ok_right {f : Addr} {fd : FuncData} (F : FunX K "right" "Move.right" (inClass (top 11) 5) f fd) : FnOk P w K mg base CX0 1 f fd ["self", "form", "piece", "rest"] spNon3 := by
  have sc : FnScope ["self", "form", "piece", "rest"] ["self", "form", "piece", "rest"] (defScope (inClass (top 11) 5)) := ⟨rfl, rfl, rfl, by decide +kernel, rfl, by decide +kernel, by decide +kernel⟩
  refine F.ok sc (fun vs H Q E h => ?_) (fun cdv A outer s H vs Q E hr h => ?_)
  · obtain ⟨x, y, z, r, rfl, _⟩ := h
    rfl
  · obtain ⟨x, y, z, r, rfl, q⟩ := h
    exact ⟨_, pss_one (ps_ret pe_non), q⟩
end
end My

namespace My
open PySem L2 PyProof.Rows
seal L2.PE L2.PT L2.PW L2.PS L2.PSs L2.PA L2.PI L2.PG L2.PGs L2.OpR L2.CallR L2.IxR L2.SlR L2.MtR L2.PIf L2.MtM L2.PC
def spLw (K : PySem.W.Frag) (PF PB : Addr) : Sp := fun vs H Q _ => ∃ (a : Addr) (ns : List Int), vs = [.ref a] ∧ SqL K H a (ns.map V.int) ∧ ns.length ≤ 63 ∧ H PF = some (.tbl #[]) ∧ H PB = some (.tbl #[]) ∧ PF ≠ PB ∧ ∀ H', Q (.bl true) H'
def nLw : List Str := ["_law_script", "_law_cell_here", "_law_size", "_law_times_here", "_law_plus", "_law_names_here", "_law_twin", "_law_many", "_law_sides", "_law_form_here", "_law_old", "_law_new", "_law_move", "_law_handed", "_law_found", "_law_table", "_law_row", "_law_again"]
theorem ColsAt.del {H : Hp} {P : Addr} {ps : Array Value} {ct : Addr} {c : Cl} (h : ColsAt H ct c) (hp : H P = some (.tbl ps)) : ColsAt (del H P) ct c := by
  obtain ⟨o, qs, h0, h1, h2, h3⟩ := h
  exact ⟨o, qs, h0, (del_ne fun z => by rw [z, hp] at h1; cases h1).trans h1, h2, fun j p c a b => (del_ne fun z => by have := h3 j p c a b; rw [z, hp] at this; cases this).trans (h3 j p c a b)⟩
theorem FormAt.del {H : Hp} {P : Addr} {ps : Array Value} {f : Addr} {sz : Int} {Ts : List Tb} (h : FormAt H f sz Ts) (hp : H P = some (.tbl ps)) : FormAt (del H P) f sz Ts := by
  obtain ⟨tt, es, h1, h2, h3, h4⟩ := h
  refine ⟨tt, es, (del_ne fun z => by rw [z, hp] at h1; cases h1).trans h1, (del_ne fun z => by rw [z, hp] at h2; cases h2).trans h2, h3, fun j e T a b => ?_⟩
  obtain ⟨ct, g1, g2⟩ := h4 j e T a b
  exact ⟨ct, (del_ne fun z => by rw [z, hp] at g1; cases g1).trans g1, g2.del hp⟩
theorem ColOk.del {H : Hp} {P : Addr} {ps : Array Value} {nm : Nat → Str} {kk : Addr → Bool} {Ts : List Tb} (h : ColOk H nm kk Ts) (hp : H P = some (.tbl ps)) : ColOk (del H P) nm kk Ts := ⟨h.nms, h.nd, fun T hT c hc => (h.kd T hT c hc).to fun xs e => (del_ne fun z => by rw [z, hp] at e; cases e).trans e, h.pt⟩
theorem PcAt.del {H : Hp} {P : Addr} {ps : Array Value} {p : Addr} {pc : Pc} (h : PcAt H p pc) (hp : H P = some (.tbl ps)) : PcAt (del H P) p pc := by
  obtain ⟨ls, h1, h2, h3⟩ := h
  refine ⟨ls, (del_ne fun z => by rw [z, hp] at h1; cases h1).trans h1, h2, fun j l t a b => ?_⟩
  obtain ⟨rs, g1, g2, g3⟩ := h3 j l t a b
  exact ⟨rs, (del_ne fun z => by rw [z, hp] at g1; cases g1).trans g1, g2, fun j r row a b => (del_ne fun z => by have := g3 j r row a b; rw [z, hp] at this; cases this).trans (g3 j r row a b)⟩
def cC (A B H : Hp) : Hp := fun b => match cut A B b with | some (.dK _) => none | some (.lst _) => none | _ => H b
theorem cC_to {A B H : Hp} : Same (cC A B H) H := fun b o e => by
  unfold cC at e
  split at e
  · cases e
  · cases e
  · exact e
theorem cC_none {A B H : Hp} {b : Addr} (h : cut A B b = none) : cC A B H b = H b := by unfold cC; rw [h]
theorem cC_old {A B H : Hp} {b : Addr} {x : HO} (h : A b = some x) : cC A B H b = H b := cC_none (by unfold cut; rw [h])
theorem cC_new {A B H : Hp} {b : Addr} (h : B b = none) : cC A B H b = H b := cC_none (by unfold cut; split; exact h; rfl)
theorem cC_dk {A B H : Hp} {b : Addr} {kv : List (Key × V)} (h : cut A B b = some (.dK kv)) : cC A B H b = none := by unfold cC; rw [h]
theorem cC_lst {A B H : Hp} {b : Addr} {xs : List V} (h : cut A B b = some (.lst xs)) : cC A B H b = none := by unfold cC; rw [h]
theorem lq_pc5 {ns : List Int} {nm : Nat → Str} {z : Int} {h : Int → Int} {H : Hp} {p p' : Addr} (i : Inj9 nm) (h1 : PcAt H p (pcG ns nm z h)) (h2 : PcAt H p' (pcG ns nm z h)) : Lq H 5 (.ref p) (.ref p') :=
  pc_lq (n := 1) (pcG_nd i) (fun t ht row hr => (pcG_row i ht hr).1.1) (fun t ht row hr c hc => .inl ((pcG_row i ht hr).2 c hc)) h1 h2
section
variable {P : Program} {w : World} {K : PySem.W.Frag} {mg : Str → Option Value} {base : Heap} {CR : Addr}
theorem ok_law {f PF PB fC fS fM fN fX fPt fF fP fA fI fo fb fL fR : Addr} {fd fdC fdS fdM fdN fdX fdPt fdF fdP fdA fdI fdo fdb fdL fdR : FuncData} (F : Fun K "law" "law" (top 27) f fd) (B : Bl mg) (hz : mg "zip" = none) (T : Tx3 K mg CR)
    (DC : Df K mg "_law_cell" (top 18) fC fdC) (DS : Df K mg "_law_share" (top 23) fS fdS) (DM : Df K mg "_law_times" (top 24) fM fdM) (DN : Df K mg "_law_names" (top 19) fN fdN) (DX : Df K mg "_law_text" (top 22) fX fdX) (DPt : Df K mg "_law_pointer" (top 25) fPt fdPt) (DF : Df K mg "_law_form" (top 21) fF fdF) (DP : Df K mg "_law_piece" (top 26) fP fdP) (DA : Df K mg "_law_alike" (top 20) fA fdA)
    (MK : Mk K CR fI) (FI : Fun K "__init__" "Renumber.__init__" (inClass (top 13) 0) fI fdI)
    (mF : Meth K CR "forth" fo) (gF : FnOk P w K mg base CX0 7 fo fdo ["self", "form", "piece", "rest"] (spRF CR PF)) (bFo : Binds K fdo ["self", "form", "piece", "rest"] [])
    (mB : Meth K CR "back" fb) (gB : FnOk P w K mg base CX0 7 fb fdb ["self", "form", "piece", "rest"] (spRB CR PB)) (bBa : Binds K fdb ["self", "form", "piece", "rest"] [])
    (mL : Meth K CR "left" fL) (gL : FnOk P w K mg base CX0 1 fL fdL ["self", "form", "piece", "rest"] spNon3) (bL : Binds K fdL ["self", "form", "piece", "rest"] [.none])
    (mR : Meth K CR "right" fR) (gR' : FnOk P w K mg base CX0 1 fR fdR ["self", "form", "piece", "rest"] spNon3) (bR : Binds K fdR ["self", "form", "piece", "rest"] []) :
    FnOk P w K mg base CX0 8 f fd ["_law_script"] (spLw K PF PB) := by
  have sc : FnScope nLw ["_law_script"] (defScope (top 27)) := ⟨rfl, rfl, rfl, by decide +kernel, rfl, by decide +kernel, by decide +kernel⟩
  have gR := gR'
  have GC : FnOk P w K mg base CX0 1 fC fdC ["_law_script", "_law_k"] (spCe K) := ok_cell DC.fn B
  have bC := DC.fn.binds (ps := ["_law_script", "_law_k"]) fun _ _ _ _ _ _ us hl => by obtain ⟨v0, v1, rfl⟩ := L2.ln2 hl; rfl
  have GM : FnOk P w K mg base CX0 2 fM fdM ["_law_cell_here", "_law_size"] spTimes := ok_times DM.fn B DS
  have bM := DM.fn.binds (ps := ["_law_cell_here", "_law_size"]) fun _ _ _ _ _ _ us hl => by obtain ⟨v0, v1, rfl⟩ := L2.ln2 hl; rfl
  have GN : FnOk P w K mg base CX0 1 fN fdN ["_law_cell_here", "_law_many"] spNames := ok_names DN.fn B
  have bN := DN.fn.binds (ps := ["_law_cell_here", "_law_many"]) fun _ _ _ _ _ _ us hl => by obtain ⟨v0, v1, rfl⟩ := L2.ln2 hl; rfl
  have GF : FnOk P w K mg base CX0 1 fF fdF ["_law_size", "_law_head", "_law_columns", "_law_sides"] spFrm := ok_frm DF.fn B
  have bF := DF.fn.binds (ps := ["_law_size", "_law_head", "_law_columns", "_law_sides"]) fun _ _ _ _ _ _ us hl => by obtain ⟨v0, v1, v2, v3, rfl⟩ := L2.ln4 hl; rfl
  have GP : FnOk P w K mg base CX0 2 fP fdP ["_law_script", "_law_names_here", "_law_size", "_law_way"] (spPc K) := ok_pc DP.fn B DC DPt DX
  have bP := DP.fn.binds (ps := ["_law_script", "_law_names_here", "_law_size", "_law_way"]) fun _ _ _ _ _ _ us hl => by obtain ⟨v0, v1, v2, v3, rfl⟩ := L2.ln4 hl; rfl
  have GA : FnOk P w K mg base CX0 6 fA fdA ["_law_found", "_law_due"] (spSm 5) := ok_alike DA B hz 5
  have bA := DA.fn.binds (ps := ["_law_found", "_law_due"]) fun _ _ _ _ _ _ us hl => by obtain ⟨v0, v1, rfl⟩ := L2.ln2 hl; rfl
  have GI : FnOk P w K mg base CX0 1 fI fdI ["self", "times", "plus", "size"] (spRInit CR) := ok_rinit FI T
  have bI := FI.binds (ps := ["self", "times", "plus", "size"]) fun _ _ _ _ _ _ us hl => by obtain ⟨v0, v1, v2, v3, rfl⟩ := L2.ln4 hl; rfl
  refine F.ok sc (fun vs H Q E h => ?_) (fun cdv A outer s H vs Q E hr h => ?_)
  · obtain ⟨a, ns, rfl, _⟩ := h
    rfl
  · obtain ⟨a, ns, rfl, ha, h63, hPF, hPB, nFB, q⟩ := h
    have hu : (A.deeper (envOfC "law" (defScope (top 27)) s.heap.objs.size f cdv)).units + 1 < cLine := hu_of hr
    refine ⟨_, (pss_cons (ps_set (i := 1) sc.nd rfl (Or.inl rfl) (pe_call GC (hr.mono (by decide)) (by rfl) DC.mg DC.fn.kp bC .nil pass0 (pa_cons (pv 0) (pa_cons pe_int pa_nil))))
      (pss_cons (ps_set (i := 2) sc.nd rfl (Or.inl rfl) (pe_op op_add pe_int (pe_op op_mod (pe_op op_fdiv (pv 1) pe_int) pe_int)))
      (pss_cons (ps_cut21 (ps_if (pt_cmpR op_eq (pe_op op_mod (pv 1) pe_int) pe_int (nomark _)) (pss_one (ps_set (i := 2) sc.nd rfl (Or.inl rfl) (pe_op op_add pe_int (pe_op op_mod (pe_op op_fdiv (pv 1) pe_int) (pe_op op_pow pe_int pe_int))))) pss_nil))
      (pss_cons (ps_set (i := 3) sc.nd rfl (Or.inl rfl) (pe_call GM (hr.mono (by decide)) (by rfl) DM.mg DM.fn.kp bM .nil pass0 (pa_cons (pe_call GC (hr.mono (by decide)) (by rfl) DC.mg DC.fn.kp bC .nil pass0 (pa_cons (pv 0) (pa_cons pe_int pa_nil))) (pa_cons (pv 2) pa_nil))))
      (pss_cons (ps_set (i := 4) sc.nd rfl (Or.inl rfl) (pe_op op_mod (pe_call GC (hr.mono (by decide)) (by rfl) DC.mg DC.fn.kp bC .nil pass0 (pa_cons (pv 0) (pa_cons pe_int pa_nil))) (pe_op op_pow pe_int pe_int)))
      (pss_cons (ps_set (i := 5) sc.nd rfl (Or.inl rfl) (pe_call GN (hr.mono (by decide)) (by rfl) DN.mg DN.fn.kp bN .nil pass0 (pa_cons (pe_call GC (hr.mono (by decide)) (by rfl) DC.mg DC.fn.kp bC .nil pass0 (pa_cons (pv 0) (pa_cons pe_int pa_nil))) (pa_cons pe_int pa_nil))))
      (pss_cons (ps_set (i := 6) sc.nd rfl (Or.inl rfl) (pe_disp (pps_cons (pe_ix ix_list (pv 5) pe_int (fun _ _ => rfl)) (pe_tup (pa_cons pe_str (pa_cons (pv 2) pa_nil))) (pps_cons (pe_ix ix_list (pv 5) pe_int (fun _ _ => rfl)) (pe_tup (pa_cons pe_str pa_nil)) pps_nil)) rfl rfl (by simp) (by decide)))
      (pss_cons (ps_set (i := 7) sc.nd rfl (Or.inl rfl) (pe_disp (pps_cons (pe_ix ix_list (pv 5) pe_int (fun _ _ => rfl)) (pe_tup (pa_cons pe_str pa_nil)) (pps_cons (pe_ix ix_list (pv 5) pe_int (fun _ _ => rfl)) (pe_tup (pa_cons pe_str pa_nil)) (pps_cons (pe_ix ix_list (pv 5) pe_int (fun _ _ => rfl)) (pe_tup (pa_cons pe_str pa_nil)) pps_nil))) rfl rfl (by simp) (by decide)))
      (pss_cons (ps_set (i := 8) sc.nd rfl (Or.inl rfl) (pe_disp (pps_cons (pe_ix ix_list (pv 5) pe_int (fun _ _ => rfl)) (pe_tup (pa_cons pe_str (pa_cons (pv 6) pa_nil))) (pps_cons (pe_ix ix_list (pv 5) pe_int (fun _ _ => rfl)) (pe_tup (pa_cons pe_str (pa_cons (pv 7) pa_nil))) pps_nil)) rfl rfl (by simp) (by decide)))
      (pss_cons (ps_set (i := 9) sc.nd rfl (Or.inl rfl) (pe_call GF (hr.mono (by decide)) (by rfl) DF.mg DF.fn.kp bF .nil pass0 (pa_cons (pv 2) (pa_cons (pe_ix ix_list (pv 5) pe_int (fun _ _ => rfl)) (pa_cons (pe_disp (pps_cons (pe_ix ix_list (pv 5) pe_int (fun _ _ => rfl)) (pe_tup (pa_cons pe_str pa_nil)) (pps_cons (pe_ix ix_list (pv 5) pe_int (fun _ _ => rfl)) (pe_tup (pa_cons pe_str (pa_cons (pv 2) pa_nil))) pps_nil)) rfl rfl (by simp) (by decide)) (pa_cons (pv 8) pa_nil))))))
      (pss_cons (ps_set (i := 10) sc.nd rfl (Or.inl rfl) (pe_call GP (hr.mono (by decide)) (by rfl) DP.mg DP.fn.kp bP .nil pass0 (pa_cons (pv 0) (pa_cons (pv 5) (pa_cons (pv 2) (pa_cons pe_non pa_nil))))))
      (pss_cons (ps_set (i := 11) sc.nd rfl (Or.inl rfl) (pe_call GP (hr.mono (by decide)) (by rfl) DP.mg DP.fn.kp bP .nil pass0 (pa_cons (pv 0) (pa_cons (pv 5) (pa_cons (pv 2) (pa_cons (pe_tup (pa_cons (pv 3) (pa_cons (pv 4) pa_nil))) pa_nil))))))
      (pss_cons (ps_set (i := 12) sc.nd rfl (Or.inl rfl) (pe_make MK GI (hr.mono (by decide)) (by rfl) T.mR bI .nil pass0 (pa_cons (pv 3) (pa_cons (pv 4) (pa_cons (pv 2) pa_nil)))))
      (pss_cons (ps_set (i := 13) sc.nd rfl (Or.inl rfl) (pe_call GP (hr.mono (by decide)) (by rfl) DP.mg DP.fn.kp bP .nil pass0 (pa_cons (pv 0) (pa_cons (pv 5) (pa_cons (pv 2) (pa_cons pe_non pa_nil))))))
      (pss_cons (ps_set (i := 14) sc.nd rfl (Or.inl rfl) (pe_meth (pv 12) T.cl mF gF (hr.mono (by decide)) bFo .nil pass0 (pa_cons (pv 9) (pa_cons (pv 13) (pa_cons pe_non pa_nil)))))
      (pss_cons (ps_if (PW.pt (pw_or (pt_not (pt_val (pe_call GA (hr.mono (by decide)) (by rfl) DA.mg DA.fn.kp bA .nil pass0 (pa_cons (pv 14) (pa_cons (pe_tup (pa_cons (pv 11) (pa_cons pe_non pa_nil))) pa_nil))))) (pw_or1 (pt_not (pt_val (pe_call GA (hr.mono (by decide)) (by rfl) DA.mg DA.fn.kp bA .nil pass0 (pa_cons (pv 13) (pa_cons (pv 10) pa_nil)))))))) pss_never pss_nil)
      (pss_cons (ps_if (PW.pt (pw_or (pt_cmpR op_notN (pe_meth (pv 12) T.cl mL gL (hr.mono (by decide)) bL (show Vals [V.non] [Value.none] from .cons rfl .nil) pass0 (pa_cons (pv 9) (pa_cons (pv 13) pa_nil))) pe_non (nomark _)) (pw_or1 (pt_cmpR op_notN (pe_meth (pv 12) T.cl mR gR (hr.mono (by decide)) bR .nil pass0 (pa_cons (pv 9) (pa_cons (pe_ix ix_tup (pv 14) pe_int (fun _ _ => rfl)) (pa_cons pe_non pa_nil)))) pe_non (nomark _))))) pss_never pss_nil)
      (pss_cons (ps_frzR (ps_for PassesOwn.never rfl (pi_dict (pv 13)) (pg_name (i := 15) sc.nd rfl (Or.inl rfl)) (pss_one (ps_for PassesOwn.never rfl (pi_list (pe_dget hu (pv 13) (pv 15) (fun _ _ => rfl))) (pg_name (i := 16) sc.nd rfl (Or.inl rfl)) (pss_one (ps_expr (pe_bm0 PySem.F.plainAttrs_dict PySem.F.slot_dict_clear PySem.F.type_dict_clear mt_dclear (pv 16))))))))
      (pss_cons (ps_expr (pe_bm PySem.F.plainAttrs_list PySem.F.slot_list_append PySem.F.type_list_append mt_app (pe_dget hu (pv 13) (pe_ix ix_list (pv 5) pe_int (fun _ _ => rfl)) (fun _ _ => rfl)) (pa_cons pe_dnewK pa_nil)))
      (pss_cons (ps_if (pt_not (pt_val (pe_call GA (hr.mono (by decide)) (by rfl) DA.mg DA.fn.kp bA .nil pass0 (pa_cons (pv 14) (pa_cons (pe_tup (pa_cons (pv 11) (pa_cons pe_non pa_nil))) pa_nil))))) pss_never pss_nil)
      (pss_cons (ps_set (i := 17) sc.nd rfl (Or.inl rfl) (pe_meth (pv 12) T.cl mB gB (hr.mono (by decide)) bBa .nil pass0 (pa_cons (pv 9) (pa_cons (pe_ix ix_tup (pv 14) pe_int (fun _ _ => rfl)) (pa_cons pe_non pa_nil)))))
      (pss_cons (ps_if (PW.pt (pw_or (pt_not (pt_val (pe_call GA (hr.mono (by decide)) (by rfl) DA.mg DA.fn.kp bA .nil pass0 (pa_cons (pv 17) (pa_cons (pe_tup (pa_cons (pv 10) (pa_cons pe_non pa_nil))) pa_nil))))) (pw_or1 (pt_not (pt_val (pe_call GA (hr.mono (by decide)) (by rfl) DA.mg DA.fn.kp bA .nil pass0 (pa_cons (pv 14) (pa_cons (pe_tup (pa_cons (pv 11) (pa_cons pe_non pa_nil))) pa_nil)))))))) pss_never pss_nil)
      (pss_cons (ps_dput hu (pe_ix ix_list (pe_dget hu (pe_ix ix_tup (pv 17) pe_int (fun _ _ => rfl)) (pe_ix ix_list (pv 5) pe_int (fun _ _ => rfl)) (fun _ _ => rfl)) pe_int (fun _ _ => rfl)) (pe_ix ix_list (pv 5) pe_int (fun _ _ => rfl)) pe_int rfl)
      (pss_one (ps_ret (pe_and (pe_call GA (hr.mono (by decide)) (by rfl) DA.mg DA.fn.kp bA .nil pass0 (pa_cons (pv 14) (pa_cons (pe_tup (pa_cons (pv 11) (pa_cons pe_non pa_nil))) pa_nil))) (pe_one (pe_call GA (hr.mono (by decide)) (by rfl) DA.mg DA.fn.kp bA .nil pass0 (pa_cons (pe_meth (pv 12) T.cl mB gB (hr.mono (by decide)) bBa .nil pass0 (pa_cons (pv 9) (pa_cons (pv 11) (pa_cons pe_non pa_nil)))) (pa_cons (pe_tup (pa_cons (pv 10) (pa_cons pe_non pa_nil))) pa_nil)))))))))))))))))))))))))))))), ?_⟩
    have pw12 : CPow 10 12 := ⟨by decide, by decide, by decide⟩
    have pw13 : CPow 10 13 := ⟨by decide, by decide, by decide⟩
    refine ⟨_, rfl, a, ns, 0, rfl, ha, by decide, by decide, h63, fun H1 s1 => ?_⟩
    refine ⟨_, rfl, _, _, rfl, rfl, ⟨by decide, by decide⟩, _, _, rfl, rfl, (pos rfl), _, _, rfl, rfl, ?_⟩
    have x0 := Int.emod_nonneg (cel ns 0 / 2) (show (30 : Int) ≠ 0 by decide)
    have x1 := Int.emod_lt_of_pos (cel ns 0 / 2) (show (0 : Int) < 30 by decide)
    have y0 := Int.emod_nonneg (cel ns 0 / 2) (show (10 ^ Int.toNat 12 : Int) ≠ 0 by decide)
    have y1 : cel ns 0 / 2 % (10 ^ Int.toNat 12) < 1000000000000 := Int.emod_lt_of_pos _ (by decide)
    refine ⟨fun σ' H' => H' = H1 ∧ ∃ z : Int, σ' = [some (.ref a), some (.int (cel ns 0)), some (.int z), none, none, none, none, none, none, none, none, none, none, none, none, none, none, none] ∧ 0 < z ∧ z ≤ 1000000000000, ?_, ?_⟩
    · refine ⟨_, rfl, _, _, rfl, rfl, (pos rfl), rfl, _, rfl, ite2 (fun _ => ?_) (fun _ => ?_)⟩
      · exact ⟨_, rfl, _, _, rfl, rfl, ⟨by decide, by decide⟩, _, _, rfl, rfl, pw12, _, _, rfl, rfl, (pos (by decide +kernel)), _, _, rfl, rfl, rfl, _, rfl, by omega, by omega⟩
      · exact ⟨rfl, _, rfl, by omega, by omega⟩
    rintro σ2 H2 ⟨rfl, z, rfl, z0, z1⟩
    refine ⟨_, rfl, a, ns, 1, rfl, s1.seq ha, by decide, by decide, h63, fun H3 s3 => ⟨_, rfl, _, z, rfl, z0, fun t t0 t1 tg => ?_⟩⟩
    replace s3 := s1.trans s3
    refine ⟨_, rfl, a, ns, 2, rfl, s3.seq ha, by decide, by decide, h63, fun H4 s4 => ⟨_, _, rfl, rfl, pw13, _, _, rfl, rfl, (pos (by decide +kernel)), ?_⟩⟩
    replace s4 := s3.trans s4
    refine ⟨_, rfl, a, ns, 3, rfl, s4.seq ha, by decide, by decide, h63, fun H5 s5 => ⟨_, 9, rfl, by decide, by decide, fun nl zs H6 s6 _ hnl0 zl znd _ => ?_⟩⟩
    replace s6 := (s4.trans s5).trans s6
    obtain ⟨nm, inj, hnl⟩ : ∃ nm, Inj9 nm ∧ H6 nl = some (.lst (nmL nm)) := by
      have z9 : zs.length = 9 := by omega
      refine ⟨fun i => zs.getD i "", fun i j hi hj e => ?_, ?_⟩
      · have hi' : i < zs.length := by omega
        have hj' : j < zs.length := by omega
        have e : zs.getD i "" = zs.getD j "" := e
        rw [List.getD_eq_getElem?_getD, List.getD_eq_getElem?_getD, List.getElem?_eq_getElem hi', List.getElem?_eq_getElem hj'] at e
        exact (List.getElem_inj znd).mp e
      · rw [hnl0]
        congr 2
        refine List.ext_getElem (by simp [z9]) fun i h1 h2 => ?_
        have hi' : i < zs.length := by simpa using h1
        simp [List.getElem?_eq_getElem hi']
    clear hnl0 znd zl
    have atn : ∀ (i : Nat), i < 9 → atI (nmL nm) (i : Int) = some (.str (nm i)) := fun i hi => atI_nat (by rw [List.getElem?_map, List.getElem?_range hi]; rfl)
    intro tw htw
    have U0tw := Same.upd (o := .dK []) htw
    have p0tw := upd_same (H := H6) (a := tw) (o := .dK [])
    generalize upd H6 tw (.dK []) = G0tw at *
    refine ⟨_, rfl, nl, _, 5, _, rfl, rfl, SqL.of (U0tw _ _ hnl), atn 5 (by decide), _, rfl, (show 2 ≤ sizeLine by decide), fun a1 ha1 => ?_⟩
    have Wa1 := Same.upd (o := .tup [.str "below", .int z]) ha1
    have ka1 := upd_same (H := G0tw) (a := a1) (o := .tup [.str "below", .int z])
    have Ua1 := U0tw.trans Wa1
    have pa1 := Wa1 _ _ p0tw
    generalize upd G0tw a1 (.tup [.str "below", .int z]) = Ga1 at *
    refine ⟨_, rfl, nl, _, 6, _, rfl, rfl, SqL.of (Ua1 _ _ hnl), atn 6 (by decide), (show 1 ≤ sizeLine by decide), fun b1 hb1 => ?_⟩
    have Wb1 := Same.upd (o := .tup [.str "key"]) hb1
    have kb1 := upd_same (H := Ga1) (a := b1) (o := .tup [.str "key"])
    have Ub1 := Ua1.trans Wb1
    have pb1 := Wb1 _ _ pa1
    have ka1 := Wb1 _ _ ka1
    generalize upd Ga1 b1 (.tup [.str "key"]) = Gb1 at *
    refine ⟨pb1, [(.inr (nm 5), .ref a1), (.inr (nm 6), .ref b1)], rfl, (by show 2 ≤ 15; decide), ?_⟩
    rw [merge2 inj.ne]
    have Stw : Same H6 (upd Gb1 tw (.dK [(.inr (nm 5), .ref a1), (.inr (nm 6), .ref b1)])) := Ub1.put htw
    have etw := upd_same (H := Gb1) (a := tw) (o := .dK [(.inr (nm 5), .ref a1), (.inr (nm 6), .ref b1)])
    replace ka1 := (upd_ne (o := .dK [(.inr (nm 5), .ref a1), (.inr (nm 6), .ref b1)]) (fun z => by rw [z, pb1] at ka1; cases ka1)).trans ka1
    replace kb1 := (upd_ne (o := .dK [(.inr (nm 5), .ref a1), (.inr (nm 6), .ref b1)]) (fun z => by rw [z, pb1] at kb1; cases kb1)).trans kb1
    generalize upd Gb1 tw (.dK [(.inr (nm 5), .ref a1), (.inr (nm 6), .ref b1)]) = H7 at *
    have s7 := s6.trans Stw
    have n7 := Stw _ _ hnl
    intro my hmy
    have U0my := Same.upd (o := .dK []) hmy
    have p0my := upd_same (H := H7) (a := my) (o := .dK [])
    generalize upd H7 my (.dK []) = G0my at *
    refine ⟨_, rfl, nl, _, 3, _, rfl, rfl, SqL.of (U0my _ _ n7), atn 3 (by decide), (show 1 ≤ sizeLine by decide), fun a2 ha2 => ?_⟩
    have Wa2 := Same.upd (o := .tup [.str "key"]) ha2
    have ka2 := upd_same (H := G0my) (a := a2) (o := .tup [.str "key"])
    have Ua2 := U0my.trans Wa2
    have pa2 := Wa2 _ _ p0my
    generalize upd G0my a2 (.tup [.str "key"]) = Ga2 at *
    refine ⟨_, rfl, nl, _, 7, _, rfl, rfl, SqL.of (Ua2 _ _ n7), atn 7 (by decide), (show 1 ≤ sizeLine by decide), fun b2 hb2 => ?_⟩
    have Wb2 := Same.upd (o := .tup [.str "word"]) hb2
    have kb2 := upd_same (H := Ga2) (a := b2) (o := .tup [.str "word"])
    have Ub2 := Ua2.trans Wb2
    have pb2 := Wb2 _ _ pa2
    have ka2 := Wb2 _ _ ka2
    generalize upd Ga2 b2 (.tup [.str "word"]) = Gb2 at *
    refine ⟨_, rfl, nl, _, 8, _, rfl, rfl, SqL.of (Ub2 _ _ n7), atn 8 (by decide), (show 1 ≤ sizeLine by decide), fun c2 hc2 => ?_⟩
    have Wc2 := Same.upd (o := .tup [.str "key"]) hc2
    have kc2 := upd_same (H := Gb2) (a := c2) (o := .tup [.str "key"])
    have Uc2 := Ub2.trans Wc2
    have pc2 := Wc2 _ _ pb2
    have ka2 := Wc2 _ _ ka2
    have kb2 := Wc2 _ _ kb2
    generalize upd Gb2 c2 (.tup [.str "key"]) = Gc2 at *
    refine ⟨pc2, [(.inr (nm 3), .ref a2), (.inr (nm 7), .ref b2), (.inr (nm 8), .ref c2)], rfl, (by show 3 ≤ 15; decide), ?_⟩
    rw [merge3 inj.ne inj.ne inj.ne]
    have Smy : Same H7 (upd Gc2 my (.dK [(.inr (nm 3), .ref a2), (.inr (nm 7), .ref b2), (.inr (nm 8), .ref c2)])) := Uc2.put hmy
    have emy := upd_same (H := Gc2) (a := my) (o := .dK [(.inr (nm 3), .ref a2), (.inr (nm 7), .ref b2), (.inr (nm 8), .ref c2)])
    replace ka2 := (upd_ne (o := .dK [(.inr (nm 3), .ref a2), (.inr (nm 7), .ref b2), (.inr (nm 8), .ref c2)]) (fun z => by rw [z, pc2] at ka2; cases ka2)).trans ka2
    replace kb2 := (upd_ne (o := .dK [(.inr (nm 3), .ref a2), (.inr (nm 7), .ref b2), (.inr (nm 8), .ref c2)]) (fun z => by rw [z, pc2] at kb2; cases kb2)).trans kb2
    replace kc2 := (upd_ne (o := .dK [(.inr (nm 3), .ref a2), (.inr (nm 7), .ref b2), (.inr (nm 8), .ref c2)]) (fun z => by rw [z, pc2] at kc2; cases kc2)).trans kc2
    generalize upd Gc2 my (.dK [(.inr (nm 3), .ref a2), (.inr (nm 7), .ref b2), (.inr (nm 8), .ref c2)]) = H8 at *
    have n8 := Smy _ _ n7
    have s8 := s7.trans Smy
    intro sd hsd
    have U0sd := Same.upd (o := .dK []) hsd
    have p0sd := upd_same (H := H8) (a := sd) (o := .dK [])
    generalize upd H8 sd (.dK []) = G0sd at *
    refine ⟨_, rfl, nl, _, 1, _, rfl, rfl, SqL.of (U0sd _ _ n8), atn 1 (by decide), _, rfl, (show 2 ≤ sizeLine by decide), fun t1' ht1' => ?_⟩
    have Wt1' := Same.upd (o := .tup [.str "twin", .ref tw]) ht1'
    have kt1' := upd_same (H := G0sd) (a := t1') (o := .tup [.str "twin", .ref tw])
    have Ut1' := U0sd.trans Wt1'
    have pt1' := Wt1' _ _ p0sd
    generalize upd G0sd t1' (.tup [.str "twin", .ref tw]) = Gt1' at *
    refine ⟨_, rfl, nl, _, 2, _, rfl, rfl, SqL.of (Ut1' _ _ n8), atn 2 (by decide), _, rfl, (show 2 ≤ sizeLine by decide), fun t2' ht2' => ?_⟩
    have Wt2' := Same.upd (o := .tup [.str "many", .ref my]) ht2'
    have kt2' := upd_same (H := Gt1') (a := t2') (o := .tup [.str "many", .ref my])
    have Ut2' := Ut1'.trans Wt2'
    have pt2' := Wt2' _ _ pt1'
    have kt1' := Wt2' _ _ kt1'
    generalize upd Gt1' t2' (.tup [.str "many", .ref my]) = Gt2' at *
    refine ⟨pt2', [(.inr (nm 1), .ref t1'), (.inr (nm 2), .ref t2')], rfl, (by show 2 ≤ 15; decide), ?_⟩
    rw [merge2 inj.ne]
    have Ssd : Same H8 (upd Gt2' sd (.dK [(.inr (nm 1), .ref t1'), (.inr (nm 2), .ref t2')])) := Ut2'.put hsd
    have esd := upd_same (H := Gt2') (a := sd) (o := .dK [(.inr (nm 1), .ref t1'), (.inr (nm 2), .ref t2')])
    replace kt1' := (upd_ne (o := .dK [(.inr (nm 1), .ref t1'), (.inr (nm 2), .ref t2')]) (fun z => by rw [z, pt2'] at kt1'; cases kt1')).trans kt1'
    replace kt2' := (upd_ne (o := .dK [(.inr (nm 1), .ref t1'), (.inr (nm 2), .ref t2')]) (fun z => by rw [z, pt2'] at kt2'; cases kt2')).trans kt2'
    generalize upd Gt2' sd (.dK [(.inr (nm 1), .ref t1'), (.inr (nm 2), .ref t2')]) = H9 at *
    have n9 := Ssd _ _ n8
    have s9 := s8.trans Ssd
    refine ⟨_, rfl, _, rfl, nl, _, 0, _, rfl, rfl, SqL.of n9, atn 0 (by decide), ?_⟩
    intro cd hcd
    have U0cd := Same.upd (o := .dK []) hcd
    have p0cd := upd_same (H := H9) (a := cd) (o := .dK [])
    generalize upd H9 cd (.dK []) = G0cd at *
    refine ⟨_, rfl, nl, _, 3, _, rfl, rfl, SqL.of (U0cd _ _ n9), atn 3 (by decide), (show 1 ≤ sizeLine by decide), fun a0 ha0 => ?_⟩
    have Wa0 := Same.upd (o := .tup [.str "key"]) ha0
    have ka0 := upd_same (H := G0cd) (a := a0) (o := .tup [.str "key"])
    have Ua0 := U0cd.trans Wa0
    have pa0 := Wa0 _ _ p0cd
    generalize upd G0cd a0 (.tup [.str "key"]) = Ga0 at *
    refine ⟨_, rfl, nl, _, 4, _, rfl, rfl, SqL.of (Ua0 _ _ n9), atn 4 (by decide), _, rfl, (show 2 ≤ sizeLine by decide), fun b0 hb0 => ?_⟩
    have Wb0 := Same.upd (o := .tup [.str "below", .int z]) hb0
    have kb0 := upd_same (H := Ga0) (a := b0) (o := .tup [.str "below", .int z])
    have Ub0 := Ua0.trans Wb0
    have pb0 := Wb0 _ _ pa0
    have ka0 := Wb0 _ _ ka0
    generalize upd Ga0 b0 (.tup [.str "below", .int z]) = Gb0 at *
    refine ⟨pb0, [(.inr (nm 3), .ref a0), (.inr (nm 4), .ref b0)], rfl, (by show 2 ≤ 15; decide), ?_⟩
    rw [merge2 inj.ne]
    have Scd : Same H9 (upd Gb0 cd (.dK [(.inr (nm 3), .ref a0), (.inr (nm 4), .ref b0)])) := Ub0.put hcd
    have ecd := upd_same (H := Gb0) (a := cd) (o := .dK [(.inr (nm 3), .ref a0), (.inr (nm 4), .ref b0)])
    replace ka0 := (upd_ne (o := .dK [(.inr (nm 3), .ref a0), (.inr (nm 4), .ref b0)]) (fun z => by rw [z, pb0] at ka0; cases ka0)).trans ka0
    replace kb0 := (upd_ne (o := .dK [(.inr (nm 3), .ref a0), (.inr (nm 4), .ref b0)]) (fun z => by rw [z, pb0] at kb0; cases kb0)).trans kb0
    generalize upd Gb0 cd (.dK [(.inr (nm 3), .ref a0), (.inr (nm 4), .ref b0)]) = H10 at *
    have n10 := Scd _ _ n9
    have s10 := s9.trans Scd
    have i34 : nm 3 ≠ nm 4 := inj.ne
    have i56 : nm 5 ≠ nm 6 := inj.ne
    have i37 : nm 3 ≠ nm 7 := inj.ne
    have i38 : nm 3 ≠ nm 8 := inj.ne
    have i78 : nm 7 ≠ nm 8 := inj.ne
    refine ⟨_, rfl, z, nm 0, nm 1, nm 2, cd, sd, t1', t2', tw, my, [(nm 3, a0), (nm 4, b0)], [(nm 5, a1), (nm 6, b1)], [(nm 3, a2), (nm 7, b2), (nm 8, c2)], "twin", "many", rfl, ⟨ecd, by simp [i34], by simp⟩, Scd _ _ esd, inj.ne, Scd _ _ kt1', Scd _ _ kt2', ⟨(Smy.trans (Ssd.trans Scd)) _ _ etw, by simp [i56], by simp⟩, ⟨(Ssd.trans Scd) _ _ emy, by simp [i37, i38, i78], by simp⟩, fun fm Ts H11 s11 hfm pms hcs => ?_⟩
    have ck : ColOk H11 nm (kkOf H11) Ts := colOk inj ⟨⟨a0, b0, rfl, s11 _ _ ka0, s11 _ _ kb0⟩, ⟨a1, b1, rfl, (Smy.trans (Ssd.trans (Scd.trans s11))) _ _ ka1, (Smy.trans (Ssd.trans (Scd.trans s11))) _ _ kb1⟩, ⟨a2, b2, c2, rfl, (Ssd.trans (Scd.trans s11)) _ _ ka2, (Ssd.trans (Scd.trans s11)) _ _ kb2, (Ssd.trans (Scd.trans s11)) _ _ kc2⟩⟩ pms hcs
    generalize kkOf H11 = kk at *
    have n11 := s11 _ _ n10
    replace s11 := s10.trans s11
    clear hcs pms Stw Smy Ssd Scd
    -- the pieces
    have gR2 : ∀ k : Int, 0 ≤ k → k < z → 0 ≤ wayF z (some (t, (cel ns 2 % 10 ^ Int.toNat 13))) k ∧ wayF z (some (t, (cel ns 2 % 10 ^ Int.toNat 13))) k < z := fun k _ _ => ⟨Int.emod_nonneg _ (by omega), Int.emod_lt_of_pos _ z0⟩
    have gI : ∀ k : Int, 0 ≤ k → k < z → 0 ≤ wayF z none k ∧ wayF z none k < z := fun k a b => ⟨a, b⟩
    refine ⟨_, rfl, _, rfl, _, rfl, a, nl, ns, nm, z, .non, none, rfl, s11.seq ha, h63, n11, inj, z0, z1, rfl, fun po H12 s12 d12 => ?_⟩
    refine ⟨_, rfl, _, rfl, _, rfl, _, rfl, _, rfl, (show 2 ≤ sizeLine by decide), fun tp htp => ?_⟩
    have T13 := Same.upd (o := .tup [.int t, .int (cel ns 2 % 10 ^ Int.toNat 13)]) htp
    refine ⟨a, nl, ns, nm, z, .ref tp, some (t, (cel ns 2 % 10 ^ Int.toNat 13)), rfl, ((s11.trans s12).trans T13).seq ha, h63, T13 _ _ (s12 _ _ n11), inj, z0, z1, ⟨tp, rfl, upd_same, t0, by omega⟩, fun pn H13 s13 d13 => ?_⟩
    replace s13 := T13.trans s13
    have d13' : PcAt H13 pn (pcG ns nm z (wayF z (some (t, (cel ns 2 % 10 ^ Int.toNat 13))))) := (d13.d.same cut_sub).pc
    have d12' : PcAt H13 po (pcG ns nm z (wayF z none)) := (d12.d.same cut_sub).pc.same s13
    have s1113 := s12.trans s13
    refine ⟨_, rfl, _, rfl, _, rfl, fun mv dx n1 n2 ndx => ⟨mv, dx, t, (cel ns 2 % 10 ^ Int.toNat 13), z, rfl, upd_same, fun H14 em om => ⟨rfl, ?_⟩⟩⟩
    have s14 : Same H13 H14 := fun b o e => by
      have b1 : b ≠ mv := fun z => by rw [z, n1] at e; cases e
      have b2 : b ≠ dx := fun z => by rw [z, n2] at e; cases e
      rw [om b b1, upd_ne b1, upd_ne b2]
      exact e
    have s1114 := s1113.trans s14
    refine ⟨_, rfl, _, rfl, _, rfl, a, nl, ns, nm, z, .non, none, rfl, (s11.trans s1114).seq ha, h63, s1114 _ _ n11, inj, z0, z1, rfl, fun ph H15 s15 d15 => ?_⟩
    have s1115 := s1114.trans s15
    have tF : H15 PF = some (.tbl #[]) := (s11.trans s1115) _ _ hPF
    have tB : H15 PB = some (.tbl #[]) := (s11.trans s1115) _ _ hPB
    obtain ⟨f0, f00, f01, ef0⟩ := inv_ex t0 z0 tg
    have g15 : FormAt H15 fm z Ts := hfm.same s1115
    have c15 := ck.same s1115
    have tPF : ∀ b xs, H15 b = some (.tup xs) → b ≠ PF := fun b xs e z => by rw [z, tF] at e; cases e
    have emv : H15 mv = some (.ins CR dx (flds t (cel ns 2 % 10 ^ Int.toNat 13) z)) := s15 _ _ em
    have fno : ∀ m : Str, ¬ m = "size" → ¬ m = "plus" → ¬ m = "times" → (flds t (cel ns 2 % 10 ^ Int.toNat 13) z).lookup m = none := fun m h1 h2 h3 => flds_no _ _ _ h1 h2 h3
    have tF14 : H14 PF = some (.tbl #[]) := (s11.trans s1114) _ _ hPF
    have tB14 : H14 PB = some (.tbl #[]) := (s11.trans s1114) _ _ hPB
    have tB14' : del H14 PF PB = some (.tbl #[]) := (del_ne (Ne.symm nFB)).trans tB14
    have yfm : FormAt (del (del H14 PF) PB) fm z Ts := ((hfm.same s1114).del tF14).del tB14'
    have yck : ColOk (del (del H14 PF) PB) nm kk Ts := ((ck.same s1114).del tF14).del tB14'
    have ypo : PcAt (del (del H14 PF) PB) po (pcG ns nm z (wayF z none)) := ((d12'.same s14).del tF14).del tB14'
    have ypn : PcAt (del (del H14 PF) PB) pn (pcG ns nm z (wayF z (some (t, (cel ns 2 % 10 ^ Int.toNat 13))))) := ((d13'.same s14).del tF14).del tB14'
    have ynl : (del (del H14 PF) PB) nl = some (.lst (nmL nm)) := by
      have e := s1114 _ _ n11
      rw [del_ne (fun z => by rw [z, tB14] at e; cases e), del_ne (fun z => by rw [z, tF14] at e; cases e)]
      exact e
    have ymv : (del (del H14 PF) PB) mv = some (.ins CR dx (flds t (cel ns 2 % 10 ^ Int.toNat 13) z)) := by
      rw [del_ne (fun z => by rw [z, tB14] at em; cases em), del_ne (fun z => by rw [z, tF14] at em; cases em)]
      exact em
    have y14 : ∀ b o, (del (del H14 PF) PB) b = some o → b ≠ PB ∧ b ≠ PF ∧ H14 b = some o := fun b o e => by
      have h1 : b ≠ PB := fun z => by rw [z, del_same] at e; cases e
      rw [del_ne h1] at e
      have h2 : b ≠ PF := fun z => by rw [z, del_same] at e; cases e
      rw [del_ne h2] at e
      exact ⟨h1, h2, e⟩
    generalize hY : del (del H14 PF) PB = Y at *
    have y15 : Same Y (del H15 PF) := fun b o e => by
      obtain ⟨_, h2, h3⟩ := y14 b o e
      rw [del_ne h2]
      exact s15 _ _ h3
    have ph15 : PcAt (del H15 PF) ph (pcG ns nm z (wayF z none)) := ((d15.d.same cut_sub).pc).del tF
    refine ⟨_, rfl, mv, dx, _, rfl, emv, fno _ (by decide +kernel) (by decide +kernel) (by decide +kernel), _, rfl, _, rfl, mv, fm, ph, t, (cel ns 2 % 10 ^ Int.toNat 13), z, z, f0, Ts, _, kk, ptN nm, rfl, ⟨dx, emv⟩, z0, z1, ⟨tg, f00, f01, ef0⟩, wp_of inj z0 (yfm.same y15) (yck.same y15) gI ph15, .inl tF, fun r1 p1 H16 fr16 _ e16 nr1 d16 => ?_⟩
    rw [tr_pc (g := fun k => (t * k + (cel ns 2 % 10 ^ Int.toNat 13)) % z) (h := wayF z none) (h' := wayF z (some (t, (cel ns 2 % 10 ^ Int.toNat 13)))) inj z0 (fun k _ _ => rfl)] at d16
    have y16 : Same Y H16 := fun b o e => by
      obtain ⟨_, h2, h3⟩ := y14 b o e
      exact fr16 _ _ h2 (s15 _ _ h3)
    have p16 : PcAt H16 p1 (pcG ns nm z (wayF z (some (t, (cel ns 2 % 10 ^ Int.toNat 13))))) := (d16.d.same cut_sub).pc
    refine ⟨_, rfl, _, rfl, (show 2 ≤ sizeLine by decide), fun t1 ht1 => ⟨_, _, rfl, ?_, fun H17 s17 => ⟨_, rfl, iteF ?_⟩⟩⟩
    · have T := Same.upd (o := .tup [.ref pn, .non]) ht1
      exact lq_two (T _ _ e16) upd_same (lq_pc inj (p16.same T) (ypn.same (y16.trans T)))
    replace s17 := (Same.upd (o := .tup [.ref pn, .non]) ht1).trans s17
    have ph16 : PcAt H16 ph (pcG ns nm z (wayF z none)) := ph15.same fun b o e => by
      have h2 : b ≠ PF := fun z => by rw [z, del_same] at e; cases e
      rw [del_ne h2] at e
      exact fr16 _ _ h2 e
    refine ⟨_, rfl, _, rfl, _, _, rfl, lq_pc5 inj (ph16.same s17) (ypo.same (y16.trans s17)), fun H18 s18 => ⟨_, rfl, iteF ?_⟩⟩
    replace s18 := s17.trans s18
    have y18 := y16.trans s18
    refine ⟨_, rfl, mv, dx, _, rfl, y18 _ _ ymv, fno _ (by decide +kernel) (by decide +kernel) (by decide +kernel), _, rfl, _, rfl, _, _, _, _, rfl, rfl, _, rfl, iteC (by simp) ?_⟩
    refine ⟨_, rfl, mv, dx, _, rfl, y18 _ _ ymv, fno _ (by decide +kernel) (by decide +kernel) (by decide +kernel), _, rfl, _, rfl, r1, _, 0, _, rfl, rfl, SqT.of (s18 _ _ e16), rfl, _, _, _, _, rfl, rfl, _, rfl, iteC (by simp) ?_⟩
    -- the handed piece is spoilt
    have fr18 : Fr PF H15 H18 := fun b o n e => s18 _ _ (fr16 b o n e)
    have k15 : ∀ b o, cut H14 H15 b = some o → H18 b = some o := fun b o e => fr18 b o (fun z => by rw [z] at e; have := cut_new e; rw [tF14] at this; cases this) (cut_sub _ _ e)
    obtain ⟨ls, ow, a1x, a2x, a3x⟩ := d15
    obtain ⟨zn, hzn⟩ : ∃ zn : List Str, (pcG ns nm z (wayF z none)).map (fun x => x.1) = zn := ⟨_, rfl⟩
    rw [hzn] at a1x
    have pnd : zn.Nodup := by rw [← hzn]; exact pcG_nd inj
    have cph : cC H14 H15 H18 ph = none := cC_dk a1x
    have low : ∀ l ∈ ls, cC H14 H15 H18 l = none ∧ ∃ rs : List Addr, H18 l = some (.lst (rs.map V.ref)) ∧ rs.length ≤ 1000 ∧ ∀ r ∈ rs, cC H14 H15 H18 r = none ∧ ∃ kv : List (Key × V), H18 r = some (.dK kv) := fun l hl => by
      obtain ⟨j, hj⟩ := List.getElem?_of_mem hl
      have hjp : j < (pcG ns nm z (wayF z none)).length := by rw [← a2x]; exact (List.getElem?_eq_some_iff.mp hj).1
      obtain ⟨rs, b1, b2, _, b4, _⟩ := a3x j l _ hj (List.getElem?_eq_getElem hjp)
      refine ⟨cC_lst b1, rs, k15 _ _ b1, by rw [b2]; exact (pcG_ok (H := H) inj).rl _ (List.getElem_mem hjp), fun r hr => ?_⟩
      obtain ⟨m, hm⟩ := List.getElem?_of_mem hr
      have hmp : m < (pcG ns nm z (wayF z none))[j].2.length := by rw [← b2]; exact (List.getElem?_eq_some_iff.mp hm).1
      have := b4 m r _ hm (List.getElem?_eq_getElem hmp)
      exact ⟨cC_dk this, _, k15 _ _ this⟩
    have C18 : Same (cC H14 H15 H18) H18 := cC_to
    have hph18 := k15 _ _ a1x
    have yC : Same Y (cC H14 H15 H18) := fun b o e => by
      obtain ⟨_, h2, h3⟩ := y14 b o e
      rw [cC_old h3]
      exact y18 _ _ e
    have nC : Same (cut H15 H16) (cC H14 H15 H18) := fun b o e => by
      rw [cC_new (cut_new e)]
      exact s18 _ _ (cut_sub _ _ e)
    have r1C : cC H14 H15 H18 r1 = some (.tup [.ref p1, .non]) := (cC_new nr1).trans (s18 _ _ e16)
    have tBC : cC H14 H15 H18 PB = some (.tbl #[]) := (cC_old tB14).trans (fr18 _ _ (Ne.symm nFB) tB)
    generalize cC H14 H15 H18 = C at *
    refine ⟨ph, _, .inl hph18, (fun o ho => by rw [hph18] at ho; cases ho), fun _ o => ?_⟩
    refine ⟨_, rfl, ph, o, _, rfl, upd_same, for_dict (a := ph) (o := o) (kvs := zK zn ls) (fun i σ H' => (∃ u15 u16, σ = [some (.ref a), some (.int (cel ns 0)), some (.int z), some (.int t), some (.int (cel ns 2 % 10 ^ Int.toNat 13)), some (.ref nl), some (.ref tw), some (.ref my), some (.ref sd), some (.ref fm), some (.ref po), some (.ref pn), some (.ref mv), some (.ref ph), some (.ref r1), u15, u16, none]) ∧ Same C H' ∧ H' ph = some (.frz o (.dK (zK zn ls))) ∧ ∀ l ∈ ls, C l = none ∧ ∃ rs : List Addr, H' l = some (.lst (rs.map V.ref)) ∧ rs.length ≤ 1000 ∧ ∀ r ∈ rs, C r = none ∧ ∃ kv : List (Key × V), H' r = some (.dK kv)) ⟨⟨_, _, rfl⟩, C18.put cph, upd_same, fun l hl => ?_⟩ (fun i σ H' _ p => p.2.2.1) ?_ ?_⟩
    · obtain ⟨c1, rs, c2, c3, c4⟩ := low l hl
      have ne : ∀ b x, H18 b = some x → x ≠ .dK (zK zn ls) → upd H18 ph (.frz o (.dK (zK zn ls))) b = some x := fun b x e n => (upd_ne fun z => by rw [z, hph18] at e; cases e; exact n rfl).trans e
      obtain ⟨jj, hjj⟩ := List.getElem?_of_mem hl
      have hjp : jj < (pcG ns nm z (wayF z none)).length := by rw [← a2x]; exact (List.getElem?_eq_some_iff.mp hjj).1
      obtain ⟨rs', b1, b2, _, b4, _⟩ := a3x jj l _ hjj (List.getElem?_eq_getElem hjp)
      refine ⟨c1, rs', ne _ _ (k15 _ _ b1) (by simp), by rw [b2]; exact (pcG_ok (H := H) inj).rl _ (List.getElem_mem hjp), fun r hr => ?_⟩
      obtain ⟨m, hm⟩ := List.getElem?_of_mem hr
      have hmp : m < (pcG ns nm z (wayF z none))[jj].2.length := by rw [← b2]; exact (List.getElem?_eq_some_iff.mp hm).1
      have b5 := b4 m r _ hm (List.getElem?_eq_getElem hmp)
      have cr : C r = none := by
        cases e : rs[m]? with
        | none =>
          have e1 := k15 _ _ b1
          rw [c2] at e1
          have e2 : rs = rs' := by
            injection e1 with e1
            injection e1 with e1
            exact List.map_inj_right (fun a b h => by injection h) |>.mp e1
          rw [e2, hm] at e
          cases e
        | some r' =>
          have e1 := k15 _ _ b1
          rw [c2] at e1
          have e2 : rs = rs' := by
            injection e1 with e1
            injection e1 with e1
            exact List.map_inj_right (fun a b h => by injection h) |>.mp e1
          exact (c4 r (by rw [e2]; exact hr)).1
      refine ⟨cr, _, ne _ _ (k15 _ _ b5) fun e => ?_⟩
      injection e with e
      have hm' : ((.inr (pcG ns nm z (wayF z none))[jj].1 : Key), V.ref l) ∈ zK zn ls := zK_mem (j := jj) (by rw [← hzn, List.getElem?_map, List.getElem?_eq_getElem hjp]; rfl) hjj
      rw [← e] at hm'
      obtain ⟨cc, hcc, ecc⟩ := List.mem_map.mp hm'
      have := (pcG_row inj (List.getElem_mem hjp) (List.getElem_mem hmp)).2 cc hcc
      injection ecc with _ e2
      rw [e2] at this
      cases this
    · rintro i k v σ H' hk ⟨⟨u15, u16, rfl⟩, sC, hph, lo⟩
      obtain ⟨y, l, hy, hl, rfl, rfl⟩ := zK_get hk
      have hlm := List.mem_of_getElem? hl
      obtain ⟨c1, rs, c2, c3, c4⟩ := lo l hlm
      refine ⟨_, rfl, _, rfl, ph, .ref l, rfl, .inl ⟨_, .inr y, .inr ⟨o, hph⟩, rfl, (zw_val pnd hy (by rw [List.getElem?_map, hl]; rfl)).symm⟩, l, rfl, ⟨_, SqL.of c2⟩, ?_⟩
      refine for_list (K := K) (xs := rs.map V.ref) (fun m σ H'' => (∃ u16, σ = [some (.ref a), some (.int (cel ns 0)), some (.int z), some (.int t), some (.int (cel ns 2 % 10 ^ Int.toNat 13)), some (.ref nl), some (.ref tw), some (.ref my), some (.ref sd), some (.ref fm), some (.ref po), some (.ref pn), some (.ref mv), some (.ref ph), some (.ref r1), some (.str y), u16, none]) ∧ Same C H'' ∧ H'' ph = some (.frz o (.dK (zK zn ls))) ∧ H'' l = some (.lst (rs.map V.ref)) ∧ (∀ r ∈ rs, C r = none ∧ ∃ kv : List (Key × V), H'' r = some (.dK kv)) ∧ ∀ l ∈ ls, C l = none ∧ ∃ rs : List Addr, H'' l = some (.lst (rs.map V.ref)) ∧ rs.length ≤ 1000 ∧ ∀ r ∈ rs, C r = none ∧ ∃ kv : List (Key × V), H'' r = some (.dK kv)) ⟨⟨_, rfl⟩, sC, hph, c2, c4, lo⟩ (fun m σ H'' _ p => SqL.of p.2.2.2.1) ?_ ?_
      · rintro m x σ H'' hx ⟨⟨u16', rfl⟩, sC', hph', hl', hr', lo'⟩
        obtain ⟨r, hrm, rfl⟩ := List.mem_map.mp (List.mem_of_getElem? hx)
        obtain ⟨cr, kv, ek⟩ := hr' r hrm
        have nl' : ∀ b x, H'' b = some x → (∀ kv, x ≠ .dK kv) → upd H'' r (.dK []) b = some x := fun b x e n => (upd_ne fun z => by rw [z, ek] at e; cases e; exact n _ rfl).trans e
        have dk : ∀ b, (∃ kv : List (Key × V), H'' b = some (.dK kv)) → ∃ kv : List (Key × V), upd H'' r (.dK []) b = some (.dK kv) := fun b ⟨kv, e⟩ => by
          by_cases z : b = r
          · subst z
            exact ⟨[], upd_same⟩
          · exact ⟨kv, (upd_ne z).trans e⟩
        exact ⟨_, rfl, .inr (.inr (.inl ⟨rfl, .inl ⟨_, ek⟩⟩)), r, kv, rfl, rfl, ek, ⟨_, rfl⟩, sC'.put cr, nl' _ _ hph' (by simp), nl' _ _ hl' (by simp), fun r' h => ⟨(hr' r' h).1, dk r' (hr' r' h).2⟩, fun l' h => by
          obtain ⟨g1, rs', g2, g3, g4⟩ := lo' l' h
          exact ⟨g1, rs', nl' _ _ g2 (by simp), g3, fun r' h => ⟨(g4 r' h).1, dk r' (g4 r' h).2⟩⟩⟩
      · rintro σ H'' ⟨⟨u16', rfl⟩, sC', hph', hl', hr', lo'⟩
        exact ⟨⟨_, _, rfl⟩, sC', hph', lo'⟩
    rintro σ H' ⟨⟨u15, u16, rfl⟩, sC, hph, lo⟩
    refine ⟨hph, ?_⟩
    have l2i : 2 < ls.length := by rw [a2x]; show 2 < 3; decide
    have hl2 : ls[2]? = some ls[2] := List.getElem?_eq_getElem l2i
    obtain ⟨c1, rs2, c2, c3, _⟩ := lo ls[2] (List.getElem_mem l2i)
    have sC19 : Same C (upd H' ph (.dK (zK zn ls))) := sC.put cph
    have hph19 := upd_same (H := H') (a := ph) (o := .dK (zK zn ls))
    have hl19 : upd H' ph (.dK (zK zn ls)) ls[2] = some (.lst (rs2.map V.ref)) := (upd_ne fun z => by rw [z, hph] at c2; cases c2).trans c2
    generalize upd H' ph (.dK (zK zn ls)) = H19 at *
    refine ⟨_, rfl, _, rfl, nl, _, 2, _, rfl, rfl, SqL.of (sC19 _ _ (yC _ _ ynl)), atn 2 (by decide), ph, .ref ls[2], rfl, .inl ⟨_, .inr (nm 2), .inl hph19, rfl, (zw_val (i := 2) pnd (show zn[2]? = some (nm 2) by rw [← hzn]; rfl) (by rw [List.getElem?_map, hl2]; rfl)).symm⟩, .inl ⟨rfl, _, SqL.of hl19⟩, fun e he => ⟨ls[2], _, _, rfl, rfl, (Same.upd he) _ _ hl19, (by rw [List.length_map, sizeLine_eq]; omega), ?_⟩⟩
    have sC20 : Same C (upd (upd H19 e (.dK [])) ls[2] (.lst (rs2.map V.ref ++ [.ref e]))) := (sC19.put (none_of sC19 he)).put c1
    generalize upd (upd H19 e (.dK [])) ls[2] (.lst (rs2.map V.ref ++ [.ref e])) = H20 at *
    have y20 := yC.trans sC20
    have p20 : PcAt H20 p1 (pcG ns nm z (wayF z (some (t, (cel ns 2 % 10 ^ Int.toNat 13))))) := d16.d.pc.same (nC.trans sC20)
    have r20 := sC20 _ _ r1C
    have b20 := sC20 _ _ tBC
    refine ⟨_, rfl, _, rfl, (show 2 ≤ sizeLine by decide), fun t2 ht2 => ⟨_, _, rfl, ?_, fun H21 s21 => ⟨_, rfl, iteF ?_⟩⟩⟩
    · have T := Same.upd (o := .tup [.ref pn, .non]) ht2
      exact lq_two (T _ _ r20) upd_same (lq_pc inj (p20.same T) (ypn.same (y20.trans T)))
    replace s21 := (Same.upd (o := .tup [.ref pn, .non]) ht2).trans s21
    have y21 := y20.trans s21
    have b21 := s21 _ _ b20
    have p21 := (p20.same s21).del b21
    have z21 : Same Y (del H21 PB) := fun b o e => (del_ne (y14 b o e).1).trans (y21 _ _ e)
    have r21 : del H21 PB r1 = some (.tup [.ref p1, .non]) := (del_ne fun z => by rw [z, b20] at r20; cases r20).trans (s21 _ _ r20)
    refine ⟨_, rfl, mv, dx, _, rfl, y21 _ _ ymv, fno _ (by decide +kernel) (by decide +kernel) (by decide +kernel), _, rfl, _, rfl, r1, _, 0, _, rfl, rfl, SqT.of (s21 _ _ r20), rfl, mv, fm, p1, t, (cel ns 2 % 10 ^ Int.toNat 13), z, z, f0, Ts, _, kk, ptN nm, rfl, ⟨dx, y21 _ _ ymv⟩, z0, z1, ⟨tg, f00, f01, ef0⟩, wp_of inj z0 (yfm.same z21) (yck.same z21) gR2 p21, .inl b21, fun r2 p2 H22 fr22 tab22 e22 nr2 d22 => ?_⟩
    rw [tr_pc (g := fun k => (k - (cel ns 2 % 10 ^ Int.toNat 13)) * f0 % z) (h := wayF z (some (t, (cel ns 2 % 10 ^ Int.toNat 13)))) (h' := wayF z none) inj z0 (fun k k0 k1 => kf_kb ef0 k0 k1)] at d22
    have w22 : Same (del H21 PB) H22 := fun b o e => by
      have h2 : b ≠ PB := fun z => by rw [z, del_same] at e; cases e
      rw [del_ne h2] at e
      exact fr22 _ _ h2 e
    have p22 : PcAt H22 p2 (pcG ns nm z (wayF z none)) := (d22.d.same cut_sub).pc
    refine ⟨_, rfl, _, rfl, (show 2 ≤ sizeLine by decide), fun t3 ht3 => ⟨_, _, rfl, ?_, fun H23 s23 => ⟨_, rfl, iteF ?_⟩⟩⟩
    · have T := Same.upd (o := .tup [.ref po, .non]) ht3
      exact lq_two (T _ _ e22) upd_same (lq_pc inj (p22.same T) (ypo.same ((z21.trans w22).trans T)))
    replace s23 := (Same.upd (o := .tup [.ref po, .non]) ht3).trans s23
    have w23 := w22.trans s23
    refine ⟨_, rfl, _, rfl, (show 2 ≤ sizeLine by decide), fun t4 ht4 => ⟨_, _, rfl, ?_, fun H24 s24 => ⟨_, rfl, iteF ?_⟩⟩⟩
    · have T := Same.upd (o := .tup [.ref pn, .non]) ht4
      exact lq_two ((w23.trans T) _ _ r21) upd_same (lq_pc inj (p21.same (w23.trans T)) (ypn.same ((z21.trans w23).trans T)))
    replace s24 := s23.trans ((Same.upd (o := .tup [.ref pn, .non]) ht4).trans s24)
    have w24 := w22.trans s24
    -- what came back is spoilt
    obtain ⟨ls2, ow2, q1, q2, q3⟩ := d22
    have l1i : 1 < ls2.length := by rw [q2]; show 1 < 3; decide
    obtain ⟨rs1, v1, v2, _, v4, _⟩ := q3 1 ls2[1] (nm 1, [twR ns nm z (wayF z none)]) (List.getElem?_eq_getElem l1i) rfl
    obtain ⟨rr, erl⟩ : ∃ rr, rs1 = [rr] := by
      match rs1, v2 with
      | [x], _ => exact ⟨x, rfl⟩
    rw [erl] at v1 v4
    have v5 := v4 0 rr (twR ns nm z (wayF z none)) rfl rfl
    have rrn : H21 rr = none := cut_new v5
    have rr24 := s24 _ _ (cut_sub _ _ v5)
    refine ⟨_, rfl, r2, _, 0, _, rfl, rfl, SqT.of (s24 _ _ e22), rfl, _, rfl, nl, _, 1, _, rfl, rfl, SqL.of ((z21.trans w24) _ _ ynl), atn 1 (by decide), p2, .ref ls2[1], rfl, .inl ⟨_, .inr (nm 1), .inl (s24 _ _ (cut_sub _ _ q1)), rfl, (zw_val (i := 1) (pcG_nd inj) rfl (by rw [List.getElem?_map, List.getElem?_eq_getElem l1i]; rfl)).symm⟩, ls2[1], _, 0, _, rfl, rfl, SqL.of (s24 _ _ (cut_sub _ _ v1)), rfl, _, rfl, nl, _, 6, _, rfl, rfl, SqL.of ((z21.trans w24) _ _ ynl), atn 6 (by decide), rr, _, rfl, DPut.k (k := .inr (nm 6)) rr24 (by show 2 < sizeLine; decide), ?_⟩
    generalize hpk : putK (rK (twR ns nm z (wayF z none))) (Sum.inr (nm 6) : Key) (V.int 0) = pk
    have w25 : Same (del H21 PB) (upd H24 rr (.dK pk)) := w24.put (by
      cases e : del H21 PB rr with
      | none => rfl
      | some x => rw [del_to _ _ e] at rrn; cases rrn)
    have tab25 : TabOk PB (lamPos lB) qB (upd H24 rr (.dK pk)) := by
      have tab24 := tab22.same s24
      rcases tab24 with h | ⟨c', h1, h2⟩
      · exact .inl ((upd_ne fun z => by rw [z, rr24] at h; cases h).trans h)
      · exact .inr ⟨c', (upd_ne fun z => by rw [z, rr24] at h1; cases h1).trans h1, (upd_ne fun z => by rw [z, rr24] at h2; cases h2).trans h2⟩
    generalize upd H24 rr (.dK pk) = H25 at *
    refine ⟨_, rfl, _, rfl, (show 2 ≤ sizeLine by decide), fun t5 ht5 => ⟨_, _, rfl, ?_, fun H26 s26 => ⟨_, rfl, iteT ?_⟩⟩⟩
    · have T := Same.upd (o := .tup [.ref pn, .non]) ht5
      exact lq_two ((w25.trans T) _ _ r21) upd_same (lq_pc inj (p21.same (w25.trans T)) (ypn.same ((z21.trans w25).trans T)))
    replace s26 := (Same.upd (o := .tup [.ref pn, .non]) ht5).trans s26
    have y26 := (z21.trans w25).trans s26
    have tab26 := tab25.same s26
    obtain ⟨tps, htps⟩ := tab26.some
    have z26 : Same Y (del H26 PB) := fun b o e => (del_ne (y14 b o e).1).trans (y26 _ _ e)
    refine ⟨_, rfl, mv, dx, _, rfl, y26 _ _ ymv, fno _ (by decide +kernel) (by decide +kernel) (by decide +kernel), _, rfl, _, rfl, mv, fm, pn, t, (cel ns 2 % 10 ^ Int.toNat 13), z, z, f0, Ts, _, kk, ptN nm, rfl, ⟨dx, y26 _ _ ymv⟩, z0, z1, ⟨tg, f00, f01, ef0⟩, wp_of inj z0 (yfm.same z26) (yck.same z26) gR2 (ypn.same z26), tab26, fun r3 p3 H27 fr27 _ e27 _ d27 => ?_⟩
    rw [tr_pc (g := fun k => (k - (cel ns 2 % 10 ^ Int.toNat 13)) * f0 % z) (h := wayF z (some (t, (cel ns 2 % 10 ^ Int.toNat 13)))) (h' := wayF z none) inj z0 (fun k k0 k1 => kf_kb ef0 k0 k1)] at d27
    refine ⟨_, rfl, (show 2 ≤ sizeLine by decide), fun t6 ht6 => ⟨_, _, rfl, ?_, fun H28 _ => q H28⟩⟩
    have T := Same.upd (o := .tup [.ref po, .non]) ht6
    have y27 : Same Y H27 := fun b o e => fr27 _ _ (y14 b o e).1 (y26 _ _ e)
    exact lq_two (T _ _ e27) upd_same (lq_pc inj ((d27.d.same cut_sub).pc.same T) (ypo.same (y27.trans T)))
end
end My

namespace L2
open PySem PySem.Spec PyProof.Rows
/-- a method of a class, as the top has made it -/
def MethIn (K : PySem.W.Frag) (C : Addr) (m qual : Str) (st : Stmt) : Prop := ∃ f fd, Fun K m qual st f fd ∧ Meth K C m f
theorem methIn_mk {K : PySem.W.Frag} {C f : Addr} {m qual : Str} {st : Stmt} {oc : Value} {od an : Option Addr} {osl : Array (Option Value)} {kV doc pm cdv ct : Value} (a : PySem.W.findIn K (.ref C) m = some (some (.ref f))) (i : PySem.W.isFn K (.ref f) = true)
    (l : K.lookup f = some ⟨oc, od, .func (PySem.W.fnOf m qual (defArgs st) (defBody st) (defScope st) .none kV doc pm an cdv ct), osl⟩) (c : PySem.W.codeIn K cdv qual = true) (k : PySem.W.keepIn K (.ref f) = true) : MethIn K C m qual st :=
  ⟨f, _, fun_mk l c k, ⟨a, i, k⟩⟩
/-- .. one that makes functions: its code object and that one's table are known -/
def MethInC (K : PySem.W.Frag) (C : Addr) (m qual : Str) (st : Stmt) (P : Addr) : Prop := ∃ f fd c, FunC K m qual st f fd c ∧ Meth K C m f ∧ PySem.W.codeHdIn K c P = true ∧ K.lookup P = none
theorem methInC_mk {K : PySem.W.Frag} {C f c P : Addr} {m qual : Str} {st : Stmt} {oc : Value} {od an : Option Addr} {osl : Array (Option Value)} {kV doc pm ct : Value} (r : PySem.W.nsIn K mainGlobals "Renumber" = some (some (.ref C))) (a : PySem.W.findIn K (.ref C) m = some (some (.ref f))) (i : PySem.W.isFn K (.ref f) = true)
    (l : K.lookup f = some ⟨oc, od, .func (PySem.W.fnOf m qual (defArgs st) (defBody st) (defScope st) .none kV doc pm an (.ref c) ct), osl⟩) (cd : PySem.W.codeIn K (.ref c) qual = true) (k : PySem.W.keepIn K (.ref f) = true) (t : PySem.W.codeHdIn K c P = true) (n : K.lookup P = none) : MethInC K C m qual st P :=
  ⟨f, _, c, ⟨⟨oc, od, kV, doc, pm, an, ct, osl, rfl, l, cd⟩, k⟩, ⟨a, i, k⟩, t, n⟩
end L2
namespace My
open PySem L2
theorem all_mk {l : PySem.W.OpenLaw} {w : World} {K : PySem.W.Frag} {h : Heap} {mg : Str → Option Value} {fa CR fA fB PF PB : Addr} {ocA dVA kVA docA pmA cdA ctA ocB dVB kVB docB pmB cdB ctB : Value} {odA anA odB anB : Option Addr} {slA slB : Array (Option Value)} (X : K.In h) (G : h.Ns mainGlobals mg) (hfa : mg "law" = some (.ref fa))
    (mF : MethInC K CR "forth" "Renumber.forth" (inClass (top 13) 3) PF) (mB : MethInC K CR "back" "Renumber.back" (inClass (top 13) 4) PB)
    (aR : PySem.W.nsIn K mainGlobals "Renumber" = some (some (.ref CR)))
    (pg : PySem.W.plainGet K CR Str.empty = true)
    (hd : PySem.W.hasDictIn K CR = true)
    (po : PySem.W.plainOver K CR = true)
    (psa : PySem.W.findIn K (.ref CR) "__setattr__" = some (some (.builtin "object.__setattr__")))
    (mk : PySem.W.makesIn K CR = true)
    (kc : PySem.W.keepIn K (.ref CR) = true)
    (nT : PySem.W.findIn K (.ref CR) "times" = some none)
    (nP : PySem.W.findIn K (.ref CR) "plus" = some none)
    (nS : PySem.W.findIn K (.ref CR) "size" = some none)
    (iA : PySem.W.findIn K (.ref CR) "left" = some (some (.ref fA)))
    (jA : PySem.W.isFn K (.ref fA) = true)
    (lA : K.lookup fA = some ⟨ocA, odA, .func (PySem.W.fnOf "left" "Move.left" (defArgs (inClass (top 11) 4)) (defBody (inClass (top 11) 4)) (defScope (inClass (top 11) 4)) dVA kVA docA pmA anA cdA ctA), slA⟩)
    (cA : PySem.W.codeIn K cdA "Move.left" = true)
    (kA : PySem.W.keepIn K (.ref fA) = true)
    (pA : ∀ (u v x y : Value) (S : Setting), PySem.W.peek K S (bindArgs (PySem.W.fnOf "left" "Move.left" (defArgs (inClass (top 11) 4)) (defBody (inClass (top 11) 4)) (defScope (inClass (top 11) 4)) dVA kVA docA pmA anA cdA ctA) ⟨[u, v, x, y], []⟩) = some ([("self", u), ("form", v), ("piece", x), ("rest", y)] : List (Str × Value)))
    (qA : ∀ (u v x : Value) (S : Setting), PySem.W.peek K S (bindArgs (PySem.W.fnOf "left" "Move.left" (defArgs (inClass (top 11) 4)) (defBody (inClass (top 11) 4)) (defScope (inClass (top 11) 4)) dVA kVA docA pmA anA cdA ctA) ⟨[u, v, x], []⟩) = some ([("self", u), ("form", v), ("piece", x), ("rest", .none)] : List (Str × Value)))
    (iB : PySem.W.findIn K (.ref CR) "right" = some (some (.ref fB)))
    (jB : PySem.W.isFn K (.ref fB) = true)
    (lB : K.lookup fB = some ⟨ocB, odB, .func (PySem.W.fnOf "right" "Move.right" (defArgs (inClass (top 11) 5)) (defBody (inClass (top 11) 5)) (defScope (inClass (top 11) 5)) dVB kVB docB pmB anB cdB ctB), slB⟩)
    (cB : PySem.W.codeIn K cdB "Move.right" = true)
    (kB : PySem.W.keepIn K (.ref fB) = true)
    (pB : ∀ (u v x y : Value) (S : Setting), PySem.W.peek K S (bindArgs (PySem.W.fnOf "right" "Move.right" (defArgs (inClass (top 11) 5)) (defBody (inClass (top 11) 5)) (defScope (inClass (top 11) 5)) dVB kVB docB pmB anB cdB ctB) ⟨[u, v, x, y], []⟩) = some ([("self", u), ("form", v), ("piece", x), ("rest", y)] : List (Str × Value)))
    (qB : ∀ (u v x : Value) (S : Setting), PySem.W.peek K S (bindArgs (PySem.W.fnOf "right" "Move.right" (defArgs (inClass (top 11) 5)) (defBody (inClass (top 11) 5)) (defScope (inClass (top 11) 5)) dVB kVB docB pmB anB cdB ctB) ⟨[u, v, x], []⟩) = some ([("self", u), ("form", v), ("piece", x), ("rest", .none)] : List (Str × Value)))
    (h0 : MethIn K CR "__init__" "Renumber.__init__" (inClass (top 13) 0))
    (h5 : MethIn K CR "key_forth" "Renumber.key_forth" (inClass (top 13) 5))
    (h6 : MethIn K CR "key_back" "Renumber.key_back" (inClass (top 13) 6))
    (d6 : DefIn K "tables_of" (top 6))
    (d7 : DefIn K "columns_of" (top 7))
    (d8 : DefIn K "table_in" (top 8))
    (d9 : DefIn K "copied" (top 9))
    (d14 : DefIn K "with_pointers" (top 14))
    (d15 : DefIn K "turn_pointers" (top 15))
    (d16 : DefIn K "inverse" (top 16))
    (d18 : DefIn K "_law_cell" (top 18))
    (d19 : DefIn K "_law_names" (top 19))
    (d20 : DefIn K "_law_alike" (top 20))
    (d21 : DefIn K "_law_form" (top 21))
    (d22 : DefIn K "_law_text" (top 22))
    (d23 : DefIn K "_law_share" (top 23))
    (d24 : DefIn K "_law_times" (top 24))
    (d25 : DefIn K "_law_pointer" (top 25))
    (d26 : DefIn K "_law_piece" (top 26))
    (d27 : DefIn K "law" (top 27))
    (zb : BlK K) (zz : PySem.W.nsIn K mainGlobals "zip" = some none) :
    ∃ fd : FuncData, (∀ (s : Shared) (v : Value), BindsTo s fd ⟨[v], []⟩ [("_law_script", v)]) ∧ ∀ base : Heap, K.In base → base.Ns mainGlobals mg → L2.BMain base mg → FnOk l.prog w K mg base CX0 8 fa fd ["_law_script"] (spLw K PF PB) := by
  have B : Bl mg := zb.bl X G
  have hz : mg "zip" = none := PySem.W.mg_none_of X G zz
  have T : Tx3 K mg CR := ⟨⟨pg, hd, po, psa⟩, nT, nP, nS, PySem.W.mg_of X G aR⟩
  have L4 := funX_mk (st := inClass (top 11) 4) lA cA kA
  have L5 := funX_mk (st := inClass (top 11) 5) lB cB kB
  have bL : Binds K (PySem.W.fnOf "left" "Move.left" (defArgs (inClass (top 11) 4)) (defBody (inClass (top 11) 4)) (defScope (inClass (top 11) 4)) dVA kVA docA pmA anA cdA ctA) ["self", "form", "piece", "rest"] [.none] := fun s us kin hl => by
    have h1 : us.length = 3 := by simpa using hl
    match us, h1 with
    | [u, v, x], _ => exact PySem.W.kp_binds kin (qA u v x)
  have bR : Binds K (PySem.W.fnOf "right" "Move.right" (defArgs (inClass (top 11) 5)) (defBody (inClass (top 11) 5)) (defScope (inClass (top 11) 5)) dVB kVB docB pmB anB cdB ctB) ["self", "form", "piece", "rest"] [] := fun s us kin hl => by
    have h1 : us.length = 4 := by simpa using hl
    match us, h1 with
    | [u, v, x, y], _ => exact PySem.W.kp_binds kin (pB u v x y)
  obtain ⟨f6, fd6, D6⟩ := d6.df X G
  obtain ⟨f7, fd7, D7⟩ := d7.df X G
  obtain ⟨f8, fd8, D8⟩ := d8.df X G
  obtain ⟨f9, fd9, D9⟩ := d9.df X G
  obtain ⟨f14, fd14, D14⟩ := d14.df X G
  obtain ⟨f15, fd15, D15⟩ := d15.df X G
  obtain ⟨f16, fd16, D16⟩ := d16.df X G
  obtain ⟨f18, fd18, D18⟩ := d18.df X G
  obtain ⟨f19, fd19, D19⟩ := d19.df X G
  obtain ⟨f20, fd20, D20⟩ := d20.df X G
  obtain ⟨f21, fd21, D21⟩ := d21.df X G
  obtain ⟨f22, fd22, D22⟩ := d22.df X G
  obtain ⟨f23, fd23, D23⟩ := d23.df X G
  obtain ⟨f24, fd24, D24⟩ := d24.df X G
  obtain ⟨f25, fd25, D25⟩ := d25.df X G
  obtain ⟨f26, fd26, D26⟩ := d26.df X G
  obtain ⟨g0, gd0, F0, M0⟩ := h0
  obtain ⟨g5, gd5, F5, M5⟩ := h5
  obtain ⟨g6, gd6, F6, M6⟩ := h6
  obtain ⟨fF, fdF, cF, FF, MF, tF, _⟩ := mF
  obtain ⟨fK, fdK, cK, FK, MK, tK, _⟩ := mB
  have bFo := FF.fn.binds (ps := ["self", "form", "piece", "rest"]) fun _ _ _ _ _ _ us hl => by obtain ⟨v0, v1, v2, v3, rfl⟩ := L2.ln4 hl; rfl
  have bBa := FK.fn.binds (ps := ["self", "form", "piece", "rest"]) fun _ _ _ _ _ _ us hl => by obtain ⟨v0, v1, v2, v3, rfl⟩ := L2.ln4 hl; rfl
  obtain ⟨f, oc, od, kV, doc, pm, an, cdv, ct, osl, a, lk, c, k⟩ := d27
  have e := hfa.symm.trans (PySem.W.mg_of X G a)
  cases e
  refine ⟨PySem.W.fnOf "law" "law" (defArgs (top 27)) (defBody (top 27)) (defScope (top 27)) .none kV doc pm an cdv ct, fun s v => .of_eq rfl, fun base _ _ hB => ?_⟩
  exact ok_law (fun_mk lk c k) B hz T D18 D23 D24 D19 D22 D25 D21 D26 D20 ⟨mk, M0.at_, M0.fn, kc⟩ F0 MF (ok_rf FF tF hB T B D14 D9 D6 D7 D8 D15 F5 M5 F6 M6 D16) bFo MK (ok_rb FK tK hB T B D14 D9 D6 D7 D8 D15 F5 M5 F6 M6 D16) bBa ⟨iA, jA, kA⟩ (ok_left L4) bL ⟨iB, jB, kB⟩ (ok_right L5) bR
theorem walk33 {l : PySem.W.OpenLaw} {q : Program} {loose : List Str} {XP : (Str → Option Value) → Heap → Prop} {d : DefRec} {K : Params → PySem.W.Frag} {as : List Addr} {e : ∀ P, as = (K P).map (·.1)} {PB PF CR : Addr} (hk : Room 8 callerA) (hn : l.most = some 63) (hdf : d.params.defaults = []) (ne : PF ≠ PB)
    (DB : ∀ w : World, MethInC (K w.params) CR "back" "Renumber.back" (inClass (top 13) 4) PB) (DF : ∀ w : World, MethInC (K w.params) CR "forth" "Renumber.forth" (inClass (top 13) 3) PF)
    (F : ∀ (w : World) (mg : Str → Option Value) (fa : Addr) (h : Heap), (K w.params).In h → h.Ns mainGlobals mg → mg d.name = some (.ref fa) → MethInC (K w.params) CR "forth" "Renumber.forth" (inClass (top 13) 3) PF → MethInC (K w.params) CR "back" "Renumber.back" (inClass (top 13) 4) PB →
      ∃ fd : FuncData, (∀ (s : Shared) (u : Value), BindsTo s fd ⟨[u], []⟩ [("_law_script", u)]) ∧ ∀ base : Heap, (K w.params).In base → base.Ns mainGlobals mg → L2.BMain base mg → FnOk l.prog w (K w.params) mg base CX0 8 fa fd ["_law_script"] (spLw (K w.params) PF PB)) :
    PySem.W.WalkO q loose XP (PySem.W.kmHook K as e [PB, PF]).says l.row.toRowW d [] (fun f vs => PySem.call f vs) := by
  refine L2.walk_ofT (n := 63) (k := 8) (x := "_law_script") (CX := fun _ => CX0) (sp := fun w => spLw (K w.params) PF PB) (tx := fun _ => [PB, PF]) hn (by decide) hdf hk (fun w h Y => PySem.W.km_in_of Y) (fun w h Y b hb => ?_) (fun w mg fa h X G m => F w mg fa h X G m (DF w) (DB w)) (fun w H a ns hl hO hS => ?_) fun _ _ _ _ _ z => z
  · have g := PySem.W.km_tabs_of Y b hb
    have hb' : b = PB ∨ b = PF := by
      have : b = PB ∨ b = PF := by simpa using hb
      exact this
    rcases hb' with rfl | rfl
    · obtain ⟨_, _, c, _, _, t, n⟩ := DB w
      exact L2.tab_is (PySem.W.km_in_of Y) g t n
    · obtain ⟨_, _, c, _, _, t, n⟩ := DF w
      exact L2.tab_is (PySem.W.km_in_of Y) g t n
  · exact ⟨a, ns, rfl, hS, hl, hO.2 PF (by simp), hO.2 PB (by simp), ne, fun _ => rfl⟩
end My

namespace PySem.W.Fast
def tw5408816757256044593 : Unit := ()
def tw14195313283826099225 : Unit := ()
def tw6920165568378873442 : Unit := ()
def tw2339208112950226665 : Unit := ()
def tw17206641441420363037 : Unit := ()
def tw3473811333674433428 : Unit := ()
def tw7614473364501323123 : Unit := ()
def tw17882282045603784839 : Unit := ()
def tw16633082206033619649 : Unit := ()
def tw15053874644465565718 : Unit := ()
def tw6601852747335084634 : Unit := ()
def tw13637423010511899008 : Unit := ()
def tw16667666168698992991 : Unit := ()
def tw7238520782837874032 : Unit := ()
def tw1662872718623621340 : Unit := ()
def tw16476970779926478237 : Unit := ()
def tw1209718526973291389 : Unit := ()
def tw2214056197728155302 : Unit := ()
def tw16599899714104777369 : Unit := ()
def tw2875962582277753448 : Unit := ()
def tw12519466231468533651 : Unit := ()
def tw3240762068223988046 : Unit := ()
def tw9341989925098793211 : Unit := ()
def tw15419762014834113775 : Unit := ()
def tw6171106863156179441 : Unit := ()
def tw5808847569790217558 : Unit := ()
def tw11448407008535505271 : Unit := ()
def tw4736273038387526086 : Unit := ()
def tw9455294561108046645 : Unit := ()
def tw416781696124384523 : Unit := ()
end PySem.W.Fast
open PySem PySem.W PyProof.Rows
set_option maxRecDepth 100000 in
set_option maxHeartbeats 0 in
theorem PySem.Challenge.cw_halfmoved_k33_pointers_renumbered_holds : PySem.Challenge.rw_halfmoved_k33_pointers_renumbered.Holds := by
  w_on; o_law; k_head; (case hw => w_witness2)
  k_fill
  refine' My.walk33 (l := PySem.Challenge.rw_halfmoved_k33_pointers_renumbered) ⟨rfl, by decide, by decide⟩ rfl rfl (by decide) ?DB ?DF ?F
  case DB =>
    intro w
    refine' L2.methInC_mk ?r ?a ?i ?l ?c ?k ?t ?n; (case r => k_is); (case a => k_is); (case i => k_is); (case l => k_is); (case c => k_is); (case k => k_is); (case t => rfl); (case n => rfl)
  case DF =>
    intro w
    refine' L2.methInC_mk ?r ?a ?i ?l ?c ?k ?t ?n; (case r => k_is); (case a => k_is); (case i => k_is); (case l => k_is); (case c => k_is); (case k => k_is); (case t => rfl); (case n => rfl)
  case F =>
    intro w mg fa h KX G hmg dF dB
    refine' My.all_mk KX G hmg dF dB ?aR ?pg ?hd ?po ?psa ?mk ?kc ?nT ?nP ?nS ?iA ?jA ?lA ?cA ?kA ?pA ?qA ?iB ?jB ?lB ?cB ?kB ?pB ?qB ?h0 ?h5 ?h6 ?d6 ?d7 ?d8 ?d9 ?d14 ?d15 ?d16 ?d18 ?d19 ?d20 ?d21 ?d22 ?d23 ?d24 ?d25 ?d26 ?d27 ?zb ?zz
    (case aR => k_is)
    (case pg => k_is)
    (case hd => k_is)
    (case po => k_is)
    (case psa => k_is)
    (case mk => k_is)
    (case kc => k_is)
    (case nT => k_is)
    (case nP => k_is)
    (case nS => k_is)
    (case iA => k_is)
    (case jA => k_is)
    (case lA => k_is)
    (case cA => k_is)
    (case kA => k_is)
    (case pA => intro u v x y S; rfl)
    (case qA => intro u v x S; rfl)
    (case iB => k_is)
    (case jB => k_is)
    (case lB => k_is)
    (case cB => k_is)
    (case kB => k_is)
    (case pB => intro u v x y S; rfl)
    (case qB => intro u v x S; rfl)
    (case h0 => refine' L2.methIn_mk ?a ?i ?l ?c ?k; (case a => k_is); (case i => k_is); (case l => k_is); (case c => k_is); (case k => k_is))
    (case h5 => refine' L2.methIn_mk ?a ?i ?l ?c ?k; (case a => k_is); (case i => k_is); (case l => k_is); (case c => k_is); (case k => k_is))
    (case h6 => refine' L2.methIn_mk ?a ?i ?l ?c ?k; (case a => k_is); (case i => k_is); (case l => k_is); (case c => k_is); (case k => k_is))
    (case d6 => refine' L2.defIn_mk ?a ?l ?c ?k; (case a => k_is); (case l => k_is); (case c => k_is); (case k => k_is))
    (case d7 => refine' L2.defIn_mk ?a ?l ?c ?k; (case a => k_is); (case l => k_is); (case c => k_is); (case k => k_is))
    (case d8 => refine' L2.defIn_mk ?a ?l ?c ?k; (case a => k_is); (case l => k_is); (case c => k_is); (case k => k_is))
    (case d9 => refine' L2.defIn_mk ?a ?l ?c ?k; (case a => k_is); (case l => k_is); (case c => k_is); (case k => k_is))
    (case d14 => refine' L2.defIn_mk ?a ?l ?c ?k; (case a => k_is); (case l => k_is); (case c => k_is); (case k => k_is))
    (case d15 => refine' L2.defIn_mk ?a ?l ?c ?k; (case a => k_is); (case l => k_is); (case c => k_is); (case k => k_is))
    (case d16 => refine' L2.defIn_mk ?a ?l ?c ?k; (case a => k_is); (case l => k_is); (case c => k_is); (case k => k_is))
    (case d18 => refine' L2.defIn_mk ?a ?l ?c ?k; (case a => k_is); (case l => k_is); (case c => k_is); (case k => k_is))
    (case d19 => refine' L2.defIn_mk ?a ?l ?c ?k; (case a => k_is); (case l => k_is); (case c => k_is); (case k => k_is))
    (case d20 => refine' L2.defIn_mk ?a ?l ?c ?k; (case a => k_is); (case l => k_is); (case c => k_is); (case k => k_is))
    (case d21 => refine' L2.defIn_mk ?a ?l ?c ?k; (case a => k_is); (case l => k_is); (case c => k_is); (case k => k_is))
    (case d22 => refine' L2.defIn_mk ?a ?l ?c ?k; (case a => k_is); (case l => k_is); (case c => k_is); (case k => k_is))
    (case d23 => refine' L2.defIn_mk ?a ?l ?c ?k; (case a => k_is); (case l => k_is); (case c => k_is); (case k => k_is))
    (case d24 => refine' L2.defIn_mk ?a ?l ?c ?k; (case a => k_is); (case l => k_is); (case c => k_is); (case k => k_is))
    (case d25 => refine' L2.defIn_mk ?a ?l ?c ?k; (case a => k_is); (case l => k_is); (case c => k_is); (case k => k_is))
    (case d26 => refine' L2.defIn_mk ?a ?l ?c ?k; (case a => k_is); (case l => k_is); (case c => k_is); (case k => k_is))
    (case d27 => refine' L2.defIn_mk ?a ?l ?c ?k; (case a => k_is); (case l => k_is); (case c => k_is); (case k => k_is))
    (case zb => refine' My.BlK.mk ?b0 ?b1 ?b2 ?b3 ?b4 ?b5 ?b6 ?b7 ?b8 ?b9 ?b10 ?b11 ?b12 ?b13 ?b14 ?b15; (case b0 => k_is); (case b1 => k_is); (case b2 => k_is); (case b3 => k_is); (case b4 => k_is); (case b5 => k_is); (case b6 => k_is); (case b7 => k_is); (case b8 => k_is); (case b9 => k_is); (case b10 => k_is); (case b11 => k_is); (case b12 => k_is); (case b13 => k_is); (case b14 => k_is); (case b15 => k_is))
    (case zz => k_is)
#print axioms PySem.Challenge.cw_halfmoved_k33_pointers_renumbered_holds

