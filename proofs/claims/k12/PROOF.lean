import PyProof.Rows.All
import Wide.All
import OpenK.AllK
import Wide.FinOn
import Lean
import PyProof.EqAt
import PyProof.EqKinds
import PyProof.TupleCall
import PyProof.StrBlock
import PyProof.StrBlockL
import PyProof.Rows.StrJoin2
import KE.KIntText
import PyProof.StrCalls6
import PyProof.StationsW
import PyProof.RulesTry
import PyProof.InstStoreFacts
import PyProof.ExcBaseAll.ValueError
import PyProof.ExcAttrAll.ValueError
import PyProof.NsDelKeeps
import KE.KTabLook
import PyProof.MeetsStr
import PyProof.ZipIter
import PyProof.TupleIter
import PyProof.ListRange
import KE.KPar
import KE.KDictSum
import PyProof.EnumMake
import PyProof.EnumStmt
import KE.KSortTup
import PyProof.NeKinds
import PyProof.AttrMissSeq
import KE.KDictOf
import PyProof.FactsAll.set_2
import PyProof.Rows.SetFrom
import KE.KRevIter
import PyProof.CollectIter
import PyProof.WalkInts
import PyProof.ListNew
import PySem.Challenge.RW_halfmoved_k12_pieces_told
set_option Elab.async false
set_option linter.all false
set_option maxRecDepth 100000
set_option maxHeartbeats 4000000

/-! THE HAND LAYER, for ints, bools, texts, own classes, LISTS and tuples (index, slices, in, append, pop ..), calls, loops. Paste it whole ahead of your own text; what your proof does not reach may be deleted. -/
namespace L2
theorem ln0 {α : Type} {l : List α} (h : l.length = 0) : l = [] := List.eq_nil_of_length_eq_zero h
theorem ln1 {α : Type} {l : List α} (h : l.length = 1) : ∃ a, l = [a] := List.length_eq_one_iff.mp h
theorem ln2 {α : Type} {l : List α} (h : l.length = 2) : ∃ a b, l = [a, b] := by
  cases l with
  | nil => cases h
  | cons a r => obtain ⟨b, rfl⟩ := ln1 (Nat.succ.inj h); exact ⟨a, b, rfl⟩
theorem ln3 {α : Type} {l : List α} (h : l.length = 3) : ∃ a b c, l = [a, b, c] := by
  cases l with
  | nil => cases h
  | cons a r => obtain ⟨b, c, rfl⟩ := ln2 (Nat.succ.inj h); exact ⟨a, b, c, rfl⟩
theorem ln4 {α : Type} {l : List α} (h : l.length = 4) : ∃ a b c d, l = [a, b, c, d] := by
  cases l with
  | nil => cases h
  | cons a r => obtain ⟨b, c, d, rfl⟩ := ln3 (Nat.succ.inj h); exact ⟨a, b, c, d, rfl⟩
end L2
namespace L2
open PySem PySem.Spec PyProof.Rows

/-- a key: an int or a str -/
abbrev Key := Sum Int Str
def keyIs : Key → Value → Bool
  | .inl k, v => Value.isInt k v
  | .inr x, v => Value.isStrOf x v
def keyH (w : World) : Key → Int
  | .inl k => hashInt k
  | .inr x => hashStr w x
theorem keyIs_shape : ∀ {k : Key} {v : Value}, keyIs k v = true → (∃ i t, k = Sum.inl i ∧ v = Value.int i t) ∨ (∃ x t, k = Sum.inr x ∧ v = Value.str x t)
  | .inl i, v, h => by
    obtain ⟨t, e⟩ := Value.isInt_shape (k := i) (v := v) h
    exact .inl ⟨i, t, rfl, e⟩
  | .inr x, v, h => by
    obtain ⟨t, e⟩ := Value.isStrOf_shape (x := x) (v := v) h
    exact .inr ⟨x, t, rfl, e⟩
theorem keyIs_int (i : Int) (t : Tok) : keyIs (.inl i) (.int i t) = true := by simp [keyIs, Value.isInt]
theorem keyIs_str (x : Str) (t : Tok) : keyIs (.inr x) (.str x t) = true := by simp [keyIs, Value.isStrOf]
theorem key_ll (a b : Int) : decide ((Sum.inl a : Key) = Sum.inl b) = (a == b) := by
  by_cases e : a = b
  · subst e; simp
  · have h : ¬ (Sum.inl a : Key) = Sum.inl b := fun q => e (Sum.inl.inj q)
    rw [decide_eq_false h]
    exact (beq_eq_false_iff_ne.mpr e).symm
theorem key_rr (a b : Str) : decide ((Sum.inr a : Key) = Sum.inr b) = decide (a = b) := by
  by_cases e : a = b
  · subst e; simp
  · have h : ¬ (Sum.inr a : Key) = Sum.inr b := fun q => e (Sum.inr.inj q)
    rw [decide_eq_false h, decide_eq_false e]
theorem key_lr (a : Int) (b : Str) : decide ((Sum.inl a : Key) = Sum.inr b) = false := decide_eq_false (fun q => nomatch q)
theorem key_rl (a : Str) (b : Int) : decide ((Sum.inr a : Key) = Sum.inl b) = false := decide_eq_false (fun q => nomatch q)

def mixKind (prog : Program) (w : World) : PySem.KeyKind prog w Key where
  is := keyIs
  hash := keyH w
  inj := fun v a b ha hb => by
    rcases keyIs_shape ha with ⟨i, t, rfl, rfl⟩ | ⟨x, t, rfl, rfl⟩
    · rcases keyIs_shape hb with ⟨j, u, rfl, e⟩ | ⟨y, u, rfl, e⟩
      · injection e with e1 _; rw [e1]
      · exact nomatch e
    · rcases keyIs_shape hb with ⟨j, u, rfl, e⟩ | ⟨y, u, rfl, e⟩
      · exact nomatch e
      · injection e with e1 _; rw [e1]
  byValue := fun k v h => by
    rcases keyIs_shape h with ⟨i, t, rfl, rfl⟩ | ⟨x, t, rfl, rfl⟩ <;> rfl
  pyHash := fun hv h => by
    rcases keyIs_shape hv with ⟨i, t, rfl, rfl⟩ | ⟨x, t, rfl, rfl⟩
    · exact wpAny_pyHash_int h
    · exact wpAny_pyHash_str h
  eqBool := fun hu hv h => by
    rcases keyIs_shape hu with ⟨i, t, rfl, rfl⟩ | ⟨x, t, rfl, rfl⟩
    · rcases keyIs_shape hv with ⟨j, u, rfl, rfl⟩ | ⟨y, u, rfl, rfl⟩
      · rw [key_ll] at h; exact wpAny_eqBool_int h
      · rw [key_lr] at h; exact SeqAt.EqAt.int_str i t y u _ _ _ _ h
    · rcases keyIs_shape hv with ⟨j, u, rfl, rfl⟩ | ⟨y, u, rfl, rfl⟩
      · rw [key_rl] at h; exact SeqAt.EqAt.str_int x t j u _ _ _ _ h
      · rw [key_rr] at h; exact wpAny_eqBool_str h
  «strs» := fun k x t v h => by
    rcases keyIs_shape h with ⟨i, u, rfl, e⟩ | ⟨y, u, rfl, e⟩
    · exact nomatch e
    · injection e with e1 _
      subst e1
      cases v <;> rfl

theorem mixKind_int (prog : Program) (w : World) (i : Int) (t : Tok) : (mixKind prog w).is (.inl i) (.int i t) = true := keyIs_int i t
theorem mixKind_str (prog : Program) (w : World) (x : Str) (t : Tok) : (mixKind prog w).is (.inr x) (.str x t) = true := keyIs_str x t
end L2

namespace L2
open PySem PySem.Spec PyProof.Rows

/-- a value, without the heap -/
inductive V where
  | non | bl (b : Bool) | int (i : Int) | str (x : Str) | byt (b : Array UInt8) | flt (b : UInt64) | ref (a : Addr) | ty (n : String)
  deriving DecidableEq

def RelV : V → Value → Prop
  | .non, u => u = Value.none
  | .bl b, u => u = Value.bool b
  | .int i, u => ∃ t, u = Value.int i t
  | .str x, u => ∃ t, u = Value.str x t
  | .byt b, u => ∃ t, u = Value.bytes b t
  | .flt b, u => ∃ t, u = Value.float b t
  | .ref a, u => u = Value.ref a
  | .ty n, u => u = Value.type n

abbrev Vals : List V → List Value → Prop := Paired RelV
theorem Vals.length {xs : List V} {us : List Value} (r : Vals xs us) : xs.length = us.length := Paired.length r
theorem Vals.get : ∀ {xs : List V} {us : List Value} {i : Nat} {x : V}, Vals xs us → xs[i]? = some x → ∃ u, us[i]? = some u ∧ RelV x u
  | _, _, _, _, .nil, e => by simp at e
  | _, _, 0, _, .cons r _, e => by simp at e; subst e; exact ⟨_, rfl, r⟩
  | _, _, i + 1, x, .cons _ t, e => by
    obtain ⟨u, h1, h2⟩ := Vals.get (i := i) (x := x) t (by simpa using e)
    exact ⟨u, by simpa using h1, h2⟩
theorem Vals.append : ∀ {xs ys : List V} {us ws : List Value}, Vals xs us → Vals ys ws → Vals (xs ++ ys) (us ++ ws)
  | _, _, _, _, .nil, s => s
  | _, _, _, _, .cons r t, s => .cons r (Vals.append t s)
theorem Vals.take : ∀ {xs : List V} {us : List Value} (n : Nat), Vals xs us → Vals (xs.take n) (us.take n)
  | _, _, 0, _ => .nil
  | _, _, _ + 1, .nil => .nil
  | _, _, n + 1, .cons r t => .cons r (Vals.take n t)
theorem Vals.drop : ∀ {xs : List V} {us : List Value} (n : Nat), Vals xs us → Vals (xs.drop n) (us.drop n)
  | _, _, 0, r => r
  | _, _, _ + 1, .nil => .nil
  | _, _, n + 1, .cons _ t => Vals.drop n t
def RelO : Option V → Option Value → Prop
  | some v, some u => RelV v u
  | none, none => True
  | _, _ => False
def KV {κ : Type} : List (κ × V) → List (κ × Value) → Prop := Paired fun (p : κ × V) (q : κ × Value) => p.1 = q.1 ∧ RelV p.2 q.2

/-- a key of a dict (00_mix): an int or a text -/
def kV : Key → V
  | .inl i => .int i
  | .inr x => .str x

/-- what stands at a tracked address -/
inductive HO where
  /-- a list -/
  | lst (xs : List V)
  /-- a tuple (never changes) -/
  | tup (xs : List V)
  /-- a dict whose keys are ints and texts; one whose keys are tuples of ints and texts (the empty one is both) -/
  | dK (kvs : List (Key × V)) | dT (kvs : List (List Key × V))
  /-- a set of ints: its members, its size -/
  | set (S : Int → Bool) (n : Nat)
  /-- an instance of the class at C, its dict at dx, its attributes -/
  | ins (C dx : Addr) (fs : List (Str × V))
  /-- the dict of the instance at x -/
  | own (x : Addr)
  /-- the dict of an exception -/
  | xd (fs : List (Str × V))
  /-- a bound method, f of x -/
  | met (f x : Addr)
  /-- a range object lo, lo + 1, .. below hi -/
  | rng (lo hi : Int)
  /-- a thing that is known to the object (the script; a dict while a loop walks it): read, never written while it is so -/
  | frz (o : Obj) (u : HO)
  /-- a code object's table -/
  | tbl (ps : Array Value)
  /-- any other thing, by what is true of its one object (a def of one's own: SetO a S n := HO.ext fun h => ..) -/
  | ext (φ : Heap → Prop)

abbrev Hp := Addr → Option HO
def upd (H : Hp) (a : Addr) (o : HO) : Hp := fun b => if b = a then some o else H b
theorem upd_same {H : Hp} {a : Addr} {o : HO} : upd H a o a = some o := by unfold upd; rw [if_pos rfl]
theorem upd_ne {H : Hp} {a b : Addr} {o : HO} (h : b ≠ a) : upd H a o b = H b := by unfold upd; rw [if_neg h]
/-- two objects of different content stand apart -/
theorem ne_of {H : Hp} {a b : Addr} {o u : HO} (h : H a = some o) (h' : H b = some u) (d : o ≠ u) : a ≠ b := by
  intro e; subst e; rw [h] at h'; exact d (Option.some.inj h')
theorem ne_of_none {H : Hp} {a b : Addr} {o : HO} (h : H a = some o) (h' : H b = none) : a ≠ b := by
  intro e; subst e; rw [h] at h'; cases h'

section
variable (P : Program) (w : World)
def ObjOk (H : Hp) (h : Heap) (a : Addr) : HO → Prop
  | .lst xs => xs.length ≤ sizeLine ∧ ∃ (its : List Value) (n : Nat), Vals xs its ∧ h.get? a = some { cls := .type "list", data := .seq its.toArray n }
  | .tup xs => xs.length ≤ sizeLine ∧ ∃ its : List Value, Vals xs its ∧ IsTup h a its.toArray
  | .dK kvs => kvs.length ≤ sizeLine ∧ (a == sysModules) = false ∧ ∃ vs, KV kvs vs ∧ h.DictOf (mixKind P w) a vs
  | .dT kvs => kvs.length ≤ sizeLine ∧ (a == sysModules) = false ∧ ∃ xs : List (List Key × Addr × Value),
      Paired (fun (p : List Key × V) (q : List Key × Addr × Value) => p.1 = q.1 ∧ H q.2.1 = some (.tup (p.1.map kV)) ∧ RelV p.2 q.2.2) kvs xs ∧
      ∃ o es ep, h.get? a = some o ∧ o.ExactDict ∧ o.data = .dict es ep ∧ es.toList = xs.map (entryOfKey (tupleKind (mixKind P w))) ∧ (xs.map (·.1)).Nodup
  | .set S n => h.SetOf (intKind P w) a S n
  | .ins C dx fs => H dx = some (.own a) ∧ fs.length ≤ 1000 ∧ dx ≠ a ∧ h.get? a = some (PySem.W.instObj C dx) ∧
      ∃ mA, h.Ns1 dx mA ∧ (∀ f, RelO (fs.lookup f) (mA f)) ∧ PySem.Within mA (fs.map (·.1))
  | .own _ => ∃ o, h.get? a = some o
  | .xd fs => ∃ mA, h.Ns1 a mA ∧ ∀ f, RelO (fs.lookup f) (mA f)
  | .rng lo hi => ∃ t u v, h.get? a = some { cls := .type "range", data := .fields #[.int lo t, .int hi u, .int 1 v] }
  | .frz o u => h.get? a = some o ∧ ObjOk H h a u
  | .tbl ps => h.get? a = some { cls := .none, data := .fields ps }
  | .met f x => h.get? a = some (PySem.W.methodObj (.ref f) (.ref x))
  | .ext φ => φ h ∧ (∃ o, h.get? a = some o) ∧ ∀ h1 h2 : Heap, φ h1 → (∀ o, h1.get? a = some o → h2.get? a = some o) → φ h2
/-- the abstract heap is held -/
def HOk (H : Hp) (h : Heap) : Prop := ∀ a o, H a = some o → ObjOk P w H h a o
end

section
variable {P : Program} {w : World} {H H' : Hp} {h h' : Heap} {a : Addr} {o : HO}
theorem ObjOk.lt (x : ObjOk P w H h a o) : a < h.objs.size := by
  cases o with
  | lst xs => obtain ⟨_, _, _, _, e⟩ := x; exact Heap.lt_size e
  | tup xs => obtain ⟨_, _, _, p⟩ := x; exact p.lt
  | dK kvs => obtain ⟨_, _, _, _, o, _, _, e, _⟩ := x; exact Heap.lt_size e
  | dT kvs => obtain ⟨_, _, _, _, o, _, _, e, _⟩ := x; exact Heap.lt_size e
  | set S n => obtain ⟨o, _, _, _, e, _⟩ := x; exact Heap.lt_size e
  | ins C dx fs => obtain ⟨_, _, _, e, _⟩ := x; exact Heap.lt_size e
  | own y => obtain ⟨_, e⟩ := x; exact Heap.lt_size e
  | xd fs => obtain ⟨_, ⟨_, _, _, e, _⟩, _⟩ := x; exact Heap.lt_size e
  | rng lo hi => obtain ⟨_, _, _, e⟩ := x; exact Heap.lt_size e
  | frz ob u => obtain ⟨e, _⟩ := x; exact Heap.lt_size e
  | tbl ps => exact Heap.lt_size (show h.get? a = some _ from x)
  | met f y => exact Heap.lt_size (show h.get? a = some _ from x)
  | ext φ => obtain ⟨_, ⟨_, e⟩, _⟩ := x; exact Heap.lt_size e
theorem Paired.mapP {α β : Type} {F G : α → β → Prop} : ∀ {l₁ : List α} {l₂ : List β}, Paired F l₁ l₂ → (∀ a b, F a b → G a b) → Paired G l₁ l₂
  | _, _, .nil, _ => .nil
  | _, _, .cons r t, f => .cons (f _ _ r) (Paired.mapP t f)
/-- what an object's description leans on: its own object, its own dict, the tuples -/
theorem ObjOk.stay (x : ObjOk P w H h a o) (k : ∀ b u, (b = a ∨ H b = some (.own a)) → h.get? b = some u → h'.get? b = some u)
    (ho : ∀ b, H b = some (.own a) → H' b = some (.own a)) (ht : ∀ b xs, H b = some (.tup xs) → H' b = some (.tup xs)) : ObjOk P w H' h' a o := by
  induction o with
  | lst xs => obtain ⟨z, its, n, r, e⟩ := x; exact ⟨z, its, n, r, k _ _ (.inl rfl) e⟩
  | tup xs => obtain ⟨z, its, r, ob, e, c⟩ := x; exact ⟨z, its, r, ob, k _ _ (.inl rfl) e, c⟩
  | dK kvs => obtain ⟨z, y, vs, r, ob, es, ep, e, c⟩ := x; exact ⟨z, y, vs, r, ob, es, ep, k _ _ (.inl rfl) e, c⟩
  | dT kvs =>
    obtain ⟨z, y, xs, r, ob, es, ep, e, c⟩ := x
    exact ⟨z, y, xs, Paired.mapP r fun p q z => ⟨z.1, ht _ _ z.2.1, z.2.2⟩, ob, es, ep, k _ _ (.inl rfl) e, c⟩
  | set S n => obtain ⟨ob, es, ep, t, e, c⟩ := x; exact ⟨ob, es, ep, t, k _ _ (.inl rfl) e, c⟩
  | ins C dx fs =>
    obtain ⟨d, z, ne, e, mA, ⟨od, es, ep, e2, c⟩, r⟩ := x
    exact ⟨ho _ d, z, ne, k _ _ (.inl rfl) e, mA, ⟨od, es, ep, k _ _ (.inr d) e2, c⟩, r⟩
  | own y => obtain ⟨ob, e⟩ := x; exact ⟨ob, k _ _ (.inl rfl) e⟩
  | xd fs => obtain ⟨mA, ⟨od, es, ep, e, c⟩, r⟩ := x; exact ⟨mA, ⟨od, es, ep, k _ _ (.inl rfl) e, c⟩, r⟩
  | rng lo hi => obtain ⟨t, u, v, e⟩ := x; exact ⟨t, u, v, k _ _ (.inl rfl) e⟩
  | frz ob u ih => obtain ⟨e, q⟩ := x; exact ⟨k _ _ (.inl rfl) e, ih q⟩
  | tbl ps =>
    have e : h.get? a = some { cls := .none, data := .fields ps } := x
    show h'.get? a = some { cls := .none, data := .fields ps }
    exact k a _ (.inl rfl) e
  | met f y =>
    have e : h.get? a = some (PySem.W.methodObj (.ref f) (.ref y)) := x
    show h'.get? a = some (PySem.W.methodObj (.ref f) (.ref y))
    exact k a _ (.inl rfl) e
  | ext φ => obtain ⟨p, ⟨o, e⟩, st⟩ := x; exact ⟨st _ _ p fun o q => k _ _ (.inl rfl) q, ⟨o, k _ _ (.inl rfl) e⟩, st⟩
theorem HOk.lt (x : HOk P w H h) (e : H a = some o) : a < h.objs.size := (x a o e).lt
theorem HOk.fresh (x : HOk P w H h) (e : h.objs.size ≤ a) : H a = none := by
  cases q : H a with
  | none => rfl
  | some u => exact absurd (Nat.lt_of_lt_of_le (x.lt q) e) (Nat.lt_irrefl _)
/-- every object of the heap is kept -/
theorem HOk.kept (x : HOk P w H h) (k : ∀ b u, h.get? b = some u → h'.get? b = some u) : HOk P w H h' := fun a o e =>
  (x a o e).stay (fun b u _ q => k b u q) (fun _ q => q) fun _ _ q => q
/-- a new object is laid and tracked -/
theorem HOk.laid (x : HOk P w H h) (k : ∀ b u, h.get? b = some u → h'.get? b = some u) (hp : h.objs.size ≤ a) (new : ObjOk P w (upd H a o) h' a o) : HOk P w (upd H a o) h' := fun b u e => by
  have hn := x.fresh hp
  by_cases hb : b = a
  · subst hb; rw [upd_same] at e; cases e; exact new
  · rw [upd_ne hb] at e
    exact (x b u e).stay (fun c v _ q => k c v q) (fun c q => by rw [upd_ne (ne_of_none q hn)]; exact q) fun c xs q => by rw [upd_ne (ne_of_none q hn)]; exact q
end

/-- what may be read as u: it is u, or a known u -/
def Rd (H : Hp) (a : Addr) (u : HO) : Prop := H a = some u ∨ ∃ o, H a = some (.frz o u)
theorem Rd.ok {P : Program} {w : World} {H : Hp} {h : Heap} {a : Addr} {u : HO} (r : Rd H a u) (x : HOk P w H h) : ObjOk P w H h a u := by
  rcases r with r | ⟨o, r⟩
  · exact x a u r
  · obtain ⟨_, q⟩ := x a _ r
    exact q
/-- what may be written -/
def Mut : Option HO → Prop
  | some (.lst _) => True
  | some (.dK _) => True
  | some (.dT _) => True
  | some (.set _ _) => True
  | some (.ins _ _ _) => True
  | some (.ext _) => True
  | _ => False
section
variable {P : Program} {w : World} {H : Hp} {h h' : Heap} {x e : Addr} {o' : HO}
/-- the object at e is changed: x itself, or the dict of the instance x -/
theorem HOk.write (ok : HOk P w H h) (mu : Mut (H x)) (he : e = x ∨ H e = some (.own x)) (k : ∀ b u, b ≠ e → h.get? b = some u → h'.get? b = some u) (heo : ∃ u, h'.get? e = some u)
    (new : ObjOk P w (upd H x o') h' x o') : HOk P w (upd H x o') h' := fun b u q => by
  have nown : ∀ c y, H c = some (.own y) → c ≠ x := fun c y r z => by subst z; rw [r] at mu; exact mu
  have ntup : ∀ c xs, H c = some (.tup xs) → c ≠ x := fun c xs r z => by subst z; rw [r] at mu; exact mu
  by_cases hb : b = x
  · subst hb; rw [upd_same] at q; cases q; exact new
  · rw [upd_ne hb] at q
    by_cases hbe : b = e
    · have q' : H b = some (.own x) := by
        rcases he with z | z
        · exact absurd (hbe.trans z) hb
        · rw [hbe]; exact z
      rw [q] at q'; cases q'
      obtain ⟨v, hv⟩ := heo
      exact ⟨v, by rw [hbe]; exact hv⟩
    · refine (ok b u q).stay (fun c v hc r => k c v ?_ r) (fun c r => by rw [upd_ne (nown c b r)]; exact r) fun c xs r => by rw [upd_ne (ntup c xs r)]; exact r
      rcases hc with rfl | hc
      · exact hbe
      · rintro rfl
        rcases he with z | z
        · exact nown c b hc z
        · rw [hc] at z; cases z; exact hb rfl
end

/-! ### kept unless tracked; of the frames at fs (the callers') the slots may change (an exception that passes writes there); of the records at ex (iterators) nothing is said -/
structure Un (fs ex : List Addr) (H H' : Hp) (h h' : Heap) : Prop where
  keep : ∀ b o, h.get? b = some o → H b = none → b ∉ fs → b ∉ ex → h'.get? b = some o
  slot : ∀ b o, h.get? b = some o → H b = none → b ∈ fs → b ∉ ex → ∃ sl, h'.get? b = some { o with slots := sl }
  free : ∀ b o, h.get? b = some o → H b = none → b ∉ ex → H' b = none
  there : ∀ b o, h.get? b = some o → b ∉ ex → ∃ o', h'.get? b = some o'
  tups : ∀ b xs, H b = some (.tup xs) → H' b = some (.tup xs)
  frzs : ∀ b o u, H b = some (.frz o u) → H' b = some (.frz o u)
  tbls : ∀ b ps, H b = some (.tbl ps) → ∃ more, H' b = some (.tbl (ps ++ more))
section
variable {fs fs' ex ex' : List Addr} {H H1 H2 : Hp} {h h1 h2 h' : Heap} {a x e : Addr} {o : HO}
theorem Un.any (u : Un fs ex H H1 h h1) {b : Addr} {ob : Obj} (q : h.get? b = some ob) (n : H b = none) (hx : b ∉ ex) : ∃ sl, h1.get? b = some { ob with slots := sl } := by
  by_cases hb : b ∈ fs
  · exact u.slot b ob q n hb hx
  · exact ⟨ob.slots, u.keep b ob q n hb hx⟩
theorem Un.kept (k : ∀ b u, h.get? b = some u → h'.get? b = some u) : Un fs ex H H h h' :=
  ⟨fun b ob q _ _ _ => k b ob q, fun b ob q _ _ _ => ⟨ob.slots, k b ob q⟩, fun _ _ _ n _ => n, fun b ob q _ => ⟨ob, k b ob q⟩, fun _ _ q => q, fun _ _ _ q => q, fun _ ps q => ⟨#[], by rw [q]; simp⟩⟩
theorem Un.refl : Un fs ex H H h h := Un.kept fun _ _ q => q
theorem Un.laid (k : ∀ b u, h.get? b = some u → h'.get? b = some u) (hp : h.objs.size ≤ a) (hn : H a = none) : Un fs ex H (upd H a o) h h' where
  keep := fun b u q _ _ _ => k b u q
  slot := fun b u q _ _ _ => ⟨u.slots, k b u q⟩
  free := fun b u q n _ => by rw [upd_ne (Nat.ne_of_lt (Nat.lt_of_lt_of_le (Heap.lt_size q) hp))]; exact n
  there := fun b u q _ => ⟨u, k b u q⟩
  tups := fun b xs q => by rw [upd_ne (ne_of_none q hn)]; exact q
  frzs := fun b u xs q => by rw [upd_ne (ne_of_none q hn)]; exact q
  tbls := fun b ps q => ⟨#[], by rw [upd_ne (ne_of_none q hn), q]; simp⟩
theorem Un.write (mu : Mut (H x)) (he : e = x ∨ H e = some (.own x)) (k : ∀ b u, b ≠ e → h.get? b = some u → h'.get? b = some u) (heo : ∃ u, h'.get? e = some u) : Un fs ex H (upd H x o) h h' := by
  have hx : ∀ b, H b = none → b ≠ x := fun b n z => by subst z; rw [n] at mu; exact mu
  have hb : ∀ b, H b = none → b ≠ e := fun b n z => by
    subst z
    rcases he with r | r
    · exact hx b n r
    · rw [n] at r; cases r
  have hm : ∀ b u, H b = some u → ¬ Mut (some u) → b ≠ x := fun b u q nm z => by subst z; rw [q] at mu; exact nm mu
  refine ⟨fun b u q n _ _ => k b u (hb b n) q, fun b u q n _ _ => ⟨u.slots, k b u (hb b n) q⟩, fun b u q n _ => by rw [upd_ne (hx b n)]; exact n, fun b u q _ => ?_,
    fun b xs q => by rw [upd_ne (hm b _ q fun z => z)]; exact q, fun b u xs q => by rw [upd_ne (hm b _ q fun z => z)]; exact q, fun b ps q => ⟨#[], by rw [upd_ne (hm b _ q fun z => z), q]; simp⟩⟩
  by_cases hbe : b = e
  · subst hbe; exact heo
  · exact ⟨u, k b u hbe q⟩
end

/-! ### the heap without what is tracked -/
def trk (h : Heap) (H : Hp) : List Addr := (List.range h.objs.size).filter fun a => (H a).isSome
def hidT (h : Heap) (H : Hp) : Heap := PySem.W.hideAll h (trk h H)
theorem hidT_size (h : Heap) (H : Hp) : (hidT h H).objs.size = h.objs.size := PySem.W.hideAll_size _ _
theorem hidT_get {h : Heap} {H : Hp} {b : Addr} {o : Obj} (e : h.get? b = some o) (n : H b = none) : (hidT h H).get? b = some o :=
  PySem.W.hideAll_get _ e fun hm => by
    have q : (H b).isSome = true := (List.mem_filter.mp hm).2
    rw [n] at q; simp at q
theorem of_hidT {h : Heap} {H : Hp} {b : Addr} {o : Obj} (e : (hidT h H).get? b = some o) : h.get? b = some o ∧ H b = none := by
  have e' : h.get? b = some o := PySem.W.of_hideAll (trk h H) e
  refine ⟨e', ?_⟩
  cases q : H b with
  | none => rfl
  | some x =>
    have hm : b ∈ trk h H := List.mem_filter.mpr ⟨List.mem_range.mpr (Heap.lt_size e'), by simp [q]⟩
    have z : (hidT h H).get? b = none := PySem.W.hideAll_none (trk h H) hm
    rw [z] at e; cases e

/-! ### OpenK's ledger, filled with every new object but one -/
end L2

namespace L2
open PySem PySem.Spec PyProof.Rows

/-- the module's facts, over the base: the heap at the law's entry without what is tracked there -/
structure Mod (K : PySem.W.Frag) (mg : Str → Option Value) (base : Heap) : Prop where
  kin : K.In base
  glob : base.Ns mainGlobals mg
  blt : ∃ mb, base.Ns builtinsNs mb ∧ ∀ x : Str, x ≠ "__name__" → mb x = bootBuiltins x
  nolimit : base.NoLimit

/-- the context: a def's body (or a comprehension's block) running. base: fixed through the whole law; s₀, H₀: the entry; outer: the frames whose slots others may change (a def's callers); stack: all frames that run;
   ex: iterators that were made ahead of the entry and are walked here (a comprehension's); fn: the names whose cells were made at the entry (a def: all; a comprehension's block: its own); calm: not within an except suite; pn: pins that every state bears; xe: what is wanted of an exception that leaves the code -/
structure Cx where
  prog : Program
  w : World
  K : PySem.W.Frag
  mg : Str → Option Value
  base : Heap
  A : Around
  N : List Str
  s₀ : Shared
  H₀ : Hp
  env : Env
  outer : List Env
  stack : List Env
  ex : List Addr
  fn : Str → Bool
  calm : Bool
  pn : List (Addr × Obj)
  xe : Value → Shared → Prop
/-- the callers' frames -/
def frs (l : List Env) : List Addr := l.filterMap (·.frame)
abbrev Cx.fs (X : Cx) : List Addr := frs X.outer

def Vis (sc : Scope) (x : Str) : Prop := sc.names.lookup x = some .local ∨ sc.names.lookup x = some .cell ∨ sc.names.lookup x = some .free
def Loc (sc : Scope) (x : Str) : Prop := sc.names.lookup x = some .local ∨ sc.names.lookup x = some .cell
def Look (env : Env) (h : Heap) (m : Str → Option Value) (x : Str) (u : Value) : Prop :=
  (env.kindOf x = some .local ∧ m x = some u) ∨ ((env.kindOf x = some .cell ∨ env.kindOf x = some .free) ∧ ∃ c, env.cells.lookup x = some c ∧ h.IsCell c (some u))

structure Cx.Ok (X : Cx) : Prop where
  mod : Mod X.K X.mg X.base
  kind : X.env.scope.kind = .function
  glob : X.env.globals = mainGlobals
  blt : X.env.builtins = builtinsNs
  above : X.s₀.heap.objs.size ≤ X.env.locals
  inj : ∀ x y c, X.env.cells.lookup x = some c → X.env.cells.lookup y = some c → x = y
  has : ∀ x, (X.env.kindOf x = some .cell ∨ X.env.kindOf x = some .free) → ∃ c, X.env.cells.lookup x = some c
  cab : ∀ x c, X.fn x = true → X.env.cells.lookup x = some c → X.s₀.heap.objs.size ≤ c
  hd : X.calm = true → X.A.handled = none
  frames : X.A.frames = some X.stack
  stk : X.stack = X.outer ∨ (X.stack = X.env :: X.outer ∧ X.env.frame = some X.env.locals)
  exf : ∀ b ∈ X.ex, b ≠ X.env.locals ∧ ∀ x c, X.env.cells.lookup x = some c → c ≠ b
  bs : ∀ b o, X.base.get? b = some o → X.s₀.heap.get? b = some o ∧ X.H₀ b = none
  bsz : X.base.objs.size ≤ X.s₀.heap.objs.size
  noex : ∀ b o, X.base.get? b = some o → b ∉ X.ex
  exfs : ∀ b ∈ X.ex, b ∉ X.fs
  funs : X.s₀.heap.FunFrames X.base X.outer
  frf : ∀ b ∈ X.fs, X.H₀ b = none

structure Inv (X : Cx) (pins : List (Addr × Obj)) (σ : List (Option V)) (H : Hp) (s : Shared) : Prop where
  ok : X.Ok
  os : s.os = X.s₀.os
  bare : AllBare s.gens
  base : Un X.fs X.ex X.H₀ H X.s₀.heap s.heap
  loc : ∃ m, s.heap.Ns X.env.locals m ∧ ∀ (i : Nat) (x : Str) (v : V), X.N[i]? = some x → σ[i]? = some (some v) → Vis X.env.scope x → ∃ u, RelV v u ∧ Look X.env s.heap m x u
  cell : ∀ x c, X.env.cells.lookup x = some c → ∃ v, s.heap.IsCell c v
  free : H X.env.locals = none
  freeC : ∀ x c, X.env.cells.lookup x = some c → H c = none
  pin : ∀ p ∈ X.pn ++ pins, s.heap.get? p.1 = some p.2 ∧ H p.1 = none ∧ p.1 ≠ X.env.locals ∧ p.1 ∉ X.fs ∧ ∀ v, p.2.data ≠ .cell v
  hok : HOk X.prog X.w H s.heap
  len : σ.length = X.N.length

section
variable {X : Cx} {pins : List (Addr × Obj)} {σ : List (Option V)} {H H' : Hp} {s : Shared} {h' : Heap}

theorem Cx.Ok.nofr (ok : X.Ok) {b : Addr} {o : Obj} (e : X.base.get? b = some o) : b ∉ X.fs := fun hb => by
  have := (ok.funs.mem hb).1
  rw [e] at this; cases this
theorem Inv.bs (I : Inv X pins σ H s) : ∀ b o, X.base.get? b = some o → s.heap.get? b = some o ∧ H b = none := fun b o e =>
  ⟨I.base.keep b o (I.ok.bs b o e).1 (I.ok.bs b o e).2 (I.ok.nofr e) (I.ok.noex b o e), I.base.free b o (I.ok.bs b o e).1 (I.ok.bs b o e).2 (I.ok.noex b o e)⟩
theorem Inv.bk (I : Inv X pins σ H s) : ∀ b o, X.base.get? b = some o → s.heap.get? b = some o := fun b o e => (I.bs b o e).1
theorem Inv.mod (I : Inv X pins σ H s) : Mod X.K X.mg X.base := I.ok.mod
theorem Inv.kIn (I : Inv X pins σ H s) : X.K.In s.heap := I.ok.mod.kin.keeps I.bk
theorem Inv.lt (I : Inv X pins σ H s) : X.env.locals < s.heap.objs.size := let ⟨_, hn, _⟩ := I.loc; hn.lt
theorem Inv.sz (I : Inv X pins σ H s) : X.s₀.heap.objs.size ≤ s.heap.objs.size := Nat.le_trans I.ok.above (Nat.le_of_lt I.lt)
theorem Inv.nofs (I : Inv X pins σ H s) {a : Addr} (h : s.heap.objs.size ≤ a) : a ∉ X.fs := fun hb => by
  obtain ⟨_, o, ho, _⟩ := I.ok.funs.mem hb
  exact absurd (Nat.lt_of_lt_of_le (Heap.lt_size ho) (Nat.le_trans I.sz h)) (Nat.lt_irrefl _)
theorem Inv.cne (I : Inv X pins σ H s) : ∀ x c, X.env.cells.lookup x = some c → c ≠ X.env.locals := fun x c e z => by
  obtain ⟨v, o, ho, hd⟩ := I.cell x c e
  obtain ⟨m, ⟨o', es, ep, ho', hd', _⟩, _⟩ := I.loc
  rw [z, ho'] at ho; cases ho; rw [hd'] at hd; cases hd
theorem Inv.funs (I : Inv X pins σ H s) : s.heap.FunFrames X.base X.outer := by
  have all : ∀ (l : List Env), (∀ b ∈ frs l, b ∈ X.fs) → X.s₀.heap.FunFrames X.base l → s.heap.FunFrames X.base l := by
    intro l
    induction l with
    | nil => intro _ _; trivial
    | cons env r ih =>
      intro hs hl
      obtain ⟨hk, ⟨L, o, hf, hn, ho, hd⟩, hr⟩ := hl
      have hL : L ∈ X.fs := hs L (by unfold frs; rw [List.filterMap_cons, hf]; exact List.mem_cons_self)
      obtain ⟨sl, e⟩ := I.base.slot L o ho (I.ok.frf L hL) hL fun z => I.ok.exfs L z hL
      exact ⟨hk, ⟨L, _, hf, hn, e, hd⟩, ih (fun b hb => hs b (by unfold frs; rw [List.filterMap_cons, hf]; exact List.mem_cons_of_mem _ hb)) hr⟩
  exact all X.outer (fun _ hb => hb) I.ok.funs

/-- the frames that run, for a call -/
theorem Inv.stack (I : Inv X pins σ H s) : s.heap.FunFrames X.base X.stack := by
  rcases I.ok.stk with e | ⟨e, hf⟩
  · rw [e]; exact I.funs
  · rw [e]
    obtain ⟨m, hn, _⟩ := I.loc
    refine .cons (by rw [I.ok.kind]; decide) hf hn ?_ I.funs
    exact Heap.get?_none_of_le (Nat.le_trans I.ok.bsz I.ok.above)
theorem Inv.stkSub (I : Inv X pins σ H s) : ∀ b ∈ frs X.stack, b ∈ X.env.locals :: X.fs := fun b hb => by
  rcases I.ok.stk with e | ⟨e, hf⟩
  · rw [e] at hb; exact List.mem_cons_of_mem _ hb
  · rw [e] at hb
    unfold frs at hb
    rw [List.filterMap_cons, hf] at hb
    exact hb
theorem Inv.stkFree (I : Inv X pins σ H s) : ∀ b ∈ frs X.stack, H b = none := fun b hb => by
  rcases List.mem_cons.mp (I.stkSub b hb) with e | hb
  · rw [e]; exact I.free
  · obtain ⟨_, o, ho, _⟩ := I.ok.funs.mem hb
    exact I.base.free b o ho (I.ok.frf b hb) fun z => I.ok.exfs b z hb

/-- THE STEP: the untracked objects but the frame and the records at ch are kept (the callers' frames up to slots), the frame's map is kept, the new abstract heap is held -/
theorem Inv.step {g' : Array GenState} {t' : Nat} {d' : Drawn} {ch : List Addr} (I : Inv X pins σ H s)
    (hch : ∀ b ∈ ch, (b ∈ X.ex ∨ X.s₀.heap.objs.size ≤ b) ∧ b ≠ X.env.locals ∧ (∀ x c, X.env.cells.lookup x = some c → c ≠ b) ∧ ∀ p ∈ X.pn ++ pins, p.1 ≠ b)
    (keep : ∀ b o, b ≠ X.env.locals → b ∉ X.fs → b ∉ ch → s.heap.get? b = some o → H b = none → h'.get? b = some o)
    (slot : ∀ b o, b ≠ X.env.locals → b ∈ X.fs → b ∉ ch → s.heap.get? b = some o → H b = none → ∃ sl, h'.get? b = some { o with slots := sl }) (free : ∀ b o, b ∉ ch → s.heap.get? b = some o → H b = none → H' b = none)
    (there : ∀ b o, b ∉ ch → s.heap.get? b = some o → ∃ o', h'.get? b = some o')
    (tups : ∀ b xs, H b = some (.tup xs) → H' b = some (.tup xs)) (frzs : ∀ b o u, H b = some (.frz o u) → H' b = some (.frz o u)) (tbls : ∀ b ps, H b = some (.tbl ps) → ∃ more, H' b = some (.tbl (ps ++ more)))
    (ns : ∀ m, s.heap.Ns X.env.locals m → h'.Ns X.env.locals m) (hok : HOk X.prog X.w H' h') (hg : AllBare g') :
    Inv X pins σ H' { s with heap := h', gens := g', drawn := d', toks := t' } := by
  have neL : ∀ b o, X.s₀.heap.get? b = some o → b ≠ X.env.locals := fun b o e => Nat.ne_of_lt (Nat.lt_of_lt_of_le (Heap.lt_size e) I.ok.above)
  have neC : ∀ b o, X.s₀.heap.get? b = some o → b ∉ X.ex → b ∉ ch := fun b o e hx hb => by
    rcases (hch b hb).1 with z | z
    · exact hx z
    · exact absurd (Nat.lt_of_lt_of_le (Heap.lt_size e) z) (Nat.lt_irrefl _)
  have cellK : ∀ x c, X.env.cells.lookup x = some c → ∀ v, s.heap.IsCell c v → h'.IsCell c v := fun x c e v ⟨o, ho, hd⟩ => by
    have nch : c ∉ ch := fun z => (hch c z).2.2.1 x c e rfl
    by_cases hc : c ∈ X.fs
    · obtain ⟨sl, q⟩ := slot c o (I.cne x c e) hc nch ho (I.freeC x c e)
      exact ⟨_, q, hd⟩
    · exact ⟨o, keep c o (I.cne x c e) hc nch ho (I.freeC x c e), hd⟩
  refine ⟨I.ok, I.os, hg, ⟨fun b o e n hb hx => ?_, fun b o e n hb hx => ?_, fun b o e n hx => ?_, fun b o e hx => ?_, fun b xs e => tups b xs (I.base.tups b xs e), fun b o xs e => frzs b o xs (I.base.frzs b o xs e), fun b ps e => ?_⟩, ?_, fun x c e => ?_, ?_, fun x c e => ?_, fun p hp => ?_, hok, I.len⟩
  · exact keep b o (neL b o e) hb (neC b o e hx) (I.base.keep b o e n hb hx) (I.base.free b o e n hx)
  · obtain ⟨sl, e1⟩ := I.base.slot b o e n hb hx
    obtain ⟨sl', e2⟩ := slot b _ (neL b o e) hb (neC b o e hx) e1 (I.base.free b o e n hx)
    exact ⟨sl', e2⟩
  · obtain ⟨o', e1⟩ := I.base.there b o e hx
    exact free b o' (neC b o e hx) e1 (I.base.free b o e n hx)
  · obtain ⟨o', e1⟩ := I.base.there b o e hx
    exact there b o' (neC b o e hx) e1
  · obtain ⟨m1, e1⟩ := I.base.tbls b ps e
    obtain ⟨m2, e2⟩ := tbls b _ e1
    exact ⟨m1 ++ m2, by rw [e2, Array.append_assoc]⟩
  · obtain ⟨m, hn, hl⟩ := I.loc
    refine ⟨m, ns m hn, fun i x v e1 e2 e3 => ?_⟩
    obtain ⟨u, r, l⟩ := hl i x v e1 e2 e3
    refine ⟨u, r, ?_⟩
    rcases l with l | ⟨k, c, e, z⟩
    · exact .inl l
    · exact .inr ⟨k, c, e, cellK x c e _ z⟩
  · obtain ⟨v, z⟩ := I.cell x c e
    exact ⟨v, cellK x c e v z⟩
  · obtain ⟨m, ⟨o, _, _, ho, _⟩, _⟩ := I.loc
    exact free _ o (fun z => (hch _ z).2.1 rfl) ho I.free
  · obtain ⟨v, o, ho, hd⟩ := I.cell x c e
    exact free c o (fun z => (hch c z).2.2.1 x c e rfl) ho (I.freeC x c e)
  · obtain ⟨e, n, ne, nf, d⟩ := I.pin p hp
    have nch : p.1 ∉ ch := fun z => (hch p.1 z).2.2.2 p hp rfl
    exact ⟨keep p.1 p.2 ne nf nch e n, free p.1 p.2 nch e n, ne, nf, d⟩
/-- .. where the frame's own object is kept too -/
theorem Inv.un {t' : Nat} (I : Inv X pins σ H s) (u : Un X.fs [] H H' s.heap h') (hok : HOk X.prog X.w H' h') : Inv X pins σ H' { s with heap := h', toks := t' } := by
  obtain ⟨m, ⟨o, es, ep, ho, r⟩, _⟩ := id I.loc
  obtain ⟨sl, hL⟩ := u.any ho I.free (by simp)
  exact I.step (g' := s.gens) (d' := s.drawn) (ch := []) (fun _ z => nomatch z) (fun b o _ hb _ e n => u.keep b o e n hb (by simp)) (fun b o _ hb _ e n => u.slot b o e n hb (by simp)) (fun b o _ e n => u.free b o e n (by simp)) (fun b o _ e => u.there b o e (by simp)) u.tups u.frzs u.tbls (fun m' hm => by
    obtain ⟨o', es', ep', ho', r'⟩ := hm
    rw [ho] at ho'; cases ho'
    exact ⟨_, es', ep', hL, r'⟩) hok I.bare
/-- behind a call (or a comprehension's block): the slots of this frame may have changed too, the records at ch may have turned -/
theorem Inv.call {g' : Array GenState} {t' : Nat} {d' : Drawn} {ch : List Addr} (I : Inv X pins σ H s) (u : Un (frs X.stack) ch H H' s.heap h') (hok : HOk X.prog X.w H' h') (hg : AllBare g')
    (hch : ∀ b ∈ ch, (b ∈ X.ex ∨ X.s₀.heap.objs.size ≤ b) ∧ b ≠ X.env.locals ∧ (∀ x c, X.env.cells.lookup x = some c → c ≠ b) ∧ ∀ p ∈ X.pn ++ pins, p.1 ≠ b) :
    Inv X pins σ H' { s with heap := h', gens := g', drawn := d', toks := t' } := by
  obtain ⟨m, ⟨o, es, ep, ho, r⟩, _⟩ := id I.loc
  obtain ⟨sl, hL⟩ := u.any ho I.free fun z => (hch _ z).2.1 rfl
  exact I.step (ch := ch) hch (fun b o hL hb hc e n => u.keep b o e n (fun z => (List.mem_cons.mp (I.stkSub b z)).elim hL hb) hc) (fun b o _ _ hc e n => u.any e n hc) (fun b o hc e n => u.free b o e n hc) (fun b o hc e => u.there b o e hc) u.tups u.frzs u.tbls (fun m' hm => by
    obtain ⟨o', es', ep', ho', r'⟩ := hm
    rw [ho] at ho'; cases ho'
    exact ⟨_, es', ep', hL, r'⟩) hok hg
/-- an untracked record of ours (an iterator) has turned -/
theorem Inv.turned {t' : Nat} {it : Addr} (I : Inv X pins σ H s) (k : ∀ b o, b ≠ it → s.heap.get? b = some o → h'.get? b = some o) (hn : H it = none) (hL : it ≠ X.env.locals)
    (h1 : it ∈ X.ex ∨ X.s₀.heap.objs.size ≤ it) (h2 : ∀ x c, X.env.cells.lookup x = some c → c ≠ it) (h3 : ∀ p ∈ X.pn ++ pins, p.1 ≠ it) : Inv X pins σ H { s with heap := h', toks := t' } := by
  have nit : ∀ b u, H b = some u → b ≠ it := fun b u e z => by rw [z, hn] at e; cases e
  refine I.step (g' := s.gens) (d' := s.drawn) (ch := [it]) (fun b hb => ?_) (fun b o _ _ hc e _ => k b o (fun z => hc (by simp [z])) e) (fun b o _ _ hc e _ => ⟨o.slots, k b o (fun z => hc (by simp [z])) e⟩) (fun _ _ _ _ n => n)
    (fun b o hc e => ⟨o, k b o (fun z => hc (by simp [z])) e⟩) (fun _ _ e => e) (fun _ _ _ e => e) (fun b ps e => ⟨#[], by rw [e]; simp⟩) (fun m hm => ?_) (fun b u e => ?_) I.bare
  · have e : b = it := by simpa using hb
    subst e
    exact ⟨h1, hL, h2, h3⟩
  · obtain ⟨o, es, ep, ho, r⟩ := hm
    exact ⟨o, es, ep, k _ o (Ne.symm hL) ho, r⟩
  · refine (I.hok b u e).stay (fun c v hc q => k c v ?_ q) (fun _ q => q) fun _ _ q => q
    rcases hc with z | z
    · rw [z]; exact nit b u e
    · exact nit c _ z
theorem Inv.tok (I : Inv X pins σ H s) (t : Nat) : Inv X pins σ H { s with toks := t } := I.un (h' := s.heap) (t' := t) Un.refl I.hok
/-- all objects kept -/
theorem Inv.kept {t' : Nat} (I : Inv X pins σ H s) (k : ∀ b u, s.heap.get? b = some u → h'.get? b = some u) : Inv X pins σ H { s with heap := h', toks := t' } := I.un (Un.kept k) (I.hok.kept k)
/-- a new object laid and tracked -/
theorem Inv.laid {a : Addr} {o : HO} {t' : Nat} (I : Inv X pins σ H s) (k : ∀ b u, s.heap.get? b = some u → h'.get? b = some u) (hp : s.heap.objs.size ≤ a) (new : ObjOk X.prog X.w (upd H a o) h' a o) :
    Inv X pins σ (upd H a o) { s with heap := h', toks := t' } := I.un (Un.laid k hp (I.hok.fresh hp)) (I.hok.laid k hp new)
/-- an object written -/
theorem Inv.write {x e : Addr} {o : HO} {t' : Nat} (I : Inv X pins σ H s) (mu : Mut (H x)) (he : e = x ∨ H e = some (.own x)) (k : ∀ b u, b ≠ e → s.heap.get? b = some u → h'.get? b = some u) (heo : ∃ u, h'.get? e = some u)
    (new : ObjOk X.prog X.w (upd H x o) h' x o) : Inv X pins σ (upd H x o) { s with heap := h', toks := t' } := I.un (Un.write mu he k heo) (I.hok.write mu he k heo new)
theorem Inv.pins_of {pins' : List (Addr × Obj)} (I : Inv X pins σ H s) (h : ∀ p ∈ pins', s.heap.get? p.1 = some p.2 ∧ H p.1 = none ∧ p.1 ≠ X.env.locals ∧ p.1 ∉ X.fs ∧ ∀ v, p.2.data ≠ .cell v) : Inv X pins' σ H s :=
  ⟨I.ok, I.os, I.bare, I.base, I.loc, I.cell, I.free, I.freeC, fun p hp => (List.mem_append.mp hp).elim (fun z => I.pin p (List.mem_append_left _ z)) (h p), I.hok, I.len⟩

theorem nodup_ix {N : List Str} (hN : N.Nodup) {i j : Nat} {x : Str} (a : N[i]? = some x) (b : N[j]? = some x) : i = j := by
  obtain ⟨h1, e1⟩ := List.getElem?_eq_some_iff.mp a
  obtain ⟨h2, e2⟩ := List.getElem?_eq_some_iff.mp b
  exact (List.getElem_inj hN).mp (e1.trans e2.symm)

/-- a name is stored; what changed -/
theorem store_ok2 {M : Model} {A : Around} {E : Value → Shared → Prop} {i : Nat} {x : Str} {v : V} {u : Value} {Q : Unit → Shared → Prop} (I : Inv X pins σ H s) (hN : X.N.Nodup) (hi : X.N[i]? = some x) (hx : Loc X.env.scope x) (r : RelV v u)
    (h : ∀ s', Inv X pins (σ.set i (some v)) H s' → (∃ a, Heap.SameBut a s.heap s'.heap ∧ (a = X.env.locals ∨ X.env.cells.lookup x = some a)) → Q () s') (hf : X.fn x = true ∨ X.env.scope.names.lookup x = some .local := by first | exact .inl rfl | exact .inr rfl | assumption) : wpAny M A (storeName X.env x u) Q E s := by
  obtain ⟨m, hn, hl⟩ := id I.loc
  have hcls : (X.env.scope.kind == .class || (X.env.scope.kind == .module && X.env.locals != X.env.globals)) = false := by rw [I.ok.kind]; rfl
  have hiσ : i < σ.length := by rw [I.len]; exact (List.getElem?_eq_some_iff.mp hi).1
  have cne := I.cne
  have tracked : ∀ {a : Addr} {h' : Heap}, (∃ o, s.heap.get? a = some o ∧ H a = none) → Heap.SameBut a s.heap h' → HOk X.prog X.w H h' := fun {a h'} ha hs b ob e => by
    obtain ⟨_, _, hfree⟩ := ha
    refine (I.hok b ob e).stay (fun c w' hc q => (hs.2 c ?_).trans q) (fun _ q => q) fun _ _ q => q
    rintro rfl
    rcases hc with rfl | hc
    · rw [hfree] at e; cases e
    · rw [hfree] at hc; cases hc
  rcases hx with hk | hk
  · refine wpAny_storeName_local hk hn (fun h' hn' hs => ?_) hcls
    obtain ⟨oL, _, _, hoL, _⟩ := id hn
    refine h _ ⟨I.ok, I.os, I.bare, ⟨fun b o e n hb hx => ?_, fun b o e n hb hx => ?_, I.base.free, fun b o e hx => ?_, I.base.tups, I.base.frzs, I.base.tbls⟩, ⟨_, hn', fun j y v' e1 e2 e3 => ?_⟩, fun y c e => ?_, I.free, I.freeC, fun p hp => ?_, tracked ⟨oL, hoL, I.free⟩ hs, by simpa using I.len⟩ ⟨_, hs, .inl rfl⟩
    · exact (hs.2 b (Nat.ne_of_lt (Nat.lt_of_lt_of_le (Heap.lt_size e) I.ok.above))).trans (I.base.keep b o e n hb hx)
    · obtain ⟨sl, e1⟩ := I.base.slot b o e n hb hx
      exact ⟨sl, (hs.2 b (Nat.ne_of_lt (Nat.lt_of_lt_of_le (Heap.lt_size e) I.ok.above))).trans e1⟩
    · obtain ⟨o', e1⟩ := I.base.there b o e hx
      exact ⟨o', (hs.2 b (Nat.ne_of_lt (Nat.lt_of_lt_of_le (Heap.lt_size e) I.ok.above))).trans e1⟩
    · by_cases hj : j = i
      · subst hj
        rw [hi] at e1; cases e1
        rw [List.getElem?_set_self hiσ] at e2
        cases e2
        exact ⟨u, r, .inl ⟨hk, by simp⟩⟩
      · rw [List.getElem?_set_ne (Ne.symm hj)] at e2
        obtain ⟨u', r', q⟩ := hl j y v' e1 e2 e3
        refine ⟨u', r', ?_⟩
        rcases q with ⟨k, e⟩ | ⟨k, c, e, z⟩
        · refine .inl ⟨k, ?_⟩
          have : y ≠ x := fun e => hj (nodup_ix hN e1 (e ▸ hi))
          simp [this, e]
        · exact .inr ⟨k, c, e, z.sameBut hs (cne y c e)⟩
    · obtain ⟨w', z⟩ := I.cell y c e
      exact ⟨w', z.sameBut hs (cne y c e)⟩
    · obtain ⟨e, n, ne, nf, d⟩ := I.pin p hp
      exact ⟨(hs.2 p.1 ne).trans e, n, ne, nf, d⟩
  · have hfn : X.fn x = true := by
      rcases hf with z | z
      · exact z
      · rw [z] at hk; cases hk
    obtain ⟨c, hc⟩ := I.ok.has x (.inl hk)
    obtain ⟨w', z⟩ := I.cell x c hc
    refine wpAny_storeName_cell I.ok.kind hk hc z (fun h' hc' hs => ?_)
    obtain ⟨oc, hoc, hocd⟩ := id z
    refine h { s with heap := h' } ⟨I.ok, I.os, I.bare, ⟨fun b o e n hb hx => ?_, fun b o e n hb hx => ?_, I.base.free, fun b o e hx => ?_, I.base.tups, I.base.frzs, I.base.tbls⟩, ⟨m, hn.sameBut hs (Ne.symm (cne x c hc)), fun j y v' e1 e2 e3 => ?_⟩, fun y c' e => ?_, I.free, I.freeC, fun p hp => ?_, tracked ⟨oc, hoc, I.freeC x c hc⟩ hs, by simpa using I.len⟩ ⟨c, hs, .inr hc⟩
    · exact (hs.2 b (Nat.ne_of_lt (Nat.lt_of_lt_of_le (Heap.lt_size e) (I.ok.cab x c hfn hc)))).trans (I.base.keep b o e n hb hx)
    · obtain ⟨sl, e1⟩ := I.base.slot b o e n hb hx
      exact ⟨sl, (hs.2 b (Nat.ne_of_lt (Nat.lt_of_lt_of_le (Heap.lt_size e) (I.ok.cab x c hfn hc)))).trans e1⟩
    · obtain ⟨o', e1⟩ := I.base.there b o e hx
      exact ⟨o', (hs.2 b (Nat.ne_of_lt (Nat.lt_of_lt_of_le (Heap.lt_size e) (I.ok.cab x c hfn hc)))).trans e1⟩
    · by_cases hj : j = i
      · subst hj
        rw [hi] at e1; cases e1
        rw [List.getElem?_set_self hiσ] at e2
        cases e2
        exact ⟨u, r, .inr ⟨.inl hk, c, hc, hc'⟩⟩
      · rw [List.getElem?_set_ne (Ne.symm hj)] at e2
        obtain ⟨u', r', q⟩ := hl j y v' e1 e2 e3
        refine ⟨u', r', ?_⟩
        rcases q with q | ⟨k, c', e, z'⟩
        · exact .inl q
        · refine .inr ⟨k, c', e, z'.sameBut hs ?_⟩
          rintro rfl
          exact hj (nodup_ix hN e1 (I.ok.inj _ _ _ e hc ▸ hi))
    · by_cases hcc : c' = c
      · subst hcc; exact ⟨_, hc'⟩
      · obtain ⟨w2, z2⟩ := I.cell y c' e
        exact ⟨w2, z2.sameBut hs hcc⟩
    · obtain ⟨e, n, ne, nf, d⟩ := I.pin p hp
      refine ⟨(hs.2 p.1 ?_).trans e, n, ne, nf, d⟩
      intro q
      rw [q, hoc] at e
      have q' : oc = p.2 := Option.some.inj e
      exact d w' (by rw [← q']; exact hocd)
theorem store_ok {M : Model} {A : Around} {E : Value → Shared → Prop} {i : Nat} {x : Str} {v : V} {u : Value} {Q : Unit → Shared → Prop} (I : Inv X pins σ H s) (hN : X.N.Nodup) (hi : X.N[i]? = some x) (hx : Loc X.env.scope x) (r : RelV v u)
    (h : ∀ s', Inv X pins (σ.set i (some v)) H s' → Q () s') (hf : X.fn x = true ∨ X.env.scope.names.lookup x = some .local := by first | exact .inl rfl | exact .inr rfl | assumption) : wpAny M A (storeName X.env x u) Q E s :=
  store_ok2 I hN hi hx r (fun s' I' _ => h s' I') hf
/-- behind a call or a block, the state as it is -/
theorem Inv.call' {s' : Shared} {ch : List Addr} (I : Inv X pins σ H s) (ho : s'.os = s.os) (u : Un (frs X.stack) ch H H' s.heap s'.heap) (hok : HOk X.prog X.w H' s'.heap) (hg : AllBare s'.gens)
    (hch : ∀ b ∈ ch, (b ∈ X.ex ∨ X.s₀.heap.objs.size ≤ b) ∧ b ≠ X.env.locals ∧ (∀ x c, X.env.cells.lookup x = some c → c ≠ b) ∧ ∀ p ∈ X.pn ++ pins, p.1 ≠ b) : Inv X pins σ H' s' := by
  obtain ⟨h', g', d', t', o'⟩ := s'
  have e : o' = s.os := ho
  subst e
  exact I.call (g' := g') (t' := t') (d' := d') u hok hg hch
end

/-! ### the judgements -/
/-- an exception: its class, its own dict's address (where it has one), the abstract heap behind it -/
abbrev XK := Value → Option Addr → Hp → Prop
abbrev St := List (Option V)
abbrev VK := V → Hp → Prop
/-- an expression's reading; a test's; an argument list's -/
abbrev TE := St → Hp → VK → Prop
abbrev TT := St → Hp → (Bool → Hp → Prop) → Prop
abbrev TA := St → Hp → (List V → Hp → Prop) → Prop
/-- what is wanted behind a statement -/
structure Ends where
  nx : St → Hp → Prop
  rt : VK
  bk : St → Hp → Prop := fun _ _ => False
  ct : St → Hp → Prop := fun _ _ => False
abbrev TS := Ends → St → Hp → Prop

def EP (X : Cx) (pins : List (Addr × Obj)) (σ : St) (Q : VK) (u : Value) (s' : Shared) : Prop := ∃ v H', Inv X pins σ H' s' ∧ RelV v u ∧ Q v H'
def TP (X : Cx) (pins : List (Addr × Obj)) (σ : St) (Q : Bool → Hp → Prop) (b : Bool) (s' : Shared) : Prop := ∃ H', Inv X pins σ H' s' ∧ Q b H'
def AP (X : Cx) (pins : List (Addr × Obj)) (σ : St) (Q : List V → Hp → Prop) (us : List Value) (s' : Shared) : Prop := ∃ vs H', Inv X pins σ H' s' ∧ Vals vs us ∧ Q vs H'
def SP (X : Cx) (pins : List (Addr × Obj)) (D : Ends) (f : Flow) (s' : Shared) : Prop :=
  match f with
  | .next => ∃ σ' H', Inv X pins σ' H' s' ∧ D.nx σ' H'
  | .brk => ∃ σ' H', Inv X pins σ' H' s' ∧ D.bk σ' H'
  | .cont => ∃ σ' H', Inv X pins σ' H' s' ∧ D.ct σ' H'
  | .ret u => ∃ v σ' H', Inv X pins σ' H' s' ∧ RelV v u ∧ D.rt v H'

def PE (X : Cx) (e : Expr) (t : TE) : Prop :=
  ∀ (pins : List (Addr × Obj)) (s : Shared) (σ : St) (H : Hp) (Q : VK), Inv X pins σ H s → t σ H Q → wpAny (model X.prog X.w) X.A (eval e X.env) (EP X pins σ Q) X.xe s
def PT (X : Cx) (e : Expr) (t : TT) : Prop :=
  ∀ (pins : List (Addr × Obj)) (s : Shared) (σ : St) (H : Hp) (Q : Bool → Hp → Prop), Inv X pins σ H s → t σ H Q → wpAny (model X.prog X.w) X.A (isTrue e X.env (eval e X.env)) (TP X pins σ Q) X.xe s
/-- a test whatever its 'whole' is (and, or) -/
def PW (X : Cx) (e : Expr) (t : TT) : Prop :=
  ∀ (whole : Sem Value) (pins : List (Addr × Obj)) (s : Shared) (σ : St) (H : Hp) (Q : Bool → Hp → Prop), Inv X pins σ H s → t σ H Q → wpAny (model X.prog X.w) X.A (isTrue e X.env whole) (TP X pins σ Q) X.xe s
theorem PW.pt {X : Cx} {e : Expr} {t : TT} (h : PW X e t) : PT X e t := h _
/-- an argument list (no star), from the left -/
def PA (X : Cx) (es : List Expr) (t : TA) : Prop :=
  ∀ (pos : Pos) (pins : List (Addr × Obj)) (s : Shared) (σ : St) (H : Hp) (Q : List V → Hp → Prop), Inv X pins σ H s → t σ H Q → wpAny (model X.prog X.w) X.A (spliced (backTo pos (starEach es X.env))) (AP X pins σ Q) X.xe s
def PS (X : Cx) (st : Stmt) (t : TS) : Prop :=
  ∀ (pins : List (Addr × Obj)) (s : Shared) (σ : St) (H : Hp) (D : Ends), Inv X pins σ H s → t D σ H → wpAny (model X.prog X.w) X.A (exec st X.env) (SP X pins D) X.xe s
def PSs (X : Cx) (st : List Stmt) (t : TS) : Prop :=
  ∀ (pins : List (Addr × Obj)) (s : Shared) (σ : St) (H : Hp) (D : Ends), Inv X pins σ H s → t D σ H → wpAny (model X.prog X.w) X.A (execs st X.env) (SP X pins D) X.xe s
/-- weaken the end -/
theorem thn {α : Type} {t : Sem α} {Q Q' : α → Shared → Prop} {M : Model} {A : Around} {E : Value → Shared → Prop} {s : Shared} (h : wpAny M A t Q E s) (hQ : ∀ a s, Q a s → Q' a s) : wpAny M A t Q' E s := wpAny_mono h hQ fun _ _ x => x
end L2

namespace L2
open PySem PySem.Spec PyProof.Rows
section
variable {X : Cx}

/-- two expressions in a row -/
theorem bin {a b : Expr} {ta tb : TE} (ha : PE X a ta) (hb : PE X b tb) {pins : List (Addr × Obj)} {s : Shared} {σ : St} {H : Hp} {R : V → V → Hp → Prop} (I : Inv X pins σ H s) (h : ta σ H fun x H1 => tb σ H1 fun y H2 => R x y H2)
    {α : Type} {Q : α → Shared → Prop} {f : Value → Value → Sem α}
    (hf : ∀ v u s2 x y H2, Inv X pins σ H2 s2 → RelV x v → RelV y u → R x y H2 → wpAny (model X.prog X.w) X.A (f v u) Q X.xe s2) :
    wpAny (model X.prog X.w) X.A (eval a X.env) (fun v s₁ => wpAny (model X.prog X.w) X.A (eval b X.env) (fun u s₂ => wpAny (model X.prog X.w) X.A (f v u) Q X.xe s₂) X.xe s₁) X.xe s := by
  refine thn (ha pins s σ H _ I h) fun v s1 ⟨x, H1, I1, r1, q1⟩ => ?_
  refine thn (hb pins s1 σ H1 _ I1 q1) fun u s2 ⟨y, H2, I2, r2, q2⟩ => ?_
  exact hf v u s2 x y H2 I2 r1 r2 q2

/-! ### names and constants -/
def tVar (i : Nat) : TE := fun σ H Q => ∃ v, σ[i]? = some (some v) ∧ Q v H
def tC (v : V) : TE := fun _ H Q => Q v H
theorem pe_var {i : Nat} {x : Str} {pos : Pos} (hN : X.N[i]? = some x) (hv : Vis X.env.scope x) (hd : (x == ("__debug__" : Str)) = false := by decide) (hcd : (x == ("__classdict__" : Str)) = false := by decide) : PE X (.Name x pos) (tVar i) := by
  intro pins s σ H Q I h
  obtain ⟨v, e, h⟩ := h
  obtain ⟨m, hn, hl⟩ := I.loc
  obtain ⟨u, r, l⟩ := hl i x v hN e hv
  have fin : EP X pins σ Q u s := ⟨v, H, I, r, h⟩
  rcases l with ⟨hk, hm⟩ | ⟨hk, c, hc, hcell⟩
  · exact wpAny_Name (wpAny_loadName_local I.ok.kind hk hn hm fin) hd
  · rcases hk with hk | hk
    · exact wpAny_Name (wpAny_loadName_cell I.ok.kind hk hc hcell fin) hd
    · exact wpAny_Name (wpAny_loadName_free I.ok.kind hk hc hcell fin hcd) hd
theorem pe_int {i j pos} : PE X (.Constant (.int i) j pos) (tC (.int i)) := fun _ _ _ H _ I h => wpAny_Constant_int ⟨.int i, H, I.tok _, ⟨_, rfl⟩, h⟩
theorem pe_bl {b j pos} : PE X (.Constant (.bool b) j pos) (tC (.bl b)) := fun _ _ _ H _ I h => Constant_bool ⟨.bl b, H, I, rfl, h⟩
theorem pe_non {j pos} : PE X (.Constant .none j pos) (tC .non) := fun _ _ _ H _ I h => Constant_none ⟨.non, H, I, rfl, h⟩
theorem pe_str {x j pos} : PE X (.Constant (.str x) j pos) (tC (.str x)) := fun _ _ _ H _ I h => Calls.Constant_str ⟨.str x, H, I.tok _, ⟨_, rfl⟩, h⟩

/-- a global name of the def -/
def Gl (X : Cx) (x : Str) : Prop := X.env.kindOf x = some .globalImplicit
theorem ld_glob {E : Value → Shared → Prop} {pins : List (Addr × Obj)} {s : Shared} {σ : St} {H : Hp} {x : Str} {u : Value} {pos : Pos} {Q : Value → Shared → Prop} (I : Inv X pins σ H s) (hg : Gl X x) (hm : X.mg x = some u) (h : Q u s)
    (hd : (x == ("__debug__" : Str)) = false := by decide) : wpAny (model X.prog X.w) X.A (eval (.Name x pos) X.env) Q E s :=
  Calls.Name_function_global I.ok.kind hg (Calls.loadGlobal_global (by rw [I.ok.glob]; exact I.mod.glob.keeps I.bk) hm h) hd
theorem ld_blt {E : Value → Shared → Prop} {pins : List (Addr × Obj)} {s : Shared} {σ : St} {H : Hp} {x : Str} {u : Value} {pos : Pos} {Q : Value → Shared → Prop} (I : Inv X pins σ H s) (hg : Gl X x) (hm : X.mg x = none) (hv : bootBuiltins x = some u) (h : Q u s)
    (hn : x ≠ "__name__" := by decide) (hd : (x == ("__debug__" : Str)) = false := by decide) : wpAny (model X.prog X.w) X.A (eval (.Name x pos) X.env) Q E s := by
  obtain ⟨mb, h1, h2⟩ := I.mod.blt
  exact Calls.Name_function_global I.ok.kind hg (Calls.loadGlobal_builtin (by rw [I.ok.glob]; exact I.mod.glob.keeps I.bk) hm (by rw [I.ok.blt]; exact h1.keeps I.bk) ((h2 x hn).trans hv) h) hd
/-! ### arithmetic -/
variable {a b : Expr} {ta tb : TE} {pos : Pos}
/-! ### comparisons -/
def PC (X : Cx) (op : CmpOp) (a b : Expr) (t : TE) : Prop :=
  ∀ (pins : List (Addr × Obj)) (s : Shared) (σ : St) (H : Hp) (Q : VK), Inv X pins σ H s → t σ H Q →
    wpAny (model X.prog X.w) X.A (eval a X.env) (fun v s₁ => wpAny (model X.prog X.w) X.A (eval b X.env) (fun u s₂ => wpAny (model X.prog X.w) X.A (compareOp op v u) (EP X pins σ Q) X.xe s₂) X.xe s₁) X.xe s
/-- a comparison as a value, as a test -/
def tB (t : TE) : TT := fun σ H Q => t σ H fun x H1 => ∃ c, x = .bl c ∧ Q c H1
theorem pt_cmp {op : CmpOp} {t : TE} (h : PC X op a b t) (h1 : behindInMarks op b = false := by first | exact nobehind _ (by decide) (by decide) | rfl) : PT X (.Compare a [op] [b] pos) (tB t) := by
  intro pins s σ H Q I hw
  refine wpAny_isTrue_Compare1 (thn (h pins s σ H _ I hw) fun v s1 h1 => thn h1 fun u s2 h2 => thn h2 fun c s3 ⟨x, H1, I1, r1, q1⟩ => ?_) h1
  obtain ⟨d, rfl, q⟩ := q1
  cases r1
  exact wpAny_truthy_bool ⟨H1, I1, q⟩
/-- an expression whose value is a bool, as a test -/
theorem pt_val {e : Expr} {t : TE} (h : PE X e t) (he : ∀ whole, isTrue e X.env whole = (do let v ← whole; standAt e.pos; holding [v] (truthy v)) := by intro _; rfl) : PT X e (tB t) := by
  intro pins s σ H Q I hw
  refine isTrue_plain (thn (h pins s σ H _ I hw) fun v s1 ⟨x, H1, I1, r1, q1⟩ => ?_) (he _)
  obtain ⟨d, rfl, q⟩ := q1
  cases r1
  exact wpAny_truthy_bool ⟨H1, I1, q⟩

/-! ### and, or, not -/
variable {tA tB' : TT} {rest : List Expr}
def tAnd (t u : TT) : TT := fun σ H Q => t σ H fun c H1 => if c = true then u σ H1 Q else Q false H1
def tOr (t u : TT) : TT := fun σ H Q => t σ H fun c H1 => if c = true then Q true H1 else u σ H1 Q
def tNot (t : TT) : TT := fun σ H Q => t σ H fun c H1 => Q (!c) H1
theorem pw_and1 (ha : PT X a tA) : PW X (.BoolOp .And [a] pos) tA := by
  intro wh pins s σ H Q I h
  refine isTrue_and (thn (ha pins s σ H Q I h) fun c s1 e => ?_)
  cases c with
  | true => exact isTrue_and_nil e
  | false => exact e
theorem pw_or1 (ha : PT X a tA) : PW X (.BoolOp .Or [a] pos) tA := by
  intro wh pins s σ H Q I h
  refine isTrue_or (thn (ha pins s σ H Q I h) fun c s1 e => ?_)
  cases c with
  | false => exact isTrue_or_nil e
  | true => exact e
theorem pw_and (ha : PT X a tA) (hb : PW X (.BoolOp .And (b :: rest) pos) tB') : PW X (.BoolOp .And (a :: b :: rest) pos) (tAnd tA tB') := by
  intro wh pins s σ H Q I h
  refine isTrue_and (thn (ha pins s σ H _ I h) fun c s1 ⟨H1, I1, q1⟩ => ?_)
  cases c with
  | true => exact hb wh pins s1 σ H1 Q I1 q1
  | false => exact ⟨H1, I1, q1⟩
theorem pw_or (ha : PT X a tA) (hb : PW X (.BoolOp .Or (b :: rest) pos) tB') : PW X (.BoolOp .Or (a :: b :: rest) pos) (tOr tA tB') := by
  intro wh pins s σ H Q I h
  refine isTrue_or (thn (ha pins s σ H _ I h) fun c s1 ⟨H1, I1, q1⟩ => ?_)
  cases c with
  | true => exact ⟨H1, I1, q1⟩
  | false => exact hb wh pins s1 σ H1 Q I1 q1
theorem pt_not (ha : PT X a tA) : PT X (.UnaryOp .Not a pos) (tNot tA) := by
  intro pins s σ H Q I h
  exact isTrue_not (ha pins s σ H (fun c H1 => Q (!c) H1) I h)
/-- .. as values (bools) -/
def tAndV (ta tb : TE) : TE := fun σ H Q => ta σ H fun x H1 => ∃ c, x = .bl c ∧ if c = true then tb σ H1 Q else Q (.bl false) H1
theorem pe_one {op} {t : TE} (h : PE X a t) : PE X (.BoolOp op [a] pos) t := fun pins s σ H Q I hw => BoolOp_one (h pins s σ H Q I hw)
theorem pe_and (ha : PE X a ta) (hb : PE X (.BoolOp .And (b :: rest) pos) tb) : PE X (.BoolOp .And (a :: b :: rest) pos) (tAndV ta tb) := by
  intro pins s σ H Q I h
  refine BoolOp_and (thn (ha pins s σ H _ I h) fun v s1 ⟨x, H1, I1, r1, q1⟩ => ?_)
  obtain ⟨c, rfl, q1⟩ := q1
  cases r1
  refine wpAny_truthy_bool ?_
  cases c with
  | true => exact hb pins s1 σ H1 Q I1 q1
  | false => exact ⟨.bl false, H1, I1, rfl, q1⟩
end
end L2

namespace L2
open PySem PySem.Spec PyProof.Rows

/-! ### a list, a tuple that is read: tracked, frozen, or an object of the module -/
def SqL (K : PySem.W.Frag) (H : Hp) (a : Addr) (xs : List V) : Prop :=
  Rd H a (.lst xs) ∨
    ∃ (o : Obj) (its : Array Value) (n : Nat), K.lookup a = some o ∧ o.cls = .type "list" ∧ o.dict = none ∧ o.data = .seq its n ∧ its.size ≤ sizeLine ∧ Vals xs its.toList
def SqT (K : PySem.W.Frag) (H : Hp) (a : Addr) (xs : List V) : Prop :=
  Rd H a (.tup xs) ∨
    ∃ (o : Obj) (its : Array Value) (n : Nat), K.lookup a = some o ∧ o.cls = .type "tuple" ∧ o.data = .seq its n ∧ its.size ≤ sizeLine ∧ Vals xs its.toList
def absV : Value → Option V
  | .none => some .non
  | .bool b => some (.bl b)
  | .int i _ => some (.int i)
  | .str x _ => some (.str x)
  | .bytes b _ => some (.byt b)
  | .float b _ => some (.flt b)
  | .ref a => some (.ref a)
  | .type n => some (.ty n)
  | _ => none
theorem RelV.abs {x : V} {u : Value} (r : RelV x u) : absV u = some x := by
  cases x with
  | non => cases r; rfl
  | bl _ => cases r; rfl
  | int _ => obtain ⟨t, rfl⟩ := r; rfl
  | str _ => obtain ⟨t, rfl⟩ := r; rfl
  | byt _ => obtain ⟨t, rfl⟩ := r; rfl
  | flt _ => obtain ⟨t, rfl⟩ := r; rfl
  | ref _ => cases r; rfl
  | ty _ => cases r; rfl
theorem RelV.inj {x y : V} {u : Value} (r : RelV x u) (q : RelV y u) : x = y := Option.some.inj (r.abs.symm.trans q.abs)
theorem Vals.inj : ∀ {xs ys : List V} {us : List Value}, Vals xs us → Vals ys us → xs = ys
  | _, _, _, .nil, .nil => rfl
  | _, _, _, .cons r t, .cons r' t' => by rw [r.inj r', Vals.inj t t']
section
variable {X : Cx} {pins : List (Addr × Obj)} {σ : St} {H : Hp} {s : Shared} {a : Addr} {xs ys : List V}
theorem SqL.of {K : PySem.W.Frag} (h : H a = some (.lst xs)) : SqL K H a xs := .inl (.inl h)
theorem SqT.of {K : PySem.W.Frag} (h : H a = some (.tup xs)) : SqT K H a xs := .inl (.inl h)
theorem Inv.list (I : Inv X pins σ H s) (h : SqL X.K H a xs) : ∃ its : List Value, Vals xs its ∧ PlainL s.heap a its.toArray ∧ xs.length ≤ sizeLine := by
  rcases h with h | ⟨o, its, n, hk, hc, hd, hs, hz, r⟩
  · obtain ⟨z, its, n, r, e⟩ := h.ok I.hok
    exact ⟨its, r, ⟨_, n, e, rfl, rfl, rfl⟩, z⟩
  · refine ⟨its.toList, r, ⟨o, n, I.kIn a o hk, hc, hd, by simpa using hs⟩, ?_⟩
    have e := r.length
    simp only [Array.length_toList] at e
    omega
theorem Inv.tuple (I : Inv X pins σ H s) (h : SqT X.K H a xs) : ∃ its : List Value, Vals xs its ∧ IsTup s.heap a its.toArray ∧ xs.length ≤ sizeLine := by
  rcases h with h | ⟨o, its, n, hk, hc, hs, hz, r⟩
  · obtain ⟨z, its, r, p⟩ := h.ok I.hok
    exact ⟨its, r, p, z⟩
  · refine ⟨its.toList, r, ⟨o, I.kIn a o hk, hc, n, by simpa using hs⟩, ?_⟩
    have e := r.length
    simp only [Array.length_toList] at e
    omega
theorem Inv.list_inj (I : Inv X pins σ H s) (h : SqL X.K H a xs) (h' : SqL X.K H a ys) : xs = ys := by
  obtain ⟨its, r, ⟨o, n, e, _, _, d⟩, _⟩ := I.list h
  obtain ⟨its', r', ⟨o', n', e', _, _, d'⟩, _⟩ := I.list h'
  rw [e] at e'; cases e'
  rw [d] at d'
  injection d' with d1 _
  have : its = its' := by simpa using congrArg Array.toList d1
  subst this
  exact r.inj r'
theorem Inv.tuple_inj (I : Inv X pins σ H s) (h : SqT X.K H a xs) (h' : SqT X.K H a ys) : xs = ys := by
  obtain ⟨its, r, ⟨o, e, _, n, d⟩, _⟩ := I.tuple h
  obtain ⟨its', r', ⟨o', e', _, n', d'⟩, _⟩ := I.tuple h'
  rw [e] at e'; cases e'
  rw [d] at d'
  injection d' with d1 _
  have : its = its' := by simpa using congrArg Array.toList d1
  subst this
  exact r.inj r'
end

/-! ### another wish about exceptions -/
abbrev Cx.wish (X : Cx) (E : Value → Shared → Prop) : Cx := { X with xe := E }
/-- no exception leaves -/
abbrev Cx.nox (X : Cx) : Cx := X.wish fun _ _ => False
theorem Cx.Ok.wish {X : Cx} (ok : X.Ok) (E : Value → Shared → Prop) : (X.wish E).Ok :=
  ⟨ok.mod, ok.kind, ok.glob, ok.blt, ok.above, ok.inj, ok.has, ok.cab, ok.hd, ok.frames, ok.stk, ok.exf, ok.bs, ok.bsz, ok.noex, ok.exfs, ok.funs, ok.frf⟩
theorem Cx.Ok.unwish {X : Cx} {E : Value → Shared → Prop} (ok : (X.wish E).Ok) : X.Ok :=
  ⟨ok.mod, ok.kind, ok.glob, ok.blt, ok.above, ok.inj, ok.has, ok.cab, ok.hd, ok.frames, ok.stk, ok.exf, ok.bs, ok.bsz, ok.noex, ok.exfs, ok.funs, ok.frf⟩
section
variable {X : Cx} {pins : List (Addr × Obj)} {σ : St} {H : Hp} {s : Shared} {E : Value → Shared → Prop}
theorem Inv.wish (I : Inv X pins σ H s) (E : Value → Shared → Prop) : Inv (X.wish E) pins σ H s := ⟨I.ok.wish E, I.os, I.bare, I.base, I.loc, I.cell, I.free, I.freeC, I.pin, I.hok, I.len⟩
theorem Inv.unwish (I : Inv (X.wish E) pins σ H s) : Inv X pins σ H s := ⟨I.ok.unwish, I.os, I.bare, I.base, I.loc, I.cell, I.free, I.freeC, I.pin, I.hok, I.len⟩
theorem SP.unwish {D : Ends} {f : Flow} {s' : Shared} (h : SP (X.wish E) pins D f s') : SP X pins D f s' := by
  cases f with
  | next => obtain ⟨σ', H', I, q⟩ := h; exact ⟨σ', H', I.unwish, q⟩
  | brk => obtain ⟨σ', H', I, q⟩ := h; exact ⟨σ', H', I.unwish, q⟩
  | cont => obtain ⟨σ', H', I, q⟩ := h; exact ⟨σ', H', I.unwish, q⟩
  | ret u => obtain ⟨v, σ', H', I, r, q⟩ := h; exact ⟨v, σ', H', I.unwish, r, q⟩
theorem PSs.nox {st : List Stmt} {t : TS} (h : PSs X.nox st t) : PSs X st t := fun pins s σ H D I hw =>
  wpAny_mono (h pins s σ H D (I.wish _) hw) (fun _ _ q => q.unwish) fun _ _ z => False.elim z
end

/-! ### blocks and small statements -/
section
variable {X : Cx} {st : Stmt} {rest : List Stmt} {t u : TS} {e : Expr} {te : TE} {pos : Pos}
def tNext : TS := fun D σ H => D.nx σ H
def tSeq (t u : TS) : TS := fun D σ H => t { D with nx := u D } σ H
theorem pss_nil : PSs X [] tNext := fun _ _ σ H _ I h => wpAny_execs_nil ⟨σ, H, I, h⟩
theorem pss_cons (h1 : PS X st t) (h2 : PSs X rest u) : PSs X (st :: rest) (tSeq t u) := by
  intro pins s σ H D I h
  refine wpAny_execs_cons (thn (h1 pins s σ H { D with nx := u D } I h) fun f s1 q => ?_)
  cases f with
  | next =>
    obtain ⟨σ', H', I', q⟩ := q
    exact h2 pins s1 σ' H' D I' q
  | ret v => exact q
  | brk => exact q
  | cont => exact q
theorem pss_one (h1 : PS X st t) : PSs X [st] t := by
  intro pins s σ H D I h
  refine wpAny_execs_cons (thn (h1 pins s σ H D I h) fun f s1 q => ?_)
  cases f with
  | next => exact wpAny_execs_nil q
  | ret v => exact q
  | brk => exact q
  | cont => exact q
/-- in a def's body nothing is shown -/
theorem Inv.quiet {pins : List (Addr × Obj)} {σ : St} {H : Hp} {s : Shared} (I : Inv X pins σ H s) : interactive X.env = false := by simp [interactive, I.ok.kind]
/-- an expression whose value is dropped -/
def tDrop (te : TE) : TS := fun D σ H => te σ H fun _ H1 => D.nx σ H1
theorem ps_expr (he : PE X e te) (hs : swapsWith e none pos.line X.env = pure false := by rfl) : PS X (.Expr e pos) (tDrop te) := by
  intro pins s σ H D I h
  exact wpAny_Expr_any (thn (he pins s σ H _ I h) fun v s1 ⟨x, H1, I1, r1, q1⟩ => ⟨σ, H1, I1, q1⟩) I.quiet hs
def tRet (te : TE) : TS := fun D σ H => te σ H D.rt
theorem ps_ret (he : PE X e te) : PS X (.Return (some e) pos) (tRet te) := by
  intro pins s σ H D I h
  exact wpAny_Return_some (thn (he pins s σ H _ I h) fun v s1 ⟨x, H1, I1, r1, q1⟩ => ⟨x, σ, H1, I1, r1, q1⟩)
def tIfS (c : TT) (t u : TS) : TS := fun D σ H => c σ H fun b H1 => if b = true then t D σ H1 else u D σ H1
theorem ps_if {c : Expr} {a b : List Stmt} {tc : TT} (hc : PT X c tc) (ha : PSs X a t) (hb : PSs X b u) : PS X (.If c a b pos) (tIfS tc t u) := by
  intro pins s σ H D I h
  refine wpAny_If (thn (hc pins s σ H _ I h) fun d s1 ⟨H1, I1, q1⟩ => ?_)
  cases d with
  | true => exact ha pins s1 σ H1 D I1 q1
  | false => exact hb pins s1 σ H1 D I1 q1
/-- code that the proof never comes to -/
def tNever : TS := fun _ _ _ => False
theorem pss_never {sts : List Stmt} : PSs X sts tNever := fun _ _ _ _ _ _ h => h.elim
end

/-! ### targets -/
abbrev TG := V → St → Hp → (St → Hp → Prop) → Prop
abbrev TGs := List V → St → Hp → (St → Hp → Prop) → Prop
def PG (X : Cx) (target : Expr) (t : TG) : Prop :=
  ∀ (pins : List (Addr × Obj)) (s : Shared) (σ : St) (H : Hp) (v : V) (u : Value) (Q : St → Hp → Prop), Inv X pins σ H s → RelV v u → t v σ H Q →
    wpAny (model X.prog X.w) X.A (assign target X.env u) (fun _ s' => ∃ σ' H', Inv X pins σ' H' s' ∧ Q σ' H') X.xe s
/-- several targets, one after another -/
def PGs (X : Cx) (ts : List Expr) (t : TGs) : Prop :=
  ∀ (pins : List (Addr × Obj)) (s : Shared) (σ : St) (H : Hp) (vs : List V) (us : List Value) (Q : St → Hp → Prop), Inv X pins σ H s → Vals vs us → t vs σ H Q →
    wpAny (model X.prog X.w) X.A (assignInOrder ((assignEach ts X.env).map (·.2)) us) (fun _ s' => ∃ σ' H', Inv X pins σ' H' s' ∧ Q σ' H') X.xe s
section
variable {X : Cx} {pos : Pos}
def gName (i : Nat) : TG := fun v σ H Q => Q (σ.set i (some v)) H
theorem pg_name {i : Nat} {x : Str} (hN : X.N.Nodup) (hi : X.N[i]? = some x) (hx : Loc X.env.scope x) (hf : X.fn x = true ∨ X.env.scope.names.lookup x = some .local := by first | exact .inl rfl | exact .inr rfl | assumption) : PG X (.Name x pos) (gName i) := by
  intro pins s σ H v u Q I r h
  exact wpAny_assign_Name (store_ok I hN hi hx r (fun s' I' => ⟨_, H, I', h⟩) hf)
def gNil : TGs := fun vs σ H Q => vs = [] ∧ Q σ H
def gCons (t : TG) (u : TGs) : TGs := fun vs σ H Q => ∃ v r, vs = v :: r ∧ t v σ H fun σ' H' => u r σ' H' Q
theorem pgs_nil : PGs X [] gNil := by
  intro pins s σ H vs us Q I r h
  obtain ⟨e, h⟩ := h
  subst e
  cases r
  exact assignInOrder_nil ⟨σ, H, I, h⟩
theorem pgs_cons {e : Expr} {es : List Expr} {t : TG} {u : TGs} (h1 : PG X e t) (h2 : PGs X es u)
    (hs : (assignEach (e :: es) X.env).map (·.2) = assign e X.env :: (assignEach es X.env).map (·.2) := by rfl) : PGs X (e :: es) (gCons t u) := by
  intro pins s σ H vs us Q I r h
  obtain ⟨v, vr, e1, h⟩ := h
  subst e1
  cases r with
  | cons r rr =>
    rw [hs]
    refine assignInOrder_cons (thn (h1 pins s σ H _ _ _ I r h) fun _ s1 ⟨σ1, H1, I1, q1⟩ => ?_)
    exact h2 pins s1 σ1 H1 _ _ Q I1 rr q1
/-- (a, b, ..) = a tuple of that length -/
def gTup (K : PySem.W.Frag) (n : Nat) (t : TGs) : TG := fun v σ H Q => ∃ a xs, v = .ref a ∧ SqT K H a xs ∧ xs.length = n ∧ t xs σ H Q
theorem pg_tup {es : List Expr} {k : Nat} {t : TGs} {n : Nat} (hc : X.calm = true) (h : PGs X es t)
    (hn : (assignEach es X.env).length = n := by rfl) (hst : (assignEach es X.env).findIdx? (·.1) = none := by rfl) : PG X (.Tuple es k pos) (gTup X.K n t) := by
  intro pins s σ H v u Q I r hw
  obtain ⟨a, xs, e1, hq, hl, hw⟩ := hw
  subst e1
  cases r
  obtain ⟨its, rv, ht, hz⟩ := I.tuple hq
  refine assign_Tuple_tuple (I.ok.hd hc) ht (by simp [hn, ← hl, rv.length]) hst fun h' hx => ?_
  have I1 : Inv X pins σ H { s with heap := h' } := I.kept (t' := s.toks) fun b o e => hx b o (Nat.ne_of_lt (Heap.lt_size e)) e
  exact h pins _ σ H xs _ Q I1 (by simpa using rv) hw
/-- target = value -/
def tAsg (te : TE) (g : TG) : TS := fun D σ H => te σ H fun x H1 => g x σ H1 D.nx
/-- name = value -/
theorem ps_set {i : Nat} {x : Str} {e : Expr} {te : TE} {pos' : Pos} (hN : X.N.Nodup) (hi : X.N[i]? = some x) (hx : Loc X.env.scope x) (he : PE X e te) (hs : swapsWith e (some (.Name x pos')) pos.line X.env = pure false := by rfl) (hf : X.fn x = true ∨ X.env.scope.names.lookup x = some .local := by first | exact .inl rfl | exact .inr rfl | assumption) :
    PS X (.Assign [.Name x pos'] e pos) (tAsg te (gName i)) := by
  intro pins s σ H D I h
  refine wpAny_Assign_Name (thn (he pins s σ H _ I h) fun v s1 ⟨y, H1, I1, r1, q1⟩ => ?_) hs
  exact store_ok I1 hN hi hx r1 (fun s2 I2 => ⟨_, H1, I2, q1⟩) hf
end

/-! ### while -/
section
variable {X : Cx} {pos : Pos}
end

/-! ### what a loop or a comprehension walks -/
/-- at turn i: it yields x (the heap may grow), or it stops -/
structure It where
  go : Nat → Hp → Prop
  yld : Nat → Hp → V → Hp → Prop
  stop : Nat → Hp → Prop
/-- the iterator's own objects may turn: they are not the frame's, not pinned, younger than the entry (or a comprehension's own) -/
def FpOk (X : Cx) (pins : List (Addr × Obj)) (H : Hp) (b : Addr) : Prop :=
  H b = none ∧ b ≠ X.env.locals ∧ b ∉ X.fs ∧ (b ∈ X.ex ∨ X.s₀.heap.objs.size ≤ b) ∧ (∀ x c, X.env.cells.lookup x = some c → c ≠ b) ∧ ∀ p ∈ X.pn ++ pins, p.1 ≠ b
theorem Inv.fpOk {X : Cx} {pins : List (Addr × Obj)} {σ : St} {H H' : Hp} {s : Shared} {b : Addr} (I : Inv X pins σ H s) (hb : s.heap.objs.size ≤ b) (hn : H' b = none) : FpOk X pins H' b := by
  refine ⟨hn, Nat.ne_of_gt (Nat.lt_of_lt_of_le I.lt hb), I.nofs hb, .inr (Nat.le_trans I.sz hb), fun x c e z => ?_, fun p hp z => ?_⟩
  · obtain ⟨v, q⟩ := I.cell x c e
    exact absurd (Nat.lt_of_lt_of_le q.lt (by rw [z]; exact hb)) (Nat.lt_irrefl _)
  · exact absurd (Nat.lt_of_lt_of_le (Heap.lt_size (I.pin p hp).1) (by rw [z]; exact hb)) (Nat.lt_irrefl _)
structure Turn (P : Program) (w : World) (K : PySem.W.Frag) (tg : Expr) (J : It) (fp : List Addr) (it : Addr) (tn : Nat → Heap → Prop) : Prop where
  mem : it ∈ fp
  obj : ∀ i h, tn i h → ∀ b ∈ fp, ∃ o, h.get? b = some o ∧ ∀ v, o.data ≠ .cell v
  keep : ∀ i h h', tn i h → (∀ b ∈ fp, ∀ o, h.get? b = some o → h'.get? b = some o) → tn i h'
  item : ∀ (X : Cx), X.prog = P → X.w = w → X.K = K → X.calm = true → ∀ (i : Nat) (pins : List (Addr × Obj)) (s : Shared) (σ : St) (H : Hp) (E : Value → Shared → Prop), Inv X pins σ H s → (∀ b ∈ fp, FpOk X pins H b) → tn i s.heap → J.go i H →
    wpAny (model P w) X.A (pyNext (.ref it)) (fun r s1 => ∃ u, r = some u ∧
      wpAny (model P w) X.A (letOwnedTupleGo tg (.ref it) u) (fun _ s2 => ∃ x H', Inv X pins σ H' s2 ∧ RelV x u ∧ J.yld i H x H' ∧ tn (i + 1) s2.heap ∧ ∀ b ∈ fp, H' b = none) E s1) E s
  done : ∀ (X : Cx), X.prog = P → X.w = w → X.K = K → X.calm = true → ∀ (i : Nat) (pins : List (Addr × Obj)) (s : Shared) (σ : St) (H : Hp) (E : Value → Shared → Prop), Inv X pins σ H s → (∀ b ∈ fp, FpOk X pins H b) → tn i s.heap → J.stop i H →
    wpAny (model P w) X.A (pyNext (.ref it)) (fun r s1 => r = none ∧ Inv X pins σ H s1) E s
  self : ∀ (A : Around) (i : Nat) (s : Shared) (Q : Value → Shared → Prop) (E : Value → Shared → Prop), tn i s.heap → Q (.ref it) s → wpAny (model P w) A (pyIter (.ref it)) Q E s
abbrev TI := St → Hp → (It → Hp → Prop) → Prop
/-- an iterator has come -/
def PIE (X : Cx) (pins : List (Addr × Obj)) (σ : St) (tg : Expr) (R : It → Hp → Prop) (itv : Value) (s2 : Shared) : Prop :=
  ∃ (it : Addr) (fp : List Addr) (tn : Nat → Heap → Prop) (J : It) (H' : Hp), itv = .ref it ∧ Inv X pins σ H' s2 ∧ Turn X.prog X.w X.K tg J fp it tn ∧ tn 0 s2.heap ∧ (∀ b ∈ fp, FpOk X pins H' b) ∧ R J H'
def PI (X : Cx) (tg iter : Expr) (wi : TI) : Prop :=
  ∀ (pins : List (Addr × Obj)) (s : Shared) (σ : St) (H : Hp) (R : It → Hp → Prop), Inv X pins σ H s → wi σ H R →
    wpAny (model X.prog X.w) X.A (eval iter X.env) (fun v s1 => wpAny (model X.prog X.w) X.A (pyIter v) (PIE X pins σ tg R) X.xe s1) X.xe s

/-- the step ahead of the store is nothing for an iterator that keeps no tuple -/
theorem go_of {M : Model} {A : Around} {E : Value → Shared → Prop} {s : Shared} {tg : Expr} {it : Addr} {u : Value} {o : Obj} {n : String} {vs : Array Value} {Q : Unit → Shared → Prop} (ho : s.heap.get? it = some o) (hc : o.cls = .type n) (hd : o.data = .fields vs)
    (hn : ["enumerate", "zip", "dict_itemiterator", "dict_reverseitemiterator", "odict_iterator", "itertools.zip_longest", "itertools.pairwise"].contains n = false) (hQ : Q () s) : wpAny M A (letOwnedTupleGo tg (.ref it) u) Q E s := by
  unfold letOwnedTupleGo
  cases tg <;> first
    | exact wpAny_pure hQ
    | (cases u <;> first
        | exact wpAny_pure hQ
        | (refine wpAny_bind (wpAny_load ho ?_)
           rw [hc, hd]
           show wpAny M A (if (["enumerate", "zip", "dict_itemiterator", "dict_reverseitemiterator", "odict_iterator", "itertools.zip_longest", "itertools.pairwise"].contains n && vs[0]? == some (rawInt _)) = true then _ else _) Q E s
           rw [if_neg (by intro h; rw [hn, Bool.false_and] at h; cases h)]
           exact wpAny_pure hQ))

/-- the list at a, as it stands at each turn (a loop may append to it) -/
def Itl (K : PySem.W.Frag) (a : Addr) : It :=
  ⟨fun i H => ∃ xs x, SqL K H a xs ∧ xs[i]? = some x, fun i H x H' => H' = H ∧ ∀ xs, SqL K H a xs → xs[i]? = some x, fun i H => ∃ xs, SqL K H a xs ∧ xs.length ≤ i⟩
def Itt (K : PySem.W.Frag) (a : Addr) : It :=
  ⟨fun i H => ∃ xs x, SqT K H a xs ∧ xs[i]? = some x, fun i H x H' => H' = H ∧ ∀ xs, SqT K H a xs → xs[i]? = some x, fun i H => ∃ xs, SqT K H a xs ∧ xs.length ≤ i⟩
/-- lo, lo + 1, .. (n of them) -/
def Itr (lo : Int) (n : Nat) : It := ⟨fun i _ => i < n, fun i H x H' => H' = H ∧ x = .int (lo + i), fun i _ => n ≤ i⟩
theorem turn_list {P : Program} {w : World} {K : PySem.W.Frag} {tg : Expr} (a it : Addr) : Turn P w K tg (Itl K a) [it] it (fun i h => h.IsListIter it a i) where
  mem := by simp
  obj := fun i h st b hb => by
    have e : b = it := by simpa using hb
    subst e
    obtain ⟨o, e, c, d⟩ := st
    exact ⟨o, e, fun v z => by rw [d] at z; cases z⟩
  keep := fun i h h' st k => st.at fun o e => k it (by simp) o e
  item := by
    intro X hP hw hK hc i pins s σ H E I hf st hg
    subst hP hw hK
    obtain ⟨xs, x, hq, hx⟩ := hg
    obtain ⟨its, rv, p, hz⟩ := I.list hq
    obtain ⟨u, hu, ru⟩ := rv.get hx
    obtain ⟨f0, f1, f2, f3, f4, f5⟩ := hf it (by simp)
    refine wpAny_pyNext_list_item st p.isList (x := u) (by simpa using hu) fun h' st' sb => ?_
    have I1 : Inv X pins σ H { s with heap := h' } := I.turned (t' := s.toks) (fun b o hb e => (sb.2 b hb).trans e) f0 f1 f3 f4 f5
    obtain ⟨o, e, c, d⟩ := id st'
    exact ⟨u, rfl, go_of (s := { s with heap := h' }) e c d (by decide) ⟨x, H, I1, ru, ⟨rfl, fun ys hy => by rw [I.list_inj hy hq]; exact hx⟩, st', fun b hb => (hf b hb).1⟩⟩
  done := by
    intro X hP hw hK hc i pins s σ H E I hf st hg
    subst hP hw hK
    obtain ⟨xs, hq, hx⟩ := hg
    obtain ⟨its, rv, p, hz⟩ := I.list hq
    obtain ⟨f0, f1, f2, f3, f4, f5⟩ := hf it (by simp)
    have hl := rv.length
    exact wpAny_pyNext_list_end (I.ok.hd hc) st p.isList (by simp; omega) fun h' eb => ⟨rfl, I.turned (t' := s.toks) (fun b o hb e => eb b o hb e) f0 f1 f3 f4 f5⟩
  self := fun _ _ _ _ _ st h => wpAny_pyIter_listiter st h
theorem turn_tuple {P : Program} {w : World} {K : PySem.W.Frag} {tg : Expr} (a it : Addr) : Turn P w K tg (Itt K a) [it] it (fun i h => h.IsTupleIter it a i) where
  mem := by simp
  obj := fun i h st b hb => by
    have e : b = it := by simpa using hb
    subst e
    obtain ⟨o, e, c, d⟩ := st
    exact ⟨o, e, fun v z => by rw [d] at z; cases z⟩
  keep := fun i h h' st k => st.at fun o e => k it (by simp) o e
  item := by
    intro X hP hw hK hc i pins s σ H E I hf st hg
    subst hP hw hK
    obtain ⟨xs, x, hq, hx⟩ := hg
    obtain ⟨its, rv, p, hz⟩ := I.tuple hq
    obtain ⟨u, hu, ru⟩ := rv.get hx
    obtain ⟨f0, f1, f2, f3, f4, f5⟩ := hf it (by simp)
    refine wpAny_pyNext_tuple_item st (show s.heap.IsTuple a its.toArray from p) (x := u) (by simpa using hu) fun h' st' sb => ?_
    have I1 : Inv X pins σ H { s with heap := h' } := I.turned (t' := s.toks) (fun b o hb e => (sb.2 b hb).trans e) f0 f1 f3 f4 f5
    obtain ⟨o, e, c, d⟩ := id st'
    exact ⟨u, rfl, go_of (s := { s with heap := h' }) e c d (by decide) ⟨x, H, I1, ru, ⟨rfl, fun ys hy => by rw [I.tuple_inj hy hq]; exact hx⟩, st', fun b hb => (hf b hb).1⟩⟩
  done := by
    intro X hP hw hK hc i pins s σ H E I hf st hg
    subst hP hw hK
    obtain ⟨xs, hq, hx⟩ := hg
    obtain ⟨its, rv, p, hz⟩ := I.tuple hq
    obtain ⟨f0, f1, f2, f3, f4, f5⟩ := hf it (by simp)
    have hl := rv.length
    exact wpAny_pyNext_tuple_end (I.ok.hd hc) st (show s.heap.IsTuple a its.toArray from p) (by simp; omega) fun h' eb => ⟨rfl, I.turned (t' := s.toks) (fun b o hb e => eb b o hb e) f0 f1 f3 f4 f5⟩
  self := fun _ _ _ _ _ st h => wpAny_pyIter_tupleiter st h
theorem turn_range {P : Program} {w : World} {K : PySem.W.Frag} {tg : Expr} (it : Addr) (lo : Int) (n : Nat) : Turn P w K tg (Itr lo n) [it] it (fun i h => IsRangeIter h it (lo + (i : Nat) * 1) ((n : Int) - (i : Nat)) 1) where
  mem := by simp
  obj := fun i h st b hb => by
    have e : b = it := by simpa using hb
    subst e
    exact ⟨_, st, fun v z => by
      have z' : Data.fields _ = Data.cell v := z
      cases z'⟩
  keep := fun i h h' st k => k it (by simp) _ st
  item := by
    intro X hP hw hK hc i pins s σ H E I hf st hg
    subst hP hw hK
    obtain ⟨f0, f1, f2, f3, f4, f5⟩ := hf it (by simp)
    have W := Walks.range (prog := X.prog) (w := X.w) (I.ok.hd hc) it lo 1 n
    refine W.item i s _ _ hg st fun v h' tk hv st' kk => ?_
    obtain ⟨t, rfl⟩ := hv
    have I1 : Inv X pins σ H { s with heap := h', toks := tk } := I.turned (fun b o hb e => kk b o (by simpa using hb) e) f0 f1 f3 f4 f5
    refine ⟨_, rfl, go_of (s := { s with heap := h', toks := tk }) (n := "range_iterator") st' rfl rfl (by decide) ⟨.int (lo + i), H, I1, ⟨t, ?_⟩, ⟨rfl, rfl⟩, st', fun b hb => (hf b hb).1⟩⟩
    rw [Int.mul_one]
  done := by
    intro X hP hw hK hc i pins s σ H E I hf st hg
    subst hP hw hK
    obtain ⟨f0, f1, f2, f3, f4, f5⟩ := hf it (by simp)
    exact wpAny_pyNext_range_end (I.ok.hd hc) st (by have : n ≤ i := hg; omega) fun h' eb => ⟨rfl, I.turned (t' := s.toks) (fun b o hb e => eb b o hb e) f0 f1 f3 f4 f5⟩
  self := fun _ _ _ _ _ st h => wpAny_pyIter_rangeiter st h
end L2

namespace L2
open PySem PySem.Spec PyProof.Rows
section
variable {X : Cx} {tg : Expr}
def iList (K : PySem.W.Frag) (tl : TE) : TI := fun σ H R => tl σ H fun x H1 => ∃ a, x = .ref a ∧ (∃ xs, SqL K H1 a xs) ∧ R (Itl K a) H1
def iTup (K : PySem.W.Frag) (tl : TE) : TI := fun σ H R => tl σ H fun x H1 => ∃ a, x = .ref a ∧ (∃ xs, SqT K H1 a xs) ∧ R (Itt K a) H1
theorem pi_list {l : Expr} {tl : TE} (hl : PE X l tl) : PI X tg l (iList X.K tl) := by
  intro pins s σ H R I h
  refine thn (hl pins s σ H _ I h) fun v s1 ⟨x, H1, I1, r1, q1⟩ => ?_
  obtain ⟨a, e, ⟨xs, hq⟩, q⟩ := q1
  subst e
  cases r1
  obtain ⟨its, rv, p, hz⟩ := I1.list hq
  refine wpAny_pyIter_list p.isList ?_
  refine ⟨s1.heap.objs.size, [s1.heap.objs.size], _, _, H1, rfl, I1.kept (t' := s1.toks) fun b o e => Heap.get?_push_of_some _ e, turn_list a _, ⟨_, Heap.get?_push_size _ rfl, rfl, rfl⟩, fun b hb => ?_, q⟩
  have e : b = s1.heap.objs.size := by simpa using hb
  subst e
  exact I1.fpOk (Nat.le_refl _) (I1.hok.fresh (Nat.le_refl _))
theorem pi_tup {l : Expr} {tl : TE} (hl : PE X l tl) : PI X tg l (iTup X.K tl) := by
  intro pins s σ H R I h
  refine thn (hl pins s σ H _ I h) fun v s1 ⟨x, H1, I1, r1, q1⟩ => ?_
  obtain ⟨a, e, ⟨xs, hq⟩, q⟩ := q1
  subst e
  cases r1
  obtain ⟨its, rv, p, hz⟩ := I1.tuple hq
  refine wpAny_pyIter_tuple (show s1.heap.IsTuple a its.toArray from p) ?_
  refine ⟨s1.heap.objs.size, [s1.heap.objs.size], _, _, H1, rfl, I1.kept (t' := s1.toks) fun b o e => Heap.get?_push_of_some _ e, turn_tuple a _, ⟨_, Heap.get?_push_size _ rfl, rfl, rfl⟩, fun b hb => ?_, q⟩
  have e : b = s1.heap.objs.size := by simpa using hb
  subst e
  exact I1.fpOk (Nat.le_refl _) (I1.hok.fresh (Nat.le_refl _))
/-- a range object just made, walked -/
theorem range_it {pins : List (Addr × Obj)} {σ : St} {H : Hp} {s : Shared} {R : It → Hp → Prop} {E : Value → Shared → Prop} {lo hi : Int} {t u v : Tok} {tk : Nat} (I : Inv X pins σ H s) (h1 : -(2 ^ 62) ≤ lo) (h2 : lo < 2 ^ 62) (h3 : -(2 ^ 62) ≤ hi) (h4 : hi < 2 ^ 62)
    (q : R (Itr lo (hi - lo).toNat) H) : wpAny (model X.prog X.w) X.A (pyIter (.ref s.heap.objs.size)) (PIE X pins σ tg R) E { s with heap := s.heap.push { cls := .type "range", data := .fields #[.int lo t, .int hi u, .int 1 v] }, toks := tk } := by
  refine wpAny_pyIter_range (IsRange.new ..) (small_one h1 h2 h3 h4) ?_
  have I1 : Inv X pins σ H { s with heap := s.heap.push { cls := .type "range", data := .fields #[.int lo t, .int hi u, .int 1 v] }, toks := tk } := I.kept fun b o e => Heap.get?_push_of_some _ e
  refine ⟨(s.heap.push { cls := .type "range", data := .fields #[.int lo t, .int hi u, .int 1 v] }).objs.size, [(s.heap.push { cls := .type "range", data := .fields #[.int lo t, .int hi u, .int 1 v] }).objs.size], _, _, H, rfl,
    I1.kept (t' := tk) fun b o e => Heap.get?_push_of_some _ e, turn_range _ lo (hi - lo).toNat, ?_, fun b hb => ?_, q⟩
  · have e1 : lo + ((0 : Nat) : Int) * 1 = lo := by simp
    have e2 : (((hi - lo).toNat : Nat) : Int) - ((0 : Nat) : Int) = Builtin.Range.rangeSize lo hi 1 := by rw [rangeSize_one]; split <;> omega
    show IsRangeIter _ _ (lo + ((0 : Nat) : Int) * 1) ((((hi - lo).toNat : Nat) : Int) - ((0 : Nat) : Int)) 1
    rw [e1, e2]
    exact Heap.get?_push_size _ rfl
  · have e : b = (s.heap.push { cls := .type "range", data := .fields #[.int lo t, .int hi u, .int 1 v] }).objs.size := by simpa using hb
    subst e
    exact I1.fpOk (Nat.le_refl _) (I1.hok.fresh (Nat.le_refl _))
def iRng1 (ta : TA) : TI := fun σ H R => ta σ H fun vs H1 => ∃ j : Int, vs = [.int j] ∧ -(2 ^ 62) ≤ j ∧ j < 2 ^ 62 ∧ R (Itr 0 j.toNat) H1
theorem pi_range1 {a : Expr} {ta : TA} {p pos : Pos} (hg : Gl X "range") (hm : X.mg "range" = none) (ha : PA X [a] ta) (hs : starEach [a] X.env = [(false, eval a X.env)] := by rfl) : PI X tg (.Call (.Name "range" p) [a] [] pos) (iRng1 ta) := by
  intro pins s σ H R I h
  refine Call_ (ld_blt I hg hm boot_range (PyProof.Rows.callWith_type1 (thn (ha pos pins s σ H _ I h) fun us s1 ⟨vs, H1, I1, r1, q1⟩ => ?_) hs rfl))
  obtain ⟨j, e, q1, q2, q⟩ := q1
  subst e
  cases r1 with
  | cons r rr =>
    cases rr
    obtain ⟨t, rfl⟩ := r
    exact call_range_1 (range_it I1 (by omega) (by omega) q1 q2 (by simpa using q))
/-! ### for -/
/-- W: the invariant by the turn and a measure; N: what the body is to reach -/
def tFor (wi : TI) (g : TG) (tb : TS) : TS := fun D σ H => wi σ H fun J H1 => ∃ W : Nat → Nat → St → Hp → Prop, (∃ m, W 0 m σ H1) ∧ ∀ i m σ H, W i m σ H →
  (J.stop i H ∧ D.nx σ H) ∨ (J.go i H ∧ ∃ N : St → Hp → Prop, (∀ σ' H', N σ' H' → ∃ m', m' < m ∧ W (i + 1) m' σ' H') ∧ ∀ x H', J.yld i H x H' → g x σ H' fun σ2 H2 => tb { D with nx := N, ct := N, bk := D.nx } σ2 H2)
/-- the records at fp as they stand -/
def pinsAt (fp : List Addr) (h : Heap) : List (Addr × Obj) := fp.filterMap fun b => (h.get? b).map fun o => (b, o)
theorem mem_pinsAt {fp : List Addr} {h : Heap} {b : Addr} {o : Obj} (hb : b ∈ fp) (e : h.get? b = some o) : (b, o) ∈ pinsAt fp h := List.mem_filterMap.mpr ⟨b, hb, by rw [e]; rfl⟩
theorem of_pinsAt {fp : List Addr} {h : Heap} {p : Addr × Obj} (hp : p ∈ pinsAt fp h) : p.1 ∈ fp ∧ h.get? p.1 = some p.2 := by
  obtain ⟨b, hb, e⟩ := List.mem_filterMap.mp hp
  cases q : h.get? b with
  | none => rw [q] at e; cases e
  | some o =>
    rw [q] at e
    have e' : (b, o) = p := Option.some.inj e
    subst e'
    exact ⟨hb, q⟩
theorem Inv.pinned {pins : List (Addr × Obj)} {σ : St} {H : Hp} {s : Shared} {fp : List Addr} (I : Inv X pins σ H s) (hf : ∀ b ∈ fp, FpOk X pins H b) (ho : ∀ b ∈ fp, ∃ o, s.heap.get? b = some o ∧ ∀ v, o.data ≠ .cell v) : Inv X (pins ++ pinsAt fp s.heap) σ H s :=
  I.pins_of fun p hp => (List.mem_append.mp hp).elim (fun z => I.pin p (List.mem_append_right _ z)) fun z => by
    obtain ⟨hb, e⟩ := of_pinsAt z
    obtain ⟨f0, f1, f2, _⟩ := hf p.1 hb
    obtain ⟨o, e', d⟩ := ho p.1 hb
    rw [e] at e'; cases e'
    exact ⟨e, f0, f1, f2, d⟩
theorem Inv.unpinned {pins pl : List (Addr × Obj)} {σ : St} {H : Hp} {s : Shared} (I : Inv X (pins ++ pl) σ H s) : Inv X pins σ H s := I.pins_of fun p hp => I.pin p (List.mem_append_right _ (List.mem_append_left _ hp))
theorem ps_for {iter : Expr} {body : List Stmt} {wi : TI} {g : TG} {tb : TS} {pos : Pos} (hp : PassesOwn (model X.prog X.w) X.A X.env X.xe) (hc : X.calm = true) (hi : PI X tg iter wi) (hg : PG X tg g) (hb : PSs X body tb)
    (hs : ∀ x, foldedSetIterable iter X.env x = pure x := by intro _; rfl) : PS X (.For tg iter body [] pos) (tFor wi g tb) := by
  intro pins s σ H D I h
  refine wpAny_For (thn (hi pins s σ H _ I h) fun v s1 h1 => thn h1 fun itv s2 h2 => ?_) hs
  obtain ⟨it, fp, tn, J, H2, e, I2, T, st2, f2, W, ⟨m0, w0⟩, turn⟩ := h2
  subst e
  -- what stays true of the iterator's objects through the loop
  have stat : ∀ {H' : Hp}, (∀ b ∈ fp, H' b = none) → ∀ b ∈ fp, FpOk X pins H' b := fun hn b hb => ⟨hn b hb, (f2 b hb).2⟩
  refine codeAny_forLoop_any (fun n s' => ∃ i σ' H', Inv X pins σ' H' s' ∧ tn i s'.heap ∧ (∀ b ∈ fp, H' b = none) ∧ W i n σ' H') ?_ m0 ⟨0, σ, H2, I2, st2, fun b hb => (f2 b hb).1, w0⟩
  rintro n s3 ⟨i, σ3, H3, I3, st3, fr3, w3⟩
  rcases turn i n σ3 H3 w3 with ⟨stop, qn⟩ | ⟨go, N, hN, step⟩
  · refine wpAny_passesOwn hp (thn (T.done X rfl rfl rfl hc i pins s3 σ3 H3 X.xe I3 (stat fr3) st3 stop) fun r s4 ⟨hr, I4⟩ => ?_)
    subst hr
    exact wpAny_execs_nil ⟨σ3, H3, I4, qn⟩
  · refine wpAny_passesOwn hp (thn (T.item X rfl rfl rfl hc i pins s3 σ3 H3 X.xe I3 (stat fr3) st3 go) fun r s4 ⟨u, hr, h4⟩ => ?_)
    subst hr
    refine wpAny_passesOwn hp (thn h4 fun _ s5 ⟨x, H5, I5, r5, y5, st5, fr5⟩ => ?_)
    have I5' := I5.pinned (stat fr5) (T.obj _ _ st5)
    refine wpAny_passesOwn hp (thn (hg _ s5 σ3 H5 x u _ I5' r5 (step x H5 y5)) fun _ s6 ⟨σ6, H6, I6, q6⟩ => ?_)
    refine wpAny_passesOwn hp (thn (hb _ s6 σ6 H6 _ I6 q6) fun f s7 q7 => ?_)
    have again : ∀ {σ7 : St} {H7 : Hp}, Inv X (pins ++ pinsAt fp s5.heap) σ7 H7 s7 → N σ7 H7 → ∃ m, m < n ∧ ∃ i σ' H', Inv X pins σ' H' s7 ∧ tn i s7.heap ∧ (∀ b ∈ fp, H' b = none) ∧ W i m σ' H' := fun {σ7 H7} I7 n7 => by
      obtain ⟨m', hm, w7⟩ := hN σ7 H7 n7
      refine ⟨m', hm, i + 1, σ7, H7, I7.unpinned, T.keep _ _ _ st5 fun b hb o e => (I7.pin (b, o) (List.mem_append_right _ (List.mem_append_right _ (mem_pinsAt hb e)))).1, fun b hb => ?_, w7⟩
      obtain ⟨o, e, d⟩ := T.obj _ _ st5 b hb
      exact (I7.pin (b, o) (List.mem_append_right _ (List.mem_append_right _ (mem_pinsAt hb e)))).2.1
    cases f with
    | next => obtain ⟨σ7, H7, I7, n7⟩ := q7; exact again I7 n7
    | cont => obtain ⟨σ7, H7, I7, n7⟩ := q7; exact again I7 n7
    | brk => obtain ⟨σ7, H7, I7, q7⟩ := q7; exact ⟨σ7, H7, I7.unpinned, q7⟩
    | ret v => obtain ⟨x7, σ7, H7, I7, r7, q7⟩ := q7; exact ⟨x7, σ7, H7, I7.unpinned, r7, q7⟩
end

/-! ### the forms one uses -/
/-- over a list that the body leaves as it is -/
theorem for_list {K : PySem.W.Frag} {a : Addr} {xs : List V} {g : TG} {tb : TS} {D : Ends} {σ : St} {H : Hp} (Pv : Nat → St → Hp → Prop) (h0 : Pv 0 σ H) (hl : ∀ i σ H, i ≤ xs.length → Pv i σ H → SqL K H a xs)
    (hs : ∀ i x σ H, xs[i]? = some x → Pv i σ H → g x σ H fun σ2 H2 => tb { D with nx := Pv (i + 1), ct := Pv (i + 1), bk := D.nx } σ2 H2) (hd : ∀ σ H, Pv xs.length σ H → D.nx σ H) :
    ∃ W : Nat → Nat → St → Hp → Prop, (∃ m, W 0 m σ H) ∧ ∀ i m σ H, W i m σ H →
      ((Itl K a).stop i H ∧ D.nx σ H) ∨ ((Itl K a).go i H ∧ ∃ N : St → Hp → Prop, (∀ σ' H', N σ' H' → ∃ m', m' < m ∧ W (i + 1) m' σ' H') ∧ ∀ x H', (Itl K a).yld i H x H' → g x σ H' fun σ2 H2 => tb { D with nx := N, ct := N, bk := D.nx } σ2 H2) := by
  refine ⟨fun i m σ H => m = xs.length - i ∧ i ≤ xs.length ∧ Pv i σ H, ⟨xs.length, by simp, Nat.zero_le _, h0⟩, ?_⟩
  rintro i m σ H ⟨rfl, hi, p⟩
  have q := hl i σ H hi p
  by_cases hlt : i < xs.length
  · refine .inr ⟨⟨xs, xs[i], q, by simp [hlt]⟩, Pv (i + 1), fun σ' H' p' => ⟨xs.length - (i + 1), by omega, rfl, hlt, p'⟩, fun x H' y => ?_⟩
    obtain ⟨e, y⟩ := y
    subst e
    exact hs i x σ _ (y xs q) p
  · have e : i = xs.length := by omega
    subst e
    exact .inl ⟨⟨xs, q, Nat.le_refl _⟩, hd σ H p⟩
theorem for_tup {K : PySem.W.Frag} {a : Addr} {xs : List V} {g : TG} {tb : TS} {D : Ends} {σ : St} {H : Hp} (Pv : Nat → St → Hp → Prop) (h0 : Pv 0 σ H) (hl : ∀ i σ H, i ≤ xs.length → Pv i σ H → SqT K H a xs)
    (hs : ∀ i x σ H, xs[i]? = some x → Pv i σ H → g x σ H fun σ2 H2 => tb { D with nx := Pv (i + 1), ct := Pv (i + 1), bk := D.nx } σ2 H2) (hd : ∀ σ H, Pv xs.length σ H → D.nx σ H) :
    ∃ W : Nat → Nat → St → Hp → Prop, (∃ m, W 0 m σ H) ∧ ∀ i m σ H, W i m σ H →
      ((Itt K a).stop i H ∧ D.nx σ H) ∨ ((Itt K a).go i H ∧ ∃ N : St → Hp → Prop, (∀ σ' H', N σ' H' → ∃ m', m' < m ∧ W (i + 1) m' σ' H') ∧ ∀ x H', (Itt K a).yld i H x H' → g x σ H' fun σ2 H2 => tb { D with nx := N, ct := N, bk := D.nx } σ2 H2) := by
  refine ⟨fun i m σ H => m = xs.length - i ∧ i ≤ xs.length ∧ Pv i σ H, ⟨xs.length, by simp, Nat.zero_le _, h0⟩, ?_⟩
  rintro i m σ H ⟨rfl, hi, p⟩
  have q := hl i σ H hi p
  by_cases hlt : i < xs.length
  · refine .inr ⟨⟨xs, xs[i], q, by simp [hlt]⟩, Pv (i + 1), fun σ' H' p' => ⟨xs.length - (i + 1), by omega, rfl, hlt, p'⟩, fun x H' y => ?_⟩
    obtain ⟨e, y⟩ := y
    subst e
    exact hs i x σ _ (y xs q) p
  · have e : i = xs.length := by omega
    subst e
    exact .inl ⟨⟨xs, q, Nat.le_refl _⟩, hd σ H p⟩
theorem for_range {lo : Int} {n : Nat} {g : TG} {tb : TS} {D : Ends} {σ : St} {H : Hp} (Pv : Nat → St → Hp → Prop) (h0 : Pv 0 σ H)
    (hs : ∀ i σ H, i < n → Pv i σ H → g (.int (lo + i)) σ H fun σ2 H2 => tb { D with nx := Pv (i + 1), ct := Pv (i + 1), bk := D.nx } σ2 H2) (hd : ∀ σ H, Pv n σ H → D.nx σ H) :
    ∃ W : Nat → Nat → St → Hp → Prop, (∃ m, W 0 m σ H) ∧ ∀ i m σ H, W i m σ H →
      ((Itr lo n).stop i H ∧ D.nx σ H) ∨ ((Itr lo n).go i H ∧ ∃ N : St → Hp → Prop, (∀ σ' H', N σ' H' → ∃ m', m' < m ∧ W (i + 1) m' σ' H') ∧ ∀ x H', (Itr lo n).yld i H x H' → g x σ H' fun σ2 H2 => tb { D with nx := N, ct := N, bk := D.nx } σ2 H2) := by
  refine ⟨fun i m σ H => m = n - i ∧ i ≤ n ∧ Pv i σ H, ⟨n, by simp, Nat.zero_le _, h0⟩, ?_⟩
  rintro i m σ H ⟨rfl, hi, p⟩
  by_cases hlt : i < n
  · refine .inr ⟨hlt, Pv (i + 1), fun σ' H' p' => ⟨n - (i + 1), by omega, rfl, hlt, p'⟩, fun x H' y => ?_⟩
    obtain ⟨e, y⟩ := y
    subst e y
    exact hs i σ _ hlt p
  · have e : i = n := by omega
    subst e
    exact .inl ⟨Nat.le_refl _, hd σ H p⟩
end L2

namespace L2
open PySem PySem.Spec PyProof.Rows

abbrev R2 := V → V → Hp → VK → Prop
/-- a two-place operation on values: f is binaryOp op, inplaceOp op or compareOp op -/
def OpR (X : Cx) (f : Value → Value → Sem Value) (r : R2) : Prop :=
  ∀ (pins : List (Addr × Obj)) (s : Shared) (σ : St) (H : Hp) (x y : V) (v u : Value) (Q : VK), Inv X pins σ H s → RelV x v → RelV y u → r x y H Q →
    wpAny (model X.prog X.w) X.A (f v u) (EP X pins σ Q) X.xe s
/-- a one-place operation -/
def UnR (X : Cx) (f : Value → Sem Value) (r : V → Hp → VK → Prop) : Prop :=
  ∀ (pins : List (Addr × Obj)) (s : Shared) (σ : St) (H : Hp) (x : V) (v : Value) (Q : VK), Inv X pins σ H s → RelV x v → r x H Q →
    wpAny (model X.prog X.w) X.A (f v) (EP X pins σ Q) X.xe s
/-- a call of a value that is known (a builtin, a type) with values -/
def CallR (X : Cx) (f : Value) (r : List V → Hp → VK → Prop) : Prop :=
  ∀ (pins : List (Addr × Obj)) (s : Shared) (σ : St) (H : Hp) (xs : List V) (us : List Value) (Q : VK), Inv X pins σ H s → Vals xs us → r xs H Q →
    wpAny (model X.prog X.w) X.A (call f us) (EP X pins σ Q) X.xe s
def tOp (r : R2) (ta tb : TE) : TE := fun σ H Q => ta σ H fun x H1 => tb σ H1 fun y H2 => r x y H2 Q
def tUn (r : V → Hp → VK → Prop) (ta : TE) : TE := fun σ H Q => ta σ H fun x H1 => r x H1 Q
/-- ints in, under C, and a value out -/
def rI (C : Int → Int → Prop) (g : Int → Int → V) : R2 := fun x y H Q => ∃ i j, x = .int i ∧ y = .int j ∧ C i j ∧ Q (g i j) H
def rI0 (g : Int → Int → V) : R2 := fun x y H Q => ∃ i j, x = .int i ∧ y = .int j ∧ Q (g i j) H
def rU (g : Int → V) : V → Hp → VK → Prop := fun x H Q => ∃ i, x = .int i ∧ Q (g i) H

section
variable {X : Cx} {a b c : Expr} {ta tb tc : TE} {pos : Pos}

theorem binT (ha : PE X a ta) (hb : PE X b tb) {pins : List (Addr × Obj)} {s : Shared} {σ : St} {H : Hp} {R : V → V → Hp → Prop} (I : Inv X pins σ H s)
    (h : ta σ H fun x H1 => tb σ H1 fun y H2 => R x y H2) {Q : Value → Shared → Prop} {f : Value → Value → Sem Value}
    (hf : ∀ v u s2 x y H2, Inv X pins σ H2 s2 → RelV x v → RelV y u → R x y H2 → wpAny (model X.prog X.w) X.A (f v u) Q X.xe s2) :
    wpAny (model X.prog X.w) X.A (eval a X.env) (fun v s₁ => wpAny (model X.prog X.w) X.A (eval b X.env) (fun u s₂ => wpAny (model X.prog X.w) X.A (f v u) Q X.xe s₂) X.xe s₁) X.xe s := by
  refine thn (ha pins s σ H _ I h) fun v s1 ⟨x, H1, I1, r1, q1⟩ => ?_
  refine thn (hb pins s1 σ H1 _ I1 q1) fun u s2 ⟨y, H2, I2, r2, q2⟩ => ?_
  exact hf v u s2 x y H2 I2 r1 r2 q2

theorem pe_op {op : Operator} {r : R2} (ho : OpR X (binaryOp op) r) (ha : PE X a ta) (hb : PE X b tb) : PE X (.BinOp a op b pos) (tOp r ta tb) := by
  intro pins s σ H Q I h
  exact wpAny_BinOp (binT ha hb I h fun v u s2 x y H2 I2 rx ry q => ho pins s2 σ H2 x y v u Q I2 rx ry q)
theorem pe_un {op : UnaryOp} {r : V → Hp → VK → Prop} (ho : UnR X (unaryOp op) r) (ha : PE X a ta) : PE X (.UnaryOp op a pos) (tUn r ta) := by
  intro pins s σ H Q I h
  exact UnaryOp_ (thn (ha pins s σ H _ I h) fun v s1 ⟨x, H1, I1, r1, q1⟩ => ho pins s1 σ H1 x v Q I1 r1 q1)
/-! ### ints -/
theorem opI {f : Value → Value → Sem Value} {C : Int → Int → Prop} {g : Int → Int → Int}
    (rule : ∀ (i j : Int) (t u : Tok) (s : Shared) (Q : Value → Shared → Prop) (E : Value → Shared → Prop), C i j → Q (.int (g i j) s.toks) { s with toks := s.toks + 1 } → wpAny (model X.prog X.w) X.A (f (.int i t) (.int j u)) Q E s) :
    OpR X f (rI C fun i j => .int (g i j)) := by
  intro pins s σ H x y v u Q I rx ry h
  obtain ⟨i, j, rfl, rfl, hc, q⟩ := h
  obtain ⟨t, rfl⟩ := rx
  obtain ⟨t', rfl⟩ := ry
  exact rule i j t t' s _ _ hc ⟨.int (g i j), H, I.tok _, ⟨_, rfl⟩, q⟩
theorem opI0 {f : Value → Value → Sem Value} {g : Int → Int → Int}
    (rule : ∀ (i j : Int) (t u : Tok) (s : Shared) (Q : Value → Shared → Prop) (E : Value → Shared → Prop), Q (.int (g i j) s.toks) { s with toks := s.toks + 1 } → wpAny (model X.prog X.w) X.A (f (.int i t) (.int j u)) Q E s) :
    OpR X f (rI0 fun i j => .int (g i j)) := by
  intro pins s σ H x y v u Q I rx ry h
  obtain ⟨i, j, rfl, rfl, q⟩ := h
  obtain ⟨t, rfl⟩ := rx
  obtain ⟨t', rfl⟩ := ry
  exact rule i j t t' s _ _ ⟨.int (g i j), H, I.tok _, ⟨_, rfl⟩, q⟩
theorem opB0 {f : Value → Value → Sem Value} {g : Int → Int → Bool}
    (rule : ∀ (i j : Int) (t u : Tok) (s : Shared) (Q : Value → Shared → Prop) (E : Value → Shared → Prop), Q (.bool (g i j)) s → wpAny (model X.prog X.w) X.A (f (.int i t) (.int j u)) Q E s) :
    OpR X f (rI0 fun i j => .bl (g i j)) := by
  intro pins s σ H x y v u Q I rx ry h
  obtain ⟨i, j, rfl, rfl, q⟩ := h
  obtain ⟨t, rfl⟩ := rx
  obtain ⟨t', rfl⟩ := ry
  exact rule i j t t' s _ _ ⟨.bl (g i j), H, I, rfl, q⟩

def CDiv (i j : Int) : Prop := 0 < j ∧ j < 1073741824
def CPow (i j : Int) : Prop := 0 ≤ j ∧ j ≤ 1000000 ∧ i.natAbs < 2 ^ 64
def CMul (i j : Int) : Prop := (-(2 ^ 64) < i ∧ i < 2 ^ 64) ∨ (-(2 ^ 64) < j ∧ j < 2 ^ 64)
theorem CMul.ok {i j : Int} (h : CMul i j) : IntMulOk i j := by
  rcases h with ⟨h1, h2⟩ | ⟨h1, h2⟩
  · exact .of_left (intBits_le_64 h1 h2)
  · exact .of_right (intBits_le_64 h1 h2)
theorem two_pow_nn (k : Nat) : (0 : Int) ≤ 2 ^ k := by
  rw [two_pow_cast]
  exact Int.natCast_nonneg _

theorem op_add : OpR X (binaryOp .Add) (rI0 fun i j => .int (i + j)) := opI0 fun _ _ _ _ _ _ _ q => add_int q
theorem op_sub : OpR X (binaryOp .Sub) (rI0 fun i j => .int (i - j)) := opI0 fun _ _ _ _ _ _ _ q => sub_int q
theorem op_mul : OpR X (binaryOp .Mult) (rI CMul fun i j => .int (i * j)) := opI fun _ _ _ _ _ _ _ hc q => mul_int q hc.ok
/-- // by a positive divisor -/
theorem op_fdiv : OpR X (binaryOp .FloorDiv) (rI CDiv fun i j => .int (i / j)) := opI fun i j _ _ _ _ _ hc q => by
  have h1 : (0 : Int) < j := hc.1
  have h2 : j < 1073741824 := hc.2
  exact floordiv_int (by omega) (by rw [Int.fdiv_eq_ediv_of_nonneg i (by omega)]; exact q) (.inl (PyProof.noPylong_small (by omega)))
/-- % by a positive divisor of any size -/
theorem op_mod : OpR X (binaryOp .Mod) (rI (fun _ j => 0 < j) fun i j => .int (i % j)) := opI fun i j _ _ _ _ _ hc q => by
  have h1 : (0 : Int) < j := hc
  exact mod_int' (by omega) (by rw [Int.fmod_eq_emod_of_nonneg i (by omega)]; exact q)
theorem op_pow : OpR X (binaryOp .Pow) (rI CPow fun i j => .int (i ^ j.toNat)) := opI fun _ _ _ _ _ _ _ hc q => pow_int_small hc.1 hc.2.1 hc.2.2 q
theorem unI {f : Value → Sem Value} {g : Int → Int}
    (rule : ∀ (i : Int) (t : Tok) (s : Shared) (Q : Value → Shared → Prop) (E : Value → Shared → Prop), Q (.int (g i) s.toks) { s with toks := s.toks + 1 } → wpAny (model X.prog X.w) X.A (f (.int i t)) Q E s) :
    UnR X f (rU fun i => .int (g i)) := by
  intro pins s σ H x v Q I rx h
  obtain ⟨i, rfl, q⟩ := h
  obtain ⟨t, rfl⟩ := rx
  exact rule i t s _ _ ⟨.int (g i), H, I.tok _, ⟨_, rfl⟩, q⟩
theorem un_neg : UnR X (unaryOp .USub) (rU fun i => .int (-i)) := unI fun _ _ _ _ _ q => neg_int q
/-! ### bools among ints: n += (a < b) -/
end

/-! ### comparisons -/
/-- the scalars that == tells apart as data does -/
def scal : V → V → Bool
  | .non, .non => true | .non, .int _ => true | .int _, .non => true | .non, .bl _ => true | .bl _, .non => true | .non, .str _ => true | .str _, .non => true
  | .int _, .int _ => true | .bl _, .bl _ => true | .str _, .str _ => true | .byt _, .byt _ => true
  | .int _, .str _ => true | .str _, .int _ => true | .bl _, .str _ => true | .str _, .bl _ => true
  | _, _ => false
def rEq : R2 := fun x y H Q => scal x y = true ∧ Q (.bl (decide (x = y))) H
theorem dec_int {i j : Int} : decide (V.int i = V.int j) = (i == j) := by
  rw [Bool.eq_iff_iff]
  simp
theorem dec_bl {i j : Bool} : decide (V.bl i = V.bl j) = (i == j) := by
  rw [Bool.eq_iff_iff]
  simp
theorem dec_str {i j : Str} : decide (V.str i = V.str j) = (i == j) := by
  rw [Bool.eq_iff_iff]
  simp
theorem dec_byt {i j : Array UInt8} : decide (V.byt i = V.byt j) = (i.toList == j.toList) := by
  rw [Bool.eq_iff_iff]
  cases i
  cases j
  simp

section
variable {X : Cx} {a b c : Expr} {ta tb tc : TE} {pos : Pos}
theorem fin_bl {pins : List (Addr × Obj)} {σ : St} {H : Hp} {s : Shared} {Q : VK} {k k' : Bool} (I : Inv X pins σ H s) (q : Q (.bl k) H) (e : k = k') : EP X pins σ Q (.bool k') s := by
  subst e
  exact ⟨.bl k, H, I, rfl, q⟩
theorem op_eq : OpR X (compareOp .Eq) rEq := by
  intro pins s σ H x y v u Q I rx ry h
  obtain ⟨hs, q⟩ := h
  cases x with
  | non =>
    cases rx
    cases y with
    | non => cases ry; exact PySem.EqNone.eq_none_none (fin_bl I q (by simp))
    | bl j => cases ry; exact PySem.EqNone.eq_none_bool (fin_bl I q (by simp))
    | int j => obtain ⟨t', rfl⟩ := ry; exact PySem.EqNone.eq_none_int (fin_bl I q (by simp))
    | str j => obtain ⟨t', rfl⟩ := ry; exact PySem.EqNone.eq_none_str (fin_bl I q (by simp))
    | _ => exact absurd (show false = true from hs) Bool.false_ne_true
  | bl i =>
    cases rx
    cases y with
    | non => cases ry; exact PySem.EqNone.eq_bool_none (fin_bl I q (by simp))
    | bl j => cases ry; exact eq_bool (fin_bl I q dec_bl)
    | str j => obtain ⟨t', rfl⟩ := ry; exact PySem.EqMixed.eq_bool_str (fin_bl I q (by simp))
    | _ => exact absurd (show false = true from hs) Bool.false_ne_true
  | int i =>
    obtain ⟨t, rfl⟩ := rx
    cases y with
    | non => cases ry; exact PySem.EqNone.eq_int_none (fin_bl I q (by simp))
    | int j => obtain ⟨t', rfl⟩ := ry; exact eq_int (fin_bl I q dec_int)
    | str j => obtain ⟨t', rfl⟩ := ry; exact PySem.EqMixed.eq_int_str (fin_bl I q (by simp))
    | _ => exact absurd (show false = true from hs) Bool.false_ne_true
  | str i =>
    obtain ⟨t, rfl⟩ := rx
    cases y with
    | non => cases ry; exact PySem.EqNone.eq_str_none (fin_bl I q (by simp))
    | bl j => cases ry; exact PySem.EqMixed.eq_str_bool (fin_bl I q (by simp))
    | int j => obtain ⟨t', rfl⟩ := ry; exact PySem.EqMixed.eq_str_int (fin_bl I q (by simp))
    | str j => obtain ⟨t', rfl⟩ := ry; exact eq_str (fin_bl I q dec_str)
    | _ => exact absurd (show false = true from hs) Bool.false_ne_true
  | byt i =>
    obtain ⟨t, rfl⟩ := rx
    cases y with
    | byt j => obtain ⟨t', rfl⟩ := ry; exact PySem.W.eq_bytes (fin_bl I q dec_byt)
    | _ => exact absurd (show false = true from hs) Bool.false_ne_true
  | _ => cases y <;> exact absurd (show false = true from hs) Bool.false_ne_true
theorem op_lt : OpR X (compareOp .Lt) (rI0 fun i j => .bl (decide (i < j))) := opB0 fun _ _ _ _ _ _ _ q => lt_int q
theorem op_le : OpR X (compareOp .LtE) (rI0 fun i j => .bl (decide (i ≤ j))) := opB0 fun _ _ _ _ _ _ _ q => le_int q
theorem op_notN : OpR X (compareOp .IsNot) (fun x y H Q => y = .non ∧ Q (.bl (!decide (x = .non))) H) := by
  intro pins s σ H x y v u Q I rx ry h
  obtain ⟨rfl, q⟩ := h
  cases ry
  refine isnot_none_gen (fin_bl I q ?_)
  cases x <;> first
    | (cases rx; rfl)
    | (obtain ⟨t, rfl⟩ := rx; rfl)

theorem nomark (b : Expr) {op : CmpOp} (h : op ≠ .In := by decide) (h2 : op ≠ .NotIn := by decide) : behindInMarks op b = false := by
  have e1 : (op == CmpOp.In) = false := by cases op <;> first | rfl | exact absurd rfl h
  have e2 : (op == CmpOp.NotIn) = false := by cases op <;> first | rfl | exact absurd rfl h2
  cases b <;> simp [behindInMarks, e1, e2]
/-- a comparison as a value; hm: nomark b, or (for in, not in) by with_unfolding_all rfl -/
theorem pe_cmpR {op : CmpOp} {r : R2} (ho : OpR X (compareOp op) r) (ha : PE X a ta) (hb : PE X b tb) (hm : behindInMarks op b = false) : PE X (.Compare a [op] [b] pos) (tOp r ta tb) := by
  intro pins s σ H Q I h
  exact wpAny_Compare1 (binT ha hb I h fun v u s2 x y H2 I2 rx ry q => ho pins s2 σ H2 x y v u Q I2 rx ry q) hm
/-- a reading of a value as a test -/
def tTest (t : TE) : TT := fun σ H Q => t σ H fun x H' => ∃ k, x = .bl k ∧ Q k H'
theorem pt_cmpR {op : CmpOp} {r : R2} (ho : OpR X (compareOp op) r) (ha : PE X a ta) (hb : PE X b tb) (hm : behindInMarks op b = false) : PT X (.Compare a [op] [b] pos) (tTest (tOp r ta tb)) := by
  intro pins s σ H Q I h
  refine wpAny_isTrue_Compare1 (thn (ha pins s σ H _ I h) fun v s1 ⟨x, H1, I1, r1, q1⟩ => thn (hb pins s1 σ H1 _ I1 q1) fun u s2 ⟨y, H2, I2, r2, q2⟩ =>
    thn (ho pins s2 σ H2 x y v u _ I2 r1 r2 q2) fun c s3 ⟨z, H3, I3, r3, k, e, q3⟩ => ?_) hm
  subst e
  cases r3
  exact wpAny_truthy_bool ⟨H3, I3, q3⟩
/-- a op1 b op2 c -/
def tChain (r r' : R2) (ta tb tc : TE) : TE := fun σ H Q => ta σ H fun x H1 => tb σ H1 fun y H2 => r x y H2 fun z H3 => ∃ k, z = .bl k ∧
  (if k = true then tc σ H3 fun w' H4 => r' y w' H4 Q else Q (.bl false) H3)
theorem pt_chain {op op' : CmpOp} {r r' : R2} (ho : OpR X (compareOp op) r) (ho' : OpR X (compareOp op') r') (ha : PE X a ta) (hb : PE X b tb) (hc : PE X c tc)
    (hm : lastMarks [op, op'] [b, c] = false := by with_unfolding_all rfl) : PT X (.Compare a [op, op'] [b, c] pos) (tTest (tChain r r' ta tb tc)) := by
  intro pins s σ H Q I h
  refine isTrue_chain (thn (ha pins s σ H _ I h) fun v s1 ⟨x, H1, I1, r1, q1⟩ => test_link (thn (hb pins s1 σ H1 _ I1 q1) fun u s2 ⟨y, H2, I2, r2, q2⟩ =>
    thn (ho pins s2 σ H2 x y v u _ I2 r1 r2 q2) fun d s3 ⟨z, H3, I3, r3, k, e, q3⟩ => ?_)) hm
  subst e
  cases r3
  refine wpAny_truthy_bool ?_
  cases k with
  | false =>
    obtain ⟨k', e', q'⟩ := q3
    cases e'
    exact ite_ff ⟨H3, I3, q'⟩
  | true =>
    refine ite_tt (test_last (thn (hc pins s3 σ H3 _ I3 q3) fun w' s4 ⟨z', H4, I4, r4, q4⟩ => thn (ho' pins s4 σ H4 y z' u w' _ I4 r2 r4 q4) fun d' s5 ⟨z2, H5, I5, r5, k2, e2, q5⟩ => ?_))
    subst e2
    cases r5
    exact wpAny_truthy_bool ⟨H5, I5, q5⟩

/-! ### truth -/
theorem line63 : (sizeLine : Nat) < 2 ^ 63 := by rw [sizeLine_eq]; decide
/-! ### strs and bytes -/
theorem op_add_str : OpR X (binaryOp .Add) (fun x y H Q => ∃ i j, x = .str i ∧ y = .str j ∧ i.length + j.length ≤ sizeLine ∧ Q (.str (i ++ j)) H) := by
  intro pins s σ H x y v u Q I rx ry h
  obtain ⟨i, j, rfl, rfl, hz, q⟩ := h
  obtain ⟨t, rfl⟩ := rx
  obtain ⟨t', rfl⟩ := ry
  exact add_str (fun t' tk => ⟨.str (i ++ j), H, I.tok _, ⟨_, rfl⟩, q⟩) hz
/-! ### scalar builtins, by CallR -/
theorem vals1 {x : V} {us : List Value} (r : Vals [x] us) : ∃ u, us = [u] ∧ RelV x u := by
  cases r with
  | cons r1 r2 => cases r2; exact ⟨_, rfl, r1⟩
theorem vals2 {x y : V} {us : List Value} (r : Vals [x, y] us) : ∃ u w', us = [u, w'] ∧ RelV x u ∧ RelV y w' := by
  cases r with
  | cons r1 r2 =>
    cases r2 with
    | cons r3 r4 => cases r4; exact ⟨_, _, rfl, r1, r3⟩
theorem call_int1 : CallR X (.type "int") (fun xs H Q => (∃ i, xs = [.int i] ∧ Q (.int i) H) ∨ ∃ k, xs = [.bl k] ∧ Q (.int (if k then 1 else 0)) H) := by
  intro pins s σ H xs us Q I r h
  rcases h with ⟨i, rfl, q⟩ | ⟨k, rfl, q⟩
  · obtain ⟨u, rfl, t, rfl⟩ := vals1 r
    exact call_int_int ⟨.int i, H, I, ⟨_, rfl⟩, q⟩
  · obtain ⟨u, rfl, r1⟩ := vals1 r
    cases r1
    exact call_int_bool ⟨.int (if k then 1 else 0), H, I.tok _, ⟨_, rfl⟩, q⟩
end
end L2

namespace L2
open PySem PySem.Spec PyProof.Rows

/-! ### an instance, its attributes a map -/
structure ObjM (h : Heap) (x dx C : Addr) (mA : Str → Option Value) : Prop where
  obj : h.get? x = some (PySem.W.instObj C dx)
  ns : h.Ns1 dx mA
  ne : dx ≠ x

theorem lookIn_ns {h : Heap} {dx : Addr} {mA : Str → Option Value} (n : h.Ns1 dx mA) : ∃ od, h.get? dx = some od ∧ ∀ name, PySem.W.lookIn name od = some (mA name) := by
  obtain ⟨o, es, ep, ho, hd, hk, _, hm⟩ := n
  refine ⟨o, ho, fun name => ?_⟩
  have e := hm name
  unfold nsFind findBy at e
  rw [← Array.find?_toList] at e
  unfold PySem.W.lookIn
  rw [hd]
  dsimp only
  split
  · rename_i y q
    rw [q] at e
    exact congrArg some e
  · rename_i q
    rw [q] at e
    have a : es.toList.any (·.refKey) = false := by
      rw [List.any_eq_false]
      intro y hy
      obtain ⟨z, t, hkey⟩ := hk y (Array.mem_toList_iff.mp hy)
      simp [DictEntry.refKey, hkey]
    have a' : ¬ es.toList.any (·.refKey) = true := by rw [a]; exact Bool.false_ne_true
    rw [if_neg a']
    exact congrArg some e

theorem ObjM.look {h : Heap} {x dx C : Addr} {mA : Str → Option Value} (I : ObjM h x dx C mA) : ∃ od, PySem.W.InstAt h x (PySem.W.instObj C dx) C (some od) ∧ ∀ name, PySem.W.lookIn name od = some (mA name) :=
  let ⟨od, ho, hl⟩ := lookIn_ns I.ns
  ⟨od, ⟨I.obj, rfl, rfl, ho⟩, hl⟩

section
variable {prog : Program} {w : World} {A : Around} {E : Value → Shared → Prop} {s : Shared} {K : PySem.W.Frag} {x dx C f : Addr} {mA : Str → Option Value} {name : Str} {v : Value}

theorem get_map {expr : Bool} {Q : Value → Shared → Prop} (X : K.In s.heap) (I : ObjM s.heap x dx C mA) (hg : PySem.W.plainGet K C name = true) (hh : PySem.W.hasDictIn K C = true)
    (ha : PySem.W.findIn K (.ref C) name = some none) (hv : mA name = some v) (hv' : PySem.W.handedIn v = true) (h : Q v { s with toks := s.toks + 1 }) :
    wpAny (model prog w) A (getAttr (.ref x) name expr) Q E s := by
  obtain ⟨od, J, hl⟩ := I.look
  exact PySem.W.get_value X J (PySem.W.plainGet_of hg).1 (PySem.W.findObj_own hh ha rfl (by rw [hl, hv])) hv' h

theorem get_meth {pl : Sem Bool} {Q : Value × List Value → Shared → Prop} (X : K.In s.heap) (I : ObjM s.heap x dx C mA) (hg : PySem.W.plainGet K C name = true)
    (hf : PySem.W.findIn K (.ref C) name = some (some (.ref f))) (ht : PySem.W.isFn K (.ref f) = true) (hv : mA name = none) (h : Q (.ref f, [.ref x]) s) :
    wpAny (model prog w) A (getMethod (.ref x) name pl) Q E s := by
  obtain ⟨od, J, hl⟩ := I.look
  exact PySem.W.method_fn X J (PySem.W.plainGet_of hg).1 (PySem.W.plainGet_of hg).2 hf (beq_iff_eq.mp ht) (by show (PySem.W.lookIn name od).map (·.isSome) = some false; rw [hl, hv]; rfl) h

theorem set_map {ns : List Str} {Q : Unit → Shared → Prop} (X : K.In s.heap) (I : ObjM s.heap x dx C mA)
    (hs : PySem.W.findIn K (.ref C) "__setattr__" = some (some (.builtin "object.__setattr__"))) (hp : PySem.W.plainOver K C = true) (ht : PySem.W.takerIn K C name = some none) (hh : PySem.W.hasDictIn K C = true)
    (hw : PySem.Within mA ns) (hsz : ns.length ≤ sizeLine)
    (h : ∀ h', ObjM h' x dx C (fun y => if y = name then some v else mA y) → Heap.SameBut dx s.heap h' → Q () { s with heap := h', toks := s.toks + 2 }) :
    wpAny (model prog w) A (setAttr (.ref x) name v) Q E s := by
  obtain ⟨od, J, hl⟩ := I.look
  refine PySem.W.set_plain X J hs (PySem.W.osa_open (s := { s with toks := s.toks + 1 }) (r := none) X J hp ht fun b => ?_)
  obtain ⟨cd, hc, hd'⟩ := PySem.W.any_some hh
  have hx : s.heap.get? x = some ⟨.ref C, some dx, .plain, #[]⟩ := I.obj
  refine wpAny_bind (wpAny_pure (wpAny_bind (wpAny_bind (wpAny_loadPart hx (wpAny_bind (PySem.W.Looks.here (s := { s with toks := s.toks + 1 }) (PySem.W.looks_clsIn X hc) ?_))))))
  rw [hd']
  refine wpAny_pure (a := some dx) (wpAny_bind (wpAny_pure (wpAny_bind ?_)))
  refine wpAny_nsSet1 (s := { s with toks := s.toks + 1 }) I.ns fun h' hn2 hs2 => ?_
  obtain ⟨oD, esD, epD, hoD, hdD, hcD⟩ := hn2.count (PySem.Within.cons name v hw)
  refine wpAny_bind (wpAny_lookBehind hoD (by rw [hdD]; exact pastItsLine_dict (Nat.le_trans hcD (by rw [List.length_cons]; omega))) ?_)
  exact wpAny_pure (h _ ⟨(hs2.2 _ (Ne.symm I.ne)).trans I.obj, hn2, I.ne⟩ hs2)

/-- C(..): the dict at the heap's end, the instance behind it; then its __init__ -/
theorem make_map {R : Result → Shared → Prop} {vs : List Value} {kw : List (Str × Value)} (X : K.In s.heap) (hm : PySem.W.makesIn K C = true)
    (hi : PySem.W.findIn K (.ref C) "__init__" = some (some (.ref f))) (hf : PySem.W.typeIn K (.ref f) = some (.type "function"))
    (h : codeAny (model prog w) (A.under (.builtin "type.__call__" ⟨.ref C :: vs, kw⟩)) (.call (.ref f) ⟨.ref (s.heap.objs.size + 1) :: vs, kw⟩) (PySem.W.InitBack (s.heap.objs.size + 1) R)
      { s with heap := (s.heap.push PySem.W.emptyDict).push (PySem.W.instObj C s.heap.objs.size) }) :
    codeAny (model prog w) A (.call (.ref C) ⟨vs, kw⟩) R s := by
  obtain ⟨hh, g, d, t, os⟩ := s
  exact PySem.W.make_core (PySem.W.makes_of X hm) (PySem.W.looks_findIn X hi) (fun self => PySem.W.bind_fn X self hf) (.inl rfl) h
end

/-! ### the attributes as a list of pairs -/
def putF (f : Str) (v : V) : List (Str × V) → List (Str × V)
  | [] => [(f, v)]
  | (g, x) :: r => if g = f then (g, v) :: r else (g, x) :: putF f v r
theorem lookup_putF (f g : Str) (v : V) : ∀ fs : List (Str × V), (putF f v fs).lookup g = if g = f then some v else fs.lookup g
  | [] => by
    show List.lookup g [(f, v)] = _
    by_cases h : g = f
    · have hb : (g == f) = true := beq_iff_eq.mpr h
      simp only [List.lookup, hb, if_pos h]
    · have hb : (g == f) = false := beq_eq_false_iff_ne.mpr h
      simp only [List.lookup, hb, if_neg h]
  | (k, x) :: r => by
    have ih := lookup_putF f g v r
    rw [show putF f v ((k, x) :: r) = (if k = f then (k, v) :: r else (k, x) :: putF f v r) from rfl]
    by_cases hk : k = f
    · rw [if_pos hk]
      by_cases h : g = k
      · have hb : (g == k) = true := beq_iff_eq.mpr h
        simp only [List.lookup, hb, if_pos (h.trans hk)]
      · have hb : (g == k) = false := beq_eq_false_iff_ne.mpr h
        simp only [List.lookup, hb, if_neg (fun e : g = f => h (e.trans hk.symm))]
    · rw [if_neg hk]
      by_cases h : g = k
      · have hb : (g == k) = true := beq_iff_eq.mpr h
        simp only [List.lookup, hb, if_neg (fun e : g = f => hk (h.symm.trans e))]
      · have hb : (g == k) = false := beq_eq_false_iff_ne.mpr h
        simp only [List.lookup, hb]
        exact ih
theorem keys_putF (f : Str) (v : V) : ∀ fs : List (Str × V), f ∈ (putF f v fs).map (·.1) ∧ ∀ g, g ∈ fs.map (·.1) → g ∈ (putF f v fs).map (·.1)
  | [] => ⟨by simp [putF], fun g h => by simp at h⟩
  | (k, x) :: r => by
    obtain ⟨i1, i2⟩ := keys_putF f v r
    rw [show putF f v ((k, x) :: r) = (if k = f then (k, v) :: r else (k, x) :: putF f v r) from rfl]
    by_cases hk : k = f
    · rw [if_pos hk]
      subst hk
      exact ⟨by simp, fun g h => by simpa using h⟩
    · rw [if_neg hk]
      refine ⟨?_, fun g h => ?_⟩
      · rw [List.map_cons]
        exact List.mem_cons_of_mem _ i1
      · rw [List.map_cons] at h ⊢
        rcases List.mem_cons.mp h with e | e
        · exact List.mem_cons.mpr (.inl e)
        · exact List.mem_cons_of_mem _ (i2 g e)
theorem length_putF (f : Str) (v : V) : ∀ fs : List (Str × V), (putF f v fs).length ≤ fs.length + 1
  | [] => by simp [putF]
  | (k, x) :: r => by
    have ih := length_putF f v r
    rw [show putF f v ((k, x) :: r) = (if k = f then (k, v) :: r else (k, x) :: putF f v r) from rfl]
    by_cases hk : k = f
    · rw [if_pos hk, List.length_cons, List.length_cons]; omega
    · rw [if_neg hk, List.length_cons, List.length_cons]; omega

theorem RelO.some_of {v : V} {o : Option Value} (r : RelO (some v) o) : ∃ u, o = some u ∧ RelV v u := by
  cases o with
  | none => exact (show False from r).elim
  | some u => exact ⟨u, rfl, r⟩
theorem RelO.none_of {o : Option Value} (r : RelO none o) : o = none := by
  cases o with
  | none => rfl
  | some u => exact (show False from r).elim
theorem handed_of {v : V} {u : Value} (r : RelV v u) : PySem.W.handedIn u = true := by
  cases v with
  | non => cases (show u = Value.none from r); rfl
  | bl b => cases (show u = Value.bool b from r); rfl
  | int i => obtain ⟨t, e⟩ := (show ∃ t, u = Value.int i t from r); cases e; rfl
  | str x => obtain ⟨t, e⟩ := (show ∃ t, u = Value.str x t from r); cases e; rfl
  | byt b => obtain ⟨t, e⟩ := (show ∃ t, u = Value.bytes b t from r); cases e; rfl
  | flt b => obtain ⟨t, e⟩ := (show ∃ t, u = Value.float b t from r); cases e; rfl
  | ref a => cases (show u = Value.ref a from r); rfl
  | ty n => cases (show u = Value.type n from r); rfl

section
variable {P : Program} {w : World} {H H' : Hp} {h h' : Heap} {a C dx : Addr} {fs fs' : List (Str × V)}
theorem ins_get (hok : HOk P w H h) (e : H a = some (.ins C dx fs)) : ∃ mA, ObjM h a dx C mA ∧ (∀ f, RelO (fs.lookup f) (mA f)) ∧ PySem.Within mA (fs.map (·.1)) ∧ fs.length ≤ 1000 ∧ H dx = some (.own a) := by
  obtain ⟨d, z, ne, ob, mA, n, r, q⟩ := (show ObjOk P w H h a (.ins C dx fs) from hok a _ e)
  exact ⟨mA, ⟨ob, n, ne⟩, r, q, z, d⟩
end

/-! ### what of the text a class must have -/
structure Cls (K : PySem.W.Frag) (C : Addr) : Prop where
  pg : PySem.W.plainGet K C Str.empty = true
  hd : PySem.W.hasDictIn K C = true
  po : PySem.W.plainOver K C = true
  sa : PySem.W.findIn K (.ref C) "__setattr__" = some (some (.builtin "object.__setattr__"))
theorem Cls.get {K : PySem.W.Frag} {C : Addr} (c : Cls K C) (f : Str) : PySem.W.plainGet K C f = true := c.pg
/-- no class of it has the name -/
def NoAttr (K : PySem.W.Frag) (C : Addr) (f : Str) : Prop := PySem.W.findIn K (.ref C) f = some none
theorem NoAttr.taker {K : PySem.W.Frag} {C : Addr} {f : Str} (n : NoAttr K C f) : PySem.W.takerIn K C f = some none := by
  unfold PySem.W.takerIn
  rw [show PySem.W.findIn K (.ref C) f = some none from n]
  rfl
/-- a method: a plain def of the class or of one above it -/
structure Meth (K : PySem.W.Frag) (C : Addr) (m : Str) (f : Addr) : Prop where
  at_ : PySem.W.findIn K (.ref C) m = some (some (.ref f))
  fn : PySem.W.isFn K (.ref f) = true
  kp : PySem.W.keepIn K (.ref f) = true

section
variable {X : Cx} {pins : List (Addr × Obj)} {σ : St} {H : Hp} {s : Shared} {a C dx : Addr} {fs : List (Str × V)} {f : Str} {v : V} {A : Around} {E : Value → Shared → Prop}

theorem getattr_ok {b : Bool} {Q : Value → Shared → Prop} (I : Inv X pins σ H s) (e : H a = some (.ins C dx fs)) (c : Cls X.K C) (n : NoAttr X.K C f) (l : fs.lookup f = some v)
    (h : ∀ u s', Inv X pins σ H s' → RelV v u → Q u s') : wpAny (model X.prog X.w) A (getAttr (.ref a) f b) Q E s := by
  obtain ⟨mA, O, r, _, _, _⟩ := ins_get I.hok e
  obtain ⟨u, hu, ru⟩ := RelO.some_of (v := v) (o := mA f) (by rw [← l]; exact r f)
  exact get_map I.kIn O (c.get f) c.hd n hu (handed_of ru) (h u _ (I.tok _) ru)

theorem getmeth_ok {m : Str} {g : Addr} {pl : Sem Bool} {Q : Value × List Value → Shared → Prop} (I : Inv X pins σ H s) (e : H a = some (.ins C dx fs)) (c : Cls X.K C) (k : Meth X.K C m g) (l : fs.lookup m = none)
    (h : Q (.ref g, [.ref a]) s) : wpAny (model X.prog X.w) A (getMethod (.ref a) m pl) Q E s := by
  obtain ⟨mA, O, r, _, _, _⟩ := ins_get I.hok e
  have hn : mA m = none := RelO.none_of (by rw [← l]; exact r m)
  exact get_meth I.kIn O (c.get m) k.at_ k.fn hn h

theorem setattr_ok {y : V} {u : Value} {Q : Unit → Shared → Prop} (I : Inv X pins σ H s) (e : H a = some (.ins C dx fs)) (c : Cls X.K C) (n : NoAttr X.K C f) (hl : fs.length < 1000) (ry : RelV y u)
    (h : ∀ s', Inv X pins σ (upd H a (.ins C dx (putF f y fs))) s' → Q () s') : wpAny (model X.prog X.w) A (setAttr (.ref a) f u) Q E s := by
  obtain ⟨mA, O, r, wi, _, ho⟩ := ins_get I.hok e
  have hz : (fs.map (·.1)).length ≤ sizeLine := by rw [List.length_map, sizeLine_eq]; omega
  refine set_map I.kIn O c.sa c.po n.taker c.hd wi hz fun h' O' sb => h _ ?_
  have hd : ∃ o, h'.get? dx = some o := let ⟨o, _, _, e', _⟩ := O'.ns; ⟨o, e'⟩
  refine I.write (x := a) (e := dx) (by rw [e]; exact True.intro) (.inr ho) (fun b q hb z => (sb.2 b hb).trans z) hd ?_
  refine ⟨by rw [upd_ne O.ne]; exact ho, ?_, O.ne, O'.obj, _, O'.ns, fun g => ?_, fun g hg => ?_⟩
  · have := length_putF f y fs; omega
  · show RelO ((putF f y fs).lookup g) (if g = f then some u else mA g)
    rw [lookup_putF]
    by_cases q : g = f
    · rw [if_pos q, if_pos q]; exact ry
    · rw [if_neg q, if_neg q]; exact r g
  · by_cases q : g = f
    · rw [q]; exact (keys_putF f y fs).1
    · refine (keys_putF f y fs).2 g (wi g fun z => hg ?_)
      show (if g = f then some u else mA g) = none
      rw [if_neg q]; exact z

/-- a new instance, tracked, without attributes -/
theorem Inv.made (I : Inv X pins σ H s) : Inv X pins σ (upd (upd H s.heap.objs.size (.own (s.heap.objs.size + 1))) (s.heap.objs.size + 1) (.ins C s.heap.objs.size []))
    { s with heap := (s.heap.push PySem.W.emptyDict).push (PySem.W.instObj C s.heap.objs.size) } := by
  have e1 : (s.heap.push PySem.W.emptyDict).get? s.heap.objs.size = some PySem.W.emptyDict := Heap.get?_push_size s.heap rfl
  have e2 : ((s.heap.push PySem.W.emptyDict).push (PySem.W.instObj C s.heap.objs.size)).get? (s.heap.objs.size + 1) = some (PySem.W.instObj C s.heap.objs.size) := by
    have := Heap.get?_push_size (s.heap.push PySem.W.emptyDict) (o := PySem.W.instObj C s.heap.objs.size) rfl
    rwa [Heap.size_push] at this
  have e3 : (s.heap.push PySem.W.emptyDict).Ns s.heap.objs.size (fun _ => none) := ⟨PySem.W.emptyDict, #[], _, e1, rfl, (fun e he => absurd he (by simp)), fun _ => rfl⟩
  have I1 := I.laid (a := s.heap.objs.size) (o := .own (s.heap.objs.size + 1)) (h' := s.heap.push PySem.W.emptyDict) (t' := s.toks) (fun b u q => Heap.get?_push_of_some _ q) (Nat.le_refl _) ⟨_, e1⟩
  refine I1.laid (a := s.heap.objs.size + 1) (o := .ins C s.heap.objs.size []) (t' := s.toks) (fun b u q => Heap.get?_push_of_some _ q) (Nat.le_of_eq (Heap.size_push _ _)) ?_
  have ne : s.heap.objs.size ≠ s.heap.objs.size + 1 := Nat.ne_of_lt (Nat.lt_succ_self _)
  refine ⟨by rw [upd_ne ne, upd_same], Nat.zero_le _, ne, e2, fun _ => none, (Heap.Ns1.of_empty e3).at fun o q => Heap.get?_push_of_some _ q, fun _ => True.intro, fun y hy => absurd rfl hy⟩

/-- e.f where nothing but the object is asked: through attributeBase (super) and the last hold -/
theorem attr_of {prog : Program} {w : World} {env : Env} {e : Expr} {f : Str} {pos : Pos} {s : Shared} {Q : Value → Shared → Prop} (hb : attributeBase e f env (eval e env) = eval e env)
    (h : wpAny (model prog w) A (eval e env) (fun o s₁ => wpAny (model prog w) A (getAttr o f true) Q E s₁) E s) : wpAny (model prog w) A (eval (.Attribute e f pos) env) Q E s :=
  Attribute_any_ h (by rw [arm_eval_Attribute, hb])
end

/-! ### readings and rules -/
/-- e.f, an attribute of the instance -/
def tFld (K : PySem.W.Frag) (ta : TE) (f : Str) : TE := fun σ H Q => ta σ H fun x H1 => ∃ a C dx fs v, x = .ref a ∧ H1 a = some (.ins C dx fs) ∧ Cls K C ∧ NoAttr K C f ∧ fs.lookup f = some v ∧ Q v H1
/-- e.f = value -/
def sFld (K : PySem.W.Frag) (ta tv : TE) (f : Str) : TS := fun D σ H => tv σ H fun y H1 => ta σ H1 fun x H2 => ∃ a C dx fs, x = .ref a ∧ H2 a = some (.ins C dx fs) ∧ Cls K C ∧ NoAttr K C f ∧ fs.length < 1000 ∧
  D.nx σ (upd H2 a (.ins C dx (putF f y fs)))
section
variable {X : Cx} {o e value : Expr} {f : Str} {pos pos' tpos : Pos} {ta tv : TE}
theorem pe_fld (he : PE X e ta) (hb : attributeBase e f X.env (eval e X.env) = eval e X.env) : PE X (.Attribute e f pos) (tFld X.K ta f) := by
  intro pins s σ H Q I h
  refine attr_of hb (thn (he pins s σ H _ I h) fun u s1 ⟨x, H1, I1, rx, a, C, dx, fs, v, ex, ea, c, n, l, q⟩ => ?_)
  subst ex
  obtain rfl : u = Value.ref a := rx
  exact getattr_ok I1 ea c n l fun u' s2 I2 ru => ⟨v, H1, I2, ru, q⟩
theorem ps_fld (ha : PE X o ta) (hv : PE X value tv) (hs : swapsWith value (some (.Attribute o f pos')) pos.line X.env = pure false) : PS X (.Assign [.Attribute o f pos'] value pos) (sFld X.K ta tv f) := by
  intro pins s σ H D I h
  refine plainObj_wpAny_Assign_Attribute (thn (hv pins s σ H _ I h) fun u s1 ⟨y, H1, I1, ry, q⟩ => thn (ha pins s1 σ H1 _ I1 q) fun ov s2 ⟨x, H2, I2, rx, a, C, dx, fs, ex, ea, c, n, l, q2⟩ => ?_) hs
  subst ex
  obtain rfl : ov = Value.ref a := rx
  exact setattr_ok I2 ea c n l ry fun s3 I3 => ⟨σ, _, I3, q2⟩
/-- what is between an instance and its method: the tree of a method call -/
theorem methcall_of {pl : Sem Bool} {m : Str} {apos : Pos} {args : List Expr} {pins : List (Addr × Obj)} {s : Shared} {σ : St} {H : Hp} {Q : Value → Shared → Prop} {te : TE} (he : PE X e te) (I : Inv X pins σ H s)
    (h : te σ H fun x H1 => ∃ a C dx fs g, x = .ref a ∧ H1 a = some (.ins C dx fs) ∧ Cls X.K C ∧ Meth X.K C m g ∧ fs.lookup m = none ∧
      ∀ s1, Inv X pins σ H1 s1 → wpAny (model X.prog X.w) X.A (callWith pos (.ref g) [.ref a] (backTo pos (starEach args X.env)) (backToKw pos (keywordEach [] X.env))) Q X.xe s1)
    (ht : eval (.Call (.Attribute e m apos) args [] pos) X.env = (do
      let ov ← eval e X.env
      standAt apos.atName
      let (f, first) ← holding [ov] (getMethod ov m pl)
      callWith pos f first (backTo pos (starEach args X.env)) (backToKw pos (keywordEach [] X.env)))) :
    wpAny (model X.prog X.w) X.A (eval (.Call (.Attribute e m apos) args [] pos) X.env) Q X.xe s := by
  refine PySem.W.methodCall_KW (pl := pl) (thn (he pins s σ H _ I h) fun u s1 ⟨x, H1, I1, rx, a, C, dx, fs, g, ex, ea, c, k, l, q⟩ => ?_) ht
  subst ex
  obtain rfl : u = Value.ref a := rx
  exact getmeth_ok I1 ea c k l (q s1 I1)
end

/-! ### isinstance -/
section
variable {X : Cx} {pins : List (Addr × Obj)} {σ : St} {H : Hp} {s : Shared} {A : Around} {E : Value → Shared → Prop} {Q : Value → Shared → Prop} {c : Value} {b : Bool}
end
end L2

namespace L2
open PySem PySem.Spec PyProof.Rows

/-! ### room -/
structure Room (k : Nat) (A : Around) : Prop where
  hd : A.handled = none
  dp : A.depth + 3 * k + 5 < recursionLimit
  un : A.units + 16 * k + 200 < cLine
theorem Room.mono {j k : Nat} {A : Around} (r : Room k A) (h : j ≤ k) : Room j A := ⟨r.hd, by have := r.dp; omega, by have := r.un; omega⟩
theorem Room.deeper {k : Nat} {A : Around} (r : Room (k + 1) A) (env : Env) : Room k (A.deeper env) :=
  ⟨r.hd, by have := r.dp; show A.depth + 1 + 3 * k + 5 < _; omega, by have := r.un; show A.units + 3 + 16 * k + 200 < _; omega⟩
theorem make_depth {A : Around} {C : Addr} {us : List Value} {kw : List (Str × Value)} : (A.under (.builtin "type.__call__" ⟨.ref C :: us, kw⟩)).depth = A.depth + 1 := by
  first | rfl | simp [Around.under, Code.weight, Code.isCreation, Code.isGuard, Code.isCaller, Code.frames, Code.isFrame, guardIds]
theorem make_units {A : Around} {C : Addr} {us : List Value} {kw : List (Str × Value)} : (A.under (.builtin "type.__call__" ⟨.ref C :: us, kw⟩)).units = A.units + 1 := by
  first | rfl | simp [Around.under, Code.cUnits, Code.frames, Code.isFrame]
theorem Room.make {k : Nat} {A : Around} (r : Room (k + 1) A) (C : Addr) (us : List Value) (kw : List (Str × Value)) : Room k (A.under (.builtin "type.__call__" ⟨.ref C :: us, kw⟩)) :=
  ⟨r.hd, by have := r.dp; rw [make_depth]; omega, by have := r.un; rw [make_units]; omega⟩
theorem Room.depth {k : Nat} {A : Around} (r : Room k A) : A.depth < recursionLimit := by have := r.dp; omega
theorem Room.units {k : Nat} {A : Around} (r : Room k A) : A.units + 64 < cLine := by have := r.un; omega
/-! ### argument lists and displays -/
def tNil : TA := fun _ H Q => Q [] H
def tCons (ta : TE) (tr : TA) : TA := fun σ H Q => ta σ H fun x H1 => tr σ H1 fun xs H2 => Q (x :: xs) H2
section
variable {X : Cx} {e : Expr} {es : List Expr} {te : TE} {t : TA} {pos : Pos}
theorem pa_nil : PA X [] tNil := fun _ _ _ _ H Q I h => Calls.spliced_nil ⟨[], H, I, .nil, h⟩
theorem pa_cons (ha : PE X e te) (hr : PA X es t) (hs : starEach (e :: es) X.env = (false, eval e X.env) :: starEach es X.env := by rfl) : PA X (e :: es) (tCons te t) := by
  intro pos pins s σ H Q I h
  rw [hs]
  show wpAny _ _ (spliced ((false, eval e X.env) :: backTo pos (starEach es X.env))) _ _ s
  refine Calls.spliced_cons (thn (ha pins s σ H _ I h) fun u s1 ⟨x, H1, I1, r1, q1⟩ => ?_)
  exact thn (hr pos pins s1 σ H1 _ I1 q1) fun us s2 ⟨xs, H2, I2, r2, q2⟩ => ⟨x :: xs, H2, I2, .cons r1 r2, q2⟩

/-- a tuple, a list of written items -/
def tTup (t : TA) : TE := fun σ H Q => t σ H fun xs H1 => xs.length ≤ sizeLine ∧ ∀ p, H1 p = none → Q (.ref p) (upd H1 p (.tup xs))
def tLst (t : TA) : TE := fun σ H Q => t σ H fun xs H1 => xs.length ≤ sizeLine ∧ ∀ p, H1 p = none → Q (.ref p) (upd H1 p (.lst xs))
theorem pe_tup {x1} (h : PA X es t) : PE X (.Tuple es x1 pos) (tTup t) := by
  intro pins s σ H Q I hq
  refine wpAny_Tuple_spliced (thn (h pos pins s σ H _ I hq) fun us s1 ⟨xs, H1, I1, r, z, q⟩ => ⟨by rw [← r.length]; exact z, ?_⟩)
  have hf : H1 s1.heap.objs.size = none := I1.hok.fresh (Nat.le_refl _)
  refine ⟨.ref s1.heap.objs.size, upd H1 s1.heap.objs.size (.tup xs), I1.laid (t' := s1.toks) (fun b u e => Heap.get?_push_of_some _ e) (Nat.le_refl _) ?_, rfl, q _ hf⟩
  exact ⟨z, us, r, ⟨_, Heap.get?_push_size _ rfl, rfl, _, rfl⟩⟩
theorem pe_lst (h : PA X es t) : PE X (.List es pos) (tLst t) := by
  intro pins s σ H Q I hq
  refine wpAny_List_spliced (thn (h pos pins s σ H _ I hq) fun us s1 ⟨xs, H1, I1, r, z, q⟩ => ⟨by rw [← r.length]; exact z, ?_⟩)
  have hf : H1 s1.heap.objs.size = none := I1.hok.fresh (Nat.le_refl _)
  refine ⟨.ref s1.heap.objs.size, upd H1 s1.heap.objs.size (.lst xs), I1.laid (t' := s1.toks) (fun b u e => Heap.get?_push_of_some _ e) (Nat.le_refl _) ?_, rfl, q _ hf⟩
  exact ⟨z, us, 0, r, Heap.get?_push_size _ rfl⟩
end

/-! ### what a def promises -/
/-- a def's promise: the bound arguments in the parameters' order, the heap, the wanted end, the wanted exception -/
abbrev Sp := List V → Hp → VK → XK → Prop
/-- how an exception lies behind a call (file 08 gives it): the callers' frames, abstract heap and state ahead of the call, the wish, the exception, the state -/
abbrev CXT := List Env → Hp → Shared → XK → Value → Shared → Prop

/-- the state at a call -/
structure Env0 (P : Program) (w : World) (K : PySem.W.Frag) (mg : Str → Option Value) (base : Heap) (A : Around) (outer : List Env) (s : Shared) (H : Hp) : Prop where
  frames : A.frames = some outer
  mod : Mod K mg base
  bs : ∀ b o, base.get? b = some o → s.heap.get? b = some o ∧ H b = none
  bsz : base.objs.size ≤ s.heap.objs.size
  funs : s.heap.FunFrames base outer
  frf : ∀ b ∈ frs outer, H b = none
  hok : HOk P w H s.heap
  bare : AllBare s.gens
/-- a call's end -/
def CE (outer : List Env) (P : Program) (w : World) (H : Hp) (s : Shared) (Q : VK) (u : Value) (s' : Shared) : Prop :=
  ∃ v H', s'.os = s.os ∧ AllBare s'.gens ∧ Un (frs outer) [] H H' s.heap s'.heap ∧ HOk P w H' s'.heap ∧ RelV v u ∧ Q v H'
def CR (CX : CXT) (outer : List Env) (P : Program) (w : World) (H : Hp) (s : Shared) (Q : VK) (E : XK) (r : Result) (s' : Shared) : Prop :=
  match r with
  | .ok (.ret u) => CE outer P w H s Q u s'
  | .ok _ => False
  | .error e => CX outer H s E e s'
structure FnOk (P : Program) (w : World) (K : PySem.W.Frag) (mg : Str → Option Value) (base : Heap) (CX : CXT) (k : Nat) (f : Addr) (fd : FuncData) (ps : List Str) (sp : Sp) : Prop where
  len : ∀ vs H Q E, sp vs H Q E → vs.length = ps.length
  run : ∀ (A : Around) (outer : List Env) (s : Shared) (H : Hp) (args : Args) (us : List Value) (vs : List V) (Q : VK) (E : XK), Room k A → Env0 P w K mg base A outer s H → BindsTo s fd args (ps.zip us) → Vals vs us → sp vs H Q E →
    codeAny (model P w) A (.call (.ref f) args) (CR CX outer P w H s Q E) s
theorem Env0.make {P : Program} {w : World} {K : PySem.W.Frag} {mg : Str → Option Value} {base : Heap} {A : Around} {outer : List Env} {s : Shared} {H : Hp} (e : Env0 P w K mg base A outer s H) (C : Addr) (us : List Value) (kw : List (Str × Value)) :
    Env0 P w K mg base (A.under (.builtin "type.__call__" ⟨.ref C :: us, kw⟩)) outer s H := ⟨by first | exact e.frames | (simpa [Around.under, Code.envs, Code.isFrame, pushEnvs] using e.frames), e.mod, e.bs, e.bsz, e.funs, e.frf, e.hok, e.bare⟩
section
variable {X : Cx} {pins : List (Addr × Obj)} {σ : St} {H : Hp} {s s' : Shared}
/-- from a body: what a callee wants -/
theorem Inv.env0 (I : Inv X pins σ H s) : Env0 X.prog X.w X.K X.mg X.base X.A X.stack s H :=
  ⟨I.ok.frames, I.ok.mod, I.bs, Nat.le_trans I.ok.bsz I.sz, I.stack, I.stkFree, I.hok, I.bare⟩
/-- behind a call -/
theorem Inv.after {Q : VK} {u : Value} (I : Inv X pins σ H s) (h : CE X.stack X.prog X.w H s Q u s') : EP X pins σ Q u s' := by
  obtain ⟨v, H', os, bare, un, hok, r, q⟩ := h
  obtain ⟨hh, g, d, t, os'⟩ := s'
  obtain rfl : os' = s.os := os
  exact ⟨v, H', I.call (h' := hh) (g' := g) (d' := d) (t' := t) (ch := []) un hok bare (fun b z => absurd z (by simp)), r, q⟩
end

/-! ### calls -/
/-- f(..): the written arguments, then the defaults dvs; E: what is wanted of an exception -/
def tCall (sp : Sp) (dvs : List V) (E : XK) (t : TA) : TE := fun σ H Q => t σ H fun vs H1 => sp (vs ++ dvs) H1 Q E
/-- o.m(..) of an instance of the class at C -/
def tMeth (C : Addr) (m : Str) (sp : Sp) (dvs : List V) (E : XK) (ta : TE) (t : TA) : TE := fun σ H Q => ta σ H fun x H1 => ∃ a dx fs, x = .ref a ∧ H1 a = some (.ins C dx fs) ∧ fs.lookup m = none ∧
  t σ H1 fun vs H2 => sp (x :: (vs ++ dvs)) H2 Q E
/-- C(..): a new instance and its dict, then __init__ -/
def tMake (C : Addr) (sp : Sp) (dvs : List V) (E : XK) (t : TA) : TE := fun σ H Q => t σ H fun vs H1 => ∀ x dx, H1 x = none → H1 dx = none → dx ≠ x →
  sp (.ref x :: (vs ++ dvs)) (upd (upd H1 dx (.own x)) x (.ins C dx [])) (fun v H2 => v = .non ∧ Q (.ref x) H2) E

/-- how the parameters are bound: us the positional arguments, kw the keywords' values by name, ds the defaults that fill up -/
def Binds (K : PySem.W.Frag) (fd : FuncData) (ps : List Str) (ds : List Value) : Prop :=
  ∀ (s : Shared) (us : List Value), K.In s.heap → (us ++ ds).length = ps.length → BindsTo s fd ⟨us, []⟩ (ps.zip (us ++ ds))
/-- every parameter is given -/
theorem Binds.all {K : PySem.W.Frag} {fd : FuncData} {ps : List Str} (h : ∀ us : List Value, us.length = ps.length → bindArgs fd ⟨us, []⟩ = pure (ps.zip us)) : Binds K fd ps [] := fun s us _ hl => by
  rw [List.append_nil] at hl ⊢
  exact .of_eq (h us hl)

/-- an exception of a callee reaches what this body wants of exceptions -/
def Passes (CX : CXT) (X : Cx) (E : XK) : Prop := ∀ (pins : List (Addr × Obj)) (σ : St) (H : Hp) (s : Shared) (e : Value) (s' : Shared), Inv X pins σ H s → CX X.stack H s E e s' → X.xe e s'

section
variable {X : Cx} {CX : CXT} {k : Nat} {f C : Addr} {fd : FuncData} {ps : List Str} {sp : Sp} {dvs : List V} {ds : List Value} {E : XK} {x m : Str} {p pos apos : Pos} {e o : Expr} {es : List Expr} {ta : TE} {t : TA}

/-- the callee runs -/
theorem run_fn {pins : List (Addr × Obj)} {σ : St} {H : Hp} {s : Shared} {Q : VK} {us : List Value} {vs : List V} (F : FnOk X.prog X.w X.K X.mg X.base CX k f fd ps sp) (hr : Room k X.A) (hb : Binds X.K fd ps ds) (hd : Vals dvs ds) (hx : Passes CX X E)
    (I : Inv X pins σ H s) (r : Vals vs us) (h : sp (vs ++ dvs) H Q E) : wpAny (model X.prog X.w) X.A (call (.ref f) us) (EP X pins σ Q) X.xe s := by
  have r2 : Vals (vs ++ dvs) (us ++ ds) := r.append hd
  have hl : (us ++ ds).length = ps.length := by rw [← r2.length]; exact F.len _ _ _ _ h
  refine wpAny_call (codeAny_mono (F.run X.A X.stack s H ⟨us, []⟩ (us ++ ds) (vs ++ dvs) Q E hr I.env0 (hb s us I.kIn hl) r2 h) fun r s' hq => ?_)
  cases r with
  | error e => exact hx pins σ H s e s' I hq
  | ok fl =>
    cases fl with
    | ret u => exact I.after hq
    | next => exact False.elim hq
    | brk => exact False.elim hq
    | cont => exact False.elim hq

theorem pe_call (F : FnOk X.prog X.w X.K X.mg X.base CX k f fd ps sp) (hr : Room k X.A) (hg : Gl X x) (hm : X.mg x = some (.ref f)) (hk : PySem.W.keepIn X.K (.ref f) = true) (hb : Binds X.K fd ps ds) (hd : Vals dvs ds) (hx : Passes CX X E)
    (ha : PA X (e :: es) t) (hdb : (x == ("__debug__" : Str)) = false := by decide) (he : starEach (e :: es) X.env = (false, eval e X.env) :: starEach es X.env := by rfl) (hpl : (backTo pos (starEach es X.env)).any (·.1) = false := by rfl) :
    PE X (.Call (.Name x p) (e :: es) [] pos) (tCall sp dvs E t) := by
  intro pins s σ H Q I h
  refine wpAny_Call_Name_kw (ld_glob I hg hm ?_ hdb)
  refine PySem.W.callWith_K (h₀ := X.base) I.ok.mod.kin hk (thn (ha pos pins s σ H _ I h) fun us s1 ⟨vs, H1, I1, r, q⟩ => ⟨I1.kIn, ?_⟩) he hpl
  exact run_fn F hr hb hd hx I1 r q
/-- o.m(e, ..) -/
theorem pe_meth {pl : Sem Bool} (he : PE X o ta) (c : Cls X.K C) (hm : Meth X.K C m f) (F : FnOk X.prog X.w X.K X.mg X.base CX k f fd ps sp) (hr : Room k X.A) (hb : Binds X.K fd ps ds) (hd : Vals dvs ds) (hx : Passes CX X E) (ha : PA X (e :: es) t)
    (hst : starEach (e :: es) X.env = (false, eval e X.env) :: starEach es X.env := by rfl) (hpl : (backTo pos (starEach es X.env)).any (·.1) = false := by rfl)
    (ht : eval (.Call (.Attribute o m apos) (e :: es) [] pos) X.env = (do
      let ov ← eval o X.env
      standAt apos.atName
      let (f, first) ← holding [ov] (getMethod ov m pl)
      callWith pos f first (backTo pos (starEach (e :: es) X.env)) (backToKw pos (keywordEach [] X.env))) := by rfl) :
    PE X (.Call (.Attribute o m apos) (e :: es) [] pos) (tMeth C m sp dvs E ta t) := by
  intro pins s σ H Q I h
  refine PySem.W.methodCall_KW (pl := pl) (thn (he pins s σ H _ I h) fun u s1 ⟨x, H1, I1, rx, a, dx, fs, ex, ea, l, q⟩ => ?_) ht
  subst ex
  obtain rfl : u = Value.ref a := rx
  refine getmeth_ok I1 ea c hm l ?_
  refine PySem.W.callWith_K (first := [.ref a]) (h₀ := X.base) I.ok.mod.kin hm.kp (thn (ha pos pins s1 σ H1 _ I1 q) fun us s2 ⟨vs, H2, I2, r, q2⟩ => ⟨I2.kIn, ?_⟩) hst hpl
  exact run_fn (us := .ref a :: us) (vs := .ref a :: vs) F hr hb hd hx I2 (.cons rfl r) q2
/-- o.m() -/
theorem pe_meth0 {pl : Sem Bool} (he : PE X o ta) (c : Cls X.K C) (hm : Meth X.K C m f) (F : FnOk X.prog X.w X.K X.mg X.base CX k f fd ps sp) (hr : Room k X.A) (hb : Binds X.K fd ps ds) (hd : Vals dvs ds) (hx : Passes CX X E)
    (ht : eval (.Call (.Attribute o m apos) [] [] pos) X.env = (do
      let ov ← eval o X.env
      standAt apos.atName
      let (f, first) ← holding [ov] (getMethod ov m pl)
      callWith pos f first (backTo pos (starEach [] X.env)) (backToKw pos (keywordEach [] X.env))) := by rfl) :
    PE X (.Call (.Attribute o m apos) [] [] pos) (tMeth C m sp dvs E ta tNil) := by
  intro pins s σ H Q I h
  refine PySem.W.methodCall_KW (pl := pl) (thn (he pins s σ H _ I h) fun u s1 ⟨x, H1, I1, rx, a, dx, fs, ex, ea, l, q⟩ => ?_) ht
  subst ex
  obtain rfl : u = Value.ref a := rx
  refine getmeth_ok I1 ea c hm l ?_
  exact PySem.W.callWith_K0 (first := [.ref a]) I1.kIn hm.kp (run_fn (us := [.ref a]) (vs := [.ref a]) F hr hb hd hx I1 (.cons rfl .nil) q)

/-- what a class must have to be made -/
structure Mk (K : PySem.W.Frag) (C f : Addr) : Prop where
  makes : PySem.W.makesIn K C = true
  init : PySem.W.findIn K (.ref C) "__init__" = some (some (.ref f))
  fn : PySem.W.isFn K (.ref f) = true
  kp : PySem.W.keepIn K (.ref C) = true

theorem run_make {pins : List (Addr × Obj)} {σ : St} {H : Hp} {s : Shared} {Q : VK} {us : List Value} {vs : List V} (M : Mk X.K C f) (F : FnOk X.prog X.w X.K X.mg X.base CX k f fd ps sp) (hr : Room (k + 1) X.A) (hb : Binds X.K fd ps ds) (hd : Vals dvs ds)
    (hx : Passes CX X E) (I : Inv X pins σ H s) (r : Vals vs us)
    (h : ∀ x dx, H x = none → H dx = none → dx ≠ x → sp (.ref x :: (vs ++ dvs)) (upd (upd H dx (.own x)) x (.ins C dx [])) (fun v H2 => v = .non ∧ Q (.ref x) H2) E) :
    wpAny (model X.prog X.w) X.A (call (.ref C) us) (EP X pins σ Q) X.xe s := by
  have hq := h (s.heap.objs.size + 1) s.heap.objs.size (I.hok.fresh (Nat.le_succ _)) (I.hok.fresh (Nat.le_refl _)) (Nat.ne_of_lt (Nat.lt_succ_self _))
  have I2 := Inv.made (C := C) I
  have r2 : Vals (V.ref (s.heap.objs.size + 1) :: (vs ++ dvs)) (Value.ref (s.heap.objs.size + 1) :: (us ++ ds)) := .cons rfl (r.append hd)
  have hl : (Value.ref (s.heap.objs.size + 1) :: us ++ ds).length = ps.length := by
    have e := r2.length
    rw [F.len _ _ _ _ hq] at e
    exact e.symm
  refine wpAny_call (make_map (f := f) I.kIn M.makes M.init (beq_iff_eq.mp M.fn) (codeAny_mono (F.run _ X.stack _ _ ⟨Value.ref (s.heap.objs.size + 1) :: us, []⟩ (Value.ref (s.heap.objs.size + 1) :: (us ++ ds)) _ _ E (hr.make C us [])
    (I2.env0.make C us []) (hb _ (Value.ref (s.heap.objs.size + 1) :: us) I2.kIn hl) r2 hq) fun r s' hq' => ?_))
  cases r with
  | error e => exact hx pins σ _ _ e s' I2 hq'
  | ok fl =>
    cases fl with
    | ret u =>
      obtain ⟨v, H', I3, rv, ev, q3⟩ := I2.after hq'
      subst ev
      exact ⟨rv, ⟨V.ref (s.heap.objs.size + 1), H', I3, rfl, q3⟩⟩
    | next => exact False.elim hq'
    | brk => exact False.elim hq'
    | cont => exact False.elim hq'
theorem pe_make (M : Mk X.K C f) (F : FnOk X.prog X.w X.K X.mg X.base CX k f fd ps sp) (hr : Room (k + 1) X.A) (hg : Gl X x) (hm : X.mg x = some (.ref C)) (hb : Binds X.K fd ps ds) (hd : Vals dvs ds) (hx : Passes CX X E)
    (ha : PA X (e :: es) t) (hdb : (x == ("__debug__" : Str)) = false := by decide) (he : starEach (e :: es) X.env = (false, eval e X.env) :: starEach es X.env := by rfl) (hpl : (backTo pos (starEach es X.env)).any (·.1) = false := by rfl) :
    PE X (.Call (.Name x p) (e :: es) [] pos) (tMake C sp dvs E t) := by
  intro pins s σ H Q I h
  refine wpAny_Call_Name_kw (ld_glob I hg hm ?_ hdb)
  refine PySem.W.callWith_K (h₀ := X.base) I.ok.mod.kin M.kp (thn (ha pos pins s σ H _ I h) fun us s1 ⟨vs, H1, I1, r, q⟩ => ⟨I1.kIn, ?_⟩) he hpl
  exact run_make M F hr hb hd hx I1 r q
end

/-! ### keywords -/
section
variable {X : Cx} {CX : CXT} {k : Nat} {f C : Addr} {fd : FuncData} {ps ks : List Str} {sp : Sp} {E : XK} {x m : Str} {p pos apos kpos : Pos} {e o : Expr} {es : List Expr} {kws : List Keyword} {te ta : TE} {t tk : TA} {nm : Option Str}
variable {g : List Value → List Value → List Value} {gV : List V → List V → List V}
end

/-! ### a def's body keeps its promise -/
/-- names: the parameters first -/
structure FnScope (N P : List Str) (sc : Scope) : Prop where
  kind : sc.kind = .function
  co : sc.isCoroutine = false
  gen : sc.isGenerator = false
  nd : N.Nodup
  pre : N.take P.length = P
  par : ∀ x ∈ P, sc.names.lookup x = some .local ∨ sc.names.lookup x = some .cell
  nofree : ∀ y ∈ sc.names, y.2 ≠ .free

theorem bindL_out {kindOf : Str → Option NameKind} {x : Str} : ∀ {binds : List (Str × Value)} {m : Str → Option Value}, (∀ v, (x, v) ∉ binds) → bindL kindOf binds m x = m x
  | [], _, _ => rfl
  | (n, v) :: r, m, h => by
    unfold bindL
    rw [bindL_out fun w hw => h w (List.mem_cons_of_mem _ hw)]
    split
    · have : x ≠ n := by rintro rfl; exact h v List.mem_cons_self
      simp [this]
    · rfl
theorem bindC_out {kindOf : Str → Option NameKind} {x : Str} : ∀ {binds : List (Str × Value)} {m : Str → Option Value}, (∀ v, (x, v) ∉ binds) → bindC kindOf binds m x = m x
  | [], _, _ => rfl
  | (n, v) :: r, m, h => by
    unfold bindC
    rw [bindC_out fun w hw => h w (List.mem_cons_of_mem _ hw)]
    split
    · rfl
    · have : x ≠ n := by rintro rfl; exact h v List.mem_cons_self
      simp [this]
theorem bindL_get {kindOf : Str → Option NameKind} {x : Str} {v : Value} : ∀ {P : List Str} {vs : List Value} {i : Nat} {m : Str → Option Value}, P.Nodup → P[i]? = some x → vs[i]? = some v → kindOf x = some .local →
    bindL kindOf (P.zip vs) m x = some v
  | [], _, _, _, _, h, _, _ => by simp at h
  | _ :: _, [], _, _, _, _, h, _ => by simp at h
  | p :: P, w :: vs, 0, m, nd, h1, h2, hk => by
    simp at h1 h2; subst h1; subst h2
    show bindL kindOf ((p, w) :: P.zip vs) m p = _
    unfold bindL
    rw [bindL_out fun v hv => (List.nodup_cons.mp nd).1 (List.of_mem_zip hv).1, if_pos hk]
    simp
  | p :: P, w :: vs, i + 1, m, nd, h1, h2, hk => by
    show bindL kindOf ((p, w) :: P.zip vs) m x = _
    unfold bindL
    exact bindL_get (i := i) (List.nodup_cons.mp nd).2 (by simpa using h1) (by simpa using h2) hk
theorem bindC_get {kindOf : Str → Option NameKind} {x : Str} {v : Value} : ∀ {P : List Str} {vs : List Value} {i : Nat} {m : Str → Option Value}, P.Nodup → P[i]? = some x → vs[i]? = some v → kindOf x ≠ some .local →
    bindC kindOf (P.zip vs) m x = some v
  | [], _, _, _, _, h, _, _ => by simp at h
  | _ :: _, [], _, _, _, _, h, _ => by simp at h
  | p :: P, w :: vs, 0, m, nd, h1, h2, hk => by
    simp at h1 h2; subst h1; subst h2
    show bindC kindOf ((p, w) :: P.zip vs) m p = _
    unfold bindC
    rw [bindC_out fun v hv => (List.nodup_cons.mp nd).1 (List.of_mem_zip hv).1, if_neg hk]
    simp
  | p :: P, w :: vs, i + 1, m, nd, h1, h2, hk => by
    show bindC kindOf ((p, w) :: P.zip vs) m x = _
    unfold bindC
    exact bindC_get (i := i) (List.nodup_cons.mp nd).2 (by simpa using h1) (by simpa using h2) hk

/-- the names' values at the entry -/
def start (N : List Str) (vs : List V) : St := vs.map some ++ List.replicate (N.length - vs.length) none

/-- the context of a def's body, at its entry; an exception leaves the frame, then lies as CX says -/
def cxOf (CX : CXT) (P : Program) (w : World) (K : PySem.W.Frag) (mg : Str → Option Value) (base : Heap) (N : List Str) (qual : Str) (scope : Scope) (f : Addr) (cd : Value) (A : Around) (outer : List Env) (s : Shared) (H : Hp) (E : XK) : Cx where
  prog := P
  w := w
  K := K
  mg := mg
  base := base
  A := A.deeper (envOfC qual scope s.heap.objs.size f cd)
  N := N
  s₀ := s
  H₀ := H
  env := envOfC qual scope s.heap.objs.size f cd
  outer := outer
  stack := envOfC qual scope s.heap.objs.size f cd :: outer
  ex := []
  calm := true
  fn := fun _ => true
  pn := []
  xe := fun e s' => wpAny (model P w) (A.deeper (envOfC qual scope s.heap.objs.size f cd)) (leaving (envOfC qual scope s.heap.objs.size f cd) e) (fun _ s'' => CX outer H s E e s'') (fun e' s'' => CX outer H s E e' s'') s'

theorem cell_has {sc : Scope} {n : Nat} {x : Str} (h : sc.names.lookup x = some .cell) : ∃ c, (cellsFrom n sc.names []).lookup x = some c := by
  have q := PySem.W.cellsFrom_some sc.names n [] (.inl h)
  exact Option.isSome_iff_exists.mp q

theorem inv_start {CX : CXT} {P : Program} {w : World} {K : PySem.W.Frag} {mg : Str → Option Value} {base : Heap} {N ps : List Str} {qual : Str} {scope : Scope} {f : Addr} {cd : Value} {A : Around} {outer : List Env} {s s1 : Shared} {H : Hp} {E : XK} {us : List Value} {vs : List V}
    (S : FnScope N ps scope) (hd : A.handled = none) (e0 : Env0 P w K mg base A outer s H) (hl : vs.length = ps.length) (r : Vals vs us)
    (x : InCallC s s.heap.objs.size (bindL (envOfC qual scope s.heap.objs.size f cd).kindOf (ps.zip us) fun _ => none) (cellsFrom (s.heap.objs.size + 1) scope.names []) (bindC (envOfC qual scope s.heap.objs.size f cd).kindOf (ps.zip us) fun _ => none) s1) :
    Inv (cxOf CX P w K mg base N qual scope f cd A outer s H E) [] (start N vs) H s1 := by
  have hpl : ps.length ≤ N.length := by have := congrArg List.length S.pre; rw [List.length_take] at this; omega
  obtain ⟨h1, tk, rfl, hk⟩ := x.done
  have noA : ∀ b : Addr, b ∉ (cxOf CX P w K mg base N qual scope f cd A outer s H E).ex := fun b z => absurd (show b ∈ ([] : List Addr) from z) (by simp)
  refine ⟨⟨e0.mod, S.kind, rfl, rfl, Nat.le_refl _, fun y z c h1 h2 => ?_, fun y hy => ?_, fun y c _ h => ?_, fun _ => hd, Around.frames_deeper e0.frames, .inr ⟨rfl, rfl⟩, fun b z => absurd z (noA b), e0.bs, e0.bsz, fun b _ _ => noA b, fun b z => absurd z (noA b), e0.funs, e0.frf⟩,
    rfl, e0.bare, Un.kept hk, ⟨_, x.toInCall.ns, fun i y v h1 h2 h3 => ?_⟩, fun y c h => ⟨_, x.cell y c h⟩, e0.hok.fresh (Nat.le_refl _), fun y c h => ?_, fun p hp => absurd (show p ∈ ([] : List (Addr × Obj)) from hp) (by simp), e0.hok.kept hk, ?_⟩
  · exact name_of_addr x.apart (PySem.mem_of_lookup h1) (PySem.mem_of_lookup h2)
  · have hy : scope.names.lookup y = some .cell ∨ scope.names.lookup y = some .free := hy
    rcases hy with hy | hy
    · exact cell_has hy
    · exact absurd rfl (S.nofree _ (PySem.mem_of_lookup hy))
  · exact Nat.le_of_lt (x.above y c (PySem.mem_of_lookup h))
  · have hi : i < vs.length := by
      unfold start at h2
      by_cases hi : i < vs.length
      · exact hi
      · rw [List.getElem?_append_right (by simpa using hi)] at h2
        rw [List.getElem?_replicate] at h2
        split at h2 <;> cases h2
    have ha : vs[i]? = some v := by
      unfold start at h2
      rw [List.getElem?_append_left (by simpa using hi), List.getElem?_map] at h2
      cases e : vs[i]? with
      | none => rw [e] at h2; cases h2
      | some a => rw [e] at h2; cases h2; rfl
    obtain ⟨u, hu, rv⟩ := r.get ha
    have hp : ps[i]? = some y := by
      rw [← S.pre, List.getElem?_take_of_lt (by omega)]; exact h1
    have ndP : ps.Nodup := by rw [← S.pre]; exact S.nd.sublist (List.take_sublist _ _)
    refine ⟨u, rv, ?_⟩
    rcases S.par y (List.mem_of_getElem? hp) with k | k
    · exact .inl ⟨k, bindL_get ndP hp hu k⟩
    · obtain ⟨c, e⟩ := cell_has (n := s.heap.objs.size + 1) k
      refine .inr ⟨.inl k, c, e, ?_⟩
      have q := x.cell y c e
      rw [bindC_get ndP hp hu (by show scope.names.lookup y ≠ _; rw [k]; decide)] at q
      exact q
  · exact e0.hok.fresh (Nat.le_of_lt (x.above y c (PySem.mem_of_lookup h)))
  · unfold start
    show _ = N.length
    rw [List.length_append, List.length_map, List.length_replicate]
    omega

/-- THE RULE: a def (or a method) of the text, by its body. The body's reading t is chosen for each entry; it is run at the parameters' values -/
theorem fn_of {CX : CXT} {P : Program} {w : World} {K : PySem.W.Frag} {mg : Str → Option Value} {base : Heap} {k : Nat} {f : Addr} {name qual : Str} {params : Arguments} {body : List Stmt} {scope : Scope} {dV kV doc pm cdv ct oc : Value} {an od : Option Addr}
    {osl : Array (Option Value)} {N ps : List Str} {sp : Sp} (lk : K.lookup f = some ⟨oc, od, .func (PySem.W.fnOf name qual params body scope dV kV doc pm an cdv ct), osl⟩) (hcd : PySem.W.codeIn K cdv qual = true) (S : FnScope N ps scope)
    (len : ∀ vs H Q E, sp vs H Q E → vs.length = ps.length)
    (hbody : ∀ (A : Around) (outer : List Env) (s : Shared) (H : Hp) (vs : List V) (Q : VK) (E : XK), Room k (A.deeper (envOfC qual scope s.heap.objs.size f cdv)) → sp vs H Q E →
      ∃ t, PSs (cxOf CX P w K mg base N qual scope f cdv A outer s H E) body t ∧ t { nx := fun _ H' => Q .non H', rt := Q } (start N vs) H) :
    FnOk P w K mg base CX (k + 1) f (PySem.W.fnOf name qual params body scope dV kV doc pm an cdv ct) ps sp := by
  refine ⟨len, fun A outer s H args us vs Q E hr e0 hb r hsp => ?_⟩
  have hl := len _ _ _ _ hsp
  have KX : K.In s.heap := e0.mod.kin.keeps fun b o e => (e0.bs b o e).1
  have lim : s.heap.NoLimit := e0.mod.nolimit.keeps fun b o e => (e0.bs b o e).1
  have hkind : ∀ y ∈ ps.zip us, scope.names.lookup y.1 = some .local ∨ (scope.names.lookup y.1 = some .cell ∧ ((cellsFrom (s.heap.objs.size + 1) scope.names []).lookup y.1).isSome = true) := fun ⟨n, v⟩ hy => by
    rcases S.par n (List.of_mem_zip hy).1 with q | q
    · exact .inl q
    · exact .inr ⟨q, PySem.W.cellsFrom_some _ _ _ (.inl q)⟩
  refine codeAny_call_function hr.depth (KX _ _ lk) rfl S.co S.gen rfl (PySem.W.codeRec_of KX hcd) (hb _ _ _ _ ?_)
  refine wpAny_newFunctionEnv_cells S.kind hkind fun env he s1 x => ?_
  subst he
  refine ⟨lim.keeps x.toInCall.keep, codeAny_func ?_⟩
  obtain ⟨t, ht, hq⟩ := hbody A outer s H vs Q E (hr.deeper _) hsp
  have I : Inv (cxOf CX P w K mg base N qual scope f cdv A outer s H E) [] (start N vs) H s1 := inv_start S hr.hd e0 hl r x
  refine wpAny_mono (ht [] s1 (start N vs) H _ I hq) (fun fl s' hs => ?_) fun e s' hs => hs
  have fin : ∀ {σ' : St} {H' : Hp} {v : V} {u : Value}, Inv (cxOf CX P w K mg base N qual scope f cdv A outer s H E) [] σ' H' s' → RelV v u → Q v H' → CE outer P w H s Q u s' :=
    fun {σ' H' v u} J rv q => ⟨v, H', J.os, J.bare, J.base, J.hok, rv, q⟩
  cases fl with
  | ret u =>
    obtain ⟨v, σ', H', J, rv, q⟩ := hs
    exact fin J rv q
  | next =>
    obtain ⟨σ', H', J, q⟩ := hs
    exact fin (v := V.non) (u := Value.none) J rfl q
  | brk =>
    obtain ⟨_, _, _, q⟩ := hs
    exact False.elim q
  | cont =>
    obtain ⟨_, _, _, q⟩ := hs
    exact False.elim q
end L2

namespace L2
open PySem PySem.Spec PyProof.Rows
section
variable {X : Cx} {x : Str} {p pos : Pos} {e : Expr} {es : List Expr} {t : TA} {id T : String} {r : List V → Hp → VK → Prop}

def tCB (r : List V → Hp → VK → Prop) (t : TA) : TE := fun σ H Q => t σ H fun vs H1 => r vs H1 Q
/-- f(e, ..), f a built-in function -/
theorem pe_callB (hc : CallR X (.builtin id) r) (hg : Gl X x) (hm : X.mg x = none) (hv : bootBuiltins x = some (.builtin id)) (ha : PA X (e :: es) t) (hn : x ≠ "__name__" := by decide) (hdb : (x == ("__debug__" : Str)) = false := by decide)
    (he : starEach (e :: es) X.env = (false, eval e X.env) :: starEach es X.env := by rfl) (hpl : (backTo pos (starEach es X.env)).any (·.1) = false := by rfl) : PE X (.Call (.Name x p) (e :: es) [] pos) (tCB r t) := by
  intro pins s σ H Q I h
  refine wpAny_Call_Name_kw (ld_blt I hg hm hv ?_ hn hdb)
  exact PyProof.Rows.callWith_builtin1 (thn (ha pos pins s σ H _ I h) fun us s1 ⟨vs, H1, I1, r1, q1⟩ => hc pins s1 σ H1 vs us Q I1 r1 q1) he hpl
/-- T(e, ..), T a built-in type -/
theorem pe_callTy (hc : CallR X (.type T) r) (hg : Gl X x) (hm : X.mg x = none) (hv : bootBuiltins x = some (.type T)) (ha : PA X (e :: es) t) (hn : x ≠ "__name__" := by decide) (hdb : (x == ("__debug__" : Str)) = false := by decide)
    (he : starEach (e :: es) X.env = (false, eval e X.env) :: starEach es X.env := by rfl) (hpl : (backTo pos (starEach es X.env)).any (·.1) = false := by rfl) : PE X (.Call (.Name x p) (e :: es) [] pos) (tCB r t) := by
  intro pins s σ H Q I h
  refine wpAny_Call_Name_kw (ld_blt I hg hm hv ?_ hn hdb)
  exact PyProof.Rows.callWith_type1 (thn (ha pos pins s σ H _ I h) fun us s1 ⟨vs, H1, I1, r1, q1⟩ => hc pins s1 σ H1 vs us Q I1 r1 q1) he hpl
end
end L2

namespace HT
open PySem PyProof.Rows

section
open PySem.SeqAt
open PySem.AutoSeq1 (wpAny_loadPart')
open PySem.MeetsSeq PySem.MeetsSeq2 PySem.MeetsSeq3

end

section
variable {prog : Program} {w : World} {A : Around} {E : Value → Shared → Prop} {s : Shared}

/-! ### t[a:b], not the whole -/
/-- a slice's bound as a place among n (d where it is left out) -/
def sIx (n d : Nat) : Option Int → Nat
  | none => d
  | some v => if v < 0 then (v + (n : Int)).toNat else min v.toNat n
theorem sIx_none (n d : Nat) : sIx n d none = d := rfl
theorem clip_eq (v : Int) (n d : Nat) : (if v < 0 then max (v + (n : Int)) 0 else min v (n : Int)) = ((sIx n d (some v) : Nat) : Int) := by
  show (if v < 0 then max (v + (n : Int)) 0 else min v (n : Int)) = (((if v < 0 then (v + (n : Int)).toNat else min v.toNat n) : Nat) : Int)
  by_cases hv : v < 0
  · simp only [if_pos hv]; omega
  · simp only [if_neg hv]; omega
end
end HT

namespace L2
open PySem PySem.Spec PyProof.Rows

/-! ### the parts of a slice -/
abbrev TO := St → Hp → (Option Int → Hp → Prop) → Prop
/-- a slice's part (left out, or an int) -/
def PO (X : Cx) (e : Option Expr) (t : TO) : Prop :=
  ∀ (pins : List (Addr × Obj)) (s : Shared) (σ : St) (H : Hp) (Q : Option Int → Hp → Prop), Inv X pins σ H s → t σ H Q →
    wpAny (model X.prog X.w) X.A (evalPart e X.env) (fun u s' => ∃ o H', Inv X pins σ H' s' ∧ IsPart u o ∧ Q o H') X.xe s
def tNoPart : TO := fun _ H Q => Q none H
def tPart (t : TE) : TO := fun σ H Q => t σ H fun x H1 => ∃ i, x = .int i ∧ Q (some i) H1

section
variable {X : Cx} {e : Expr} {te : TE} {lo hi : Option Expr} {tl th : TO} {pos p2 : Pos}

theorem po_none : PO X none tNoPart := by
  intro pins s σ H Q I h
  rw [evalPart_none]
  exact wpAny_pure ⟨none, H, I, .none, h⟩
theorem po_some (h : PE X e te) : PO X (some e) (tPart te) := by
  intro pins s σ H Q I hw
  rw [evalPart_some]
  refine thn (h pins s σ H _ I hw) fun u s1 ⟨x, H1, I1, r1, q1⟩ => ?_
  obtain ⟨i, rfl, q⟩ := q1
  obtain ⟨t, rfl⟩ := r1
  exact ⟨some i, H1, I1, .int i t, q⟩

/-- what a slice of a value is, by values: the slice object stands at sl -/
def SlR (X : Cx) (r : V → Option Int → Option Int → Hp → VK → Prop) : Prop :=
  ∀ (pins : List (Addr × Obj)) (s : Shared) (σ : St) (H : Hp) (x : V) (v vl vu : Value) (lo hi : Option Int) (sl : Addr) (Q : VK), Inv X pins σ H s → RelV x v → s.heap.IsSliceOf sl vl vu .none → IsPart vl lo → IsPart vu hi → r x lo hi H Q →
    ∃ T id, typeLookup (.type T) "__getitem__" = pure (some (.builtin id)) ∧ s.TypeIs v T ∧ wpAny (model X.prog X.w) X.A (getItem v (.ref sl)) (EP X pins σ Q) X.xe s
def tSl (r : V → Option Int → Option Int → Hp → VK → Prop) (te : TE) (tl th : TO) : TE := fun σ H Q => te σ H fun x H1 => tl σ H1 fun l H2 => th σ H2 fun u H3 => r x l u H3 Q
/-- a[lo:hi], any a -/
theorem pe_slice {r : V → Option Int → Option Int → Hp → VK → Prop} (hr : SlR X r) (he : PE X e te) (hl : PO X lo tl) (hu : PO X hi th) : PE X (.Subscript e (.Slice lo hi none p2) pos) (tSl r te tl th) := by
  intro pins s σ H Q I h
  refine Subscript_ (thn (he pins s σ H _ I h) fun v s1 ⟨x, H1, I1, r1, q1⟩ => ?_)
  refine wpAny_Slice (thn (hl pins s1 σ H1 _ I1 q1) fun vl s2 ⟨l, H2, I2, pl, q2⟩ => thn (hu pins s2 σ H2 _ I2 q2) fun vu s3 ⟨u, H3, I3, pu, q3⟩ => ?_)
  rw [evalPart_none]
  refine wpAny_pure ?_
  have I4 : Inv X pins σ H3 { s3 with heap := s3.heap.push { cls := .type "slice", data := .fields #[vl, vu, .none] } } := I3.kept (t' := s3.toks) fun b ob q => Heap.get?_push_of_some _ q
  obtain ⟨T, id, hT, ht, hg⟩ := hr pins { s3 with heap := s3.heap.push { cls := .type "slice", data := .fields #[vl, vu, .none] } } σ H3 x v vl vu l u s3.heap.objs.size Q I4 r1 (Heap.IsSliceOf.new ..) pl pu q3
  show wpAny (model X.prog X.w) X.A (subscriptTail e (.Slice lo hi none p2) v (.ref s3.heap.objs.size)) (EP X pins σ Q) X.xe { s3 with heap := s3.heap.push { cls := .type "slice", data := .fields #[vl, vu, .none] } }
  exact tail_any (ops := [.ref s3.heap.objs.size, v]) ht hT hg (by with_unfolding_all rfl)

/-- the items of xs[lo:hi] -/
def cutV (xs : List V) (lo hi : Option Int) : List V := (xs.drop (HT.sIx xs.length 0 lo)).take (HT.sIx xs.length xs.length hi - HT.sIx xs.length 0 lo)
theorem cutV_length (xs : List V) (lo hi : Option Int) : (cutV xs lo hi).length ≤ xs.length := by
  unfold cutV
  rw [List.length_take, List.length_drop]
  omega
/-! ### t < u, t + u -/
end
end L2

namespace L2
open PySem PySem.Spec PyProof.Rows

/-! ### places -/
/-- the place that an index of any sign means -/
def ixN (n : Nat) (i : Int) : Option Nat := if 0 ≤ i then (if i < n then some i.toNat else none) else if -(n : Int) ≤ i then some (i + n).toNat else none
def atI {α : Type} (xs : List α) (i : Int) : Option α := (ixN xs.length i).bind fun j => xs[j]?
theorem ixN_seq {n : Nat} {i : Int} {j : Nat} (h : ixN n i = some j) : seqIndex? i n = some j ∧ j < n ∧ -(n : Int) ≤ i ∧ i < n := by
  unfold ixN at h
  by_cases h0 : 0 ≤ i
  · rw [if_pos h0] at h
    by_cases h1 : i < n
    · rw [if_pos h1] at h
      have e : i.toNat = j := Option.some.inj h
      exact ⟨by rw [seqIndex_of h0 h1, e], by omega, by omega, h1⟩
    · rw [if_neg h1] at h; cases h
  · rw [if_neg h0] at h
    by_cases h1 : -(n : Int) ≤ i
    · rw [if_pos h1] at h
      have e : (i + n).toNat = j := Option.some.inj h
      exact ⟨by rw [seqIndex_neg (by omega) h1, e], by omega, h1, by omega⟩
    · rw [if_neg h1] at h; cases h
theorem atI_get {α : Type} {xs : List α} {i : Int} {v : α} (h : atI xs i = some v) : ∃ j, seqIndex? i xs.length = some j ∧ xs[j]? = some v ∧ j < xs.length ∧ -(xs.length : Int) ≤ i ∧ i < xs.length := by
  unfold atI at h
  cases e : ixN xs.length i with
  | none => rw [e] at h; cases h
  | some j =>
    rw [e] at h
    obtain ⟨h1, h2, h3, h4⟩ := ixN_seq e
    exact ⟨j, h1, h, h2, h3, h4⟩
theorem atI_nat {α : Type} {xs : List α} {j : Nat} {v : α} (h : xs[j]? = some v) : atI xs (j : Int) = some v := by
  have hj : j < xs.length := (List.getElem?_eq_some_iff.mp h).1
  have e : ixN xs.length (j : Int) = some j := by
    unfold ixN
    rw [if_pos (by omega), if_pos (by omega)]; simp
  unfold atI; rw [e]; exact h
/-! ### what may be subscripted -/
/-- what stands as an index of a plain subscript -/
def PlainIx (b : Expr) : Prop := ∀ o i, subscripted b false o i = operate [o, i] (getItem o i)
/-- a subscript by values -/
def IxR (X : Cx) (r : R2) : Prop :=
  ∀ (value slice : Expr) (pins : List (Addr × Obj)) (s : Shared) (σ : St) (H : Hp) (x y : V) (v u : Value) (Q : VK), Inv X pins σ H s → RelV x v → RelV y u → r x y H Q →
    subscripted slice false v u = operate [v, u] (getItem v u) → wpAny (model X.prog X.w) X.A (subscriptTail value slice v u) (EP X pins σ Q) X.xe s
/-- a call of a builtin's method by values: the receiver, the arguments -/
def MtR (X : Cx) (id : String) (r : V → List V → Hp → VK → Prop) : Prop :=
  ∀ (pins : List (Addr × Obj)) (s : Shared) (σ : St) (H : Hp) (x : V) (xs : List V) (v : Value) (us : List Value) (Q : VK), Inv X pins σ H s → RelV x v → Vals xs us → r x xs H Q →
    wpAny (model X.prog X.w) X.A (call (.builtin id) (v :: us)) (EP X pins σ Q) X.xe s
section
variable {X : Cx} {a b : Expr} {ta tb : TE} {pos : Pos}
/-- a[b] -/
theorem pe_ix {r : R2} (hr : IxR X r) (ha : PE X a ta) (hb : PE X b tb) (hs : PlainIx b) : PE X (.Subscript a b pos) (tOp r ta tb) := by
  intro pins s σ H Q I h
  exact Subscript_ (binT ha hb I h fun v u s2 x y H2 I2 rx ry q => hr a b pins s2 σ H2 x y v u Q I2 rx ry q (hs _ _))

def rIxL (K : PySem.W.Frag) : R2 := fun x y H Q => ∃ p xs i v, x = .ref p ∧ y = .int i ∧ SqL K H p xs ∧ atI xs i = some v ∧ Q v H
def rIxT (K : PySem.W.Frag) : R2 := fun x y H Q => ∃ p xs i v, x = .ref p ∧ y = .int i ∧ SqT K H p xs ∧ atI xs i = some v ∧ Q v H
def rIxS : R2 := fun x y H Q => ∃ z i c, x = .str z ∧ y = .int i ∧ z.length ≤ sizeLine ∧ atI z.cps.toList i = some c ∧ Q (.str ⟨#[c]⟩) H
theorem ix_list : IxR X (rIxL X.K) := by
  intro value slice pins s σ H x y v u Q I rx ry h hs
  obtain ⟨p, xs, i, z, rfl, rfl, hq, he, q⟩ := h
  cases rx
  obtain ⟨t, rfl⟩ := ry
  obtain ⟨its, r, pl, hz⟩ := I.list hq
  obtain ⟨j, h1, h2, h3, h4, h5⟩ := atI_get he
  obtain ⟨w, ew, rw'⟩ := r.get h2
  have hl := r.length
  have hn := line63
  have fin : EP X pins σ Q w s := ⟨z, H, I, rw', q⟩
  by_cases h0 : 0 ≤ i
  · have hj : i.toNat = j := by
      rw [seqIndex_of h0 h5] at h1
      exact Option.some.inj h1
    exact item_listR pl.isList h0 (by omega) (by rw [hj]; simpa using ew) fin hs
  · have hj : (i + (its.toArray.size : Int)).toNat = j := by
      rw [seqIndex_neg (by omega) h4] at h1
      rw [List.size_toArray, ← hl]
      exact Option.some.inj h1
    exact subscriptTail_builtinR (x := w) pl.isList.typeIs slot_list_getitem.lookup
      (wpAny_getItem_list_neg (Q := fun r s' => r = w ∧ EP X pins σ Q r s') pl.isList (by omega) (by rw [List.size_toArray] <;> omega) (by omega) (by rw [hj]; simpa using ew) ⟨rfl, fin⟩) hs
theorem ix_tup : IxR X (rIxT X.K) := by
  intro value slice pins s σ H x y v u Q I rx ry h hs
  obtain ⟨p, xs, i, z, rfl, rfl, hq, he, q⟩ := h
  cases rx
  obtain ⟨t, rfl⟩ := ry
  obtain ⟨its, r, pl, hz⟩ := I.tuple hq
  obtain ⟨j, h1, h2, h3, h4, h5⟩ := atI_get he
  obtain ⟨w, ew, rw'⟩ := r.get h2
  have hl := r.length
  have hn := line63
  have fin : EP X pins σ Q w s := ⟨z, H, I, rw', q⟩
  exact subscriptTail_builtinR (x := w) pl.typeIs slot_tuple_getitem.lookup
    (getItem_tuple (j := j) (Q := fun r s' => r = w ∧ EP X pins σ Q r s') pl (by omega) (by omega) (by rw [List.size_toArray, ← hl]; exact h1) (by simpa using ew) ⟨rfl, fin⟩) hs
theorem ix_str : IxR X rIxS := by
  intro value slice pins s σ H x y v u Q I rx ry h hs
  obtain ⟨z, i, c, rfl, rfl, hz, he, q⟩ := h
  obtain ⟨t, rfl⟩ := rx
  obtain ⟨t', rfl⟩ := ry
  obtain ⟨j, h1, h2, h3, h4, h5⟩ := atI_get he
  have hl : z.cps.toList.length = z.length := by simp [Str.length]
  rw [hl] at h1 h4 h5
  have hn := line63
  exact tail_any (typeIs_str s z t) slot_str_getitem.lookup (getItem_str (c := c) (by
    have e1 : decide (i < -(2 ^ 63 : Int)) = false := decide_eq_false (by omega)
    have e2 : decide (i ≥ 2 ^ 63) = false := decide_eq_false (by omega)
    rw [e1, e2, Bool.or_false]) (by rw [h1]; simpa using h2) ⟨.str ⟨#[c]⟩, H, I.tok _, ⟨_, rfl⟩, q⟩) hs
/-! ### xs[i] = v, any sign -/
/-! ### slices -/
theorem slice_bounds (lo hi : Option Int) (n : Nat) : (sliceBounds lo hi none n).1 = ((HT.sIx n 0 lo : Nat) : Int) ∧ (sliceBounds lo hi none n).2.1 = ((HT.sIx n n hi : Nat) : Int) ∧ (sliceBounds lo hi none n).2.2 = 1 := by
  refine ⟨?_, ?_, rfl⟩
  · cases lo with
    | none => simp [sliceBounds, HT.sIx]
    | some i =>
      simp only [sliceBounds, HT.sIx, Option.getD_none, show (1 : Int) > 0 by decide, if_true]
      by_cases h : i < 0
      · simp only [h, if_true] <;> omega
      · simp only [h, if_false] <;> omega
  · cases hi with
    | none => simp [sliceBounds, HT.sIx]
    | some i =>
      simp only [sliceBounds, HT.sIx, Option.getD_none, show (1 : Int) > 0 by decide, if_true]
      by_cases h : i < 0
      · simp only [h, if_true] <;> omega
      · simp only [h, if_false] <;> omega
theorem slicePick_cut (its : List Value) (lo hi : Option Int) : slicePick its.toArray lo hi none = ((its.drop (HT.sIx its.length 0 lo)).take (HT.sIx its.length its.length hi - HT.sIx its.length 0 lo)).toArray := by
  obtain ⟨h1, h2, h3⟩ := slice_bounds lo hi its.toArray.size
  unfold slicePick
  rw [h1, h2, h3]
  simp only [sliceRange_one, pick_run, List.size_toArray] <;> rfl
/-- xs[lo:hi] of a list: a new list -/
def rSlL (K : PySem.W.Frag) : V → Option Int → Option Int → Hp → VK → Prop := fun x lo hi H Q => ∃ a xs, x = .ref a ∧ SqL K H a xs ∧ ∀ p, H p = none → Q (.ref p) (upd H p (.lst (cutV xs lo hi)))
theorem sl_list : SlR X (rSlL X.K) := by
  intro pins s σ H x v vl vu lo hi sl Q I rx hs pl pu h
  obtain ⟨a, xs, rfl, hx, q⟩ := h
  cases rx
  obtain ⟨its, r, ht, hz⟩ := I.list hx
  have hlen := r.length
  refine ⟨"list", _, slot_list_getitem.lookup, ht.isList.typeIs, ?_⟩
  refine wpAny_getItem_list_slice ht.isList hs pl pu .none (by simp) ?_ (by rw [List.size_toArray] <;> omega)
  rw [slicePick_cut, ← hlen]
  refine ⟨.ref s.heap.objs.size, _, I.laid (t' := s.toks) (o := .lst (cutV xs lo hi)) (fun b ob q => Heap.get?_push_of_some _ q) (Nat.le_refl _) ?_, rfl, q _ (I.hok.fresh (Nat.le_refl _))⟩
  exact ⟨Nat.le_trans (cutV_length xs lo hi) hz, _, 0, (r.drop (HT.sIx xs.length 0 lo)).take (HT.sIx xs.length xs.length hi - HT.sIx xs.length 0 lo), Heap.get?_push_size _ rfl⟩

/-! ### in, not in: flat items -/
def flatV : V → Bool
  | .non => true
  | .bl _ => true
  | .int _ => true
  | .str _ => true
  | _ => false
/-- == of flat values -/
def eqV : V → V → Bool
  | .non, .non => true
  | .bl a, .bl b => a == b
  | .bl a, .int b => (if a then 1 else 0) == b
  | .int a, .bl b => a == (if b then 1 else 0)
  | .int a, .int b => a == b
  | .str a, .str b => a == b
  | _, _ => false
theorem eqAt_V {A : Around} {s : Shared} {y x : V} {u v : Value} (ry : RelV y u) (rx : RelV x v) (fy : flatV y = true) (fx : flatV x = true) : SeqAt.EqAt A s u v (eqV y x) := by
  cases y with
  | non =>
    cases ry
    cases x with
    | non => cases rx; exact SeqAt.EqAt.same _
    | bl b => cases rx; exact SeqAt.EqAt.none_bool b
    | int b => obtain ⟨t, rfl⟩ := rx; exact SeqAt.EqAt.none_int b t
    | str b => obtain ⟨t, rfl⟩ := rx; exact SeqAt.EqAt.none_str b t
    | _ => exact absurd (show false = true from fx) Bool.false_ne_true
  | bl a =>
    cases ry
    cases x with
    | non => cases rx; exact SeqAt.EqAt.bool_none a
    | bl b => cases rx; exact SeqAt.EqAt.bool_bool a b
    | int b => obtain ⟨t, rfl⟩ := rx; exact SeqAt.EqAt.bool_int a b t
    | str b => obtain ⟨t, rfl⟩ := rx; exact SeqAt.EqAt.bool_str a b t
    | _ => exact absurd (show false = true from fx) Bool.false_ne_true
  | int a =>
    obtain ⟨t', rfl⟩ := ry
    cases x with
    | non => cases rx; exact SeqAt.EqAt.int_none a t'
    | bl b => cases rx; exact SeqAt.EqAt.int_bool a t' b
    | int b => obtain ⟨t, rfl⟩ := rx; exact SeqAt.EqAt.int_int a t' b t
    | str b => obtain ⟨t, rfl⟩ := rx; exact SeqAt.EqAt.int_str a t' b t
    | _ => exact absurd (show false = true from fx) Bool.false_ne_true
  | str a =>
    obtain ⟨t', rfl⟩ := ry
    cases x with
    | non => cases rx; exact SeqAt.EqAt.str_none a t'
    | bl b => cases rx; exact SeqAt.EqAt.str_bool a t' b
    | int b => obtain ⟨t, rfl⟩ := rx; exact SeqAt.EqAt.str_int a t' b t
    | str b => obtain ⟨t, rfl⟩ := rx; exact SeqAt.EqAt.str_str a t' b t
    | _ => exact absurd (show false = true from fx) Bool.false_ne_true
  | _ => exact absurd (show false = true from fy) Bool.false_ne_true
/-- the items' answers, read off the values (a value's own answer does not lean on its token) -/
def eqU (x : V) (u : Value) : Bool := match u with
  | .none => eqV .non x
  | .bool b => eqV (.bl b) x
  | .int i _ => eqV (.int i) x
  | .str z _ => eqV (.str z) x
  | _ => false
theorem eqU_of {x y : V} {u : Value} (r : RelV y u) (f : flatV y = true) : eqU x u = eqV y x := by
  cases y with
  | non => cases r; rfl
  | bl b => cases r; rfl
  | int i => obtain ⟨t, rfl⟩ := r; rfl
  | str z => obtain ⟨t, rfl⟩ := r; rfl
  | _ => exact absurd (show false = true from f) Bool.false_ne_true
theorem any_eqU {x : V} : ∀ {xs : List V} {us : List Value}, Vals xs us → xs.all flatV = true → us.any (eqU x) = xs.any fun y => eqV y x
  | _, _, .nil, _ => rfl
  | y :: xs, u :: us, .cons r t, f => by
    rw [List.all_cons, Bool.and_eq_true] at f
    rw [List.any_cons, List.any_cons, eqU_of r f.1, any_eqU t f.2]
theorem mem_eqAt {A : Around} {s : Shared} {x : V} {v : Value} (rx : RelV x v) (fx : flatV x = true) : ∀ {xs : List V} {us : List Value}, Vals xs us → xs.all flatV = true → ∀ u ∈ us, SeqAt.EqAt A s u v (eqU x u)
  | _, _, .nil, _ => fun u hu => by cases hu
  | y :: xs, u :: us, .cons r t, f => fun u' hu => by
    rw [List.all_cons, Bool.and_eq_true] at f
    rcases List.mem_cons.mp hu with rfl | hu
    · rw [eqU_of r f.1]; exact eqAt_V r rx f.1 fx
    · exact mem_eqAt rx fx t f.2 u' hu
def inV (x : V) (xs : List V) : Bool := xs.any fun y => eqV y x
/-- x in a list or tuple of flat items -/
def rIn (K : PySem.W.Frag) (neg : Bool) : R2 := fun x y H Q => ∃ p xs, y = .ref p ∧ (SqL K H p xs ∨ SqT K H p xs) ∧ flatV x = true ∧ xs.all flatV = true ∧ Q (.bl (if neg then !inV x xs else inV x xs)) H
theorem op_in_seq : OpR X (compareOp .In) (rIn X.K false) := by
  intro pins s σ H x y v u Q I rx ry h
  obtain ⟨p, xs, rfl, hq, fx, fs, q⟩ := h
  cases ry
  rcases hq with hq | hq
  · obtain ⟨its, r, pl, hz⟩ := I.list hq
    refine SeqAt.in_listAt (eqU x) pl.isList (fun w hw => mem_eqAt rx fx r fs w (by simpa using hw)) ⟨.bl _, H, I, rfl, ?_⟩
    rw [show its.toArray.any (eqU x) = its.any (eqU x) by simp, any_eqU r fs]
    exact q
  · obtain ⟨its, r, pl, hz⟩ := I.tuple hq
    refine SeqAt.in_tupleAt (eqU x) pl (fun w hw => mem_eqAt rx fx r fs w (by simpa using hw)) ⟨.bl _, H, I, rfl, ?_⟩
    rw [show its.toArray.any (eqU x) = its.any (eqU x) by simp, any_eqU r fs]
    exact q
theorem op_notIn_seq : OpR X (compareOp .NotIn) (rIn X.K true) := by
  intro pins s σ H x y v u Q I rx ry h
  obtain ⟨p, xs, rfl, hq, fx, fs, q⟩ := h
  cases ry
  rcases hq with hq | hq
  · obtain ⟨its, r, pl, hz⟩ := I.list hq
    refine SeqAt.notIn_listAt (eqU x) pl.isList (fun w hw => mem_eqAt rx fx r fs w (by simpa using hw)) ⟨.bl _, H, I, rfl, ?_⟩
    rw [show its.toArray.any (eqU x) = its.any (eqU x) by simp, any_eqU r fs]
    exact q
  · obtain ⟨its, r, pl, hz⟩ := I.tuple hq
    refine SeqAt.notIn_tupleAt (eqU x) pl (fun w hw => mem_eqAt rx fx r fs w (by simpa using hw)) ⟨.bl _, H, I, rfl, ?_⟩
    rw [show its.toArray.any (eqU x) = its.any (eqU x) by simp, any_eqU r fs]
    exact q
/-! ### len, list(x), tuple(x) of any list or tuple that is read -/
theorem call_len_seq : CallR X (.builtin "len") (fun xs H Q => ∃ p ys, xs = [.ref p] ∧ (SqL X.K H p ys ∨ SqT X.K H p ys) ∧ Q (.int ys.length) H) := by
  intro pins s σ H xs us Q I r h
  obtain ⟨p, ys, rfl, hq, q⟩ := h
  obtain ⟨u, rfl, rx⟩ := vals1 r
  cases rx
  have hn := line63
  rcases hq with hq | hq
  · obtain ⟨its, r', pl, hz⟩ := I.list hq
    have hlen := r'.length
    exact Calls.call_len_list pl.isList (by simp only [List.size_toArray] <;> omega) ⟨.int ys.length, H, I.tok _, ⟨s.toks + 1, by rw [List.size_toArray, hlen]⟩, q⟩
  · obtain ⟨its, r', pl, hz⟩ := I.tuple hq
    have hlen := r'.length
    exact len_tuple pl (by simp only [List.size_toArray] <;> omega) ⟨.int ys.length, H, I.tok _, ⟨s.toks + 1, by rw [List.size_toArray, hlen]⟩, q⟩
theorem call_len_str : CallR X (.builtin "len") (fun xs H Q => ∃ z, xs = [.str z] ∧ z.length ≤ sizeLine ∧ Q (.int z.length) H) := by
  intro pins s σ H xs us Q I r h
  obtain ⟨z, rfl, hz, q⟩ := h
  obtain ⟨u, rfl, t, rfl⟩ := vals1 r
  have hn := line63
  exact len_str (by omega) ⟨.int z.length, H, I.tok _, ⟨_, rfl⟩, q⟩
theorem call_tuple_of : CallR X (.type "tuple") (fun xs H Q => ∃ p ys, xs = [.ref p] ∧ ((SqL X.K H p ys ∧ ∀ l, H l = none → Q (.ref l) (upd H l (.tup ys))) ∨ (SqT X.K H p ys ∧ Q (.ref p) H))) := by
  intro pins s σ H xs us Q I r h
  obtain ⟨p, ys, rfl, h⟩ := h
  obtain ⟨u, rfl, rx⟩ := vals1 r
  cases rx
  rcases h with ⟨hq, q⟩ | ⟨hq, q⟩
  · obtain ⟨its, r', pl, hz⟩ := I.list hq
    have hlen := r'.length
    refine call_tuple_list pl.isList (fun h' kp => ?_) (by simp only [List.size_toArray] <;> omega)
    have I1 : Inv X pins σ H { s with heap := h' } := I.kept (t' := s.toks) kp
    have I2 : Inv X pins σ (upd H h'.objs.size (.tup ys)) { s with heap := h'.push { cls := .type "tuple", data := .seq its.toArray } } :=
      I1.laid (t' := s.toks) (fun b o e => Heap.get?_push_of_some _ e) (Nat.le_refl _) (show ObjOk X.prog X.w _ _ _ (.tup ys) from ⟨hz, its, r', IsTup.new _ _⟩)
    exact ⟨.ref h'.objs.size, _, I2, rfl, q _ (I1.hok.fresh (Nat.le_refl _))⟩
  · obtain ⟨its, r', pl, hz⟩ := I.tuple hq
    exact call_tuple_same pl ⟨.ref p, H, I, rfl, q⟩

/-! ### the call of a builtin's method: o.m(..) -/
/-- the value is of that builtin type -/
def tyV (K : PySem.W.Frag) (T : String) (x : V) (H : Hp) : Prop := match x with
  | .str _ => T = "str"
  | .int _ => T = "int"
  | .ref p => (T = "list" ∧ ∃ xs, SqL K H p xs) ∨ (T = "tuple" ∧ ∃ o, K.lookup p = some o ∧ o.cls = .type "tuple" ∧ o.dict = none) ∨
      (T = "dict" ∧ ((∃ kvs, H p = some (.dK kvs)) ∨ ∃ kvs, H p = some (.dT kvs))) ∨ (T = "set" ∧ ∃ S n, H p = some (.set S n))
  | _ => False
theorem tyV_is {pins : List (Addr × Obj)} {σ : St} {H : Hp} {s : Shared} {T : String} {x : V} {v : Value} (I : Inv X pins σ H s) (r : RelV x v) (ty : tyV X.K T x H) :
    s.TypeIs v T ∧ ∀ a, v = .ref a → ∃ ob, s.heap.get? a = some ob ∧ ob.dict = none := by
  cases x with
  | str z =>
    obtain ⟨t, rfl⟩ := r
    cases (show T = "str" from ty)
    exact ⟨typeIs_str s z t, fun _ e => nomatch e⟩
  | int i =>
    obtain ⟨t, rfl⟩ := r
    cases (show T = "int" from ty)
    exact ⟨typeIs_int s i t, fun _ e => nomatch e⟩
  | ref p =>
    cases r
    rcases ty with ⟨rfl, xs, hq⟩ | ⟨rfl, o, hk, hc, hd⟩ | ⟨rfl, hk⟩ | ⟨rfl, S, n, hk⟩
    · obtain ⟨its, _, pl, _⟩ := I.list hq
      refine ⟨pl.isList.typeIs, fun a e => ?_⟩
      cases e
      obtain ⟨o, n, e, c, hd, _⟩ := pl
      exact ⟨o, e, hd⟩
    · refine ⟨⟨o, I.kIn p o hk, hc⟩, fun a e => ?_⟩
      cases e
      exact ⟨o, I.kIn _ o hk, hd⟩
    · have z : ∃ o, s.heap.get? p = some o ∧ o.ExactDict := by
        rcases hk with ⟨kvs, hk⟩ | ⟨kvs, hk⟩
        · obtain ⟨_, _, _, _, o, _, _, e, ex, _⟩ := I.hok p _ hk
          exact ⟨o, e, ex⟩
        · obtain ⟨_, _, _, _, o, _, _, e, ex, _⟩ := I.hok p _ hk
          exact ⟨o, e, ex⟩
      obtain ⟨o, e, ex⟩ := z
      refine ⟨⟨o, e, ex.1⟩, fun a e2 => ?_⟩
      cases e2
      exact ⟨o, e, ex.2.1⟩
    · obtain ⟨o, _, _, _, e, ex, _⟩ := I.hok p _ hk
      refine ⟨⟨o, e, ex.1⟩, fun a e2 => ?_⟩
      cases e2
      exact ⟨o, e, ex.2.1⟩
  | _ => exact False.elim ty
def tBM0 (K : PySem.W.Frag) (T : String) (r : V → List V → Hp → VK → Prop) (to : TE) : TE := fun σ H Q => to σ H fun x H1 => tyV K T x H1 ∧ r x [] H1 Q
def tBM (K : PySem.W.Frag) (T : String) (r : V → List V → Hp → VK → Prop) (to : TE) (t : TA) : TE := fun σ H Q => to σ H fun x H1 => tyV K T x H1 ∧ t σ H1 fun xs H2 => r x xs H2 Q
variable {o e : Expr} {es : List Expr} {to : TE} {t : TA} {name : Str} {apos cpos : Pos} {T id : String} {r : V → List V → Hp → VK → Prop}
theorem pe_bm0 (pa : PlainAttrs T) (slot : Slot T name id) (hty : typeOf (.builtin id) = pure (.type "method_descriptor")) (hm : MtR X id r) (ho : PE X o to)
    (hbase : attributeBase o name X.env (eval o X.env) = eval o X.env := by rfl) (hline : (apos.endLine == cpos.line) = true := by rfl) : PE X (.Call (.Attribute o name apos) [] [] cpos) (tBM0 X.K T r to) := by
  intro pins s σ H Q I h
  refine wpAny_Call_method0_late hbase hline (thn (ho pins s σ H _ I h) fun v s1 ⟨x, H1, I1, r1, ty, q1⟩ => ?_)
  obtain ⟨h1, h2⟩ := tyV_is I1 r1 ty
  exact ⟨T, id, pa, slot, hty, h1, h2, Calls.callWith_builtin rfl (PySem.evalArgs_none (hm pins s1 σ H1 x [] v [] Q I1 r1 .nil q1))⟩
theorem pe_bm (pa : PlainAttrs T) (slot : Slot T name id) (hty : typeOf (.builtin id) = pure (.type "method_descriptor")) (hm : MtR X id r) (ho : PE X o to) (ha : PA X (e :: es) t)
    (hbase : attributeBase o name X.env (eval o X.env) = eval o X.env := by rfl)
    (hfew : ((backTo cpos (starEach (e :: es) X.env)).all (fun x => !x.1) && (backToKw cpos (keywordEach [] X.env)).all (fun x => x.1.isSome)
      && decide ((e :: es).length + ([] : List Keyword).length + (if ([] : List Keyword).isEmpty then 0 else 1) < 30)) = true := by rfl)
    (hline : (apos.endLine == cpos.line) = true := by rfl) (hs : starEach (e :: es) X.env = (false, eval e X.env) :: starEach es X.env := by rfl) (hplain : (backTo cpos (starEach es X.env)).any (·.1) = false := by rfl) :
    PE X (.Call (.Attribute o name apos) (e :: es) [] cpos) (tBM X.K T r to t) := by
  intro pins s σ H Q I h
  refine wpAny_Call_method_late hbase hfew hline rfl (thn (ho pins s σ H _ I h) fun v s1 ⟨x, H1, I1, r1, ty, q1⟩ => ?_)
  obtain ⟨h1, h2⟩ := tyV_is I1 r1 ty
  refine ⟨T, id, pa, slot, hty, h1, h2, ?_⟩
  have hA := ha cpos pins s1 σ H1 _ I1 q1
  rw [hs] at hA ⊢
  refine Calls.callWith_builtin (by show (false || (backTo cpos (starEach es X.env)).any (·.1)) = false; rw [hplain] <;> rfl) (Calls.evalArgs_plain ?_)
  exact thn hA fun us s2 ⟨vs, H2, I2, r2, q2⟩ => hm pins s2 σ H2 x vs v us Q I2 r1 r2 q2
/- xs.append(e), list.index on a module's tuple .. are MtR facts of 06m -/
end
end L2

namespace L2
open PySem PySem.Spec PyProof.Rows

def MtM (X : Cx) (id : String) (r : V → List V → Hp → VK → Prop) : Prop :=
  ∀ (pins : List (Addr × Obj)) (s : Shared) (σ : St) (H : Hp) (x : V) (xs : List V) (v : Value) (us : List Value) (Q : VK), Inv X pins σ H s → RelV x v → Vals xs us → r x xs H Q →
    wpAny (model X.prog X.w) X.A (call (.builtin id) (v :: us)) (EP X pins σ Q) X.xe s

/-! ### lists of values -/
theorem Vals.one : ∀ {x : V} {us : List Value}, Vals [x] us → ∃ u, us = [u] ∧ RelV x u
  | _, _, .cons r .nil => ⟨_, rfl, r⟩
theorem Vals.zero : ∀ {us : List Value}, Vals [] us → us = []
  | _, .nil => rfl
theorem Vals.dropLast {xs : List V} {us : List Value} (h : Vals xs us) : Vals xs.dropLast us.dropLast := by
  induction h with
  | nil => exact .nil
  | cons r t ih =>
    cases t with
    | nil => exact .nil
    | cons q t' => exact .cons r ih
theorem Vals.reverse {xs : List V} {us : List Value} (h : Vals xs us) : Vals xs.reverse us.reverse := by
  induction h with
  | nil => exact .nil
  | cons r t ih => rw [List.reverse_cons, List.reverse_cons]; exact Vals.append ih (.cons r .nil)
theorem erase_last {α : Type} (l : List α) : l.eraseIdx (l.length - 1) = l.dropLast := by
  induction l with
  | nil => rfl
  | cons a r ih =>
    cases r with
    | nil => rfl
    | cons b r =>
      have e : (a :: b :: r).length - 1 = ((b :: r).length - 1) + 1 := by
        have h1 : (a :: b :: r).length = r.length + 2 := rfl
        have h2 : (b :: r).length = r.length + 1 := rfl
        omega
      rw [e, List.eraseIdx_cons_succ, ih]
      all_goals rfl
section
variable {X : Cx} {pins : List (Addr × Obj)} {σ : St} {H : Hp} {s : Shared} {l b : Addr} {xs ys zs : List V}

/-! ### the two steps: a tracked list is rewritten, a new list is laid -/
theorem Inv.lset {its its' : List Value} {n : Nat} {f : Array Value → Array Value} {t' : Nat} (I : Inv X pins σ H s) (hH : H l = some (.lst xs))
    (e : s.heap.get? l = some { cls := .type "list", data := .seq its.toArray n }) (hf : f its.toArray = its'.toArray) (hv : Vals ys its') (hz : ys.length ≤ sizeLine) :
    Inv X pins σ (upd H l (.lst ys)) { s with heap := s.heap.update l (Obj.mapSeq f), toks := t' } := by
  have q := PySem.IsL.update e f
  rw [hf] at q
  refine I.write (x := l) (e := l) (by rw [hH]; exact trivial) (.inl rfl) (fun b' u hb hu => (Heap.get?_update_other s.heap (Obj.mapSeq f) (Ne.symm hb)).trans hu) ⟨_, q⟩ ?_
  exact ⟨hz, its', _, hv, q⟩
theorem Inv.lnew {its : List Value} {t' : Nat} (I : Inv X pins σ H s) (hv : Vals ys its) (hz : ys.length ≤ sizeLine) :
    Inv X pins σ (upd H s.heap.objs.size (.lst ys)) { s with heap := s.heap.push { cls := .type "list", data := .seq its.toArray }, toks := t' } :=
  I.laid (fun _ _ q => Heap.get?_push_of_some _ q) (Nat.le_refl _) ⟨hz, its, 0, hv, Heap.get?_push_size _ rfl⟩
theorem Inv.fresh (I : Inv X pins σ H s) : H s.heap.objs.size = none := I.hok.fresh (Nat.le_refl _)
theorem Inv.lstM (I : Inv X pins σ H s) (hH : H l = some (.lst xs)) : xs.length ≤ sizeLine ∧ ∃ (its : List Value) (n : Nat), Vals xs its ∧ xs.length = its.length ∧ s.heap.get? l = some { cls := .type "list", data := .seq its.toArray n } := by
  obtain ⟨z, its, n, r, e⟩ := I.hok l _ hH
  exact ⟨z, its, n, r, r.length, e⟩

theorem notLongL {n : Nat} (h : n ≤ sizeLine) : Builtin.List.listTooLong n = false := by
  unfold Builtin.List.listTooLong
  exact decide_eq_false (by omega)
end

section
variable {X : Cx}

/-! ### methods -/
def rAppend : V → List V → Hp → VK → Prop := fun x vs H Q => ∃ l xs y, x = .ref l ∧ vs = [y] ∧ H l = some (.lst xs) ∧ xs.length < sizeLine ∧ Q .non (upd H l (.lst (xs ++ [y])))
theorem mt_append : MtM X "list.append" rAppend := by
  intro pins s σ H x vs v us Q I rx rv h
  obtain ⟨l, xs, y, rfl, rfl, hH, hz, q⟩ := h
  cases rx
  obtain ⟨u, rfl, ru⟩ := rv.one
  obtain ⟨z, its, n, r, hl, e⟩ := I.lstM hH
  refine call_meets F.slot_list_append ⟨_, e, rfl⟩ F.entry_list_append (F.args_list_append_2 _ _) (PySem.list_append l its.toArray n u (by rw [List.size_toArray]; omega)) ⟨e, ?_⟩
  refine ⟨.non, _, I.lset (its' := its ++ [u]) hH e (by simp) (r.append (.cons ru .nil)) ?_, rfl, q⟩
  rw [List.length_append, List.length_singleton]
  omega

def rExtend : V → List V → Hp → VK → Prop := fun x vs H Q => ∃ l b xs zs, x = .ref l ∧ vs = [.ref b] ∧ H l = some (.lst xs) ∧ H b = some (.lst zs) ∧ xs.length + zs.length ≤ sizeLine ∧ Q .non (upd H l (.lst (xs ++ zs)))
theorem mt_extend : MtM X "list.extend" rExtend := by
  intro pins s σ H x vs v us Q I rx rv h
  obtain ⟨l, b, xs, zs, rfl, rfl, hH, hB, hz, q⟩ := h
  cases rx
  obtain ⟨u, rfl, ru⟩ := rv.one
  cases ru
  obtain ⟨z, its, n, r, hl, e⟩ := I.lstM hH
  obtain ⟨z2, its2, n2, r2, hl2, e2⟩ := I.lstM hB
  have hsz : its.toArray.size + its2.toArray.size ≤ sizeLine := by rw [List.size_toArray, List.size_toArray]; omega
  have hlong : ¬ (!its.toArray.isEmpty && Builtin.List.listTooLong (its.toArray.size + its2.toArray.size)) = true := by
    rw [notLongL hsz, Bool.and_false]
    exact Bool.false_ne_true
  refine call_meets F.slot_list_extend ⟨_, e, rfl⟩ F.entry_list_extend (F.args_list_extend_2 _ _)
    (AutoSeq1.list_extend_list_list_0 l its.toArray n b its2.toArray n2 hlong (by rw [List.size_toArray]; omega) (by omega)) ⟨e, e2, ?_⟩
  refine ⟨.non, _, I.lset (its' := its ++ its2) hH e (by simp) (r.append r2) ?_, rfl, q⟩
  rw [List.length_append]
  omega

def rPop : V → List V → Hp → VK → Prop := fun x vs H Q => ∃ l xs y, x = .ref l ∧ vs = [] ∧ H l = some (.lst xs) ∧ xs[xs.length - 1]? = some y ∧ Q y (upd H l (.lst xs.dropLast))
theorem mt_pop : MtM X "list.pop" rPop := by
  intro pins s σ H x vs v us Q I rx rv h
  obtain ⟨l, xs, y, rfl, rfl, hH, hy, q⟩ := h
  cases rx
  have hus := rv.zero
  subst hus
  obtain ⟨z, its, n, r, hl, e⟩ := I.lstM hH
  obtain ⟨u, hu, ru⟩ := r.get hy
  have hy' : its.toArray[its.toArray.size - 1]? = some u := by
    show its.toArray[its.length - 1]? = some u
    rw [← Array.getElem?_toList, ← hl]
    exact hu
  refine call_meets F.slot_list_pop ⟨_, e, rfl⟩ F.entry_list_pop (F.args_list_pop_1 _) (MeetsSeq.list_pop_last l its.toArray n u hy' (by rw [List.size_toArray]; omega)) ⟨e, ?_⟩
  refine ⟨y, _, I.lset (its' := its.dropLast) hH e ?_ r.dropLast ?_, ru, q⟩
  · show its.toArray.eraseIdxIfInBounds (its.toArray.size - 1) = its.dropLast.toArray
    rw [List.size_toArray, List.eraseIdxIfInBounds_toArray, erase_last]
  · rw [List.length_dropLast]
    omega

def rClear : V → List V → Hp → VK → Prop := fun x vs H Q => ∃ l xs, x = .ref l ∧ vs = [] ∧ H l = some (.lst xs) ∧ Q .non (upd H l (.lst []))
theorem mt_clear : MtM X "list.clear" rClear := by
  intro pins s σ H x vs v us Q I rx rv h
  obtain ⟨l, xs, rfl, rfl, hH, q⟩ := h
  cases rx
  have hus := rv.zero
  subst hus
  obtain ⟨z, its, n, r, hl, e⟩ := I.lstM hH
  refine call_meets F.slot_list_clear ⟨_, e, rfl⟩ F.entry_list_clear (F.args_list_clear_1 _) (AutoSeq1.list_clear_list_0 l its.toArray n (by rw [List.size_toArray]; omega)) ⟨e, ?_⟩
  exact ⟨.non, _, I.lset (its' := []) (ys := []) hH e rfl .nil (Nat.zero_le _), rfl, q⟩

/-! ### list + list, list += list, list * int -/
def rCat : R2 := fun x y H Q => ∃ l b xs zs, x = .ref l ∧ y = .ref b ∧ H l = some (.lst xs) ∧ H b = some (.lst zs) ∧ xs.length + zs.length ≤ sizeLine ∧ ∀ p, H p = none → Q (.ref p) (upd H p (.lst (xs ++ zs)))
theorem op_cat : OpR X (binaryOp .Add) rCat := by
  intro pins s σ H x y v u Q I rx ry h
  obtain ⟨l, b, xs, zs, rfl, rfl, hH, hB, hz, q⟩ := h
  cases rx
  cases ry
  obtain ⟨z, its, n, r, hl, e⟩ := I.lstM hH
  obtain ⟨z2, its2, n2, r2, hl2, e2⟩ := I.lstM hB
  refine PySem.P.add_list e e2 ?_ (by rw [List.size_toArray, List.size_toArray]; omega)
  have ea : its.toArray ++ its2.toArray = (its ++ its2).toArray := by simp
  rw [ea]
  exact ⟨.ref _, _, I.lnew (t' := s.toks) (r.append r2) (by rw [List.length_append]; omega), rfl, q _ I.fresh⟩
/-! ### del xs[i] -/
end

/-! ### xs[a:b] = ys -/
section
variable {prog : Program} {w : World} {A : Around} {E : Value → Shared → Prop} {s : Shared}
set_option maxRecDepth 100000 in
end

section
variable {X : Cx}
end
end L2

namespace L2
open PySem PySem.Spec PyProof.Rows

/-! ### lists of pairs as tables -/
section
variable {κ : Type} [DecidableEq κ]
def valV (kvs : List (κ × V)) (k : κ) : Option V := (kvs.find? fun kv => decide (kv.1 = k)).map (·.2)
/-- in its place, or at the end -/
def putK (kvs : List (κ × V)) (k : κ) (v : V) : List (κ × V) :=
  if (kvs.any fun kv => decide (kv.1 = k)) = true then kvs.map (fun kv => if kv.1 = k then (kv.1, v) else kv) else kvs ++ [(k, v)]
theorem valV_pos {p : κ × V} {r : List (κ × V)} {k : κ} (e : p.1 = k) : valV (p :: r) k = some p.2 := by simp [valV, List.find?_cons, e]
theorem valV_neg {p : κ × V} {r : List (κ × V)} {k : κ} (e : ¬ p.1 = k) : valV (p :: r) k = valV r k := by simp [valV, List.find?_cons, e]
theorem valV_any (k : κ) : ∀ kvs : List (κ × V), (kvs.any fun kv => decide (kv.1 = k)) = (valV kvs k).isSome
  | [] => rfl
  | p :: r => by
    rw [List.any_cons]
    by_cases e : p.1 = k
    · simp only [valV_pos e, decide_eq_true e, Bool.true_or, Option.isSome_some]
    · rw [valV_neg e, decide_eq_false e, Bool.false_or]; exact valV_any k r
theorem length_putK (kvs : List (κ × V)) (k : κ) (v : V) : (putK kvs k v).length ≤ kvs.length + 1 := by
  unfold putK
  split
  · rw [List.length_map]; omega
  · rw [List.length_append, List.length_cons, List.length_nil]; omega
theorem putK_new {kvs : List (κ × V)} {k : κ} (v : V) (h : valV kvs k = none) : putK kvs k v = kvs ++ [(k, v)] := by
  unfold putK
  rw [valV_any, h]
  exact if_neg (by decide)

theorem RelO.isSome_eq {o : Option V} {u : Option Value} (r : RelO o u) : o.isSome = u.isSome := by
  cases o with
  | none => cases u with
    | none => rfl
    | some _ => exact (show False from r).elim
  | some _ => cases u with
    | none => exact (show False from r).elim
    | some _ => rfl
/-- raw tables of the same keys -/
theorem KV.val {kvs : List (κ × V)} {vs : List (κ × Value)} (r : KV kvs vs) (k : κ) : RelO (valV kvs k) (valueAt vs k) := by
  unfold KV at r
  induction r with
  | nil => exact True.intro
  | @cons p q ps qs h t ih =>
    obtain ⟨h1, h2⟩ := h
    by_cases e : p.1 = k
    · have e' : q.1 = k := h1.symm.trans e
      have b : valueAt (q :: qs) k = some q.2 := by simp [valueAt, List.find?_cons, e']
      rw [valV_pos e, b]; exact h2
    · have e' : ¬ q.1 = k := fun z => e (h1.trans z)
      have b : valueAt (q :: qs) k = valueAt qs k := by simp [valueAt, List.find?_cons, e']
      rw [valV_neg e, b]; exact ih
theorem KV.any {kvs : List (κ × V)} {vs : List (κ × Value)} (r : KV kvs vs) (k : κ) : (kvs.any fun kv => decide (kv.1 = k)) = vs.any fun kv => decide (kv.1 = k) := by
  unfold KV at r
  induction r with
  | nil => rfl
  | cons h t ih => rw [List.any_cons, List.any_cons, ih, h.1]
theorem KV.repl {kvs : List (κ × V)} {vs : List (κ × Value)} (r : KV kvs vs) (k : κ) {y : V} {u : Value} (ry : RelV y u) :
    KV (kvs.map fun kv => if kv.1 = k then (kv.1, y) else kv) (vs.map fun kv => if kv.1 = k then (kv.1, u) else kv) := by
  unfold KV at r ⊢
  induction r with
  | nil => exact .nil
  | @cons p q ps qs h t ih =>
    rw [List.map_cons, List.map_cons]
    refine .cons ?_ ih
    obtain ⟨h1, h2⟩ := h
    by_cases e : p.1 = k
    · rw [if_pos e, if_pos (h1.symm.trans e)]; exact ⟨h1, ry⟩
    · rw [if_neg e, if_neg (fun z => e (h1.trans z))]; exact ⟨h1, h2⟩
theorem KV.put {kvs : List (κ × V)} {vs : List (κ × Value)} (r : KV kvs vs) (k : κ) {y : V} {u : Value} (ry : RelV y u) : KV (putK kvs k y) (stored vs k u) := by
  unfold putK stored
  rw [r.any k]
  by_cases e : (vs.any fun kv => decide (kv.1 = k)) = true
  · rw [if_pos e, if_pos e]; exact r.repl k ry
  · rw [if_neg e, if_neg e]; exact Paired.snoc r ⟨rfl, ry⟩
theorem KV.length {kvs : List (κ × V)} {vs : List (κ × Value)} (r : KV kvs vs) : kvs.length = vs.length := Paired.length r
end

/-! ### a tracked dict, its keys ints and texts or tuples of these -/
theorem kV_is {P : Program} {w : World} {k : Key} {u : Value} (r : RelV (kV k) u) : (mixKind P w).is k u = true := by
  cases k with
  | inl i => obtain ⟨t, e⟩ := (show ∃ t, u = Value.int i t from r); subst e; exact mixKind_int P w i t
  | inr x => obtain ⟨t, e⟩ := (show ∃ t, u = Value.str x t from r); subst e; exact mixKind_str P w x t
theorem items_are {P : Program} {w : World} : ∀ {ks : List Key} {us : List Value}, Vals (ks.map kV) us → ItemsAre (mixKind P w) ks us
  | [], _, r => by rw [List.map_nil] at r; cases r; exact .nil
  | k :: ks, _, r => by
    rw [List.map_cons] at r
    cases r with
    | cons h t => exact .cons (kV_is h) (items_are t)

/-- raw entries of a dict with tuple keys -/
abbrev KT (H : Hp) : List (List Key × V) → List (List Key × Addr × Value) → Prop := Paired fun p q => p.1 = q.1 ∧ H q.2.1 = some (.tup (p.1.map kV)) ∧ RelV p.2 q.2.2
theorem KT.val {H : Hp} {kvs : List (List Key × V)} {xs : List (List Key × Addr × Value)} (r : KT H kvs xs) (k : List Key) : RelO (valV kvs k) ((atKey xs k).map (·.2)) := by
  induction r with
  | nil => exact True.intro
  | @cons p q ps qs h t ih =>
    obtain ⟨h1, _, h2⟩ := h
    by_cases e : p.1 = k
    · have e' : q.1 = k := h1.symm.trans e
      have b : atKey (q :: qs) k = some q.2 := by simp [atKey, List.find?_cons, e']
      rw [valV_pos e, b]; exact h2
    · have e' : ¬ q.1 = k := fun z => e (h1.trans z)
      have b : atKey (q :: qs) k = atKey qs k := by simp [atKey, List.find?_cons, e']
      rw [valV_neg e, b]; exact ih
theorem KT.repl {H : Hp} {kvs : List (List Key × V)} {xs : List (List Key × Addr × Value)} (r : KT H kvs xs) (k : List Key) {y : V} {u : Value} (ry : RelV y u) :
    KT H (kvs.map fun kv => if kv.1 = k then (kv.1, y) else kv) (xs.map (putAt k u)) := by
  induction r with
  | nil => exact .nil
  | @cons p q ps qs h t ih =>
    rw [List.map_cons, List.map_cons]
    refine .cons ?_ ih
    obtain ⟨h1, h2, h3⟩ := h
    unfold putAt
    by_cases e : p.1 = k
    · rw [if_pos e, if_pos (h1.symm.trans e)]; exact ⟨h1, h2, ry⟩
    · rw [if_neg e, if_neg (fun z => e (h1.trans z))]; exact ⟨h1, h2, h3⟩
theorem KT.put {H : Hp} {kvs : List (List Key × V)} {xs : List (List Key × Addr × Value)} (r : KT H kvs xs) (k : List Key) {b : Addr} {y : V} {u : Value} (hb : H b = some (.tup (k.map kV))) (ry : RelV y u) :
    KT H (putK kvs k y) (storedH xs k b u) := by
  have e : (kvs.any fun kv => decide (kv.1 = k)) = (atKey xs k).isSome := by
    rw [valV_any, (r.val k).isSome_eq, Option.isSome_map]
  unfold putK storedH
  rw [e]
  by_cases q : (atKey xs k).isSome = true
  · rw [if_pos q, if_pos q]; exact r.repl k ry
  · rw [if_neg q, if_neg q]; exact Paired.snoc r ⟨rfl, hb, ry⟩
theorem KT.keeps {H H' : Hp} {kvs : List (List Key × V)} {xs : List (List Key × Addr × Value)} (r : KT H kvs xs) (ht : ∀ b ys, H b = some (.tup ys) → H' b = some (.tup ys)) : KT H' kvs xs :=
  Paired.mapP r fun _ _ z => ⟨z.1, ht _ _ z.2.1, z.2.2⟩

section
variable {P : Program} {w : World} {H : Hp} {h : Heap} {a : Addr}
theorem rd_of {u : HO} (ok : HOk P w H h) (e : Rd H a u) : ObjOk P w H h a u := e.ok ok
theorem dk_rd {kvs : List (Key × V)} (ok : HOk P w H h) (e : Rd H a (.dK kvs)) : kvs.length ≤ sizeLine ∧ (a == sysModules) = false ∧ ∃ vs, KV kvs vs ∧ h.DictOf (mixKind P w) a vs :=
  show ObjOk P w H h a (.dK kvs) from rd_of ok e
theorem dk_of {kvs : List (Key × V)} (ok : HOk P w H h) (e : H a = some (.dK kvs)) : kvs.length ≤ sizeLine ∧ (a == sysModules) = false ∧ ∃ vs, KV kvs vs ∧ h.DictOf (mixKind P w) a vs := dk_rd ok (.inl e)
/-- a tracked tuple of ints and texts is a key -/
theorem key_of {ks : List Key} (ok : HOk P w H h) (e : H a = some (.tup (ks.map kV))) : (tupleKind (mixKind P w)).is h ks a := by
  obtain ⟨_, its, r, o, h1, h2, n, h3⟩ := (show ObjOk P w H h a (.tup (ks.map kV)) from ok a _ e)
  exact ⟨o, its.toArray, n, h1, h2, h3, by simpa using items_are r⟩
theorem dt_rd {kvs : List (List Key × V)} (ok : HOk P w H h) (e : Rd H a (.dT kvs)) : kvs.length ≤ sizeLine ∧ (a == sysModules) = false ∧
    ∃ xs, KT H kvs xs ∧ h.DictOfH (tupleKind (mixKind P w)) a xs := by
  obtain ⟨z, y, xs, r, o, es, ep, h1, h2, h3, h4, h5⟩ := (show ObjOk P w H h a (.dT kvs) from rd_of ok e)
  refine ⟨z, y, xs, r, o, es, ep, h1, h2, h3, h4, fun x hx => ?_, h5⟩
  have all : ∀ {l : List (List Key × V)} {m : List (List Key × Addr × Value)}, KT H l m → ∀ x ∈ m, (tupleKind (mixKind P w)).is h x.1 x.2.1 := by
    intro l m q
    induction q with
    | nil => intro x hx; exact nomatch hx
    | @cons p q ps qs hq t ih =>
      intro x hx
      rcases List.mem_cons.mp hx with e | hx
      · subst e
        exact key_of ok (by rw [← hq.1]; exact hq.2.1)
      · exact ih x hx
  exact all r x hx
theorem dt_of {kvs : List (List Key × V)} (ok : HOk P w H h) (e : H a = some (.dT kvs)) : kvs.length ≤ sizeLine ∧ (a == sysModules) = false ∧
    ∃ xs, KT H kvs xs ∧ h.DictOfH (tupleKind (mixKind P w)) a xs := dt_rd ok (.inl e)
end

/-- what the dict at a holds at the key y -/
def DGet (H : Hp) (a : Addr) (y : V) (r : Option V) : Prop :=
  (∃ kvs k, Rd H a (.dK kvs) ∧ y = kV k ∧ r = valV kvs k) ∨ ∃ kvs k b, Rd H a (.dT kvs) ∧ y = .ref b ∧ H b = some (.tup (k.map kV)) ∧ r = valV kvs k
/-- the heap behind a[y] = v -/
def DPut (H : Hp) (a : Addr) (y v : V) (H' : Hp) : Prop :=
  (∃ kvs k, H a = some (.dK kvs) ∧ y = kV k ∧ kvs.length < sizeLine ∧ H' = upd H a (.dK (putK kvs k v))) ∨
  ∃ kvs k b, H a = some (.dT kvs) ∧ y = .ref b ∧ H b = some (.tup (k.map kV)) ∧ kvs.length < sizeLine ∧ H' = upd H a (.dT (putK kvs k v))
section
variable {X : Cx} {pins : List (Addr × Obj)} {σ : St} {H : Hp} {s : Shared} {a : Addr} {y v : V} {u r : Value} {o : Option V} {A : Around} {E : Value → Shared → Prop}

theorem Inv.big (I : Inv X pins σ H s) : sysModules < s.heap.objs.size := by
  have h : mainGlobals < s.heap.objs.size := (I.mod.glob.keeps I.bk).lt
  exact Nat.lt_trans (by decide) h

/-- d[y], there -/
theorem d_getItem {Q : Value → Shared → Prop} (hu : A.units + 1 < cLine) (I : Inv X pins σ H s) (g : DGet H a y (some v)) (ry : RelV y u) (h : ∀ w' s', Inv X pins σ H s' → RelV v w' → Q w' s') :
    wpAny (model X.prog X.w) A (getItem (.ref a) u) Q E s := by
  rcases g with ⟨kvs, k, e, ey, l⟩ | ⟨kvs, k, b, e, ey, eb, l⟩
  · subst ey
    obtain ⟨z, hd, vs, rel, dd⟩ := dk_rd I.hok e
    obtain ⟨w', hw, rw'⟩ := RelO.some_of (v := v) (o := valueAt vs k) (by rw [l]; exact rel.val k)
    exact wpAny_getItem_of (kV_is ry) dd.mapOf hw (h w' _ (I.tok _) rw')
  · subst ey
    cases (show u = Value.ref b from ry)
    obtain ⟨z, hd, xs, rel, dd⟩ := dt_rd I.hok e
    obtain ⟨w', hw, rw'⟩ := RelO.some_of (v := v) (o := (atKey xs k).map (·.2)) (by rw [l]; exact rel.val k)
    obtain ⟨p, hp, hp2⟩ := Option.map_eq_some_iff.mp hw
    refine wpAny_getItem_heap (tupleKind_room_in1 hu) (key_of I.hok eb) dd hp ?_
    rw [hp2]
    exact h w' _ (I.tok _) rw'
theorem d_notIn {Q : Value → Shared → Prop} (hu : A.units + 1 < cLine) (I : Inv X pins σ H s) (g : DGet H a y o) (ry : RelV y u) (h : ∀ s', Inv X pins σ H s' → Q (.bool (!o.isSome)) s') :
    wpAny (model X.prog X.w) A (compareOp .NotIn u (.ref a)) Q E s := by
  rcases g with ⟨kvs, k, e, ey, l⟩ | ⟨kvs, k, b, e, ey, eb, l⟩
  · subst ey
    obtain ⟨z, hd, vs, rel, dd⟩ := dk_rd I.hok e
    refine wpAny_notIn_of (kV_is ry) hd dd.mapOf ?_
    rw [← (rel.val k).isSome_eq, ← l]
    exact h _ (I.tok _)
  · subst ey
    cases (show u = Value.ref b from ry)
    obtain ⟨z, hd, xs, rel, dd⟩ := dt_rd I.hok e
    refine wpAny_notIn_heap (tupleKind_room_in1 hu) (key_of I.hok eb) hd dd ?_
    have q := (rel.val k).isSome_eq
    rw [Option.isSome_map] at q
    rw [← q, ← l]
    exact h _ (I.tok _)
/-- a dict's object is replaced -/
theorem d_write {h' : Heap} {t' : Nat} {ob : HO} (I : Inv X pins σ H s) (mu : Mut (H a)) (hs : Heap.SameBut a s.heap h') (he : ∃ q, h'.get? a = some q) (new : ObjOk X.prog X.w (upd H a ob) h' a ob) :
    Inv X pins σ (upd H a ob) { s with heap := h', toks := t' } :=
  I.write (x := a) (e := a) mu (.inl rfl) (fun b q hb z => (hs.2 b hb).trans z) he new
theorem dk_new {P : Program} {w : World} {H' : Hp} {h' : Heap} {kvs : List (Key × V)} {vs : List (Key × Value)} (z : kvs.length ≤ sizeLine) (hd : (a == sysModules) = false) (rel : KV kvs vs) (dd : h'.DictOf (mixKind P w) a vs) :
    ObjOk P w H' h' a (.dK kvs) := ⟨z, hd, vs, rel, dd⟩
/-- d[y] = v -/
theorem d_setItem {H' : Hp} {Q : Unit → Shared → Prop} (hu : A.units + 1 < cLine) (I : Inv X pins σ H s) (g : DPut H a y v H') (ry : RelV y u) (rv : RelV v r) (h : ∀ s', Inv X pins σ H' s' → Q () s') :
    wpAny (model X.prog X.w) A (setItem (.ref a) u r) Q E s := by
  rcases g with ⟨kvs, k, e, ey, l, eH⟩ | ⟨kvs, k, b, e, ey, eb, l, eH⟩
  · subst ey eH
    obtain ⟨z, hd, vs, rel, dd⟩ := dk_of I.hok e
    have hz : vs.length ≤ sizeLine := by rw [← rel.length]; exact z
    have hl : (putK kvs k v).length ≤ sizeLine := by have := length_putK kvs k v; omega
    refine wpAny_setItem_pairs (hsz := hz) (kV_is ry) dd fun h' dd' hs => h _ ?_
    have he : ∃ q, h'.get? a = some q := let ⟨q, _, _, hq, _⟩ := dd'; ⟨q, hq⟩
    exact d_write I (by rw [e]; exact True.intro) hs he (dk_new hl hd (rel.put k rv) dd')
  · subst ey eH
    cases (show u = Value.ref b from ry)
    obtain ⟨z, hd, xs, rel, dd⟩ := dt_of I.hok e
    have hz : xs.length ≤ sizeLine := by rw [← Paired.length rel]; exact z
    have hl : (putK kvs k v).length ≤ sizeLine := by have := length_putK kvs k v; omega
    refine wpAny_setItem_heap (hsz := hz) (tupleKind_room_in1 hu) (key_of I.hok eb) dd fun h' dd' hs => h _ ?_
    obtain ⟨q, es, ep, hq, h2, h3, h4, _, h5⟩ := dd'
    refine d_write I (by rw [e]; exact True.intro) hs ⟨q, hq⟩ ⟨hl, hd, _, (rel.put k eb rv).keeps fun c ys ec => ?_, q, es, ep, hq, h2, h3, h4, h5⟩
    rw [upd_ne (ne_of ec e (fun z => nomatch z))]
    exact ec
end

section
variable {X : Cx} {pins : List (Addr × Obj)} {σ : St} {H : Hp} {s : Shared} {a : Addr} {kvs : List (Key × V)} {k : Key} {u : Value} {A : Around} {E : Value → Shared → Prop}
/-- d.clear() -/
theorem d_clear {Q : Value → Shared → Prop} (I : Inv X pins σ H s) (e : H a = some (.dK kvs)) (h : ∀ s', Inv X pins σ (upd H a (.dK [])) s' → Q .none s') : wpAny (model X.prog X.w) A (call (.builtin "dict.clear") [.ref a]) Q E s := by
  obtain ⟨z, hd, vs, rel, dd⟩ := dk_of I.hok e
  refine call_meetsIn PySem.F.slot_dict_clear dd.typeIs PySem.F.entry_dict_clear (PySem.F.args_dict_clear_1 _) (meets_dict_clear (mixKind X.prog X.w) a) ⟨vs, dd, by rw [← rel.length]; exact z, fun h' dd' hs => h _ ?_⟩
  have he : ∃ q, h'.get? a = some q := let ⟨q, _, _, hq, _⟩ := dd'; ⟨q, hq⟩
  exact d_write (t' := s.toks) I (by rw [e]; exact True.intro) hs he (dk_new (Nat.zero_le _) hd .nil dd')
end

/-! ### readings and rules -/
/-- the element of a subscription, not a slice -/
def NoSl (i : Expr) : Prop := ∀ ov iv, subscripted i false ov iv = operate [ov, iv] (getItem ov iv)
theorem subD_of {prog : Program} {w : World} {A : Around} {E : Value → Shared → Prop} {s : Shared} {env : Env} {value slice : Expr} {pos : Pos} {T id : String} {Q : Value → Shared → Prop}
    (hl : typeLookup (.type T) "__getitem__" = pure (some (.builtin id))) (hs : NoSl slice)
    (h : wpAny (model prog w) A (eval value env) (fun o s₁ => wpAny (model prog w) A (eval slice env) (fun i s₂ => s₂.TypeIs o T ∧ wpAny (model prog w) A (getItem o i) Q E s₂) E s₁) E s) :
    wpAny (model prog w) A (eval (.Subscript value slice pos) env) Q E s := by
  refine Subscript_ (wpAny_mono h (fun o s₁ h₁ => wpAny_mono h₁ (fun i s₂ h₂ => ?_) fun _ _ x => x) fun _ _ x => x)
  obtain ⟨hT, h₂⟩ := h₂
  unfold subscriptTail
  refine wpAny_bind ?_
  rw [getitemInPython_of_ne hT.not_modules]
  refine wpAny_bind (wpAny_specialOf hT hl ?_)
  have fin : wpAny (model prog w) A (subscripted slice false o i) (fun r s₃ => wpAny (model prog w) A (letTemporaryGo value o r >>= fun _ => pure r) Q E s₃) E s₂ := by
    rw [hs o i]
    exact wpAny_operating (wpAny_mono h₂ (fun r s₃ h₃ => wpAny_bind (wpAny_letTemporaryGo (wpAny_pure h₃))) fun _ _ x => x)
  first
    | exact wpAny_pure (wpAny_bind fin)
    | exact wpAny_bind (wpAny_pure (wpAny_bind fin))
    | exact wpAny_bind fin

theorem dict_typeIs {X : Cx} {pins : List (Addr × Obj)} {σ : St} {H : Hp} {s : Shared} {a : Addr} {y : V} {o : Option V} (I : Inv X pins σ H s) (g : DGet H a y o) : s.TypeIs (.ref a) "dict" := by
  rcases g with ⟨kvs, k, e, _, _⟩ | ⟨kvs, k, b, e, _, _, _⟩
  · obtain ⟨_, _, vs, _, dd⟩ := dk_rd I.hok e
    exact dd.typeIs
  · obtain ⟨_, _, xs, _, dd⟩ := dt_rd I.hok e
    exact dd.typeIs
/-- d[y] -/
def tDGet (td ty : TE) : TE := fun σ H Q => td σ H fun x H1 => ty σ H1 fun y H2 => ∃ a v, x = .ref a ∧ DGet H2 a y (some v) ∧ Q v H2
def tDNotIn (ty td : TE) : TE := fun σ H Q => ty σ H fun y H1 => td σ H1 fun x H2 => ∃ a o, x = .ref a ∧ DGet H2 a y o ∧ Q (.bl (!o.isSome)) H2
/-- d[y] = v -/
def sDPut (td ty tv : TE) : TS := fun D σ H => tv σ H fun v H1 => td σ H1 fun x H2 => ty σ H2 fun y H3 => ∃ a H4, x = .ref a ∧ DPut H3 a y v H4 ∧ D.nx σ H4
section
variable {X : Cx} {o i e value : Expr} {pos pos' tpos : Pos} {td ty tv : TE}
theorem pe_dget (hu : X.A.units + 1 < cLine) (ho : PE X o td) (hi : PE X i ty) (hs : NoSl i) : PE X (.Subscript o i pos) (tDGet td ty) := by
  intro pins s σ H Q I h
  refine subD_of PySem.F.slot_dict_getitem.lookup hs (thn (ho pins s σ H _ I h) fun u s1 ⟨x, H1, I1, rx, q1⟩ => thn (hi pins s1 σ H1 _ I1 q1) fun iv s2 ⟨y, H2, I2, ry, a, v, ex, g, q2⟩ => ?_)
  subst ex
  obtain rfl : u = Value.ref a := rx
  exact ⟨dict_typeIs I2 g, d_getItem hu I2 g ry fun w' s3 I3 rw' => ⟨v, H2, I3, rw', q2⟩⟩
theorem pc_dnotin (hu : X.A.units + 1 < cLine) (hi : PE X i ty) (ho : PE X o td) : PC X .NotIn i o (tDNotIn ty td) := by
  intro pins s σ H Q I h
  refine thn (hi pins s σ H _ I h) fun iv s1 ⟨y, H1, I1, ry, q1⟩ => thn (ho pins s1 σ H1 _ I1 q1) fun u s2 ⟨x, H2, I2, rx, a, ov, ex, g, q2⟩ => ?_
  subst ex
  obtain rfl : u = Value.ref a := rx
  exact d_notIn hu I2 g ry fun s3 I3 => ⟨.bl (!ov.isSome), H2, I3, rfl, q2⟩
theorem ps_dput (hu : X.A.units + 1 < cLine) (ho : PE X o td) (hi : PE X i ty) (hv : PE X value tv) (hs : swapsWith value (some (.Subscript o i pos')) pos.line X.env = pure false) :
    PS X (.Assign [.Subscript o i pos'] value pos) (sDPut td ty tv) := by
  intro pins s σ H D I h
  refine wpAny_Assign_Subscript (thn (hv pins s σ H _ I h) fun r s1 ⟨v, H1, I1, rv, q1⟩ => thn (ho pins s1 σ H1 _ I1 q1) fun u s2 ⟨x, H2, I2, rx, q2⟩ => thn (hi pins s2 σ H2 _ I2 q2) fun iv s3 ⟨y, H3, I3, ry, a, H4, ex, g, q3⟩ => ?_) hs
  subst ex
  obtain rfl : u = Value.ref a := rx
  exact d_setItem hu I3 g ry rv fun s4 I4 => ⟨σ, H4, I4, q3⟩
end

/-! ### displays -/
theorem dk_empty {P : Program} {w : World} {H : Hp} (h : Heap) (hb : sysModules < h.objs.size) : ObjOk P w H (h.push { cls := .type "dict", data := .dict #[] }) h.objs.size (.dK []) :=
  ⟨Nat.zero_le _, beq_eq_false_iff_ne.mpr (Ne.symm (Nat.ne_of_lt hb)), [], .nil, Heap.DictOf.new h⟩
/-- {}, to be a dict of the kind that is wanted -/
def tDNewK : TE := fun _ H Q => ∀ p, H p = none → Q (.ref p) (upd H p (.dK []))
section
variable {X : Cx} {pos : Pos}
theorem pe_dnewK : PE X (.Dict [] [] pos) tDNewK := fun pins s σ H Q I h =>
  wpAny_Dict_empty ⟨.ref s.heap.objs.size, _, I.laid (a := s.heap.objs.size) (o := .dK []) (t' := s.toks) (fun _ _ q => Heap.get?_push_of_some _ q) (Nat.le_refl _) (dk_empty s.heap I.big), rfl, h _ (I.hok.fresh (Nat.le_refl _))⟩
end

/-- the pairs of a display, from the left -/
def tPairs : List (TE × TE) → St → Hp → (List (V × V) → Hp → Prop) → Prop
  | [], _, H, Q => Q [] H
  | (tk, tv) :: r, σ, H, Q => tk σ H fun x H1 => tv σ H1 fun y H2 => tPairs r σ H2 fun ps H3 => Q ((x, y) :: ps) H3
abbrev VV : List (V × V) → List (Value × Value) → Prop := Paired fun p q => RelV p.1 q.1 ∧ RelV p.2 q.2
def PPs (X : Cx) (pos : Pos) (keys : List (Option Expr)) (values : List Expr) (trs : List (TE × TE)) : Prop :=
  ∀ (pins : List (Addr × Obj)) (s : Shared) (σ : St) (H : Hp) (Q : List (V × V) → Hp → Prop), Inv X pins σ H s → tPairs trs σ H Q →
    wpAny (model X.prog X.w) X.A (evalPairs (pairTrees keys values X.env pos)) (fun vs s' => ∃ ps H', Inv X pins σ H' s' ∧ VV ps vs ∧ Q ps H') X.xe s
theorem pps_nil {X : Cx} {pos : Pos} : PPs X pos [] [] [] := fun pins s σ H Q I h => pairTrees_nil_walk ⟨[], H, I, .nil, h⟩
theorem pps_cons {X : Cx} {pos : Pos} {k v : Expr} {ks : List (Option Expr)} {vs : List Expr} {tk tv : TE} {trs : List (TE × TE)} (hk : PE X k tk) (hv : PE X v tv) (hr : PPs X pos ks vs trs) :
    PPs X pos (some k :: ks) (v :: vs) ((tk, tv) :: trs) := fun pins s σ H Q I h =>
  pairTrees_cons_walk (thn (hk pins s σ H _ I h) fun u s1 ⟨x, H1, I1, rx, q1⟩ => thn (hv pins s1 σ H1 _ I1 q1) fun w2 s2 ⟨y, H2, I2, ry, q2⟩ =>
    thn (hr pins s2 σ H2 _ I2 q2) fun ws s3 ⟨ps, H3, I3, rel, q3⟩ => ⟨(x, y) :: ps, H3, I3, .cons ⟨rx, ry⟩ rel, q3⟩)

def mergeK (kvs more : List (Key × V)) : List (Key × V) := more.foldl (fun acc kv => putK acc kv.1 kv.2) kvs
theorem KV.merge : ∀ {more : List (Key × V)} {rs : List (Key × Value)} {kvs : List (Key × V)} {vs : List (Key × Value)}, KV more rs → KV kvs vs → KV (mergeK kvs more) (merged vs rs) := by
  intro more rs kvs vs r
  unfold KV at r
  induction r generalizing kvs vs with
  | nil => intro q; exact q
  | @cons p q ps qs h t ih =>
    intro r0
    have e : KV (putK kvs p.1 p.2) (stored vs q.1 q.2) := by
      have := r0.put p.1 h.2
      rw [← h.1]; exact this
    exact ih e
theorem length_mergeK : ∀ (more kvs : List (Key × V)), (mergeK kvs more).length ≤ kvs.length + more.length
  | [], kvs => by show kvs.length ≤ kvs.length + 0; omega
  | p :: r, kvs => by
    have h1 := length_mergeK r (putK kvs p.1 p.2)
    have h2 := length_putK kvs p.1 p.2
    show (mergeK (putK kvs p.1 p.2) r).length ≤ _
    rw [List.length_cons]; omega
theorem carries_of {P : Program} {w : World} : ∀ {kvs : List (Key × V)} {ws : List (Value × Value)}, VV (kvs.map fun kv => (kV kv.1, kv.2)) ws → ∃ rs, Carries (mixKind P w) ws rs ∧ KV kvs rs
  | [], _, r => by rw [List.map_nil] at r; cases r; exact ⟨[], True.intro, .nil⟩
  | p :: kvs, _, r => by
    rw [List.map_cons] at r
    cases r with
    | @cons a b as bs h t =>
      obtain ⟨rs, c, q⟩ := carries_of (P := P) (w := w) t
      obtain ⟨b1, b2⟩ := b
      exact ⟨(p.1, b2) :: rs, ⟨kV_is h.1, rfl, c⟩, .cons ⟨rfl, h.2⟩ q⟩
/-- {k: v, ..} with keys ints and texts; the new dict stands empty while the pairs are made -/
def tDisp (trs : List (TE × TE)) : TE := fun σ H Q => ∀ p, H p = none → tPairs trs σ (upd H p (.dK [])) fun ps H2 => H2 p = some (.dK []) ∧ ∃ kvs : List (Key × V), ps = kvs.map (fun kv => (kV kv.1, kv.2)) ∧ kvs.length ≤ 15 ∧ Q (.ref p) (upd H2 p (.dK (mergeK [] kvs)))
theorem pe_disp {X : Cx} {pos : Pos} {keys : List (Option Expr)} {values : List Expr} {trs : List (TE × TE)} (h : PPs X pos keys values trs) (hall : keys.all (·.isSome) = true) (hl : keys.length = values.length) (h0 : keys ≠ [])
    (h15 : keys.length ≤ 15) : PE X (.Dict keys values pos) (tDisp trs) := by
  intro pins s σ H Q I q
  have hn := I.hok.fresh (Nat.le_refl s.heap.objs.size)
  have I1 := I.laid (a := s.heap.objs.size) (o := .dK []) (h' := s.heap.push { cls := .type "dict", data := .dict #[] }) (t' := s.toks) (fun _ _ q => Heap.get?_push_of_some _ q) (Nat.le_refl _) (dk_empty s.heap I.big)
  refine wpAny_Dict_walk (knd := mixKind X.prog X.w) hall hl h0 h15 (thn (h pins _ σ _ _ I1 (q _ hn)) fun ws s2 ⟨ps, H2, I2, rel, e, kvs, ep, lk, q2⟩ => ?_)
  subst ep
  obtain ⟨rs, c, rk⟩ := carries_of (P := X.prog) (w := X.w) rel
  obtain ⟨z, hd, vs0, r0, dd⟩ := dk_of I2.hok e
  cases r0
  refine ⟨rs, c, dd, fun h' dd' hs => ⟨.ref s.heap.objs.size, _, ?_, rfl, q2⟩⟩
  have hz : (mergeK [] kvs).length ≤ sizeLine := by
    have h1 := length_mergeK kvs []
    rw [List.length_nil] at h1
    rw [sizeLine_eq]; omega
  have he : ∃ q, h'.get? s.heap.objs.size = some q := let ⟨q, _, _, hq, _⟩ := dd'; ⟨q, hq⟩
  exact d_write I2 (by rw [e]; exact True.intro) hs he (dk_new hz hd (rk.merge .nil) dd')

/-! ### methods -/
section
variable {X : Cx} {pins : List (Addr × Obj)} {σ : St} {H : Hp} {s : Shared} {a : Addr} {y d : V} {u r : Value} {o : Option V} {A : Around} {E : Value → Shared → Prop}
end

section
variable {X : Cx} {o e f : Expr} {apos cpos : Pos} {td ty tx : TE}
end

/-! ### dict(d): a copy -/
section
variable {X : Cx} {pins : List (Addr × Obj)} {σ : St} {H : Hp} {s : Shared} {a : Addr} {kvs : List (Key × V)} {A : Around} {E : Value → Shared → Prop}
theorem d_copyOf {Q : Value → Shared → Prop} (I : Inv X pins σ H s) (e : Rd H a (.dK kvs)) (h : ∀ p s', H p = none → Inv X pins σ (upd H p (.dK kvs)) s' → Q (.ref p) s') : wpAny (model X.prog X.w) A (call (.type "dict") [.ref a]) Q E s := by
  obtain ⟨z, hd, vs, rel, dd⟩ := dk_rd I.hok e
  refine kt_call_dict hd dd (by rw [← rel.length]; exact z) fun h' dd' hs => ?_
  refine h _ _ (I.hok.fresh (Nat.le_refl _)) (I.laid (a := s.heap.objs.size) (o := .dK kvs) (t' := s.toks) (fun b q hq => ?_) (Nat.le_refl _) (dk_new z (beq_eq_false_iff_ne.mpr (Ne.symm (Nat.ne_of_lt I.big))) rel dd'))
  exact (hs.2 b (Nat.ne_of_lt (Heap.lt_size hq))).trans (Heap.get?_push_of_some _ hq)
end

section
variable {X : Cx} {pins : List (Addr × Obj)} {σ : St} {H : Hp} {s : Shared} {a : Addr} {y : V} {u : Value} {A : Around} {E : Value → Shared → Prop}
end
end L2

namespace Att
open PySem PySem.W PySem.Calls PyProof.Rows

/-! ### the script -/
theorem ints_of_wellAll {P : Params} {h : Heap} : ∀ (ns : List Int) (vs : List Value), WellAll P h vs (ns.map WData.int) → IntsAre vs ns := by
  intro ns
  induction ns with
  | nil =>
    intro vs w
    rw [List.map_nil] at w
    cases w
    exact .nil
  | cons n ns ih =>
    intro vs w
    rw [List.map_cons] at w
    cases w with
    | cons a b =>
      cases a
      exact .cons _ _ (ih _ b)

theorem script_of {l : OpenLaw} {n : Nat} (hn : l.most = some n) {P : Params} {h : Heap} {args : List WData} {vals : List Value}
    (hpre : l.row.toRowW.claim.pre args = true) (hwl : WellAll P h vals args) :
    ∃ a vs ns, vals = [Value.ref a] ∧ args = [WData.list (ns.map WData.int)] ∧ h.get? a = some { cls := .type "list", data := .seq vs.toArray } ∧ IntsAre vs ns ∧ ns.length ≤ n := by
  have hsh : WShape.hasAll [] args [.list .int] = true := (pre_splitW hpre).1
  have hc : l.pre.holds [] { args := args } = true := (pre_splitW hpre).2
  obtain ⟨d, r, rfl, h1, h2⟩ := hasAllW_cons hsh
  obtain rfl := hasAllW_nil h2
  obtain ⟨xs, rfl, h3⟩ := hasW_list h1
  obtain ⟨ns, rfl⟩ := items_int h3
  have hlen : ns.length ≤ n := by
    unfold OpenLaw.pre at hc
    have h4 : (WTm.not (.lt (.lit (.int (n : Int))) (.len (.arg 0)))).holds [] { args := [.list (ns.map .int)] } = true := by
      have h4 := (holds_andW hc).1
      rw [hn] at h4
      exact h4
    have h5 := condW_of h4 (w_not (w_lt w_lit (w_len_list (w_arg rfl))))
    rw [List.length_map] at h5
    refine Nat.le_of_not_lt fun q => ?_
    have q' : (n : Int) < ((ns.length : Nat) : Int) := by omega
    first
      | (rw [decide_eq_true q'] at h5; exact absurd h5 (by decide))
      | (simp at h5; omega)
  cases hwl with
  | cons w1 w2 =>
    cases w2
    cases w1 with
    | list ho hall => exact ⟨_, _, ns, rfl, rfl, ho, ints_of_wellAll ns _ hall, hlen⟩

theorem post_true (l : OpenLaw) (args : List WData) : l.row.toRowW.claim.post args (.bool true) args = true :=
  postW_of (r := l.row.toRowW) (X := (true == true))
    (show WShape.has [] (.bool true) .bool = true by first | rfl | decide | simp [WShape.has, WShape.arms, WShape.armsAll])
    (show (WTm.eq .res (.lit (.bool true))).value [] { args := args, res := some (.bool true), after := args } = some (.bool (true == true)) from w_eq_bool (w_res rfl) w_lit) rfl

/-! ### the attachment: holds_open's last premise (the goal 'hc' behind k_head) from a wpAny of the law's body -/
/-- the same from a codeAny of the CALL (for a layer whose function contracts speak of calls) -/
theorem attach_call {l : OpenLaw} {n : Nat} {q : Program} {loose : List Str} {XP : (Str → Option Value) → Heap → Prop} {YP : World → Heap → Prop} {d : DefRec}
    (hn : l.most = some n) (hdf : d.params.defaults = [])
    (call : ∀ (w : World) (s₀ s₁ : Shared) (mg mb : Str → Option Value) (fa : Addr) (o : Obj) (pm cd doc : Value) (a : Addr) (vs : List Value) (ns : List Int),
      Ground q loose [] XP w s₀ mg mb s₁.heap → YP w s₁.heap →
      s₁.heap.get? fa = some o → o.data = .func (docDef d.name d.params d.body d.scope pm cd doc) → s₁.heap.CodeRec cd d.name → mg d.name = some (.ref fa) →
      s₁.heap.get? a = some { cls := .type "list", data := .seq vs.toArray } → IntsAre vs ns → ns.length ≤ n → s₁.gens = #[] →
      codeAny (model l.prog w) callerA (.call (.ref fa) ⟨[.ref a], []⟩) (fun r s' => r = .ok (.ret (.bool true)) ∧ OldK s₁.heap s'.heap ∧ s'.os = s₁.os ∧ AllBare s'.gens) s₁) :
    WalkO q loose XP YP l.row.toRowW d [] (fun f vs => PySem.call f vs) := by
  intro w s₀ s₁ mg mb G Y fa o pm cd doc dV kV ho hd hcd hD hmg hg args vals as hpre hlay hrd hwl hlo
  obtain rfl : dV = .none := Dflts.none hD hdf
  obtain rfl : kV = .none := Dflts.noKw hD
  obtain ⟨a, vs, ns, rfl, rfl, hobj, hints, hlen⟩ := script_of hn hpre hwl
  refine enter_call (codeAny_mono (call w s₀ s₁ mg mb fa o pm cd doc a vs ns G Y ho (fd_plain hd) hcd hmg hobj hints hlen hg) fun r s' hq => ?_)
  obtain ⟨rfl, h2, h3, h4⟩ := hq
  exact ⟨.inl ⟨.bool true, .bool true, [], rfl, fun _ => rfl, .bool true, post_true l _, fun _ => ⟨List.Pairwise.nil, fun _ hm => (nomatch hm)⟩⟩, h2, h3, h4⟩

/-! ### rules over ANY heap (no ledger) from facts about the written part K: the library's own take a ledger (News) for what they write -/
section
variable {prog : Program} {w : World} {A : Around} {E : Value → Shared → Prop} {s : Shared} {K : Frag}

/-! the whole heap as the ledger: makes every rule that writes through a ledger a rule over any heap -/
end
end Att

namespace L2
open PySem PySem.Spec PyProof.Rows

theorem vals_ints : ∀ {vs : List Value} {ns : List Int}, IntsAre vs ns → Vals (ns.map V.int) vs
  | _, _, .nil => .nil
  | _, _, .cons n t h => .cons ⟨t, rfl⟩ (vals_ints h)

/-- nothing is tracked but the script, known to the object (or it is an object of the module) -/
def Only (H : Hp) : Prop := ∀ b, H b = none ∨ ∃ o xs, H b = some (.frz o (.lst xs))

/-- THE HEAD: the law's promise, at the heap behind the top. F, the promise of the law's def, may use that base is part of the heap (so K.In base, base.Ns mainGlobals mg stand in Mod) -/
theorem law_call {P : Program} {w : World} {K : PySem.W.Frag} {mg mb : Str → Option Value} {CX : CXT} {k : Nat} {fa a : Addr} {fd : FuncData} {x : Str} {sp : Sp} {s₁ : Shared} {vs : List Value} {ns : List Int}
    (KX : K.In s₁.heap) (hns : s₁.heap.Ns mainGlobals mg) (hb : s₁.heap.Ns builtinsNs mb) (hbb : ∀ x : Str, x ≠ "__name__" → mb x = bootBuiltins x) (hlim : s₁.heap.NoLimit) (hg : s₁.gens = #[])
    (ha : s₁.heap.get? a = some { cls := .type "list", data := .seq vs.toArray }) (hi : IntsAre vs ns) (hl : ns.length ≤ sizeLine) (hr : Room k callerA)
    (F : ∀ base : Heap, K.In base → base.Ns mainGlobals mg → FnOk P w K mg base CX k fa fd [x] sp) (hbind : ∀ (s : Shared) (u : Value), BindsTo s fd ⟨[u], []⟩ [(x, u)])
    (hsp : ∀ H : Hp, Only H → SqL K H a (ns.map V.int) → sp [.ref a] H (fun v _ => v = .bl true) fun _ _ _ => False)
    (hCX : ∀ H e s', CX [] H s₁ (fun _ _ _ => False) e s' → False) :
    codeAny (model P w) callerA (.call (.ref fa) ⟨[.ref a], []⟩) (fun r s' => r = .ok (.ret (.bool true)) ∧ OldK s₁.heap s'.heap ∧ s'.os = s₁.os ∧ AllBare s'.gens) s₁ := by
  have rv := vals_ints hi
  have lenV := hi.length
  -- from an abstract heap in which nothing but the script may be tracked
  have core : ∀ H : Hp, Only H → SqL K H a (ns.map V.int) → HOk P w H s₁.heap → (∀ b, H b ≠ none → b = a) → (H a ≠ none → K.lookup a = none) →
      codeAny (model P w) callerA (.call (.ref fa) ⟨[.ref a], []⟩) (fun r s' => r = .ok (.ret (.bool true)) ∧ OldK s₁.heap s'.heap ∧ s'.os = s₁.os ∧ AllBare s'.gens) s₁ := by
    intro H hO hS hok hA hK
    have base_of : ∀ {b : Addr} {o : Obj}, s₁.heap.get? b = some o → H b = none → (hidT s₁.heap H).get? b = some o := fun e n => hidT_get e n
    have noA : ∀ {b : Addr} {o : Obj} {es : Array DictEntry} {ep : Nat}, s₁.heap.get? b = some o → o.data = .dict es ep → H b = none := fun {b o es ep} e d => by
      cases q : H b with
      | none => rfl
      | some u =>
        have e' : b = a := hA b (by rw [q]; simp)
        subst e'
        rw [ha] at e; cases e
        have d' : Data.seq vs.toArray _ = Data.dict es ep := d
        cases d'
    have nsK : ∀ {b : Addr} {m : Str → Option Value}, s₁.heap.Ns b m → (hidT s₁.heap H).Ns b m := fun {b m} ⟨o, es, ep, e, d, r⟩ => ⟨o, es, ep, base_of e (noA e d), d, r⟩
    have hKb : K.In (hidT s₁.heap H) := fun b o e => base_of (KX b o e) (by
      cases q : H b with
      | none => rfl
      | some u =>
        have e' : b = a := hA b (by rw [q]; simp)
        subst e'
        rw [hK (by rw [q]; simp)] at e; cases e)
    have hM : Mod K mg (hidT s₁.heap H) := ⟨hKb, nsK hns, ⟨mb, nsK hb, hbb⟩, let ⟨mc, h1, h2⟩ := hlim; ⟨mc, nsK h1, h2⟩⟩
    have e0 : Env0 P w K mg (hidT s₁.heap H) callerA [] s₁ H := ⟨rfl, hM, fun b o e => of_hidT e, Nat.le_of_eq (hidT_size _ _), trivial, fun b hb => absurd (show b ∈ ([] : List Addr) from hb) (by simp), hok, .of_eq hg⟩
    refine codeAny_mono ((F _ hKb (nsK hns)).run callerA [] s₁ H ⟨[.ref a], []⟩ [.ref a] [.ref a] _ _ hr e0 (hbind s₁ (.ref a)) (.cons rfl .nil) (hsp H hO hS)) fun r s' h => ?_
    cases r with
    | error e => exact (hCX H e s' h).elim
    | ok fl =>
      cases fl with
      | next => exact False.elim h
      | brk => exact False.elim h
      | cont => exact False.elim h
      | ret u =>
        obtain ⟨v, H', os, bare, un, hok', r', q⟩ := h
        have q' : v = .bl true := q
        subst q'
        obtain rfl : u = Value.bool true := r'
        refine ⟨rfl, OldK.of_keep fun b o e => ?_, os, bare⟩
        cases q : H b with
        | none => exact un.keep b o e q (by intro z; exact absurd (show b ∈ ([] : List Addr) from z) (by simp)) (by simp)
        | some u =>
          rcases hO b with z | ⟨ob, xs, z⟩
          · rw [q] at z; cases z
          · have z2 := un.frzs b ob _ z
            obtain ⟨e1, _⟩ := hok b _ z
            obtain ⟨e2, _⟩ := hok' b _ z2
            rw [e] at e1; cases e1
            exact e2
  cases hk : K.lookup a with
  | some o =>
    -- the script is one of the module's own objects
    have e := KX a o hk
    rw [ha] at e
    cases e
    refine core (fun _ => none) (fun _ => .inl rfl) (.inr ⟨_, vs.toArray, _, hk, rfl, rfl, rfl, by rw [List.size_toArray, lenV]; exact hl, by simpa using rv⟩) (fun b u z => by have z' : (none : Option HO) = some u := z; cases z') (fun b z => absurd rfl z) fun z => absurd rfl z
  | none =>
    refine core (fun b => if b = a then some (.frz { cls := .type "list", data := .seq vs.toArray } (.lst (ns.map V.int))) else none) (fun b => ?_) (.inl (.inr ⟨{ cls := .type "list", data := .seq vs.toArray }, if_pos rfl⟩)) (fun b u z => ?_) (fun b z => ?_) fun _ => hk
    · by_cases hb : b = a
      · exact .inr ⟨_, _, if_pos hb⟩
      · exact .inl (if_neg hb)
    · by_cases hb : b = a
      · have z' := (if_pos hb).symm.trans z
        cases z'
        subst hb
        exact ⟨ha, by rw [List.length_map]; exact hl, vs, _, rv, ha⟩
      · have z' := (if_neg hb).symm.trans z
        cases z'
    · by_cases hb : b = a
      · exact hb
      · exact absurd (if_neg hb) z
end L2

namespace L2
open PySem PySem.Spec PyProof.Rows

/-- the goal that k_head leaves (case hc), from the law's promise. F gives the function object fd (K's own) once, then the promise over every base -/
theorem walk_of {l : PySem.W.OpenLaw} {n k : Nat} {q : Program} {loose : List Str} {XP : (Str → Option Value) → Heap → Prop} {YP : World → Heap → Prop} {d : DefRec} {K : Params → PySem.W.Frag} {CX : World → CXT} {sp : World → Sp} {x : Str}
    (hn : l.most = some n) (hn2 : n ≤ sizeLine) (hdf : d.params.defaults = []) (hr : Room k callerA)
    (hY : ∀ (w : World) (h : Heap), YP w h → (K w.params).In h)
    (F : ∀ (w : World) (mg : Str → Option Value) (fa : Addr) (h : Heap), (K w.params).In h → h.Ns mainGlobals mg → mg d.name = some (.ref fa) →
      ∃ fd : FuncData, (∀ (s : Shared) (u : Value), BindsTo s fd ⟨[u], []⟩ [(x, u)]) ∧
        ∀ base : Heap, (K w.params).In base → base.Ns mainGlobals mg → FnOk l.prog w (K w.params) mg base (CX w) k fa fd [x] (sp w))
    (hsp : ∀ (w : World) (H : Hp) (a : Addr) (ns : List Int), ns.length ≤ n → Only H → SqL (K w.params) H a (ns.map V.int) → sp w [.ref a] H (fun v _ => v = .bl true) fun _ _ _ => False)
    (hCX : ∀ (w : World) (H : Hp) (s : Shared) (e : Value) (s' : Shared), CX w [] H s (fun _ _ _ => False) e s' → False) :
    PySem.W.WalkO q loose XP YP l.row.toRowW d [] (fun f vs => PySem.call f vs) := by
  refine Att.attach_call hn hdf fun w s₀ s₁ mg mb fa o pm cd doc a vs ns G Y ho hd hcd hmg hobj hints hlen hg => ?_
  have KX := hY w _ Y
  obtain ⟨fd, hb, hF⟩ := F w mg fa _ KX G.T.g hmg
  exact law_call KX G.T.g G.T.b G.T.builtins G.T.nolimit hg hobj hints (Nat.le_trans hlen hn2) hr hF hb (fun H hO hS => hsp w H a ns hlen hO hS) fun H e s' => hCX w H s₁ e s'
end L2

/- THE LAST THEOREM (shape; LID, My.* are yours):
   My.Adr: a structure of the addresses that your layer names (classes, functions); My.Txt K t: a structure (Prop) of the equations over K;
   My.txt_mk : {K} {implicit addresses ..} (e1 : nsIn K mainGlobals "law" = some (some (.ref f))) (e2 : K.lookup f = some ⟨oc, od, .func (fnOf "law" "law" params body scope dV kV doc pm an cdv ct), sl⟩) (e3 : codeIn K cdv "law" = true) .. : ∃ t, My.Txt K t

set_option maxRecDepth 100000 in
set_option maxHeartbeats 0 in
theorem PySem.Challenge.cw_LID_holds : PySem.Challenge.rw_LID.Holds := by
  w_on; o_law; k_head; (case hw => w_witness2)
  k_fill
  refine L2.walk_of (l := PySem.Challenge.rw_LID) (n := 63) (k := 40) (x := "script") (CX := fun w => ..) (sp := fun _ => My.sp_law) rfl (by decide) rfl ⟨rfl, by decide, by decide⟩ (fun w h Y => PySem.W.kIn_of Y) ?F ?S ?C
  case F =>
    intro w mg fa h KX G hmg
    have T : ∃ t, My.Txt (L2.KOf KX) t := by
      dsimp only [L2.KOf]                          -- K must stand as «<heap const> w.params» for k_is
      refine' My.txt_mk ?e1 ?e2 ?e3 ..
      (case e1 => PySem.W.k_is)                    -- in the order: a name -> its address -> its object -> its parts
      (case e2 => PySem.W.k_is)
      ..
    obtain ⟨t, T⟩ := T
    have e0 := hmg.symm.trans (PySem.W.mg_of KX G T.law)
    cases e0                                       -- fa is the law's own address
    exact ⟨_, fun s u => .of_eq rfl, fun base kb nb => My.law_fn T kb nb⟩     -- if «.of_eq rfl» comes too early: refine' ⟨_, ?b, fun base kb nb => My.law_fn T kb nb⟩; exact fun s u => .of_eq rfl
  case S => exact fun w H a ns hl hO hS => ..
  case C => exact ..
(the tactic k_is has no namespace: write k_is) -/

/-! SHORT WORDS over the layer: a def of the text, its body, what a loop and a test want. -/
namespace L2
open PySem PySem.Spec PyProof.Rows

/-! ### the text by places -/
/-- the j-th statement of a class's body -/
def inClass (s : Stmt) (j : Nat) : Stmt := match s with
  | .ClassDef _ _ _ body _ _ _ _ _ _ _ => body.getD j (.Pass ⟨0, 0, 0, 0⟩)
  | _ => .Pass ⟨0, 0, 0, 0⟩
def defArgs (s : Stmt) : Arguments := match s with
  | .FunctionDef _ a _ _ _ _ _ _ _ _ => a
  | _ => { posonlyargs := [], args := [], vararg := none, kwonlyargs := [], kw_defaults := [], kwarg := none, defaults := [] }
def defBody (s : Stmt) : List Stmt := match s with
  | .FunctionDef _ _ b _ _ _ _ _ _ _ => b
  | _ => []
def defScope (s : Stmt) : Scope := match s with
  | .FunctionDef _ _ _ _ _ _ sc _ _ _ => sc
  | _ => { kind := .function, names := [], isGenerator := false, isCoroutine := false }

/-! ### no exception leaves a def -/
abbrev CX0 : CXT := fun _ _ _ _ _ _ => False
abbrev E0 : XK := fun _ _ _ => False
theorem pass0 {X : Cx} : Passes CX0 X E0 := fun _ _ _ _ _ _ _ h => h.elim

/-! ### a def (or method) of the text as it stands behind the top -/
structure Fun (K : PySem.W.Frag) (x qual : Str) (st : Stmt) (f : Addr) (fd : FuncData) : Prop where
  ex : ∃ (oc : Value) (od : Option Addr) (kV doc pm : Value) (an : Option Addr) (cdv ct : Value) (osl : Array (Option Value)),
    fd = PySem.W.fnOf x qual (defArgs st) (defBody st) (defScope st) .none kV doc pm an cdv ct ∧ K.lookup f = some ⟨oc, od, .func fd, osl⟩ ∧ PySem.W.codeIn K cdv qual = true
  kp : PySem.W.keepIn K (.ref f) = true
section
variable {P : Program} {w : World} {K : PySem.W.Frag} {mg : Str → Option Value} {base : Heap}
/-- THE RULE for a def: its body as a term of rules, and the reading of that term -/
theorem Fun.ok {x qual : Str} {st : Stmt} {f : Addr} {fd : FuncData} {N ps : List Str} {k : Nat} {sp : Sp} (F : Fun K x qual st f fd) (S : FnScope N ps (defScope st)) (len : ∀ vs H Q E, sp vs H Q E → vs.length = ps.length)
    (hbody : ∀ (cdv : Value) (A : Around) (outer : List Env) (s : Shared) (H : Hp) (vs : List V) (Q : VK) (E : XK), Room k (A.deeper (envOfC qual (defScope st) s.heap.objs.size f cdv)) → sp vs H Q E →
      ∃ t, PSs (cxOf CX0 P w K mg base N qual (defScope st) f cdv A outer s H E).nox (defBody st) t ∧ t { nx := fun _ H' => Q .non H', rt := Q } (start N vs) H) : FnOk P w K mg base CX0 (k + 1) f fd ps sp := by
  obtain ⟨oc, od, kV, doc, pm, an, cdv, ct, osl, rfl, lk, hcd⟩ := F.ex
  refine fn_of lk hcd S len fun A outer s H vs Q E hr hsp => ?_
  obtain ⟨t, h, q⟩ := hbody cdv A outer s H vs Q E hr hsp
  exact ⟨t, h.nox, q⟩
/-- how its arguments bind (no defaults): h is «fun _ _ _ _ _ _ us hl => by obtain ⟨v0, v1, rfl⟩ := L2.ln2 hl; rfl», one _ a parameter -/
theorem Fun.binds {x qual : Str} {st : Stmt} {f : Addr} {fd : FuncData} {ps : List Str} (F : Fun K x qual st f fd)
    (h : ∀ (kV doc pm : Value) (an : Option Addr) (cdv ct : Value) (us : List Value), us.length = ps.length → bindArgs (PySem.W.fnOf x qual (defArgs st) (defBody st) (defScope st) .none kV doc pm an cdv ct) ⟨us, []⟩ = pure (ps.zip us)) : Binds K fd ps [] := by
  obtain ⟨oc, od, kV, doc, pm, an, cdv, ct, osl, rfl, lk, hcd⟩ := F.ex
  exact .all (h kV doc pm an cdv ct)
theorem fun_mk {x qual : Str} {st : Stmt} {f : Addr} {oc : Value} {od an : Option Addr} {osl : Array (Option Value)} {kV doc pm cdv ct : Value} (l : K.lookup f = some ⟨oc, od, .func (PySem.W.fnOf x qual (defArgs st) (defBody st) (defScope st) .none kV doc pm an cdv ct), osl⟩)
    (c : PySem.W.codeIn K cdv qual = true) (k : PySem.W.keepIn K (.ref f) = true) : Fun K x qual st f (PySem.W.fnOf x qual (defArgs st) (defBody st) (defScope st) .none kV doc pm an cdv ct) := ⟨⟨oc, od, kV, doc, pm, an, cdv, ct, osl, rfl, l, c⟩, k⟩
end
theorem hu_of {A : Around} {k : Nat} (hr : Room k A) : A.units + 1 < cLine := Nat.lt_of_le_of_lt (Nat.add_le_add_left (by decide : 1 ≤ 64) _) hr.units
/-! ### expressions in short: the name that stands in the i-th slot -/
section
variable {X : Cx}
theorem pv (i : Nat) {x : Str} {pos : Pos} (hN : X.N[i]? = some x := by rfl) (hv : Vis X.env.scope x := by first | exact Or.inl rfl | exact Or.inr (Or.inl rfl) | exact Or.inr (Or.inr rfl)) (hd : (x == ("__debug__" : Str)) = false := by decide)
    (hcd : (x == ("__classdict__" : Str)) = false := by decide) : PE X (.Name x pos) (tVar i) := pe_var hN hv hd hcd
end

/-! ### tests -/
theorem iteF {A B : Prop} (h : B) : if false = true then A else B := by
  rw [if_neg Bool.false_ne_true]
  exact h
theorem iteT {A B : Prop} (h : A) : if true = true then A else B := by
  rw [if_pos rfl]
  exact h
theorem ite2 {c A B : Prop} [Decidable c] (h1 : c → A) (h2 : ¬ c → B) : if c then A else B := by
  by_cases h : c
  · rw [if_pos h]
    exact h1 h
  · rw [if_neg h]
    exact h2 h
/-! ### heaps -/
/-- all that was tracked is as it was -/
def Same (H H' : Hp) : Prop := ∀ b o, H b = some o → H' b = some o
theorem Same.refl (H : Hp) : Same H H := fun _ _ h => h
theorem Same.trans {H H1 H2 : Hp} (a : Same H H1) (b : Same H1 H2) : Same H H2 := fun c o h => b c o (a c o h)
theorem Same.seq {K : PySem.W.Frag} {H H' : Hp} {a : Addr} {xs : List V} (e : Same H H') (h : SqL K H a xs) : SqL K H' a xs := by
  rcases h with (h | ⟨o, h⟩) | h
  · exact .inl (.inl (e _ _ h))
  · exact .inl (.inr ⟨o, e _ _ h⟩)
  · exact .inr h

section
variable {X : Cx}
end
/-! ### a dict's pairs: keys that differ -/
section
variable {κ : Type} [DecidableEq κ]
end
end L2

/-! MORE OF THE HAND LAYER (own work): comprehensions, texts walked and sliced, all, any, isinstance. -/
namespace L2
open PySem PySem.Spec PyProof.Rows

/-! ### the cells that a comprehension's block takes over -/
def closF (env : Env) (cs : List (Str × Addr)) (y : Str × NameKind) : List (Str × Addr) :=
  if (y.2 == NameKind.free) = true then (y.1, (env.cells.lookup y.1).getD 0) :: cs else cs
def closL (env : Env) (names : List (Str × NameKind)) : List (Str × Addr) := names.foldl (closF env) []
theorem clos_from {env : Env} : ∀ (names : List (Str × NameKind)) (cs : List (Str × Addr)), (∀ y ∈ names, y.2 = .free → ∃ c, env.cells.lookup y.1 = some c) →
    (forIn names cs fun y r => (if (y.2 == NameKind.free) = true then do let a ← cellOf env y.1; pure (ForInStep.yield ((y.1, a) :: r)) else pure (ForInStep.yield r) : Sem (ForInStep (List (Str × Addr))))) = pure (names.foldl (closF env) cs)
  | [], cs, _ => rfl
  | y :: r, cs, h => by
    rw [List.forIn_cons, List.foldl_cons]
    by_cases hy : (y.2 == NameKind.free) = true
    · obtain ⟨c, hc⟩ := h y List.mem_cons_self (eq_of_beq hy)
      have e : cellOf env y.1 = pure c := by unfold cellOf; rw [hc]
      rw [if_pos hy, e, pure_bind, pure_bind]
      have e2 : closF env cs y = (y.1, c) :: cs := by unfold closF; rw [if_pos hy, hc]; rfl
      rw [e2]
      exact clos_from r _ fun z hz => h z (List.mem_cons_of_mem _ hz)
    · rw [if_neg hy, pure_bind]
      have e2 : closF env cs y = cs := by unfold closF; rw [if_neg hy]
      rw [e2]
      exact clos_from r _ fun z hz => h z (List.mem_cons_of_mem _ hz)
theorem clos_ok {env : Env} {scope : Scope} (h : ∀ y ∈ scope.names, y.2 = .free → ∃ c, env.cells.lookup y.1 = some c) : closureFor scope env = pure (closL env scope.names) := by
  have e := clos_from (env := env) scope.names [] h
  unfold closL
  rw [← e]
  simp only [closureFor, bind_pure_comp, map_pure, bind_pure]
theorem clos_sub {env : Env} : ∀ (names : List (Str × NameKind)) (cs : List (Str × Addr)), (∀ y ∈ names, y.2 = .free → ∃ c, env.cells.lookup y.1 = some c) → (∀ x c, cs.lookup x = some c → env.cells.lookup x = some c) →
    ∀ x c, (names.foldl (closF env) cs).lookup x = some c → env.cells.lookup x = some c
  | [], cs, _, hc, x, c, e => hc x c e
  | y :: r, cs, h, hc, x, c, e => by
    rw [List.foldl_cons] at e
    refine clos_sub r _ (fun z hz => h z (List.mem_cons_of_mem _ hz)) (fun z d q => ?_) x c e
    unfold closF at q
    by_cases hy : (y.2 == NameKind.free) = true
    · obtain ⟨c', hc'⟩ := h y List.mem_cons_self (eq_of_beq hy)
      rw [if_pos hy, List.lookup_cons, hc'] at q
      cases hz : z == y.1 with
      | true =>
        rw [hz] at q
        have q' : c' = d := Option.some.inj q
        rw [eq_of_beq hz, hc', q']
      | false =>
        rw [hz] at q
        exact hc z d q
    · rw [if_neg hy] at q
      exact hc z d q
theorem clos_has {env : Env} : ∀ (names : List (Str × NameKind)) (cs : List (Str × Addr)) (x : Str), ((x, NameKind.free) ∈ names ∨ ∃ c, cs.lookup x = some c) → ∃ c, (names.foldl (closF env) cs).lookup x = some c
  | [], cs, x, h => by
    rcases h with h | h
    · cases h
    · exact h
  | y :: r, cs, x, h => by
    rw [List.foldl_cons]
    refine clos_has r _ x ?_
    rcases h with h | ⟨c, h⟩
    · rcases List.mem_cons.mp h with e | e
      · subst e
        refine .inr ⟨(env.cells.lookup x).getD 0, ?_⟩
        unfold closF
        rw [if_pos (show ((x, NameKind.free).2 == NameKind.free) = true from rfl), List.lookup_cons, beq_self_eq_true]
      · exact .inl e
    · refine .inr ?_
      unfold closF
      by_cases hy : (y.2 == NameKind.free) = true
      · rw [if_pos hy, List.lookup_cons]
        cases hz : x == y.1 with
        | true => exact ⟨_, rfl⟩
        | false => exact ⟨c, h⟩
      · rw [if_neg hy]
        exact ⟨c, h⟩

/-! ### a comprehension's block -/
/-- the context in which its element and its tests run -/
abbrev cxComp (X : Cx) (scope : Scope) (N : List Str) (s : Shared) (H : Hp) (fp : List Addr) : Cx where
  prog := X.prog
  w := X.w
  K := X.K
  mg := X.mg
  base := X.base
  A := X.A
  N := N
  s₀ := s
  H₀ := H
  env := compEnvC scope (closL X.env scope.names) s.heap.objs.size X.env
  outer := X.stack
  stack := X.stack
  ex := fp
  fn := fun _ => false
  calm := X.calm
  pn := []
  xe := fun _ _ => False

/-- what of the text of a comprehension must be seen: xs its own names, fr the places of the names that it reads from around -/
structure CompTx (osc scope : Scope) (N0 : List Str) (xs : List Str) (fr : List Nat) : Prop where
  kind : scope.kind = .function
  nocell : ∀ y ∈ scope.names, y.2 ≠ .cell
  names : ∀ y ∈ scope.names, y.2 = .local → scope.names.lookup y.1 = some .local
  free : ∀ y ∈ scope.names, y.2 = .free → osc.names.lookup y.1 = some .cell ∨ osc.names.lookup y.1 = some .free
  fro : ∀ j ∈ fr, ∃ x, N0[j]? = some x ∧ scope.names.lookup x = some .free
  nd : (xs ++ fr.map fun j => N0.getD j "").Nodup

def compN (N0 : List Str) (xs : List Str) (fr : List Nat) : List Str := xs ++ fr.map fun j => N0.getD j ""
def compSt (xs : List Str) (fr : List Nat) (σ : St) : St := xs.map (fun _ => none) ++ fr.map fun j => (σ[j]?).join

theorem mem_of_lookup' {κ : Type} : ∀ {l : List (Str × κ)} {x : Str} {k : κ}, l.lookup x = some k → (x, k) ∈ l
  | [], _, _, h => by cases h
  | (n, k') :: r, x, k, h => by
    rw [List.lookup_cons] at h
    cases hx : x == n with
    | true =>
      rw [hx] at h
      have h' : k' = k := Option.some.inj h
      rw [eq_of_beq hx, h']
      exact List.mem_cons_self
    | false =>
      rw [hx] at h
      exact List.mem_cons_of_mem _ (mem_of_lookup' h)
/-- what a name of the block is -/
theorem relabel_look {env : Env} : ∀ {names : List (Str × NameKind)} {x : Str} {k : NameKind},
    (names.map fun (n, k) => if (k == NameKind.free && env.scope.kind == .function && env.kindOf n == some .cell) then (n, NameKind.cell) else (n, k)).lookup x = some k →
    names.lookup x = some k ∨ (k = .cell ∧ names.lookup x = some .free)
  | [], _, _, h => by cases h
  | (n, k') :: r, x, k, h => by
    have ih := @relabel_look env r x k
    rw [List.map_cons] at h
    rw [List.lookup_cons]
    by_cases hc : (k' == NameKind.free && env.scope.kind == .function && env.kindOf n == some .cell) = true
    · have h' : List.lookup x ((n, NameKind.cell) :: (r.map fun (n, k) => if (k == NameKind.free && env.scope.kind == .function && env.kindOf n == some .cell) then (n, NameKind.cell) else (n, k))) = some k := by
        rw [← h]; simp only [hc, if_true]
      rw [List.lookup_cons] at h'
      cases hx : x == n with
      | true =>
        rw [hx] at h'
        have h2 : NameKind.cell = k := Option.some.inj h'
        rw [Bool.and_eq_true, Bool.and_eq_true] at hc
        exact .inr ⟨h2.symm, congrArg some (eq_of_beq hc.1.1)⟩
      | false =>
        rw [hx] at h'
        exact ih h'
    · have h' : List.lookup x ((n, k') :: (r.map fun (n, k) => if (k == NameKind.free && env.scope.kind == .function && env.kindOf n == some .cell) then (n, NameKind.cell) else (n, k))) = some k := by
        rw [← h]; simp only [hc]; rfl
      rw [List.lookup_cons] at h'
      cases hx : x == n with
      | true =>
        rw [hx] at h'
        exact .inl h'
      | false =>
        rw [hx] at h'
        exact ih h'
theorem relabel_free {env : Env} : ∀ {names : List (Str × NameKind)} {x : Str}, names.lookup x = some .free →
    (names.map fun (n, k) => if (k == NameKind.free && env.scope.kind == .function && env.kindOf n == some .cell) then (n, NameKind.cell) else (n, k)).lookup x = some .cell ∨
    (names.map fun (n, k) => if (k == NameKind.free && env.scope.kind == .function && env.kindOf n == some .cell) then (n, NameKind.cell) else (n, k)).lookup x = some .free
  | [], _, h => by cases h
  | (n, k') :: r, x, h => by
    have ih := @relabel_free env r x
    rw [List.lookup_cons] at h
    rw [List.map_cons]
    by_cases hc : (k' == NameKind.free && env.scope.kind == .function && env.kindOf n == some .cell) = true
    · have e : (match (n, k') with | (n, k) => if (k == NameKind.free && env.scope.kind == .function && env.kindOf n == some .cell) then (n, NameKind.cell) else (n, k)) = (n, NameKind.cell) := by
        simp only [hc, if_true]
      rw [e, List.lookup_cons]
      cases hx : x == n with
      | true => exact .inl rfl
      | false => rw [hx] at h; exact ih h
    · have e : (match (n, k') with | (n, k) => if (k == NameKind.free && env.scope.kind == .function && env.kindOf n == some .cell) then (n, NameKind.cell) else (n, k)) = (n, k') := by
        simp only [hc]; rfl
      rw [e, List.lookup_cons]
      cases hx : x == n with
      | true =>
        rw [hx] at h
        exact .inr h
      | false => rw [hx] at h; exact ih h

section
variable {X : Cx}
theorem comp_free {osc scope : Scope} {N0 xs : List Str} {fr : List Nat} {pins : List (Addr × Obj)} {σ : St} {H : Hp} {s : Shared} (C : CompTx osc scope N0 xs fr) (ho : X.env.scope = osc) (I : Inv X pins σ H s) :
    ∀ y ∈ scope.names, y.2 = .free → ∃ c, X.env.cells.lookup y.1 = some c := fun y hy e => by
  refine I.ok.has y.1 ?_
  rw [← ho] at C
  exact C.free y hy e

/-- the block's entry -/
theorem comp_start {osc scope : Scope} {N0 xs : List Str} {fr : List Nat} {pins : List (Addr × Obj)} {σ : St} {H : Hp} {s : Shared} {fp : List Addr} {h₁ : Heap} {tk : Nat} (C : CompTx osc scope N0 xs fr) (ho : X.env.scope = osc) (hN0 : X.N = N0) (I : Inv X pins σ H s)
    (hf : ∀ b ∈ fp, FpOk X pins H b) (hlt : ∀ b ∈ fp, b < s.heap.objs.size) (hn : h₁.Ns s.heap.objs.size fun _ => none) (hk : ∀ b o, s.heap.get? b = some o → h₁.get? b = some o) :
    Inv (cxComp X scope (compN N0 xs fr) s H fp) [] (compSt xs fr σ) H { s with heap := h₁, toks := tk } := by
  subst hN0
  have hfree := comp_free C ho I
  have sub := clos_sub (env := X.env) scope.names [] hfree (fun x c e => by cases e)
  have nC : ∀ x c, X.env.cells.lookup x = some c → c ≠ s.heap.objs.size := fun x c e z => by
    obtain ⟨v, q⟩ := I.cell x c e
    exact absurd q.lt (by rw [z]; exact Nat.lt_irrefl _)
  refine ⟨⟨I.ok.mod, C.kind, I.ok.glob, I.ok.blt, Nat.le_refl _, fun x y c h1 h2 => I.ok.inj x y c (sub x c h1) (sub y c h2), fun x hx => ?_, fun x c h _ => (Bool.false_ne_true h).elim, I.ok.hd, I.ok.frames, .inl rfl, fun b hb => ?_, I.bs, Nat.le_trans I.ok.bsz I.sz, fun b o e hb => ?_, fun b hb hz => ?_, I.stack, I.stkFree⟩,
    rfl, I.bare, Un.kept hk, ⟨_, hn, fun i x v h1 h2 h3 => ?_⟩, fun x c h => ?_, I.hok.fresh (Nat.le_refl _), fun x c h => I.freeC x c (sub x c h), fun p hp => absurd (show p ∈ ([] : List (Addr × Obj)) from hp) (by simp), I.hok.kept hk, ?_⟩
  · have hx' : (relabel scope X.env).names.lookup x = some .cell ∨ (relabel scope X.env).names.lookup x = some .free := hx
    refine clos_has (env := X.env) scope.names [] x (.inl ?_)
    rcases hx' with q | q
    · rcases relabel_look q with z | ⟨_, z⟩
      · exact absurd rfl (C.nocell _ (mem_of_lookup' z))
      · exact mem_of_lookup' z
    · rcases relabel_look q with z | ⟨z, _⟩
      · exact mem_of_lookup' z
      · cases z
  · exact ⟨Nat.ne_of_lt (hlt b hb), fun x c h => (hf b hb).2.2.2.2.1 x c (sub x c h)⟩
  · rcases (hf b hb).2.2.2.1 with z | z
    · exact I.ok.noex b o e z
    · exact absurd (Nat.lt_of_lt_of_le (Heap.lt_size e) (Nat.le_trans I.ok.bsz z)) (Nat.lt_irrefl _)
  · rcases List.mem_cons.mp (I.stkSub b hz) with z | z
    · exact (hf b hb).2.1 z
    · exact (hf b hb).2.2.1 z
  · -- a name that is set stands behind the block's own ones
    have hi : ¬ i < xs.length := fun hi => by
      unfold compSt at h2
      rw [List.getElem?_append_left (by rw [List.length_map]; exact hi), List.getElem?_map] at h2
      cases q : xs[i]? with
      | none => rw [q] at h2; cases h2
      | some y => rw [q] at h2; cases h2
    have hi' : xs.length ≤ i := Nat.le_of_not_lt hi
    have e2 : (fr.map fun j => (σ[j]?).join)[i - xs.length]? = some (some v) := by
      have := h2
      unfold compSt at this
      rw [List.getElem?_append_right (by rw [List.length_map]; exact hi'), List.length_map] at this
      exact this
    rw [List.getElem?_map] at e2
    cases q : fr[i - xs.length]? with
    | none => rw [q] at e2; cases e2
    | some j =>
      rw [q] at e2
      have e3 : (σ[j]?).join = some v := Option.some.inj e2
      have e4 : σ[j]? = some (some v) := by
        cases z : σ[j]? with
        | none => rw [z] at e3; cases e3
        | some u => rw [z] at e3; rw [show u = some v from e3]
      obtain ⟨y, hy, hyf⟩ := C.fro j (List.mem_of_getElem? q)
      have ex : x = y := by
        have h1' : (compN X.N xs fr)[i]? = some x := h1
        unfold compN at h1'
        rw [List.getElem?_append_right hi', List.getElem?_map, q] at h1'
        have h5 : X.N.getD j "" = x := Option.some.inj h1'
        rw [← h5, List.getD_eq_getElem?_getD, hy]
        rfl
      subst ex
      obtain ⟨m, _, hl⟩ := I.loc
      have kf := C.free _ (mem_of_lookup' hyf) rfl
      rw [← ho] at kf
      have vis : Vis X.env.scope x := by
        rcases kf with z | z
        · exact .inr (.inl z)
        · exact .inr (.inr z)
      obtain ⟨u, r, l⟩ := hl j x v hy e4 vis
      refine ⟨u, r, .inr ⟨relabel_free hyf, ?_⟩⟩
      rcases l with ⟨z, _⟩ | ⟨_, c, hc, hcell⟩
      · have z' : X.env.scope.names.lookup x = some .local := z
        rcases kf with w | w
        · rw [z'] at w; cases w
        · rw [z'] at w; cases w
      · obtain ⟨c', hc'⟩ := clos_has (env := X.env) scope.names [] x (.inl (mem_of_lookup' hyf))
        have e5 := sub x c' hc'
        rw [hc] at e5
        cases e5
        refine ⟨c, hc', ?_⟩
        obtain ⟨o, ho', hd⟩ := hcell
        exact ⟨o, hk _ _ ho', hd⟩
  · obtain ⟨v, o, ho', hd⟩ := I.cell x c (sub x c h)
    exact ⟨v, o, hk _ _ ho', hd⟩
  · show (compSt xs fr σ).length = (compN X.N xs fr).length
    unfold compSt compN
    simp
end
end L2

namespace L2
open PySem PySem.Spec PyProof.Rows

/-! ### the tests of a comprehension: none, or one -/
def PIf (X : Cx) (ifs : List Expr) (t : TT) : Prop :=
  ∀ (pins : List (Addr × Obj)) (s : Shared) (σ : St) (H : Hp) (Q : Bool → Hp → Prop), Inv X pins σ H s → t σ H Q →
    wpAny (model X.prog X.w) X.A (forIn ifs true fun c r => if r = true then do let ok ← isTrue c X.env (eval c X.env); pure (ForInStep.yield ok) else pure (ForInStep.yield r)) (TP X pins σ Q) X.xe s
def tYes : TT := fun _ H Q => Q true H
theorem pif_nil {X : Cx} : PIf X [] tYes := fun _ _ σ H Q I h => wpAny_tests_nil ⟨H, I, h⟩
/-- what is wanted of a comprehension's walk over J: W by the turn, a measure, the block's names, the heap; D the list; N behind an element that is kept, M behind one that is left out -/
def CompW (J : It) (g : TG) (tt : TT) (te : TE) (R : Addr → Hp → Prop) (D : Addr) (σ0 : St) (H0 : Hp) : Prop :=
  ∃ W : Nat → Nat → St → Hp → Prop, (∃ m, W 0 m σ0 H0) ∧ ∀ i m σ H, W i m σ H →
    (J.stop i H ∧ R D H) ∨
    (J.go i H ∧ ∃ (N : St → V → Hp → Prop) (M : St → Hp → Prop), (∀ σ2 y H4, N σ2 y H4 → ∃ ys, H4 D = some (.lst ys) ∧ ys.length < sizeLine ∧ ∃ m', m' < m ∧ W (i + 1) m' σ2 (upd H4 D (.lst (ys ++ [y])))) ∧
      (∀ σ2 H3, M σ2 H3 → ∃ m', m' < m ∧ W (i + 1) m' σ2 H3) ∧
      ∀ x H', J.yld i H x H' → g x σ H' fun σ2 H2 => tt σ2 H2 fun b H3 => if b = true then te σ2 H3 (N σ2) else M σ2 H3)
/-- [elt for tg in iter if ..] -/
def tComp (xs : List Str) (fr : List Nat) (wi : TI) (g : TG) (tt : TT) (te : TE) : TE := fun σ H Q => wi σ H fun J H1 => ∀ D, H1 D = none → CompW J g tt te (fun D H2 => Q (.ref D) H2) D (compSt xs fr σ) (upd H1 D (.lst []))
/-- x = [elt for tg in iter if ..], x in the i-th slot -/
def sComp (i : Nat) (xs : List Str) (fr : List Nat) (wi : TI) (g : TG) (tt : TT) (te : TE) : TS := fun E σ H => wi σ H fun J H1 => ∀ D, H1 D = none → CompW J g tt te (fun D H2 => E.nx (σ.set i (some (.ref D))) H2) D (compSt xs fr σ) (upd H1 D (.lst []))

section
variable {X : Cx}
theorem comp_block {osc scope : Scope} {N0 xs : List Str} {fr : List Nat} {pins : List (Addr × Obj)} {σ : St} {H2 : Hp} {s2 : Shared} {fp : List Addr} {it : Addr} {tn : Nat → Heap → Prop} {J : It} {elt tg iter : Expr} {ifs : List Expr} {pos : Pos}
    {g : TG} {tt : TT} {te : TE} {E : Value → Shared → Prop} {R : Addr → Hp → Prop} {RR : Value → Addr → Result → Shared → Prop} (C : CompTx osc scope N0 xs fr) (ho : X.env.scope = osc) (hN0 : X.N = N0) (hc : X.calm = true)
    (hg : ∀ s H fp, PG (cxComp X scope (compN N0 xs fr) s H fp) tg g) (ht : ∀ s H fp, PIf (cxComp X scope (compN N0 xs fr) s H fp) ifs tt) (he : ∀ s H fp, PE (cxComp X scope (compN N0 xs fr) s H fp) elt te)
    (I2 : Inv X pins σ H2 s2) (T : Turn X.prog X.w X.K tg J fp it tn) (st2 : tn 0 s2.heap) (f2 : ∀ b ∈ fp, FpOk X pins H2 b)
    (hR : ∀ D, H2 D = none → CompW J g tt te R D (compSt xs fr σ) (upd H2 D (.lst [])))
    (hRR : ∀ (D C : Addr) (s' : Shared) (H' : Hp) (m : Str → Option Value), Inv X pins σ H' s' → s'.heap.Ns C m → FpOk X pins H' C → R D H' → RR (.ref D) C (.ok .next) s') :
    wpAny (model X.prog X.w) X.A (newList []) (fun acc s₃ => wpAny (model X.prog X.w) X.A (newFunctionEnv scope X.env.globals (closL X.env scope.names) [] X.env.qual none .none (some X.env)) (fun cenv s₄ =>
      codeAny (model X.prog X.w) X.A (.compStart (.ListComp elt [⟨tg, iter, ifs, 0⟩] scope pos) 0 (.ref it) acc { cenv with scope := relabel scope X.env }) (RR acc cenv.locals) s₄) E s₃) E s2 := by
  refine wpAny_newObj_type (wpAny_newFunctionEnv C.nocell (by intro y hy; simp at hy) (fun h₁ hns₁ hsb₁ => ?_) C.kind)
  dsimp only at hns₁ hsb₁ ⊢
  have I3 : Inv X pins σ (upd H2 s2.heap.objs.size (.lst [])) { s2 with heap := s2.heap.push { cls := .type "list", data := .seq ([] : List Value).toArray } } := I2.lnew (its := []) (t' := s2.toks) .nil (by simp)
  have flt : ∀ b ∈ fp, b < s2.heap.objs.size := fun b hb => by
    obtain ⟨o, e, _⟩ := T.obj 0 _ st2 b hb
    exact Heap.lt_size e
  have f3 : ∀ b ∈ fp, FpOk X pins (upd H2 s2.heap.objs.size (.lst [])) b := fun b hb => ⟨by rw [upd_ne (Nat.ne_of_lt (flt b hb))]; exact (f2 b hb).1, (f2 b hb).2⟩
  have flt3 : ∀ b ∈ fp, b < (s2.heap.push { cls := .type "list", data := .seq ([] : List Value).toArray }).objs.size := fun b hb => by
    rw [Heap.size_push]
    exact Nat.lt_succ_of_lt (flt b hb)
  obtain ⟨W, ⟨m0, w0⟩, turn⟩ := hR s2.heap.objs.size I2.fresh
  generalize hD : s2.heap.objs.size = D at *
  generalize hs3 : s2.heap.push { cls := .type "list", data := .seq ([] : List Value).toArray } = h3 at *
  have up2 : ∀ b o, s2.heap.get? b = some o → h3.get? b = some o := fun b o e => by rw [← hs3]; exact Heap.get?_push_of_some _ e
  have old : ∀ b o, h3.get? b = some o → h₁.get? b = some o := fun b o e => hsb₁.extBut b o (Nat.ne_of_lt (Heap.lt_size e)) (Heap.get?_push_of_some _ e)
  have Ic := comp_start (tk := s2.toks + ([] : List (Str × Value)).length) C ho hN0 I3 f3 flt3 hns₁ old
  have st4 : tn 0 h₁ := T.keep 0 _ _ st2 fun b hb o e => old b o (up2 b o e)
  have stat : ∀ {H' : Hp}, (∀ b ∈ fp, H' b = none) → ∀ b ∈ fp, FpOk (cxComp X scope (compN N0 xs fr) { s2 with heap := h3 } (upd H2 D (.lst [])) fp) [] H' b := fun hn b hb =>
    ⟨hn b hb, Nat.ne_of_lt (flt3 b hb), fun z => by
      rcases List.mem_cons.mp (I3.stkSub b z) with q | q
      · exact (f3 b hb).2.1 q
      · exact (f3 b hb).2.2.1 q, .inl hb, fun x c h => (Ic.ok.exf b hb).2 x c h, fun p hp => absurd (show p ∈ ([] : List (Addr × Obj)) from hp) (by simp)⟩
  have fin : ∀ {σ' : St} {H' : Hp} {s' : Shared}, Inv (cxComp X scope (compN N0 xs fr) { s2 with heap := h3 } (upd H2 D (.lst [])) fp) [] σ' H' s' → R D H' → RR (.ref D) h3.objs.size (.ok .next) s' := fun {σ' H' s'} I' q => by
    obtain ⟨m, hm, _⟩ := I'.loc
    refine hRR D h3.objs.size s' H' m (I3.call' I'.os I'.base I'.hok I'.bare fun b hb => ?_) hm (I3.fpOk (Nat.le_refl _) I'.free) q
    exact ⟨(f3 b hb).2.2.2.1, (f3 b hb).2.1, (f3 b hb).2.2.2.2.1, (f3 b hb).2.2.2.2.2⟩
  have loop : codeAny (model X.prog X.w) X.A (.compLoop (.ListComp elt [⟨tg, iter, ifs, 0⟩] scope pos) 0 (.ref it) (.ref D) (compEnvC scope (closL X.env scope.names) h3.objs.size X.env)) (RR (.ref D) h3.objs.size) { s2 with heap := h₁, toks := s2.toks + ([] : List (Str × Value)).length } := by
    refine codeAny_loop rfl (fun n s' => ∃ i σ' H', Inv (cxComp X scope (compN N0 xs fr) { s2 with heap := h3 } (upd H2 D (.lst [])) fp) [] σ' H' s' ∧ tn i s'.heap ∧ (∀ b ∈ fp, H' b = none) ∧ W i n σ' H') (fun n s' hI => ?_) m0 ⟨0, _, _, Ic, st4, fun b hb => (f3 b hb).1, w0⟩
    show wpAny _ X.A ((compTurn (.ListComp elt [⟨tg, iter, ifs, 0⟩] scope pos) 0 (.ref it) (.ref D) (compEnvC scope (closL X.env scope.names) h3.objs.size X.env)).onRaise (fun x => do noteFrame x (compEnvC scope (closL X.env scope.names) h3.objs.size X.env); theTreesLotGoes x)) _ _ s'
    refine wpAny_noted ?_
    rw [compTurn_list]
    obtain ⟨i, σ', H', I', st', fr', w'⟩ := hI
    refine wpAny_bind (wpAny_standAt (wpAny_bind ?_))
    rcases turn i n σ' H' w' with ⟨stop, q⟩ | ⟨go, N, M, hN, hM, step⟩
    · refine thn (T.done (cxComp X scope (compN N0 xs fr) { s2 with heap := h3 } (upd H2 D (.lst [])) fp) rfl rfl rfl hc i [] s' σ' H' _ I' (stat fr') st' stop) fun r s4 ⟨hr, I4⟩ => ?_
      subst hr
      exact wpAny_pure (fin I4 q)
    · refine thn (T.item (cxComp X scope (compN N0 xs fr) { s2 with heap := h3 } (upd H2 D (.lst [])) fp) rfl rfl rfl hc i [] s' σ' H' _ I' (stat fr') st' go) fun r s4 ⟨u, hr, h4⟩ => ?_
      subst hr
      refine wpAny_bind (thn h4 fun _ s5 ⟨x, H5, I5, r5, y5, st5, fr5⟩ => ?_)
      have I5' := I5.pinned (stat fr5) (T.obj _ _ st5)
      have again : ∀ {σ7 : St} {H7 : Hp} {s7 : Shared}, Inv (cxComp X scope (compN N0 xs fr) { s2 with heap := h3 } (upd H2 D (.lst [])) fp) ([] ++ pinsAt fp s5.heap) σ7 H7 s7 → (∃ m', m' < n ∧ W (i + 1) m' σ7 H7) →
          ∃ m, m < n ∧ ∃ i σ' H', Inv (cxComp X scope (compN N0 xs fr) { s2 with heap := h3 } (upd H2 D (.lst [])) fp) [] σ' H' s7 ∧ tn i s7.heap ∧ (∀ b ∈ fp, H' b = none) ∧ W i m σ' H' := fun {σ7 H7 s7} I7 n7 => by
        obtain ⟨m', hm, w7⟩ := n7
        refine ⟨m', hm, i + 1, σ7, H7, I7.unpinned, T.keep _ _ _ st5 fun b hb o e => (I7.pin (b, o) (List.mem_append_right _ (List.mem_append_right _ (mem_pinsAt hb e)))).1, fun b hb => ?_, w7⟩
        obtain ⟨o, e, d⟩ := T.obj _ _ st5 b hb
        exact (I7.pin (b, o) (List.mem_append_right _ (List.mem_append_right _ (mem_pinsAt hb e)))).2.1
      refine wpAny_bind (wpAny_mono (hg _ _ _ _ s5 σ' H5 x u _ I5' r5 (step x H5 y5)) (fun _ s6 ⟨σ6, H6, I6, q6⟩ => ?_) fun _ _ z => False.elim z)
      refine wpAny_bind (wpAny_mono (ht _ _ _ _ s6 σ6 H6 _ I6 q6) (fun ok s7 ⟨H7, I7, q7⟩ => ?_) fun _ _ z => False.elim z)
      cases ok with
      | false =>
        rw [if_neg Bool.false_ne_true] at q7
        exact wpAny_pure ⟨rfl, again I7 (hM _ _ q7)⟩
      | true =>
        rw [if_pos rfl] at q7
        refine wpAny_bind (wpAny_bind (wpAny_mono (he _ _ _ _ s7 σ6 H7 _ I7 q7) (fun y s8 ⟨v, H8, I8, r8, q8⟩ => ?_) fun _ _ z => False.elim z))
        obtain ⟨ys, eD, hz, q8⟩ := hN _ _ _ q8
        refine wpAny_bind (wpAny_mono (mt_append (X := cxComp X scope (compN N0 xs fr) { s2 with heap := h3 } (upd H2 D (.lst [])) fp) _ s8 σ6 H8 (.ref D) [v] (.ref D) [y] (fun _ H9 => ∃ m', m' < n ∧ W (i + 1) m' σ6 H9) I8 rfl (.cons r8 .nil) ⟨D, ys, v, rfl, rfl, eD, hz, q8⟩) (fun _ s9 ⟨_, H9, I9, _, q9⟩ => ?_) fun _ _ z => False.elim z)
        exact wpAny_pure (wpAny_pure ⟨rfl, again I9 q9⟩)
  exact codeAny_compStart_list loop (T.self X.A 0 _ _ _ st4 loop)

variable {osc scope : Scope} {N0 xs : List Str} {fr : List Nat} {elt tg iter : Expr} {ifs : List Expr} {pos : Pos} {wi : TI} {g : TG} {tt : TT} {te : TE}
theorem pe_comp (C : CompTx osc scope N0 xs fr) (ho : X.env.scope = osc) (hN0 : X.N = N0) (hc : X.calm = true) (hi : PI X tg iter wi)
    (hg : ∀ s H fp, PG (cxComp X scope (compN N0 xs fr) s H fp) tg g) (ht : ∀ s H fp, PIf (cxComp X scope (compN N0 xs fr) s H fp) ifs tt) (he : ∀ s H fp, PE (cxComp X scope (compN N0 xs fr) s H fp) elt te)
    (hs : ∀ x, foldedSetIterable iter X.env x = pure x := by intro _; rfl) : PE X (.ListComp elt [⟨tg, iter, ifs, 0⟩] scope pos) (tComp xs fr wi g tt te) := by
  intro pins s σ H Q I h
  rw [eval_ListComp]
  refine wpAny_comprehension_free (use := none) rfl hs (clos_ok (comp_free C ho I)) C.kind C.names (thn (hi pins s σ H _ I h) fun v s1 h1 => thn h1 fun itv s2 h2 => ?_)
  obtain ⟨it, fp, tn, J, H2, e, I2, T, st2, f2, hR⟩ := h2
  subst e
  refine comp_block C ho hN0 hc hg ht he I2 T st2 f2 hR fun D C s' H' m I' hm fC q => ?_
  refine ⟨m, hm, fun h' sb => ⟨.ref D, H', ?_, rfl, q⟩⟩
  exact I'.turned (t' := s'.toks) (fun b o hb e => (sb.2 b hb).trans e) fC.1 fC.2.1 fC.2.2.2.1 fC.2.2.2.2.1 fC.2.2.2.2.2
theorem ps_comp {i : Nat} {y : Str} {py spos : Pos} (C : CompTx osc scope N0 xs fr) (ho : X.env.scope = osc) (hN0 : X.N = N0) (hc : X.calm = true) (hi : PI X tg iter wi)
    (hg : ∀ s H fp, PG (cxComp X scope (compN N0 xs fr) s H fp) tg g) (ht : ∀ s H fp, PIf (cxComp X scope (compN N0 xs fr) s H fp) ifs tt) (he : ∀ s H fp, PE (cxComp X scope (compN N0 xs fr) s H fp) elt te)
    (hN : X.N.Nodup) (hy : X.N[i]? = some y) (hx : Loc X.env.scope y)
    (hsw : swapsWith (.ListComp elt [⟨tg, iter, ifs, 0⟩] scope pos) (some (.Name y py)) spos.line X.env = pure true := by rfl)
    (hf : X.fn y = true ∨ X.env.scope.names.lookup y = some .local := by first | exact .inl rfl | exact .inr rfl | assumption)
    (hs : ∀ x, foldedSetIterable iter X.env x = pure x := by intro _; rfl) : PS X (.Assign [.Name y py] (.ListComp elt [⟨tg, iter, ifs, 0⟩] scope pos) spos) (sComp i xs fr wi g tt te) := by
  intro pins s σ H D I h
  rw [exec_Assign_Name_used _ _ _ _ hsw]
  refine wpAny_bind (wpAny_standAt (wpAny_bind ?_))
  show wpAny _ X.A (do let _ ← comprehension (.ListComp elt [⟨tg, iter, ifs, 0⟩] scope pos) scope X.env _ (newList []) false (eval iter X.env) (some (assign (.Name y py) X.env))) _ _ s
  refine wpAny_bind (wpAny_mono (wpAny_comprehension_free (use := some (assign (.Name y py) X.env)) (Q := fun _ s' => SP X pins D .next s') rfl hs (clos_ok (comp_free C ho I)) C.kind C.names
    (thn (hi pins s σ H _ I h) fun v s1 h1 => thn h1 fun itv s2 h2 => ?_)) (fun _ s' hq => wpAny_pure (wpAny_pure hq)) fun _ _ e => e)
  obtain ⟨it, fp, tn, J, H2, e, I2, T, st2, f2, hR⟩ := h2
  subst e
  refine comp_block C ho hN0 hc hg ht he I2 T st2 f2 hR fun Dl C s' H' m I' hm fC q => ?_
  refine wpAny_assign_Name (store_ok2 I' hN hy hx (show RelV (.ref Dl) (.ref Dl) from rfl) (fun s3 I3 hsb => ?_) hf)
  obtain ⟨a, sb, ha⟩ := hsb
  have hCa : C ≠ a := by
    rcases ha with z | z
    · rw [z]; exact fC.2.1
    · exact fun w => fC.2.2.2.2.1 y a z w.symm
  refine ⟨m, hm.sameBut sb hCa, fun h' sb' => ⟨_, H', ?_, q⟩⟩
  exact I3.turned (t' := s3.toks) (fun b o hb e => (sb'.2 b hb).trans e) fC.1 fC.2.1 fC.2.2.2.1 fC.2.2.2.2.1 fC.2.2.2.2.2
end

/-! ### a text, walked sign by sign -/
section
variable {X : Cx} {tg : Expr}
/-! ### all, any of a list of truths -/
/-! ### isinstance(x, T), T a built-in type -/
/-! ### products of any two ints that the model multiplies -/
end

/-! ### slices of a text -/
section
variable {X : Cx}
theorem sl_str : SlR X (fun x lo hi H Q => ∃ z, x = .str z ∧ z.length ≤ sizeLine ∧ Q (.str (Txt.slice z lo hi)) H) := by
  intro pins s σ H x v vl vu lo hi sl Q I rx hs pl pu h
  obtain ⟨z, rfl, hz, q⟩ := h
  obtain ⟨t, rfl⟩ := rx
  refine ⟨"str", _, F.slot_str_getitem.lookup, typeIs_str _ _ _, ?_⟩
  obtain ⟨o, e1, e2, e3⟩ := hs
  have fin : ∀ (l u : Option (Int × Tok)), vl = partValue l → vu = partValue u → l.map (·.1) = lo → u.map (·.1) = hi → wpAny (model X.prog X.w) X.A (getItem (.str z t) (.ref sl)) (EP X pins σ Q) X.xe s := by
    intro l u h1 h2 h3 h4
    subst h1 h2 h3 h4
    refine wpAny_getItem_str_slice (l := l) (u := u) (st := none) ⟨o, e1, e2, e3⟩ rfl (post_val_or_str ⟨Nat.le_trans (Txt.slice_le z (l.map (·.1)) (u.map (·.1))) hz, fun t' k => ?_⟩)
    exact ⟨.str (Txt.slice z (l.map (·.1)) (u.map (·.1))), H, I.tok k, ⟨t', rfl⟩, q⟩
  cases pl with
  | none =>
    cases pu with
    | none => exact fin none none rfl rfl rfl rfl
    | int j tj => exact fin none (some (j, tj)) rfl rfl rfl rfl
  | int i ti =>
    cases pu with
    | none => exact fin (some (i, ti)) none rfl rfl rfl rfl
    | int j tj => exact fin (some (i, ti)) (some (j, tj)) rfl rfl rfl rfl
end
theorem slice_to (x : Str) {k : Int} (h0 : 0 ≤ k) (h1 : k ≤ x.length) : (Txt.slice x none (some k)).cps.toList = x.cps.toList.take k.toNat := by
  have e : Txt.slice x none (some k) = StrLaws.sliceText x none (some k) := rfl
  rw [e, StrLaws.sliceText_to ⟨h0, by simpa [Str.length] using h1⟩]
  simp
theorem slice_from (x : Str) {k : Int} (h0 : 0 ≤ k) (h1 : k ≤ x.length) : (Txt.slice x (some k) none).cps.toList = x.cps.toList.drop k.toNat := by
  have e : Txt.slice x (some k) none = StrLaws.sliceText x (some k) none := rfl
  rw [e, StrLaws.sliceText_from ⟨h0, by simpa [Str.length] using h1⟩]
  show (((x.cps.toList.drop k.toNat).take ((x.cps.toList.length : Int) - k).toNat).toArray).toList = _
  rw [List.toList_toArray]
  refine List.take_of_length_le ?_
  rw [List.length_drop]
  omega

/-! ### a comprehension without tests whose i-th item is ev i -/
theorem compW_map {J : It} {g : TG} {te : TE} {R : Addr → Hp → Prop} {D : Addr} {σ0 : St} {H0 : Hp} (n : Nat) (ev : Nat → V) (Pv : Nat → St → Hp → Prop) (hn : n ≤ sizeLine) (h0 : Pv 0 σ0 H0) (hD0 : H0 D = some (.lst []))
    (hs : ∀ i σ H, i < n → Pv i σ H → H D = some (.lst ((List.range i).map ev)) → J.go i H ∧ ∀ x H', J.yld i H x H' → g x σ H' fun σ2 H2 => te σ2 H2 fun y H4 => y = ev i ∧ H4 D = some (.lst ((List.range i).map ev)) ∧ Pv (i + 1) σ2 (upd H4 D (.lst ((List.range (i + 1)).map ev))))
    (hd : ∀ σ H, Pv n σ H → H D = some (.lst ((List.range n).map ev)) → J.stop n H ∧ R D H) : CompW J g tYes te R D σ0 H0 := by
  refine ⟨fun i m σ H => m = n - i ∧ i ≤ n ∧ Pv i σ H ∧ H D = some (.lst ((List.range i).map ev)), ⟨n, by omega, Nat.zero_le _, h0, hD0⟩, ?_⟩
  rintro i m σ H ⟨rfl, hi, p, hD⟩
  by_cases hlt : i < n
  · obtain ⟨go, st⟩ := hs i σ H hlt p hD
    refine .inr ⟨go, fun σ2 y H4 => y = ev i ∧ H4 D = some (.lst ((List.range i).map ev)) ∧ Pv (i + 1) σ2 (upd H4 D (.lst ((List.range (i + 1)).map ev))), fun _ _ => False, ?_, fun _ _ z => z.elim, st⟩
    rintro σ2 y H4 ⟨rfl, e, p'⟩
    refine ⟨_, e, by simp; omega, n - (i + 1), by omega, rfl, hlt, ?_, ?_⟩
    · rw [List.range_succ, List.map_append] at p'
      exact p'
    · rw [upd_same, List.range_succ, List.map_append]
      rfl
  · have e : i = n := by omega
    subst e
    exact .inl (hd σ H p hD)
theorem range_map_getD {α β : Type} (l : List α) (d : α) (f : α → β) : ((List.range l.length).map fun i => f (l.getD i d)) = l.map f := by
  apply List.ext_getElem?
  intro i
  rw [List.getElem?_map, List.getElem?_map]
  by_cases h : i < l.length
  · rw [List.getElem?_range h, List.getElem?_eq_getElem h]
    simp [List.getD_eq_getElem?_getD, List.getElem?_eq_getElem h]
  · rw [List.getElem?_eq_none (by simpa using h), List.getElem?_eq_none (by simpa using h)]
    rfl

/-! ### types under a grown heap -/
theorem Same.upd {H : Hp} {D : Addr} {o : HO} (h : H D = none) : Same H (L2.upd H D o) := fun b u e => by
  rw [upd_ne (ne_of_none e h)]
  exact e
/-! ### a block in two parts -/
theorem execs_app {env : Env} : ∀ (a b : List Stmt), execs (a ++ b) env = execs a env >>= fun f => match f with | .next => execs b env | f => pure f
  | [], b => by
    show execs b env = (pure Flow.next : Sem Flow) >>= _
    rw [pure_bind]
  | st :: r, b => by
    rw [List.cons_append, execs_cons, execs_cons, bind_assoc]
    congr
    funext f
    cases f with
    | next => exact execs_app r b
    | ret v => rw [pure_bind]
    | brk => rw [pure_bind]
    | cont => rw [pure_bind]
/-- the first k statements lead to Mid, the others go on from any Mid -/
theorem split_all {X : Cx} {l : List Stmt} (k : Nat) {D : Ends} {Pre : St → Hp → Prop} (Mid : St → Hp → Prop) (h1 : ∃ t, PSs X (l.take k) t ∧ ∀ σ H, Pre σ H → t { D with nx := Mid } σ H) (h2 : ∃ t, PSs X (l.drop k) t ∧ ∀ σ H, Mid σ H → t D σ H) :
    ∃ t, PSs X l t ∧ ∀ σ H, Pre σ H → t D σ H := by
  obtain ⟨t1, p1, q1⟩ := h1
  obtain ⟨t2, p2, q2⟩ := h2
  refine ⟨fun D' σ H => D' = D ∧ Pre σ H, ?_, fun σ H p => ⟨rfl, p⟩⟩
  rintro pins s σ H D' I ⟨rfl, p⟩
  have e : execs l X.env = execs (l.take k) X.env >>= fun f => match f with | .next => execs (l.drop k) X.env | f => pure f := by
    rw [← execs_app, List.take_append_drop]
  rw [e]
  refine wpAny_bind (thn (p1 pins s σ H _ I (q1 σ H p)) fun f s1 z => ?_)
  cases f with
  | next =>
    obtain ⟨σ', H', I', m⟩ := z
    exact p2 pins s1 σ' H' _ I' (q2 σ' H' m)
  | ret v => exact wpAny_pure z
  | brk => exact wpAny_pure z
  | cont => exact wpAny_pure z
theorem split_at {X : Cx} {l : List Stmt} (k : Nat) {D : Ends} {σ0 : St} {H0 : Hp} (Mid : St → Hp → Prop) (h1 : ∃ t, PSs X (l.take k) t ∧ t { D with nx := Mid } σ0 H0) (h2 : ∃ t, PSs X (l.drop k) t ∧ ∀ σ H, Mid σ H → t D σ H) :
    ∃ t, PSs X l t ∧ t D σ0 H0 := by
  obtain ⟨t1, p1, q1⟩ := h1
  obtain ⟨t, p, q⟩ := split_all k (Pre := fun σ H => σ = σ0 ∧ H = H0) Mid ⟨t1, p1, fun σ H e => by rw [e.1, e.2]; exact q1⟩ h2
  exact ⟨t, p, q σ0 H0 ⟨rfl, rfl⟩⟩
end L2

namespace L2
open PySem PySem.Spec PyProof.Rows
/-! ### isinstance by two built-in types -/
/-! ### a def of the top -/
def DefIn (K : PySem.W.Frag) (x : Str) (st : Stmt) : Prop := ∃ (f : Addr) (oc : Value) (od : Option Addr) (kV doc pm : Value) (an : Option Addr) (cdv ct : Value) (osl : Array (Option Value)),
  PySem.W.nsIn K mainGlobals x = some (some (.ref f)) ∧ K.lookup f = some ⟨oc, od, .func (PySem.W.fnOf x x (defArgs st) (defBody st) (defScope st) .none kV doc pm an cdv ct), osl⟩ ∧ PySem.W.codeIn K cdv x = true ∧ PySem.W.keepIn K (.ref f) = true
theorem defIn_mk {K : PySem.W.Frag} {x : Str} {st : Stmt} {f : Addr} {oc : Value} {od an : Option Addr} {osl : Array (Option Value)} {kV doc pm cdv ct : Value} (a : PySem.W.nsIn K mainGlobals x = some (some (.ref f)))
    (l : K.lookup f = some ⟨oc, od, .func (PySem.W.fnOf x x (defArgs st) (defBody st) (defScope st) .none kV doc pm an cdv ct), osl⟩) (c : PySem.W.codeIn K cdv x = true) (k : PySem.W.keepIn K (.ref f) = true) : DefIn K x st :=
  ⟨f, oc, od, kV, doc, pm, an, cdv, ct, osl, a, l, c, k⟩
/-- .. as a body that calls it sees it -/
structure Df (K : PySem.W.Frag) (mg : Str → Option Value) (x : Str) (st : Stmt) (f : Addr) (fd : FuncData) : Prop where
  fn : Fun K x x st f fd
  mg : mg x = some (.ref f)
theorem DefIn.df {K : PySem.W.Frag} {h : Heap} {mg : Str → Option Value} {x : Str} {st : Stmt} (d : DefIn K x st) (X : K.In h) (G : h.Ns mainGlobals mg) : ∃ f fd, Df K mg x st f fd := by
  obtain ⟨f, oc, od, kV, doc, pm, an, cdv, ct, osl, a, l, c, k⟩ := d
  exact ⟨f, _, fun_mk l c k, PySem.W.mg_of X G a⟩
end L2

namespace PySem.SeqAt
open MeetsSeq
open AutoSeq1 (wpAny_loadPart')
/-! ### a dict and a text are never equal -/
section
variable {A : Around} {s : Shared}
end
end PySem.SeqAt

namespace L2
open PySem PySem.Spec PyProof.Rows
/-! ### things, without the heap -/
section
variable {X : Cx} {pins : List (Addr × Obj)} {σ : St} {H : Hp} {s : Shared}
end
end L2

namespace My
open PySem L2 PyProof.Rows
theorem pos {j : Int} (h : decide ((0 : Int) < j) = true) : 0 < j := of_decide_eq_true h
/-! ### the law's cells -/
theorem boot_int : bootBuiltins "int" = some (.type "int") := by decide +kernel
theorem boot_list : bootBuiltins "list" = some (.type "list") := by decide +kernel
theorem boot_tuple : bootBuiltins "tuple" = some (.type "tuple") := by decide +kernel
theorem boot_dict : bootBuiltins "dict" = some (.type "dict") := by decide +kernel
/-- the built-ins are not the text's own -/
structure Bl (mg : Str → Option Value) : Prop where
  len : mg "len" = none
  isi : mg "isinstance" = none
  int : mg "int" = none
  bool : mg "bool" = none
  str : mg "str" = none
  all : mg "all" = none
  range : mg "range" = none
  abs : mg "abs" = none
  ord : mg "ord" = none
  list : mg "list" = none
  tuple : mg "tuple" = none
  dict : mg "dict" = none
  any : mg "any" = none
  sorted : mg "sorted" = none
  set : mg "set" = none
  enum : mg "enumerate" = none

/-- .. as the top has left them -/
structure BlK (K : PySem.W.Frag) : Prop where
  len : PySem.W.nsIn K mainGlobals "len" = some none
  isi : PySem.W.nsIn K mainGlobals "isinstance" = some none
  int : PySem.W.nsIn K mainGlobals "int" = some none
  bool : PySem.W.nsIn K mainGlobals "bool" = some none
  str : PySem.W.nsIn K mainGlobals "str" = some none
  all : PySem.W.nsIn K mainGlobals "all" = some none
  range : PySem.W.nsIn K mainGlobals "range" = some none
  abs : PySem.W.nsIn K mainGlobals "abs" = some none
  ord : PySem.W.nsIn K mainGlobals "ord" = some none
  list : PySem.W.nsIn K mainGlobals "list" = some none
  tuple : PySem.W.nsIn K mainGlobals "tuple" = some none
  dict : PySem.W.nsIn K mainGlobals "dict" = some none
  any : PySem.W.nsIn K mainGlobals "any" = some none
  sorted : PySem.W.nsIn K mainGlobals "sorted" = some none
  set : PySem.W.nsIn K mainGlobals "set" = some none
  enum : PySem.W.nsIn K mainGlobals "enumerate" = some none

theorem BlK.bl {K : PySem.W.Frag} {h : Heap} {mg : Str → Option Value} (b : BlK K) (X : K.In h) (G : h.Ns mainGlobals mg) : Bl mg :=
  ⟨PySem.W.mg_none_of X G b.len, PySem.W.mg_none_of X G b.isi, PySem.W.mg_none_of X G b.int, PySem.W.mg_none_of X G b.bool, PySem.W.mg_none_of X G b.str, PySem.W.mg_none_of X G b.all, PySem.W.mg_none_of X G b.range, PySem.W.mg_none_of X G b.abs, PySem.W.mg_none_of X G b.ord, PySem.W.mg_none_of X G b.list, PySem.W.mg_none_of X G b.tuple, PySem.W.mg_none_of X G b.dict, PySem.W.mg_none_of X G b.any, PySem.W.mg_none_of X G b.sorted, PySem.W.mg_none_of X G b.set, PySem.W.mg_none_of X G b.enum⟩
theorem iteC {b : Bool} {A B : Prop} (h : b = false) (a : B) : if b = true then A else B := by rw [h, if_neg Bool.false_ne_true]; exact a
def spLaw (K : PySem.W.Frag) : Sp := fun vs H Q _ => ∃ (a : Addr) (ns : List Int), vs = [.ref a] ∧ SqL K H a (ns.map V.int) ∧ ns.length ≤ 63 ∧ ∀ H', Q (.bl true) H'
theorem walk (k : Nat) {l : PySem.W.OpenLaw} {q : Program} {loose : List Str} {XP : (Str → Option Value) → Heap → Prop} {YP : World → Heap → Prop} {d : DefRec} {K : Params → PySem.W.Frag} (hk : Room k callerA) (hn : l.most = some 63) (hdf : d.params.defaults = [])
    (hY : ∀ (w : World) (h : Heap), YP w h → (K w.params).In h)
    (F : ∀ (w : World) (mg : Str → Option Value) (fa : Addr) (h : Heap), (K w.params).In h → h.Ns mainGlobals mg → mg d.name = some (.ref fa) →
      ∃ fd : FuncData, (∀ (s : Shared) (u : Value), BindsTo s fd ⟨[u], []⟩ [("_law_script", u)]) ∧ ∀ base : Heap, (K w.params).In base → base.Ns mainGlobals mg → FnOk l.prog w (K w.params) mg base CX0 k fa fd ["_law_script"] (spLaw (K w.params))) :
    PySem.W.WalkO q loose XP YP l.row.toRowW d [] (fun f vs => PySem.call f vs) :=
  L2.walk_of (n := 63) (k := k) (x := "_law_script") (CX := fun _ => CX0) (sp := fun w => spLaw (K w.params)) hn (by decide) hdf hk hY F (fun _ _ a ns hl _ hS => ⟨a, ns, rfl, hS, hl, fun _ => rfl⟩) fun _ _ _ _ _ z => z
end My

namespace L2
open PySem PySem.Spec PyProof.Rows
section
variable {X : Cx}
/-- text * n, n from 2 on -/
theorem op_mulSI : OpR X (binaryOp .Mult) (fun x y H Q => ∃ (z : Str) (n : Nat), x = .str z ∧ y = .int n ∧ 1 < n ∧ n < 1000 ∧ 0 < z.length ∧ z.length ≤ 10000 ∧ Q (.str ⟨(List.replicate n z.cps).foldl (· ++ ·) #[]⟩) H) := by
  intro pins s σ H x y v u Q I rx ry h
  obtain ⟨z, n, rfl, rfl, h1, h2, h3, h4, q⟩ := h
  obtain ⟨t, rfl⟩ := rx
  obtain ⟨t', rfl⟩ := ry
  have e1 : ¬ ((n : Int) < 1) := by omega
  have e2 : ((n : Int) == 1 || z.length == 0) = false := by
    rw [Bool.or_eq_false_iff, beq_eq_false_iff_ne, beq_eq_false_iff_ne]
    exact ⟨by omega, by omega⟩
  have hT : Builtin.Str.tooLong (z.length * (n : Int).toNat) = false := by
    have hm : z.length * (n : Int).toNat ≤ 10000 * 1000 := Nat.mul_le_mul h4 (by omega)
    have hs : sizeLine = 16777216 := sizeLine_eq
    unfold PySem.Builtin.Str.tooLong
    exact decide_eq_false (by omega)
  refine P.mul_str (by rw [decide_eq_false (by omega), decide_eq_false (by omega)]; rfl) (fun _ _ => ?_) (fun _ _ => ?_) ?_
  · have : (1000 : Int) ≤ (2 ^ 63 - 1) / (n : Int) / 10 := by
      rw [Int.ediv_ediv_of_nonneg (by omega)]
      apply Int.le_ediv_of_mul_le (by omega)
      omega
    omega
  · exact hT
  · rw [if_neg e1, if_neg (by rw [e2]; decide)]
    refine ⟨fits_reps ?_, .str _, H, I.tok _, ⟨_, rfl⟩, q⟩
    exact hT
end
end L2

namespace Nm
open PySem PySem.NumText PySem.W PyProof.Rows
end Nm

/-! TOKENS (own work): rules that know that the count of tokens has reached n, and calls that show the value itself. -/
namespace L2
open PySem PySem.Spec PyProof.Rows

section
variable {n : Nat} {X : Cx} {st : Stmt} {rest : List Stmt} {t u : TS} {e a b : Expr} {te ta tb : TE} {pos : Pos}
end

/-! ### defs -/
section
variable {P : Program} {w : World} {K : PySem.W.Frag} {mg : Str → Option Value} {base : Heap}
end

section
variable {n : Nat} {X : Cx} {k : Nat} {f : Addr} {fd : FuncData} {ps : List Str} {sp : SpW} {x : Str} {p pos : Pos} {e : Expr} {es : List Expr} {t : TA}
end
end L2

namespace L2
open PySem PySem.Spec PyProof.Rows
/-! ### a comprehension whose element asks the count of tokens -/
section
variable {n : Nat} {X : Cx}
variable {osc scope : Scope} {N0 xs : List Str} {fr : List Nat} {elt tg iter : Expr} {ifs : List Expr} {pos : Pos} {wi : TI} {g : TG} {tt : TT} {te : TE}
end

end L2

namespace L2
open PySem PySem.Spec PyProof.Rows
section
variable {n : Nat} {X : Cx} {pins : List (Addr × Obj)} {s : Shared} {σ : St} {H : Hp}
/-! ### texts with known tokens -/
end
end L2

namespace L2
open PySem PySem.Spec PyProof.Rows
section
variable {P : Program} {w : World} {K : PySem.W.Frag} {mg : Str → Option Value} {base : Heap}
end
end L2

namespace L2
open PySem PySem.Spec PyProof.Rows
end L2

/-! EXCEPTIONS WITH A DICT OF THEIR OWN (own work): what a frame that is left writes. -/
namespace L2
open PySem
/-- the head of a traceback: none, or a record of ours -/
def Tb (h : Heap) (P : Addr → Prop) (x : Addr) (fl v : Value) : Prop :=
  (v = .none ∧ fl = .none) ∨ ∃ T oT ts, v = .ref T ∧ P T ∧ T ≠ x ∧ h.get? T = some oT ∧ oT.data = .fields ts ∧ ts[3]? = some fl
/-- an exception: its class, its own dict, its traceback's mark of flight -/
def XAt (h : Heap) (P : Addr → Prop) (x : Addr) (C : Value) (od : Option Addr) (fl : Value) : Prop :=
  ∃ vs sl v1, h.get? x = some ⟨C, od, .fields vs, sl⟩ ∧ vs[1]? = some v1 ∧ Tb h P x fl v1
/-- what noting a frame may change: the exception, its records, the slots of frames -/
structure Nt (P : Addr → Prop) (fr : List Addr) (x : Addr) (h h' : Heap) : Prop where
  chg : ∃ ch : List Addr, (∀ b ∈ ch, b = x ∨ P b ∧ ∃ o vs, h.get? b = some o ∧ o.data = .fields vs) ∧ ∀ b o, h.get? b = some o → b ∉ fr → b ∉ ch → h'.get? b = some o
  frm : ∀ b o, h.get? b = some o → b ∈ fr → ∃ sl, h'.get? b = some { o with slots := sl }
  thr : ∀ b o, h.get? b = some o → ∃ o', h'.get? b = some o'
theorem Nt.refl {P : Addr → Prop} {fr : List Addr} {x : Addr} {h : Heap} : Nt P fr x h h := ⟨⟨[], (fun _ z => absurd z (by simp)), fun _ _ e _ _ => e⟩, fun _ o e _ => ⟨o.slots, e⟩, fun _ o e => ⟨o, e⟩⟩
section
variable {M : Model} {A : Around} {E : Value → Shared → Prop} {s : Shared} {base : Heap} {env : Env} {outer : List Env} {L x : Addr} {P : Addr → Prop} {C : Value} {od : Option Addr}
/-- a new record is laid ahead of the head -/
theorem entry_ok {vs : Array Value} {sl : Array (Option Value)} {head : Value} {had : Bool} {Q : Unit → Shared → Prop} (hfr : A.frames = some (env :: outer)) (hl : s.heap.FunFrames base (env :: outer)) (hf : env.frame = some L)
    (hx : s.heap.get? x = some ⟨C, od, .fields vs, sl⟩) (hsz : 1 < vs.size) (hP : ∀ T, s.heap.objs.size ≤ T → P T)
    (h : ∀ h', Nt P ((env :: outer).filterMap (·.frame)) x s.heap h' → XAt h' P x C od (rawInt L) → Q () { s with heap := h' }) :
    wpAny M A (do let a ← frameOf env; let pl ← entryPlaceOf L had; let b ← EntryCells.newEntry head a .none (rawInt L) .none pl; setField (.ref x) 1 b) Q E s := by
  have nx : x ∉ (env :: outer).filterMap (·.frame) := fun hm => by
    obtain ⟨_, o, ho, hnf⟩ := hl.mem hm
    rw [hx] at ho
    cases ho
    exact hnf vs rfl
  refine wpAny_bind (wpAny_frameOf_fun hfr hl hf fun h1 k1 => ?_)
  refine wpAny_bind (wpAny_entryPlaceOf fun pl hpl => ?_)
  unfold EntryCells.newEntry newFields
  refine wpAny_bind (wpAny_newObj_type ?_ (hpl.sizeOk5 _ _ _ _ _))
  generalize ho : (⟨.type "traceback", none, .fields ([head, .ref L, .none, rawInt L, .none] ++ (if pl.isEmpty then List.replicate 6 Value.none else pl)).toArray, #[]⟩ : Obj) = ob
  have x1 : h1.get? x = some ⟨C, od, .fields vs, sl⟩ := (k1.2.1 x nx).trans hx
  have x2 : (h1.push ob).get? x = some ⟨C, od, .fields vs, sl⟩ := Heap.get?_push_of_some _ x1
  have sz : h1.objs.size = s.heap.objs.size := k1.1
  refine wpAny_setField x2 rfl hsz (h _ ?_ ?_)
  · have other : ∀ b o, b ≠ x → h1.get? b = some o → ((h1.push ob).update x (Obj.mapFields (·.setIfInBounds 1 (.ref h1.objs.size)))).get? b = some o := fun b o hb e => by
      rw [Heap.get?_update_other _ _ (Ne.symm hb)]
      exact Heap.get?_push_of_some _ e
    refine ⟨⟨[x], fun b hb => .inl (List.mem_singleton.mp hb), fun b o e hb hc => ?_⟩, fun b o e hb => ?_, fun b o e => ?_⟩
    · exact other b o (fun z => hc (by rw [z]; exact List.mem_singleton.mpr rfl)) ((k1.2.1 b hb).trans e)
    · obtain ⟨sl', e1⟩ := k1.2.2 b o e
      exact ⟨sl', other b _ (fun z => nx (z ▸ hb)) e1⟩
    · by_cases hb : b = x
      · subst hb
        exact ⟨_, Heap.get?_update_self _ x2 rfl⟩
      · obtain ⟨sl', e1⟩ := k1.2.2 b o e
        exact ⟨_, other b _ hb e1⟩
  · have ne : h1.objs.size ≠ x := Nat.ne_of_gt (Heap.lt_size x1)
    refine ⟨_, _, .ref h1.objs.size, Heap.get?_update_self _ x2 rfl, (by show (vs.setIfInBounds 1 _)[1]? = _; simp [hsz]), .inr ⟨h1.objs.size, ob, _, rfl, hP _ (by rw [sz]; exact Nat.le_refl _), ne, ?_, (by rw [← ho]), ?_⟩⟩
    · rw [Heap.get?_update_other _ _ (Ne.symm ne)]
      exact Heap.get?_push_size h1 (by rw [← ho]; rfl)
    · first | (simp; done) | (rcases hpl with rfl | ⟨_, _, _, _, _, _, _, rfl⟩ <;> simp)
theorem Nt.trans {fr : List Addr} {h h1 h2 : Heap} (n1 : Nt P fr x h h1) (n2 : Nt P fr x h1 h2) (fresh : ∀ b o, h.get? b = some o → b ∈ fr → ∀ vs, o.data ≠ .fields vs) : Nt P fr x h h2 := by
  obtain ⟨c1, p1, k1⟩ := n1.chg
  obtain ⟨c2, p2, k2⟩ := n2.chg
  refine ⟨⟨c1 ++ c2.filter (fun b => (h.get? b).isSome), fun b hb => ?_, fun b o e hb hc => ?_⟩, fun b o e hb => ?_, fun b o e => ?_⟩
  · rcases List.mem_append.mp hb with z | z
    · exact p1 b z
    · obtain ⟨z1, z2⟩ := List.mem_filter.mp z
      by_cases hb1 : b ∈ c1
      · exact p1 b hb1
      rcases p2 b z1 with q | ⟨q, o1, vs, e1, d1⟩
      · exact .inl q
      · refine .inr ⟨q, ?_⟩
        cases g : h.get? b with
        | none => rw [g] at z2; cases z2
        | some o =>
          by_cases hfr : b ∈ fr
          · obtain ⟨sl, e2⟩ := n1.frm b o g hfr
            rw [e1] at e2
            cases e2
            exact absurd d1 (fresh b o g hfr vs)
          · have e2 := k1 b o g hfr hb1
            rw [e1] at e2
            cases e2
            exact ⟨_, vs, rfl, d1⟩
  · have m1 : b ∉ c1 := fun z => hc (List.mem_append_left _ z)
    have m2 : b ∉ c2 := fun z => hc (List.mem_append_right _ (List.mem_filter.mpr ⟨z, by rw [e]; rfl⟩))
    exact k2 b o (k1 b o e hb m1) hb m2
  · obtain ⟨sl, e1⟩ := n1.frm b o e hb
    obtain ⟨sl2, e2⟩ := n2.frm _ _ e1 hb
    exact ⟨sl2, e2⟩
  · obtain ⟨o1, e1⟩ := n1.thr b o e
    exact n2.thr _ _ e1
/-- noteFrame: the frame is written down -/
theorem note_ok {Q : Unit → Shared → Prop} (hfr : A.frames = some (env :: outer)) (hl : s.heap.FunFrames base (env :: outer)) (hf : env.frame = some L)
    (hx : XAt s.heap P x C od .none) (hP : ∀ T, s.heap.objs.size ≤ T → P T)
    (h : ∀ h', Nt P ((env :: outer).filterMap (·.frame)) x s.heap h' → XAt h' P x C od (rawInt L) → Q () { s with heap := h' }) : wpAny M A (noteFrame (.ref x) env) Q E s := by
  obtain ⟨vs, sl, v1, ex, e1, tb⟩ := hx
  have hsz : 1 < vs.size := (Array.getElem?_eq_some_iff.mp e1).1
  unfold noteFrame
  simp only [hf]
  refine wpAny_bind (wpAny_field ex rfl e1 ?_)
  rcases tb with ⟨rfl, _⟩ | ⟨T, oT, ts, rfl, pT, nT, eT, dT, fT⟩
  · rw [if_neg (by decide)]
    exact entry_ok hfr hl hf ex hsz hP h
  · rw [if_pos (show (Value.ref T != Value.none) = true from by simp)]
    refine wpAny_bind (wpAny_field eT dT fT ?_)
    rw [if_neg (show ¬ ((Value.none == rawInt L) = true) from by simp [rawInt])]
    refine wpAny_bind (wpAny_setField eT dT (Array.getElem?_eq_some_iff.mp fT).1 ?_)
    have oth : ∀ b, b ≠ T → (s.heap.update T (Obj.mapFields (·.setIfInBounds 3 Value.none))).get? b = s.heap.get? b := fun b hb => Heap.get?_update_other _ _ (Ne.symm hb)
    have nrec : ∀ b o, s.heap.get? b = some o → (∀ vs, o.data ≠ .fields vs) → b ≠ T := fun b o hb hn q => by
      rw [q, eT] at hb
      cases hb
      exact hn ts dT
    have hl' := hl.of_keeps (h' := s.heap.update T (Obj.mapFields (·.setIfInBounds 3 Value.none))) fun b o hb hn => ⟨o, (oth b (nrec b o hb hn)).trans hb, rfl⟩
    have frn : ∀ b o, s.heap.get? b = some o → b ∈ (env :: outer).filterMap (·.frame) → ∀ vs, o.data ≠ .fields vs := fun b o e hb => by
      obtain ⟨_, o', ho', hn⟩ := hl.mem hb
      rw [e] at ho'
      cases ho'
      exact hn
    have N1 : Nt P ((env :: outer).filterMap (·.frame)) x s.heap (s.heap.update T (Obj.mapFields (·.setIfInBounds 3 Value.none))) := by
      refine ⟨⟨[T], fun b hb => .inr ?_, fun b o e _ hc => ?_⟩, fun b o e hb => ⟨o.slots, ?_⟩, fun b o e => ?_⟩
      · rw [List.mem_singleton.mp hb]
        exact ⟨pT, oT, ts, eT, dT⟩
      · exact (oth b fun z => hc (by rw [z]; exact List.mem_singleton.mpr rfl)).trans e
      · exact (oth b (nrec b o e (frn b o e hb))).trans e
      · by_cases hb : b = T
        · rw [hb]
          exact ⟨_, Heap.get?_update_self _ eT (Obj.isFreed_of_fields (Obj.data_mapFields dT _))⟩
        · exact ⟨o, (oth b hb).trans e⟩
    refine entry_ok (s := { s with heap := s.heap.update T (Obj.mapFields (·.setIfInBounds 3 Value.none)) }) hfr hl' hf ((oth x (Ne.symm nT)).trans ex) hsz (fun T' hT' => hP T' (by rw [← Heap.size_after_update s.heap T]; exact hT')) fun h' n' x' => h h' (N1.trans n' frn) x'
/-- setFlight: the mark is taken away -/
theorem land_ok {fl : Value} {fr : List Addr} {Q : Unit → Shared → Prop} (hx : XAt s.heap P x C od fl) (frn : ∀ b o, s.heap.get? b = some o → b ∈ fr → ∀ vs, o.data ≠ .fields vs)
    (h : ∀ h', Nt P fr x s.heap h' → XAt h' P x C od .none → Q () { s with heap := h' }) : wpAny M A (setFlight (.ref x) none) Q E s := by
  obtain ⟨vs, sl, v1, ex, e1, tb⟩ := hx
  unfold setFlight
  refine wpAny_bind (wpAny_field ex rfl e1 ?_)
  rcases tb with ⟨rfl, _⟩ | ⟨T, oT, ts, rfl, pT, nT, eT, dT, fT⟩
  · rw [if_neg (by decide)]
    exact wpAny_pure (h s.heap .refl ⟨vs, sl, _, ex, e1, .inl ⟨rfl, rfl⟩⟩)
  · rw [if_pos (show (Value.ref T != Value.none) = true from by simp)]
    refine wpAny_setField eT dT (Array.getElem?_eq_some_iff.mp fT).1 (h _ ?_ ?_)
    · refine ⟨⟨[T], fun b hb => .inr ?_, fun b o e _ hc => ?_⟩, fun b o e hb => ⟨o.slots, ?_⟩, fun b o e => ?_⟩
      · rw [List.mem_singleton.mp hb]
        exact ⟨pT, oT, ts, eT, dT⟩
      · rw [Heap.get?_update_other _ _ fun z => hc (by rw [z]; exact List.mem_singleton.mpr rfl)]
        exact e
      · rw [Heap.get?_update_other _ _ fun z => ?_]
        · exact e
        · subst z
          rw [eT] at e
          cases e
          exact frn T oT eT hb ts dT
      · by_cases hb : b = T
        · rw [hb]
          exact ⟨_, Heap.get?_update_self _ eT (Obj.isFreed_of_fields (Obj.data_mapFields dT _))⟩
        · exact ⟨o, by rw [Heap.get?_update_other _ _ (Ne.symm hb)]; exact e⟩
    · refine ⟨vs, sl, .ref T, by rw [Heap.get?_update_other _ _ nT]; exact ex, e1, .inr ⟨T, _, _, rfl, pT, nT, Heap.get?_update_self _ eT (Obj.isFreed_of_fields (Obj.data_mapFields dT _)), Obj.data_mapFields dT _, ?_⟩⟩
      have := (Array.getElem?_eq_some_iff.mp fT).1
      simp [this]
/-- leaving -/
theorem leave_ok {Q : Unit → Shared → Prop} (hfr : A.frames = some (env :: outer)) (hl : s.heap.FunFrames base (env :: outer)) (hf : env.frame = some L)
    (hx : XAt s.heap P x C od .none) (hP : ∀ T, s.heap.objs.size ≤ T → P T)
    (h : ∀ h', Nt P ((env :: outer).filterMap (·.frame)) x s.heap h' → XAt h' P x C od .none → Q () { s with heap := h' }) : wpAny M A (leaving env (.ref x)) Q E s := by
  have frn : ∀ b o, s.heap.get? b = some o → b ∈ (env :: outer).filterMap (·.frame) → ∀ vs, o.data ≠ .fields vs := fun b o e hb => by
    obtain ⟨_, o', ho', hn⟩ := hl.mem hb
    rw [e] at ho'
    cases ho'
    exact hn
  unfold leaving
  refine wpAny_bind (note_ok hfr hl hf hx hP fun h1 n1 x1 => ?_)
  refine land_ok (s := { s with heap := h1 }) (fr := (env :: outer).filterMap (·.frame)) x1 (fun b o e hb => ?_) fun h2 n2 x2 => h h2 (n1.trans n2 frn) x2
  obtain ⟨_, o', ho', hn⟩ := hl.mem hb
  obtain ⟨sl, e1⟩ := n1.frm b o' ho' hb
  have e' : h1.get? b = some o := e
  rw [e1] at e'
  cases e'
  exact hn
end
end L2

/-! EXCEPTIONS IN THE LAYER (own work): how one lies behind a call, how it passes, raise, try. -/
namespace L2
open PySem PySem.Spec PyProof.Rows
theorem Tb.imp {h : Heap} {P P' : Addr → Prop} {x : Addr} {fl v : Value} (t : Tb h P x fl v) (k : ∀ b, P b → P' b) : Tb h P' x fl v := by
  rcases t with z | ⟨T, oT, ts, a, b, c⟩
  · exact .inl z
  · exact .inr ⟨T, oT, ts, a, k T b, c⟩
theorem XAt.imp {h : Heap} {P P' : Addr → Prop} {x : Addr} {C : Value} {od : Option Addr} {fl : Value} (t : XAt h P x C od fl) (k : ∀ b, P b → P' b) : XAt h P' x C od fl := by
  obtain ⟨vs, sl, v1, a, b, c⟩ := t
  exact ⟨vs, sl, v1, a, b, c.imp k⟩
/-- an address of ours: new since the entry, no name's, no pin's, untracked -/
structure Our (X : Cx) (pins : List (Addr × Obj)) (H : Hp) (b : Addr) : Prop where
  new : X.s₀.heap.objs.size ≤ b
  loc : b ≠ X.env.locals
  cel : ∀ y c, X.env.cells.lookup y = some c → c ≠ b
  pin : ∀ p ∈ X.pn ++ pins, p.1 ≠ b
  unt : H b = none
section
variable {X : Cx} {pins : List (Addr × Obj)} {σ : St} {H H' : Hp} {s s' : Shared} {x b : Addr} {C : Value} {od : Option Addr}
theorem Inv.our' (I : Inv X pins σ H s) (h : s.heap.objs.size ≤ b) (hn : H' b = none) : Our X pins H' b := by
  have lt : ∀ c o, s.heap.get? c = some o → c ≠ b := fun c o e z => by
    subst z
    exact absurd (Nat.lt_of_lt_of_le (Heap.lt_size e) h) (Nat.lt_irrefl _)
  refine ⟨Nat.le_trans I.sz h, fun z => ?_, fun y c e => ?_, fun p hp => ?_, hn⟩
  · obtain ⟨m, ⟨o, _, _, ho, _⟩, _⟩ := I.loc
    exact lt _ o ho z.symm
  · obtain ⟨v, o, ho, _⟩ := I.cell y c e
    exact lt c o ho
  · exact lt p.1 _ (I.pin p hp).1
theorem Inv.our (I : Inv X pins σ H s) (h : s.heap.objs.size ≤ b) : Our X pins H b := I.our' h (I.hok.fresh h)
/-- noting frames leaves what we know -/
theorem Inv.noted {h' : Heap} (I : Inv X pins σ H s) (hx : Our X pins H x) (n : Nt (Our X pins H) (frs X.stack) x s.heap h') : Inv X pins σ H { s with heap := h' } := by
  obtain ⟨ch, pc, kc⟩ := n.chg
  have oc : ∀ b ∈ ch, Our X pins H b := fun b hb => by
    rcases pc b hb with z | z
    · rw [z]; exact hx
    · exact z.1
  have nfs : ∀ b, b ≠ X.env.locals → b ∉ X.fs → b ∉ frs X.stack := fun b h1 h2 z => by
    rcases List.mem_cons.mp (I.stkSub b z) with q | q
    · exact h1 q
    · exact h2 q
  refine I.step (g' := s.gens) (d' := s.drawn) (t' := s.toks) (ch := ch) (fun b hb => ⟨.inr (oc b hb).new, (oc b hb).loc, (oc b hb).cel, (oc b hb).pin⟩) (fun b o h1 h2 h3 e _ => kc b o e (nfs b h1 h2) h3) (fun b o _ _ h3 e _ => ?_) (fun _ _ _ _ z => z)
    (fun b o _ e => n.thr b o e) (fun _ _ e => e) (fun _ _ _ e => e) (fun b ps e => ⟨#[], by rw [e]; simp⟩) (fun m hm => ?_) (fun a o e => ?_) I.bare
  · by_cases hf : b ∈ frs X.stack
    · exact n.frm b o e hf
    · exact ⟨o.slots, kc b o e hf h3⟩
  · obtain ⟨o, es, ep, ho, hd, r⟩ := hm
    by_cases hf : X.env.locals ∈ frs X.stack
    · obtain ⟨sl, e⟩ := n.frm _ o ho hf
      exact ⟨_, es, ep, e, hd, r⟩
    · exact ⟨o, es, ep, kc _ o ho hf (fun z => (oc _ z).loc rfl), hd, r⟩
  · refine (I.hok a o e).stay (fun c u hc q => kc c u q ?_ ?_) (fun _ q => q) fun _ _ q => q
    · intro z
      have := I.stkFree c z
      rcases hc with rfl | hc
      · rw [this] at e; cases e
      · rw [this] at hc; cases hc
    · intro z
      have := (oc c z).unt
      rcases hc with rfl | hc
      · rw [this] at e; cases e
      · rw [this] at hc; cases hc
theorem Inv.leave {M : Model} {E : Value → Shared → Prop} {Q : Unit → Shared → Prop} (I : Inv X pins σ H s) (hst : X.stack = X.env :: X.outer) (hf : X.env.frame = some X.env.locals) (hx : Our X pins H x) (xa : XAt s.heap (Our X pins H) x C od .none)
    (h : ∀ s', Inv X pins σ H s' → XAt s'.heap (Our X pins H) x C od .none → Q () s') : wpAny M X.A (leaving X.env (.ref x)) Q E s :=
  leave_ok (base := X.base) (by rw [I.ok.frames, hst]) (by rw [← hst]; exact I.stack) hf xa (fun T hT => I.our hT) fun h' n xa' => h _ (I.noted hx (by rw [hst]; exact n)) xa'
end
/-- how an exception lies behind a call -/
def CX1 (P : Program) (w : World) : CXT := fun outer H s E e s' => ∃ x C od H', e = .ref x ∧ s'.os = s.os ∧ AllBare s'.gens ∧ Un (frs outer) [] H H' s.heap s'.heap ∧ HOk P w H' s'.heap ∧ s.heap.objs.size ≤ x ∧ H' x = none ∧
  XAt s'.heap (fun T => s.heap.objs.size ≤ T ∧ H' T = none) x C od .none ∧ E C od H'
/-- what is wanted where an exception of a class, with its own dict, is raised: also of the names -/
abbrev XS := Value → Option Addr → St → Hp → Prop
/-- an exception of which E holds is what the context wants -/
def Lands (X : Cx) (E : XS) : Prop := ∀ (pins : List (Addr × Obj)) (σ : St) (H : Hp) (s : Shared) (x : Addr) (C : Value) (od : Option Addr), Inv X pins σ H s → Our X pins H x → XAt s.heap (Our X pins H) x C od .none → E C od σ H → X.xe (.ref x) s
theorem lands_cx {P : Program} {w : World} {K : PySem.W.Frag} {mg : Str → Option Value} {base : Heap} {N : List Str} {qual : Str} {scope : Scope} {f : Addr} {cd : Value} {A : Around} {outer : List Env} {s₀ : Shared} {H₀ : Hp} {E : XK} :
    Lands (cxOf (CX1 P w) P w K mg base N qual scope f cd A outer s₀ H₀ E) (fun C od _ H => E C od H) := by
  intro pins σ H s x C od I hx xa q
  exact I.leave (Q := fun _ s'' => CX1 P w outer H₀ s₀ E (.ref x) s'') rfl rfl hx xa fun s' I' xa' => ⟨x, C, od, H, rfl, I'.os, I'.bare, I'.base, I'.hok, hx.new, hx.unt, xa'.imp fun T o => ⟨o.new, o.unt⟩, q⟩
/-- a callee's exception -/
theorem Lands.pass {X : Cx} {E : XS} (L : Lands X E) {pins : List (Addr × Obj)} {σ : St} {H : Hp} {s s' : Shared} {e : Value} (I : Inv X pins σ H s) (h : CX1 X.prog X.w X.stack H s (fun C od H' => E C od σ H') e s') : X.xe e s' := by
  obtain ⟨x, C, od, H', rfl, os, bare, un, hok, nx, hx, xa, q⟩ := h
  have I' : Inv X pins σ H' s' := I.call' os un hok bare (fun b z => absurd z (by simp))
  exact L pins σ H' s' x C od I' (I.our' nx hx) (xa.imp fun T z => I.our' z.1 z.2) q
section
variable {X : Cx} {k : Nat} {f C : Addr} {fd : FuncData} {ps : List Str} {sp : Sp} {dvs : List V} {ds : List Value} {E : XS} {x m : Str} {p pos apos : Pos} {e o : Expr} {es : List Expr} {ta : TE} {t : TA}
/-- the callee runs, and may raise -/
theorem run_fnX {pins : List (Addr × Obj)} {σ : St} {H : Hp} {s : Shared} {Q : VK} {us : List Value} {vs : List V} (F : FnOk X.prog X.w X.K X.mg X.base (CX1 X.prog X.w) k f fd ps sp) (hr : Room k X.A) (hb : Binds X.K fd ps ds) (hd : Vals dvs ds) (L : Lands X E)
    (I : Inv X pins σ H s) (r : Vals vs us) (h : sp (vs ++ dvs) H Q (fun C od H' => E C od σ H')) : wpAny (model X.prog X.w) X.A (call (.ref f) us) (EP X pins σ Q) X.xe s := by
  have r2 : Vals (vs ++ dvs) (us ++ ds) := r.append hd
  have hl : (us ++ ds).length = ps.length := by rw [← r2.length]; exact F.len _ _ _ _ h
  refine wpAny_call (codeAny_mono (F.run X.A X.stack s H ⟨us, []⟩ (us ++ ds) (vs ++ dvs) Q _ hr I.env0 (hb s us I.kIn hl) r2 h) fun r s' hq => ?_)
  cases r with
  | error e => exact L.pass I hq
  | ok fl =>
    cases fl with
    | ret u => exact I.after hq
    | next => exact False.elim hq
    | brk => exact False.elim hq
    | cont => exact False.elim hq
def tMethX (C : Addr) (m : Str) (sp : Sp) (dvs : List V) (E : XS) (ta : TE) (t : TA) : TE := fun σ H Q => ta σ H fun x H1 => ∃ a dx fs, x = .ref a ∧ H1 a = some (.ins C dx fs) ∧ fs.lookup m = none ∧
  t σ H1 fun vs H2 => sp (x :: (vs ++ dvs)) H2 Q (fun C od H' => E C od σ H')
/-- o.m(e, ..) that may raise -/
theorem pe_methX {pl : Sem Bool} (he : PE X o ta) (c : Cls X.K C) (hm : Meth X.K C m f) (F : FnOk X.prog X.w X.K X.mg X.base (CX1 X.prog X.w) k f fd ps sp) (hr : Room k X.A) (hb : Binds X.K fd ps ds) (hd : Vals dvs ds) (L : Lands X E) (ha : PA X (e :: es) t)
    (hst : starEach (e :: es) X.env = (false, eval e X.env) :: starEach es X.env := by rfl) (hpl : (backTo pos (starEach es X.env)).any (·.1) = false := by rfl)
    (ht : eval (.Call (.Attribute o m apos) (e :: es) [] pos) X.env = (do
      let ov ← eval o X.env
      standAt apos.atName
      let (f, first) ← holding [ov] (getMethod ov m pl)
      callWith pos f first (backTo pos (starEach (e :: es) X.env)) (backToKw pos (keywordEach [] X.env))) := by rfl) :
    PE X (.Call (.Attribute o m apos) (e :: es) [] pos) (tMethX C m sp dvs E ta t) := by
  intro pins s σ H Q I h
  refine PySem.W.methodCall_KW (pl := pl) (thn (he pins s σ H _ I h) fun u s1 ⟨x, H1, I1, rx, a, dx, fs, ex, ea, l, q⟩ => ?_) ht
  subst ex
  obtain rfl : u = Value.ref a := rx
  refine getmeth_ok I1 ea c hm l ?_
  refine PySem.W.callWith_K (first := [.ref a]) (h₀ := X.base) I.ok.mod.kin hm.kp (thn (ha pos pins s1 σ H1 _ I1 q) fun us s2 ⟨vs, H2, I2, r, q2⟩ => ⟨I2.kIn, ?_⟩) hst hpl
  exact run_fnX (us := .ref a :: us) (vs := .ref a :: vs) F hr hb hd L I2 (.cons rfl r) q2
end
end L2

/-! OWN EXCEPTIONS OVER ValueError (own work): made with an __init__ of the text's, with fields. -/
namespace L2
open PySem PySem.Spec PyProof.Rows Builtin Builtin.ObjectAttr
abbrev bmV : List Value := [.type "ValueError", .type "Exception", .type "BaseException", .type "object"]
/-- own classes ahead of ValueError's line -/
def tailV : List Value → Bool
  | [] => false
  | v :: r => (v :: r) == bmV || match v with | .ref _ => tailV r | _ => false
theorem tailV_has {X : String} {b : Bool} (hb : bmV.contains (.type X) = b) : ∀ {l : List Value}, tailV l = true → l.contains (.type X) = b
  | [], e => by cases e
  | v :: r, e => by
    unfold tailV at e
    rcases Bool.or_eq_true_iff.mp e with q | q
    · rw [beq_iff_eq.mp q]; exact hb
    · cases v with
      | ref a =>
        have q' : tailV r = true := q
        rw [List.contains_cons, tailV_has hb q']
        rfl
      | _ => exact Bool.noConfusion q
theorem tailV_pass (self : Value) : ∀ {l : List Value}, tailV l = true → refuseLoop self "__setattr__" l = pure ()
  | [], e => by cases e
  | v :: r, e => by
    unfold tailV at e
    rcases Bool.or_eq_true_iff.mp e with q | q
    · rw [beq_iff_eq.mp q]; exact PySem.F.store_ValueError.passes self
    · cases v with
      | ref a =>
        rw [refuseLoop_ref]
        exact tailV_pass self (l := r) q
      | _ => exact Bool.noConfusion q
/-- what of the text an exception's class must have -/
structure XCl (K : PySem.W.Frag) (C : Addr) : Prop where
  at_ : ∃ (nm q : Str) (N : Addr) (bs bm : List Value) (sn : List Str) (sub : List Value) (ab : Bool) (col : Option Bool) (dd : Option Addr) (k0 k1 k2 k3 k5 : Option Value), K.lookup C = some (excClassObj nm q C N bs bm true sn sub ab col dd k0 k1 k2 k3 k5 "ValueError.__new__") ∧ tailV bm = true
  ga : PySem.W.findIn K (.ref C) "__getattribute__" = some (some (.builtin "BaseException.__getattribute__"))
  gx : PySem.W.findIn K (.ref C) "__getattr__" = some none
  sa : PySem.W.findIn K (.ref C) "__setattr__" = some (some (.builtin "object.__setattr__"))
  kp : PySem.W.keepIn K (.ref C) = true
theorem xcl_mk {K : PySem.W.Frag} {C N : Addr} {nm q : Str} {bs bm : List Value} {sn : List Str} {sub : List Value} {ab : Bool} {col : Option Bool} {dd : Option Addr} {k0 k1 k2 k3 k5 : Option Value}
    (l : K.lookup C = some (excClassObj nm q C N bs bm true sn sub ab col dd k0 k1 k2 k3 k5 "ValueError.__new__")) (t : tailV bm = true) (ga : PySem.W.findIn K (.ref C) "__getattribute__" = some (some (.builtin "BaseException.__getattribute__")))
    (gx : PySem.W.findIn K (.ref C) "__getattr__" = some none) (sa : PySem.W.findIn K (.ref C) "__setattr__" = some (some (.builtin "object.__setattr__"))) (kp : PySem.W.keepIn K (.ref C) = true) : XCl K C :=
  ⟨⟨nm, q, N, bs, bm, sn, sub, ab, col, dd, k0, k1, k2, k3, k5, l, t⟩, ga, gx, sa, kp⟩
section
variable {prog : Program} {w : World} {A : Around} {E : Value → Shared → Prop} {h : Heap} {g : Array GenState} {d : Drawn} {t : Nat} {os : OsState}
variable {nm q : Str} {C N : Addr} {bs bm : List Value} {sn : List Str} {sub : List Value} {ab : Bool} {col : Option Bool} {dd : Option Addr} {k0 k1 k2 k3 k5 : Option Value}
theorem xck_new {M : Model} {rest : List Value} {Q : Unit → Shared → Prop} (tv : tailV bm = true) (hC : h.get? C = some (excClassObj nm q C N bs bm true sn sub ab col dd k0 k1 k2 k3 k5 "ValueError.__new__"))
    (hq : Q () ⟨h, g, d, t, os⟩) : wpAny M A (checkBuiltinCall "ValueError.__new__" ⟨.ref C :: rest, []⟩) Q E ⟨h, g, d, t, os⟩ := by
  have F := PySem.F.excBase_ValueError
  have hc : (Value.ref C :: bm).contains (.type "ValueError") = true := by rw [List.contains_cons, tailV_has (X := "ValueError") rfl tv]; rfl
  have ns := F.noStar
  simp only [checkBuiltinCall, F.newKind, F.newSplit, F.newRow]
  repeat (first | refine wpAny_loadPart_at hC ?_ | (refine wpAny_isSubtype_exc hC ?_; rw [hc]) | refine wpAny_staticBase_exc hC ?_ | refine wpAny_madeBy_exc hC ?_ | simp only [bne_self_eq_false, Bool.false_eq_true, if_false] | wp_step)
  exact hq
abbrev xTup (rest : List Value) : Obj := { cls := .type "tuple", data := .seq rest.toArray }
abbrev xObj (C : Addr) (od : Option Addr) (t : Addr) : Obj := ⟨.ref C, od, .fields #[.ref t, .none, .none, .none, .bool false, .none], #[]⟩
theorem xnew {R : Result → Shared → Prop} {rest : List Value} (tv : tailV bm = true) (hC : h.get? C = some (excClassObj nm q C N bs bm true sn sub ab col dd k0 k1 k2 k3 k5 "ValueError.__new__"))
    (hq : R (.ok (.ret (.ref (h.objs.size + 1)))) ⟨(h.push (xTup rest)).push (xObj C none h.objs.size), g, d, t, os⟩) (hrest : rest.length ≤ sizeLine) :
    codeAny (model prog w) A (.builtin "ValueError.__new__" ⟨.ref C :: rest, []⟩) R ⟨h, g, d, t, os⟩ := by
  have F := PySem.F.excBase_ValueError
  have fe := F.ends
  have c1 : (Value.ref C :: bm).contains (.type "ValueError") = true := by rw [List.contains_cons, tailV_has (X := "ValueError") rfl tv]; rfl
  have c2 : (Value.ref C :: bm).contains (.type "AttributeError") = false := by rw [List.contains_cons, tailV_has (X := "AttributeError") rfl tv]; rfl
  have c3 : (Value.ref C :: bm).contains (.type "NameError") = false := by rw [List.contains_cons, tailV_has (X := "NameError") rfl tv]; rfl
  refine codeAny_builtinAt F.entry ?_
  unfold Builtin.«BaseException.__new__»
  refine PySem.wpAt_bind ?_
  show PySem.wpAt _ _ _ (stack >>= _) _ _ _
  refine PySem.wpAt_bind (PySem.wpAt_stack fun p below => PySem.wpAt_of_wpAny ?_)
  wp_walk
  refine PySem.wpAt_of_wpAny ?_
  rw [F.owner]
  repeat (first | with_reducible refine wpAny_madeHere_exc F.canon hC ?_ | with_reducible refine wpAny_loadPart_at hC ?_ | (with_reducible refine wpAny_isSubtype_exc hC ?_; first | rw [c1] | rw [c2] | rw [c3]) | wp_step)
  show R _ _
  rw [Heap.size_push]
  exact hq
theorem xtype_call {rest : List Value} {fI : Addr} {oI : Obj} {Q : Fin → Shared → Prop} (tv : tailV bm = true) (hC : h.get? C = some (excClassObj nm q C N bs bm true sn sub ab col dd k0 k1 k2 k3 k5 "ValueError.__new__"))
    (hi : PySem.W.Looks (model prog w) h (typeLookup (.ref C) "__init__") (some (.ref fI))) (hf : h.get? fI = some oI) (hfc : oI.cls = .type "function") (hrest : rest.length ≤ sizeLine)
    (hq : wpAny (model prog w) A (call (.ref fI) (.ref (h.objs.size + 1) :: rest)) (fun r s' => r = .none ∧ Q (.done (.ret (.ref (h.objs.size + 1)))) s') E ⟨(h.push (xTup rest)).push (xObj C none h.objs.size), g, d, t, os⟩) :
    wpAny (model prog w) A (Builtin.«type.__call__» ⟨.ref C :: rest, []⟩) Q E ⟨h, g, d, t, os⟩ := by
  have F := PySem.F.excBase_ValueError
  repeat (first | with_reducible refine wpAny_loadPart_at hC ?_ | with_reducible refine wpAny_madeBy_exc hC ?_ | wp_step)
  refine codeAny_call_builtin_code (Code.quiet_builtin _ F.quiet) (xck_new tv hC ?_)
  refine xnew tv hC ?_ hrest
  show wpAny _ _ _ _ _ _
  have kp : ∀ b o, h.get? b = some o → ((h.push (xTup rest)).push (xObj C none h.objs.size)).get? b = some o := fun b o e => Heap.get?_push_of_some _ (Heap.get?_push_of_some _ e)
  have hg2 : ((h.push (xTup rest)).push (xObj C none h.objs.size)).get? (h.objs.size + 1) = some (xObj C none h.objs.size) := by
    have := Heap.get?_push_size (h.push (xTup rest)) (o := xObj C none h.objs.size) rfl
    rwa [Heap.size_push] at this
  have hcC : (Value.ref C :: bm).contains (.ref C) = true := by simp
  unfold isInstance
  repeat (first | with_reducible refine wpAny_loadPart_at hg2 ?_ | (with_reducible refine wpAny_isSubtype_exc (kp _ _ hC) ?_; rw [hcC]) | wp_step)
  show wpAny _ _ (typeLookup (.ref C) _) _ _ _
  refine hi _ _ _ _ kp ?_
  refine wpAny_holding (wpAny_bind ?_)
  unfold bindSpecial
  refine wpAny_bind (wpAny_typeOf (T := "function") ⟨_, kp _ _ hf, hfc⟩ ?_)
  rw [if_pos (by decide)]
  refine wpAny_pure (wpAny_bind (wpAny_mono hq (fun r s' hr => ?_) fun _ _ x => x))
  obtain ⟨rfl, hQ⟩ := hr
  wp_walk
  exact hQ
theorem xcall {rest : List Value} {fI : Addr} {oI : Obj} {Q : Value → Shared → Prop} (tv : tailV bm = true) (hC : h.get? C = some (excClassObj nm q C N bs bm true sn sub ab col dd k0 k1 k2 k3 k5 "ValueError.__new__"))
    (hi : PySem.W.Looks (model prog w) h (typeLookup (.ref C) "__init__") (some (.ref fI))) (hf : h.get? fI = some oI) (hfc : oI.cls = .type "function") (hrest : rest.length ≤ sizeLine)
    (hq : wpAny (model prog w) (A.under (.builtin "type.__call__" ⟨.ref C :: rest, []⟩)) (call (.ref fI) (.ref (h.objs.size + 1) :: rest)) (fun r s' => r = .none ∧ Q (.ref (h.objs.size + 1)) s') E ⟨(h.push (xTup rest)).push (xObj C none h.objs.size), g, d, t, os⟩) :
    wpAny (model prog w) A (call (.ref C) rest) Q E ⟨h, g, d, t, os⟩ := by
  have f1 := tc_lookup
  have f2 := tc_bind (.ref C)
  have hT : (⟨h, g, d, t, os⟩ : Shared).TypeIs (.ref C) "type" := ⟨_, hC, rfl⟩
  refine wpAny_call (codeAny_of_tree ?_)
  show wpAny _ _ (callAny (.ref C) _) _ _ _
  repeat (any_goals (first | assumption | with_reducible refine wpAny_loadPart_at hC ?_ | wp_step))
  refine ⟨rfl, ?_⟩
  exact codeAny_call_builtin_at (Code.quiet_builtin _ (by decide +kernel)) entry_typeCall (wpAny_check_type_call_sub hC (xtype_call tv hC hi hf hfc hrest hq))
/-- raise of an exception that is there -/
theorem xraise {M : Model} {s : Shared} {env : Env} {x : Sem Value} {Q : Flow → Shared → Prop} (hh : A.handled = none)
    (hx : wpAny M A x (fun v s₁ => ∃ e C nm q N bs bm sn sub ab col dd k0 k1 k2 k3 k5 od t0, v = .ref e ∧ s₁.heap.get? C = some (excClassObj nm q C N bs bm true sn sub ab col dd k0 k1 k2 k3 k5 "ValueError.__new__") ∧ tailV bm = true ∧ s₁.heap.get? e = some (xObj C od t0) ∧ E (.ref e) s₁) E s) :
    wpAny M A (raiseStmt env (some x) none) Q E s := by
  unfold raiseStmt
  refine wpAny_bind (wpAny_mono hx (fun v s₁ h₁ => ?_) fun _ _ z => z)
  obtain ⟨e, C, nm, q, N, bs, bm, sn, sub, ab, col, dd, k0, k1, k2, k3, k5, od, t0, rfl, hC, tv, he, hE⟩ := h₁
  obtain ⟨hp, g, d, tk, os⟩ := s₁
  have hb : (Value.ref C :: bm).contains (.type "BaseException") = true := by rw [List.contains_cons, tailV_has (X := "BaseException") rfl tv]; rfl
  repeat (first | with_reducible refine wpAny_loadPart_at he ?_ | with_reducible refine wpAny_loadPart_at hC ?_ | (with_reducible refine wpAny_isSubtype_exc hC ?_; rw [hb]) | wp_step)
  exact wpAny_raiseNew_none hh hE
end
section
variable {prog : Program} {w : World} {A : Around} {E : Value → Shared → Prop} {s : Shared} {K : PySem.W.Frag} {x C dx t0 : Addr} {name : Str} {v : Value}
theorem XCl.cls (c : XCl K C) : ∃ cd bm, PySem.W.clsIn K C = some cd ∧ cd.mro = .ref C :: bm ∧ tailV bm = true ∧ cd.hasDict = true := by
  obtain ⟨nm, q, N, bs, bm, sn, sub, ab, col, dd, k0, k1, k2, k3, k5, l, tv⟩ := c.at_
  have e : PySem.W.clsIn K C = some ⟨nm, bs, .ref C :: bm, N, q, true, sn, sub, ab, col, false⟩ := by
    unfold PySem.W.clsIn
    rw [l]
  exact ⟨_, bm, e, rfl, tv, rfl⟩
/-- object.__setattr__ of an exception -/
theorem xosa {ox : Obj} {od : Option Obj} {tk : Tok} {R : Result → Shared → Prop} (Xk : K.In s.heap) (I : PySem.W.InstAt s.heap x ox C od) (c : XCl K C) (n : PySem.W.findIn K (.ref C) name = some none)
    (h : wpAny (model prog w) A.in1 (storeInOwnDict (.ref x) (.ref C) (.str name tk) name v false)
      (fun fin s' => match fin with | .done f => R (.ok f) s' | .again c' => c'.quiet = true ∧ codeAny (model prog w) A c' R s') (fun e s' => R (.error e) s') s) :
    codeAny (model prog w) A (.call (.builtin "object.__setattr__") ⟨[.ref x, .str name tk, v], []⟩) R s := by
  have SF := PySem.F.store_ValueError
  obtain ⟨cd, bm, hc, hm, tv, _⟩ := c.cls
  have sub : PySem.W.Looks (model prog w) s.heap (isInstance (.ref x) (.type "object")) true := I.type.andThen (PySem.W.looks_mroIn Xk (by
    unfold PySem.W.mroIn
    rw [hc, Option.bind_some, hm]
    show some (List.contains _ _) = _
    rw [List.contains_cons, tailV_has (X := "object") rfl tv]
    rfl))
  refine codeAny_call_builtin SF.slot.plain SF.entry (@PySem.W.check_slot (model prog w) _ _ s "object.__setattr__" "object" "__setattr__" (.ref x) [.str name tk, v] [] _ SF.kind SF.split sub (SF.args (.ref x) (.str name tk) v) ?_)
  have lm : PySem.W.Looks (model prog w) s.heap (mroOf (.ref C)) cd.mro := (PySem.W.looks_clsIn Xk hc).andThen .now
  rw [PySem.W.osa_eq, refuse_eq]
  refine wpAny_bind (wpAny_bind (I.type.here (wpAny_bind (lm.here ?_))))
  rw [hm, refuseLoop_ref, tailV_pass _ tv]
  refine wpAny_pure (wpAny_bind (I.type.here (wpAny_bind ((PySem.W.looks_findIn Xk n).here (wpAny_bind (PySem.W.Looks.here (r := none) .now ?_))))))
  exact h
/-- the first field -/
theorem xput_new {Q : Unit → Shared → Prop} (Xk : K.In s.heap) (c : XCl K C) (n : PySem.W.findIn K (.ref C) name = some none) (hx : s.heap.get? x = some (xObj C none t0))
    (hq : ∀ h' tk', h'.get? x = some (xObj C (some s.heap.objs.size) t0) → h'.Ns1 s.heap.objs.size (fun y => if y = name then some v else none) → (∀ b o, b ≠ x → s.heap.get? b = some o → h'.get? b = some o) → Q () { s with heap := h', toks := tk' }) :
    wpAny (model prog w) A (setAttr (.ref x) name v) Q E s := by
  obtain ⟨h, g, d, t, os⟩ := s
  obtain ⟨cd, bm, hc, hm, tv, hd⟩ := c.cls
  have J : PySem.W.InstAt h x (xObj C none t0) C none := ⟨hx, rfl, rfl, trivial⟩
  refine PySem.W.set_plain (s := ⟨h, g, d, t, os⟩) Xk J c.sa (xosa (s := ⟨h, g, d, t + 1, os⟩) Xk J c n ?_)
  refine wpAny_bind (wpAny_pure (wpAny_bind (wpAny_bind (wpAny_loadPart_at hx (wpAny_bind (PySem.W.Looks.here (s := ⟨h, g, d, t + 1, os⟩) (PySem.W.looks_clsIn Xk hc) ?_))))))
  rw [hd]
  have hx1 : (h.push { cls := .type "dict", data := .dict #[] }).get? x = some (xObj C none t0) := Heap.get?_push_of_some _ hx
  have hxs : x ≠ h.objs.size := Nat.ne_of_lt (Heap.lt_size hx)
  refine wpAny_bind (wpAny_alloc' ?_)
  refine wpAny_bind (wpAny_update' hx1 ?_)
  refine wpAny_pure ?_
  have g1 : ((h.push { cls := .type "dict", data := .dict #[] }).update x fun o => { o with dict := some h.objs.size }).get? h.objs.size = some { cls := .type "dict", data := .dict #[] } :=
    (Heap.get?_update_ne _ _ _ _ hxs.symm).trans (Heap.get?_push_at rfl rfl)
  have g2 : ((h.push { cls := .type "dict", data := .dict #[] }).update x fun o => { o with dict := some h.objs.size }).get? x = some (xObj C (some h.objs.size) t0) := Heap.get?_update_self _ hx1 rfl
  have gn : ((h.push { cls := .type "dict", data := .dict #[] }).update x fun o => { o with dict := some h.objs.size }).Ns h.objs.size (fun _ => none) := ⟨_, #[], _, g1, rfl, fun e he => absurd he (by simp), fun _ => rfl⟩
  show wpAny _ _ (storeInDict h.objs.size (.str name t) name v) _ _ _
  unfold storeInDict newKeyGuard
  refine wpAny_bind (wpAny_pure (wpAny_bind (wpAny_nsSet1 (Heap.Ns1.of_empty gn) fun h' n' sb => ?_)))
  obtain ⟨oD, esD, epD, hoD, hdD, hcD⟩ := n'.count (Within.cons name v Within.nil)
  refine wpAny_bind (wpAny_lookBehind hoD (by rw [hdD]; exact pastItsLine_dict (Nat.le_trans hcD (by rw [List.length_cons, List.length_nil, sizeLine_eq]; omega))) ?_)
  refine wpAny_pure (hq h' _ ((sb.2 x hxs).trans g2) n' fun b o hb e => ?_)
  exact (sb.2 b (Nat.ne_of_lt (Heap.lt_size e))).trans ((Heap.get?_update_ne _ _ _ _ hb).trans (Heap.get?_push_of_some _ e))
/-- a further field -/
theorem xput_old {Q : Unit → Shared → Prop} {mA : Str → Option Value} {ns : List Str} (Xk : K.In s.heap) (c : XCl K C) (n : PySem.W.findIn K (.ref C) name = some none) (hx : s.heap.get? x = some (xObj C (some dx) t0)) (hn : s.heap.Ns1 dx mA) (ne : dx ≠ x)
    (hw : Within mA ns) (hz : ns.length ≤ sizeLine)
    (hq : ∀ h' tk', h'.Ns1 dx (fun y => if y = name then some v else mA y) → Heap.SameBut dx s.heap h' → Q () { s with heap := h', toks := tk' }) : wpAny (model prog w) A (setAttr (.ref x) name v) Q E s := by
  obtain ⟨h, g, d, t, os⟩ := s
  obtain ⟨cd, bm, hc, hm, tv, hd⟩ := c.cls
  obtain ⟨od, es, ep, eo, _⟩ := id hn
  have J : PySem.W.InstAt h x (xObj C (some dx) t0) C (some od) := ⟨hx, rfl, rfl, eo⟩
  refine PySem.W.set_plain (s := ⟨h, g, d, t, os⟩) Xk J c.sa (xosa (s := ⟨h, g, d, t + 1, os⟩) Xk J c n ?_)
  refine wpAny_bind (wpAny_pure (wpAny_bind (wpAny_bind (wpAny_loadPart_at hx (wpAny_bind (PySem.W.Looks.here (s := ⟨h, g, d, t + 1, os⟩) (PySem.W.looks_clsIn Xk hc) ?_))))))
  rw [hd]
  refine wpAny_pure (a := some dx) ?_
  show wpAny _ _ (storeInDict dx (.str name t) name v) _ _ _
  unfold storeInDict newKeyGuard
  refine wpAny_bind (wpAny_pure (wpAny_bind (wpAny_nsSet1 hn fun h' n' sb => ?_)))
  obtain ⟨oD, esD, epD, hoD, hdD, hcD⟩ := n'.count (Within.cons name v hw)
  refine wpAny_bind (wpAny_lookBehind hoD (by rw [hdD]; exact pastItsLine_dict (Nat.le_trans hcD (by rw [List.length_cons]; omega))) ?_)
  exact wpAny_pure (hq h' _ n' sb)
/-- a field read -/
theorem xget {expr : Bool} {vs : Array Value} {sl : Array (Option Value)} {mA : Str → Option Value} {Q : Value → Shared → Prop} (Xk : K.In s.heap) (c : XCl K C) (n : PySem.W.findIn K (.ref C) name = some none) (hx : s.heap.get? x = some ⟨.ref C, some dx, .fields vs, sl⟩) (hn : s.heap.Ns1 dx mA)
    (hv : mA name = some v) (hh : PySem.W.handedIn v = true) (hq : Q v { s with toks := s.toks + 1 }) : wpAny (model prog w) A (getAttr (.ref x) name expr) Q E s := by
  obtain ⟨h, g, d, t, os⟩ := s
  obtain ⟨cd, bm, hc, hm, tv, hd⟩ := c.cls
  obtain ⟨od, ho, hl⟩ := lookIn_ns hn
  have J : PySem.W.InstAt h x ⟨.ref C, some dx, .fields vs, sl⟩ C (some od) := ⟨hx, rfl, rfl, ho⟩
  have hf : PySem.W.findObj K C (some od) name = some (.value v) := by
    unfold PySem.W.findObj
    rw [hc, Option.bind_some, n, Option.bind_some]
    show (Option.bind (some none) fun get => _) = _
    rw [Option.bind_some]
    show (Option.bind (some false) fun data => _) = _
    rw [Option.bind_some]
    show (Option.bind (PySem.W.ownOf cd (some od) name) fun own => _) = _
    have e : PySem.W.ownOf cd (some od) name = some (some v) := by
      unfold PySem.W.ownOf
      rw [hd, if_pos rfl]
      show PySem.W.lookIn name od = _
      rw [hl, hv]
    rw [e]
    rfl
  have FX := PySem.F.attr_ValueError
  have L0 := J.type (M := model prog w)
  have L1 := PySem.W.looks_find (M := model prog w) Xk J hf
  have sub : PySem.W.Looks (model prog w) h (isInstance (.ref x) (.type "BaseException")) true := L0.andThen (PySem.W.looks_mroIn Xk (by
    unfold PySem.W.mroIn
    rw [hc, Option.bind_some, hm]
    show some (List.contains _ _) = _
    rw [List.contains_cons, tailV_has (X := "BaseException") rfl tv]
    rfl))
  have nq : (onTheHeap (Value.ref C) && Value.builtin "BaseException.__getattribute__" == Value.builtin "object.__getattribute__") = false := by
    rw [show (Value.builtin "BaseException.__getattribute__" == Value.builtin "object.__getattribute__") = false from by decide +kernel, Bool.and_false]
  unfold getAttr getAttrBy
  refine wpAny_bind (wpAny_mkText (wpAny_holding (wpAny_bind (L0.at (wpAny_bind ((PySem.W.looks_findIn (M := model prog w) Xk c.ga).at ?_))))))
  show wpAny _ _ (if _ = true then _ else _) _ _ _
  rw [nq, if_neg (by decide)]
  unfold getAttrByItsOwn hookBefore
  refine wpAny_bind (PySem.W.Looks.at (t := if onTheHeap (Value.ref C) = true then typeLookup (.ref C) "__getattr__" else pure none) (r := none) (PySem.W.looks_findIn (M := model prog w) Xk c.gx) (wpAny_bind (wpAny_attempt (wpAny_holding ?_))))
  unfold callGetattribute
  rw [show (expr && onTheHeap (Value.builtin "BaseException.__getattribute__")) = false from Bool.and_false _, if_neg (by decide)]
  unfold boundAndCalled
  rw [FX.ga.bind]
  refine wpAny_bind (wpAny_pure ?_)
  show wpAny _ _ (call (.builtin "BaseException.__getattribute__") [.ref x, .str name t]) _ _ _
  refine wpAny_call ?_
  refine codeAny_call_builtin FX.ga.plain PySem.F.entry_bexc_ga ?_
  refine @PySem.W.check_slot (model prog w) _ _ ⟨h, g, d, t + 1, os⟩ "BaseException.__getattribute__" "BaseException" "__getattribute__" (.ref x) [.str name t] [] _ (by decide +kernel) (by decide +kernel) sub (PySem.F.args_bexc_ga (.ref x) (.str name t)) ?_
  unfold Builtin.«object.__getattribute__»
  refine wpAny_bind (wpAny_pure (wpAny_bind (wpAny_pure (wpAny_bind (L0.at (wpAny_bind (L1.at ?_)))))))
  refine wpAny_pure ?_
  show wpAny _ _ (handedOut v) _ _ _
  rw [PySem.W.handedOut_of hh]
  exact wpAny_pure hq
end
end L2

/-! RAISE, TRY, FIELDS OF EXCEPTIONS (own work). -/
namespace L2
open PySem PySem.Spec PyProof.Rows Builtin Builtin.ObjectAttr
/-- a new exception; a caught one; its own dict -/
def excP (x C : Addr) (od : Option Addr) (h : Heap) : Prop := ∃ t, h.get? x = some (xObj C od t)
def gotP (x C : Addr) (od : Option Addr) (h : Heap) : Prop := ∃ vs sl, h.get? x = some ⟨.ref C, od, .fields vs, sl⟩
def dctP (dx : Addr) (fs : List (Str × V)) (h : Heap) : Prop := ∃ mA, h.Ns1 dx mA ∧ (∀ f, RelO (fs.lookup f) (mA f)) ∧ Within mA (fs.map (·.1))
section
variable {P : Program} {w : World} {H : Hp} {h : Heap} {x C dx t : Addr} {od : Option Addr}
theorem excP_ok (e : h.get? x = some (xObj C od t)) : ObjOk P w H h x (.ext (excP x C od)) := ⟨⟨t, e⟩, ⟨_, e⟩, fun _ _ ⟨t, e⟩ k => ⟨t, k _ e⟩⟩
theorem gotP_ok {vs : Array Value} {sl : Array (Option Value)} (e : h.get? x = some ⟨.ref C, od, .fields vs, sl⟩) : ObjOk P w H h x (.ext (gotP x C od)) := ⟨⟨vs, sl, e⟩, ⟨_, e⟩, fun _ _ ⟨vs, sl, e⟩ k => ⟨vs, sl, k _ e⟩⟩
theorem dctP_ok {fs : List (Str × V)} {mA : Str → Option Value} (n : h.Ns1 dx mA) (r : ∀ f, RelO (fs.lookup f) (mA f)) (wi : Within mA (fs.map (·.1))) : ObjOk P w H h dx (.ext (dctP dx fs)) :=
  ⟨⟨mA, n, r, wi⟩, (let ⟨o, _, _, e, _⟩ := n; ⟨o, e⟩), fun _ _ ⟨mA, ⟨o, es, ep, e, c⟩, r, wi⟩ k => ⟨mA, ⟨o, es, ep, k _ e, c⟩, r, wi⟩⟩
end
def dropH (H : Hp) (x : Addr) : Hp := fun b => if b = x then none else H b
theorem dropH_ne {H : Hp} {x b : Addr} (h : b ≠ x) : dropH H x b = H b := if_neg h
theorem dropH_same {H : Hp} {x : Addr} : dropH H x x = none := if_pos rfl
section
variable {X : Cx} {pins : List (Addr × Obj)} {σ : St} {H : Hp} {s : Shared} {x dx C : Addr} {φ : Heap → Prop} {od : Option Addr}
/-- it is no longer looked after -/
theorem Inv.drop (I : Inv X pins σ H s) (e : H x = some (.ext φ)) : Inv X pins σ (dropH H x) s := by
  have ne : ∀ b u, H b = some u → (∀ ψ, u ≠ .ext ψ) → b ≠ x := fun b u q hu z => by
    rw [z, e] at q
    cases q
    exact hu φ rfl
  have nn : ∀ b, H b = none → dropH H x b = none := fun b q => by
    by_cases z : b = x
    · rw [z, dropH_same]
    · rw [dropH_ne z, q]
  refine ⟨I.ok, I.os, I.bare, ⟨I.base.keep, I.base.slot, fun b o q n hx => nn b (I.base.free b o q n hx), I.base.there, fun b xs q => ?_, fun b o u q => ?_, fun b ps q => ?_⟩, I.loc, I.cell, nn _ I.free, fun y c q => nn c (I.freeC y c q), fun p hp => ?_, fun a o q => ?_, I.len⟩
  · have z := I.base.tups b xs q
    rw [dropH_ne (ne b _ z fun ψ q => by cases q)]
    exact z
  · have z := I.base.frzs b o u q
    rw [dropH_ne (ne b _ z fun ψ q => by cases q)]
    exact z
  · obtain ⟨m, z⟩ := I.base.tbls b ps q
    exact ⟨m, by rw [dropH_ne (ne b _ z fun ψ q => by cases q)]; exact z⟩
  · obtain ⟨a, b, c⟩ := I.pin p hp
    exact ⟨a, nn _ b, c⟩
  · have na : a ≠ x := fun z => by rw [z, dropH_same] at q; cases q
    rw [dropH_ne na] at q
    exact (I.hok a o q).stay (fun _ _ _ r => r) (fun c r => by rw [dropH_ne (ne c _ r fun ψ q => by cases q)]; exact r) fun c xs r => by rw [dropH_ne (ne c _ r fun ψ q => by cases q)]; exact r
/-- something of ours is looked after from now on -/
theorem Inv.track {o : HO} (I : Inv X pins σ H s) (hx : Our X pins H x) (new : ObjOk X.prog X.w (upd H x o) s.heap x o) : Inv X pins σ (upd H x o) s := by
  have ne : ∀ b u, H b = some u → b ≠ x := fun b u q z => by rw [z, hx.unt] at q; cases q
  refine I.step (h' := s.heap) (g' := s.gens) (d' := s.drawn) (t' := s.toks) (ch := [x]) (fun b hb => ?_) (fun b o _ _ _ e _ => e) (fun b o _ _ _ e _ => ⟨o.slots, e⟩) (fun b o hc e n => ?_) (fun b o _ e => ⟨o, e⟩) (fun b xs e => ?_) (fun b u xs e => ?_) (fun b ps e => ⟨#[], ?_⟩) (fun m hm => hm) (fun b u q => ?_) I.bare
  · rw [List.mem_singleton.mp hb]
    exact ⟨.inr hx.new, hx.loc, hx.cel, hx.pin⟩
  · rw [upd_ne fun z => hc (by rw [z]; exact List.mem_singleton.mpr rfl)]
    exact n
  · rw [upd_ne (ne b _ e)]; exact e
  · rw [upd_ne (ne b _ e)]; exact e
  · rw [upd_ne (ne b _ e), e]; simp
  · by_cases hb : b = x
    · subst hb
      rw [upd_same] at q
      cases q
      exact new
    · rw [upd_ne hb] at q
      exact (I.hok b u q).stay (fun _ _ _ r => r) (fun c r => by rw [upd_ne (ne c _ r)]; exact r) fun c xs r => by rw [upd_ne (ne c _ r)]; exact r
/-- the exception at x changes, and perhaps a new dict is laid -/
theorem Inv.xput {ψ χ : Heap → Prop} {h' : Heap} {t' : Nat} (I : Inv X pins σ H s) (e : H x = some (.ext φ)) (nd : s.heap.objs.size ≤ dx) (k : ∀ b o, b ≠ x → s.heap.get? b = some o → h'.get? b = some o)
    (n1 : ∀ H', ObjOk X.prog X.w H' h' dx (.ext χ)) (n2 : ∀ H', ObjOk X.prog X.w H' h' x (.ext ψ)) : Inv X pins σ (upd (upd H dx (.ext χ)) x (.ext ψ)) { s with heap := h', toks := t' } := by
  have hd : H dx = none := I.hok.fresh nd
  have xd : x ≠ dx := fun z => by rw [z, hd] at e; cases e
  have ne : ∀ b u, H b = some u → (∀ ψ, u ≠ .ext ψ) → b ≠ x ∧ b ≠ dx := fun b u q hu => ⟨fun z => by
    rw [z, e] at q
    cases q
    exact hu φ rfl, fun z => by rw [z, hd] at q; cases q⟩
  have same : ∀ b u, H b = some u → (∀ ψ, u ≠ .ext ψ) → upd (upd H dx (.ext χ)) x (.ext ψ) b = some u := fun b u q hu => by
    rw [upd_ne (ne b u q hu).1, upd_ne (ne b u q hu).2]
    exact q
  obtain ⟨o2, e2⟩ : ∃ o, h'.get? x = some o := (n2 H).2.1
  refine I.un (t' := t') ⟨fun b o q n _ _ => k b o (fun z => by rw [z, e] at n; cases n) q, fun b o q n _ _ => ⟨o.slots, k b o (fun z => by rw [z, e] at n; cases n) q⟩, fun b o q n _ => ?_, fun b o q _ => ?_, fun b xs q => same b _ q (fun ψ q => by cases q), fun b o u q => same b _ q (fun ψ q => by cases q), fun b ps q => ⟨#[], by rw [same b _ q (fun ψ q => by cases q)]; simp⟩⟩ (fun b u q => ?_)
  · rw [upd_ne (fun z => by rw [z, e] at n; cases n), upd_ne (Nat.ne_of_lt (Nat.lt_of_lt_of_le (Heap.lt_size q) nd))]
    exact n
  · by_cases hb : b = x
    · rw [hb]; exact ⟨o2, e2⟩
    · exact ⟨o, k b o hb q⟩
  · by_cases hb : b = x
    · subst hb
      rw [upd_same] at q
      cases q
      exact n2 _
    · rw [upd_ne hb] at q
      by_cases hb2 : b = dx
      · subst hb2
        rw [upd_same] at q
        cases q
        exact n1 _
      · rw [upd_ne hb2] at q
        refine (I.hok b u q).stay (fun c v hc r => k c v ?_ r) (fun c r => same c _ r (fun ψ q => by cases q)) fun c xs r => same c _ r (fun ψ q => by cases q)
        rcases hc with rfl | hc
        · exact hb
        · exact (ne c _ hc fun ψ q => by cases q).1
end
/-- what of the text is asked to make one -/
structure XMk (K : PySem.W.Frag) (C f : Addr) : Prop where
  cl : XCl K C
  init : PySem.W.findIn K (.ref C) "__init__" = some (some (.ref f))
  fn : PySem.W.isFn K (.ref f) = true
/-- C(..), C an own exception: the wanted sees an address that is new since the entry -/
def tXMake (n : Nat) (C : Addr) (sp : Sp) (dvs : List V) (t : TA) : TE := fun σ H Q => t σ H fun vs H1 => vs.length ≤ sizeLine ∧ ∀ x, n ≤ x → H1 x = none → sp (.ref x :: (vs ++ dvs)) (upd H1 x (.ext (excP x C none))) (fun v H2 => v = .non ∧ Q (.ref x) H2) E0
def tRaise (n : Nat) (K : PySem.W.Frag) (E : XS) (te : TE) : TS := fun _ σ H => te σ H fun v H1 => ∃ x C od, v = .ref x ∧ H1 x = some (.ext (excP x C od)) ∧ n ≤ x ∧ XCl K C ∧ E (.ref C) od σ (dropH H1 x)
section
variable {X : Cx} {k : Nat} {f C : Addr} {fd : FuncData} {ps : List Str} {sp : Sp} {dvs : List V} {ds : List Value} {E : XS} {x m : Str} {p pos apos : Pos} {e o : Expr} {es : List Expr} {ta te : TE} {t : TA}
theorem run_xmake {pins : List (Addr × Obj)} {σ : St} {H : Hp} {s : Shared} {Q : VK} {us : List Value} {vs : List V} (M : XMk X.K C f) (F : FnOk X.prog X.w X.K X.mg X.base CX0 k f fd ps sp) (hr : Room (k + 1) X.A) (hb : Binds X.K fd ps ds) (hd : Vals dvs ds)
    (I : Inv X pins σ H s) (r : Vals vs us) (hz : vs.length ≤ sizeLine) (h : ∀ x, X.s₀.heap.objs.size ≤ x → H x = none → sp (.ref x :: (vs ++ dvs)) (upd H x (.ext (excP x C none))) (fun v H2 => v = .non ∧ Q (.ref x) H2) E0) :
    wpAny (model X.prog X.w) X.A (call (.ref C) us) (EP X pins σ Q) X.xe s := by
  obtain ⟨nm, q, N, bs, bm, sn, sub, ab, col, dd, k0, k1, k2, k3, k5, lk, tv⟩ := M.cl.at_
  have ht : PySem.W.typeIn X.K (.ref f) = some (.type "function") := beq_iff_eq.mp M.fn
  obtain ⟨oI, hl, hc⟩ := Option.map_eq_some_iff.mp ht
  have hq := h (s.heap.objs.size + 1) (Nat.le_succ_of_le I.sz) (I.hok.fresh (Nat.le_succ _))
  have I1 : Inv X pins σ H { s with heap := s.heap.push (xTup us) } := I.kept (t' := s.toks) fun b u q => Heap.get?_push_of_some _ q
  have e2 : ((s.heap.push (xTup us)).push (xObj C none s.heap.objs.size)).get? (s.heap.objs.size + 1) = some (xObj C none s.heap.objs.size) := by
    have := Heap.get?_push_size (s.heap.push (xTup us)) (o := xObj C none s.heap.objs.size) rfl
    rwa [Heap.size_push] at this
  have I2 : Inv X pins σ (upd H (s.heap.objs.size + 1) (.ext (excP (s.heap.objs.size + 1) C none))) { s with heap := (s.heap.push (xTup us)).push (xObj C none s.heap.objs.size) } :=
    I1.laid (a := s.heap.objs.size + 1) (t' := s.toks) (fun b u q => Heap.get?_push_of_some _ q) (Nat.le_of_eq (Heap.size_push _ _)) (excP_ok e2)
  have r2 : Vals (V.ref (s.heap.objs.size + 1) :: (vs ++ dvs)) (Value.ref (s.heap.objs.size + 1) :: (us ++ ds)) := .cons rfl (r.append hd)
  have hlen : (Value.ref (s.heap.objs.size + 1) :: us ++ ds).length = ps.length := by
    have e := r2.length
    rw [F.len _ _ _ _ hq] at e
    exact e.symm
  have go := F.run (X.A.under (.builtin "type.__call__" ⟨.ref C :: us, []⟩)) X.stack _ _ ⟨Value.ref (s.heap.objs.size + 1) :: us, []⟩ (Value.ref (s.heap.objs.size + 1) :: (us ++ ds)) _ _ E0 (hr.make C us []) (I2.env0.make C us []) (hb _ (Value.ref (s.heap.objs.size + 1) :: us) I2.kIn hlen) r2 hq
  obtain ⟨hh, g, d, tk, os⟩ := s
  refine xcall tv (I.kIn _ _ lk) (PySem.W.looks_findIn I.kIn M.init) (I.kIn _ _ hl) hc (by rw [← r.length]; exact hz) (wpAny_call (codeAny_mono go fun r s' hq' => ?_))
  cases r with
  | error e => exact False.elim hq'
  | ok fl =>
    cases fl with
    | ret u =>
      obtain ⟨v, H', I3, rv, ev, q3⟩ := I2.after hq'
      subst ev
      exact ⟨rv, ⟨V.ref (hh.objs.size + 1), H', I3, rfl, q3⟩⟩
    | next => exact False.elim hq'
    | brk => exact False.elim hq'
    | cont => exact False.elim hq'
theorem pe_xmake (M : XMk X.K C f) (F : FnOk X.prog X.w X.K X.mg X.base CX0 k f fd ps sp) (hr : Room (k + 1) X.A) (hg : Gl X x) (hm : X.mg x = some (.ref C)) (hb : Binds X.K fd ps ds) (hd : Vals dvs ds)
    (ha : PA X (e :: es) t) (hdb : (x == ("__debug__" : Str)) = false := by decide) (he : starEach (e :: es) X.env = (false, eval e X.env) :: starEach es X.env := by rfl) (hpl : (backTo pos (starEach es X.env)).any (·.1) = false := by rfl) :
    PE X (.Call (.Name x p) (e :: es) [] pos) (tXMake X.s₀.heap.objs.size C sp dvs t) := by
  intro pins s σ H Q I h
  refine wpAny_Call_Name_kw (ld_glob I hg hm ?_ hdb)
  refine PySem.W.callWith_K (h₀ := X.base) I.ok.mod.kin M.cl.kp (thn (ha pos pins s σ H _ I h) fun us s1 ⟨vs, H1, I1, r, q⟩ => ⟨I1.kIn, ?_⟩) he hpl
  exact run_xmake M F hr hb hd I1 r q.1 q.2
/-- raise e -/
theorem ps_raise (hc : X.calm = true) (he : PE X e te) (L : Lands X E) : PS X (.Raise (some e) none pos) (tRaise X.s₀.heap.objs.size X.K E te) := by
  intro pins s σ H D I h
  rw [arm_exec_Raise]
  have go : wpAny (model X.prog X.w) X.A (eval e X.env) (fun v s₁ => ∃ x C nm q N bs bm sn sub ab col dd k0 k1 k2 k3 k5 od t0, v = .ref x ∧ s₁.heap.get? C = some (excClassObj nm q C N bs bm true sn sub ab col dd k0 k1 k2 k3 k5 "ValueError.__new__") ∧ tailV bm = true ∧ s₁.heap.get? x = some (xObj C od t0) ∧ X.xe (.ref x) s₁) X.xe s := by
    refine thn (he pins s σ H _ I h) fun v s1 ⟨y, H1, I1, rv, x, C, od, ey, hx, nx, c, q⟩ => ?_
    subst ey
    obtain rfl : v = Value.ref x := rv
    obtain ⟨nm, qn, N, bs, bm, sn, sub, ab, col, dd, k0, k1, k2, k3, k5, lk, tv⟩ := c.at_
    obtain ⟨⟨t0, ex⟩, _⟩ := I1.hok x _ hx
    have I2 := I1.drop hx
    have our : Our X pins (dropH H1 x) x := ⟨nx, (fun z => by rw [z, I1.free] at hx; cases hx), (fun y c e z => by rw [← z, I1.freeC y c e] at hx; cases hx), (fun p hp z => by rw [← z, (I1.pin p hp).2.1] at hx; cases hx), dropH_same⟩
    exact ⟨x, C, nm, qn, N, bs, bm, sn, sub, ab, col, dd, k0, k1, k2, k3, k5, od, t0, rfl, I1.kIn _ _ lk, tv, ex, L pins σ _ s1 x _ od I2 our ⟨_, _, .none, ex, rfl, .inl ⟨rfl, rfl⟩⟩ q⟩
  first
    | exact wpAny_bind (wpAny_standAt (xraise (I.ok.hd hc) (wpAny_bind (wpAny_mono go (fun v s₃ h₃ => wpAny_bind (wpAny_standAt (wpAny_pure h₃))) fun _ _ z => z))))
    | (simp only [evalOpt, Option.map]; exact wpAny_bind (wpAny_standAt (xraise (I.ok.hd hc) (wpAny_bind (wpAny_mono go (fun v s₃ h₃ => wpAny_bind (wpAny_standAt (wpAny_pure h₃))) fun _ _ z => z)))))
end
end L2

/-! FIELDS OF EXCEPTIONS, THEIR BASE'S __init__, TRY (own work). -/
namespace L2
open PySem PySem.Spec PyProof.Rows Builtin Builtin.ObjectAttr
/-- self.f = value: the first field, a further one -/
def sX1 (K : PySem.W.Frag) (ta tv : TE) (f : Str) : TS := fun D σ H => tv σ H fun y H1 => ta σ H1 fun x H2 => ∃ a C, x = .ref a ∧ H2 a = some (.ext (excP a C none)) ∧ XCl K C ∧ NoAttr K C f ∧
  ∀ dx, H2 dx = none → dx ≠ a → D.nx σ (upd (upd H2 dx (.ext (dctP dx [(f, y)]))) a (.ext (excP a C (some dx))))
def sX2 (K : PySem.W.Frag) (ta tv : TE) (f : Str) : TS := fun D σ H => tv σ H fun y H1 => ta σ H1 fun x H2 => ∃ a C dx fs, x = .ref a ∧ H2 a = some (.ext (excP a C (some dx))) ∧ H2 dx = some (.ext (dctP dx fs)) ∧ dx ≠ a ∧ XCl K C ∧ NoAttr K C f ∧ fs.length < 1000 ∧
  D.nx σ (upd H2 dx (.ext (dctP dx (putF f y fs))))
/-- e.f of a caught exception -/
def tXFld (K : PySem.W.Frag) (ta : TE) (f : Str) : TE := fun σ H Q => ta σ H fun x H1 => ∃ a C dx fs v, x = .ref a ∧ H1 a = some (.ext (gotP a C (some dx))) ∧ H1 dx = some (.ext (dctP dx fs)) ∧ XCl K C ∧ NoAttr K C f ∧ fs.lookup f = some v ∧ Q v H1
section
variable {X : Cx} {o e value : Expr} {f : Str} {pos pos' tpos : Pos} {ta tv : TE}
theorem ps_xset1 (ha : PE X o ta) (hv : PE X value tv) (hs : swapsWith value (some (.Attribute o f pos')) pos.line X.env = pure false) : PS X (.Assign [.Attribute o f pos'] value pos) (sX1 X.K ta tv f) := by
  intro pins s σ H D I h
  refine plainObj_wpAny_Assign_Attribute (thn (hv pins s σ H _ I h) fun u s1 ⟨y, H1, I1, ry, q⟩ => thn (ha pins s1 σ H1 _ I1 q) fun ov s2 ⟨x, H2, I2, rx, a, C, ex, ea, c, n, q2⟩ => ?_) hs
  subst ex
  obtain rfl : ov = Value.ref a := rx
  obtain ⟨⟨t0, eo⟩, _⟩ := I2.hok a _ ea
  refine xput_new I2.kIn c n eo fun h' tk' g1 g2 kk => ?_
  have hd : H2 s2.heap.objs.size = none := I2.hok.fresh (Nat.le_refl _)
  have na : s2.heap.objs.size ≠ a := fun z => by rw [← z, hd] at ea; cases ea
  refine ⟨σ, _, I2.xput (t' := tk') ea (Nat.le_refl _) kk (fun H' => dctP_ok (fs := [(f, y)]) g2 (fun g => ?_) (fun g hg => ?_)) (fun H' => excP_ok g1), q2 _ hd na⟩
  · by_cases z : g = f
    · subst z
      rw [List.lookup_cons_self]
      show RelO (some y) (if g = g then some u else none)
      rw [if_pos rfl]
      exact ry
    · have zb : (g == f) = false := beq_eq_false_iff_ne.mpr z
      simp only [List.lookup, zb]
      show RelO none (if g = f then some u else none)
      rw [if_neg z]
      exact True.intro
  · by_cases z : g = f
    · subst z
      simp
    · exact absurd (if_neg z) hg
theorem ps_xset2 (ha : PE X o ta) (hv : PE X value tv) (hs : swapsWith value (some (.Attribute o f pos')) pos.line X.env = pure false) : PS X (.Assign [.Attribute o f pos'] value pos) (sX2 X.K ta tv f) := by
  intro pins s σ H D I h
  refine plainObj_wpAny_Assign_Attribute (thn (hv pins s σ H _ I h) fun u s1 ⟨y, H1, I1, ry, q⟩ => thn (ha pins s1 σ H1 _ I1 q) fun ov s2 ⟨x, H2, I2, rx, a, C, dx, fs, ex, ea, ed, ne, c, n, hl, q2⟩ => ?_) hs
  subst ex
  obtain rfl : ov = Value.ref a := rx
  obtain ⟨⟨t0, eo⟩, _⟩ := I2.hok a _ ea
  obtain ⟨⟨mA, hn, hr, wi⟩, _⟩ := I2.hok dx _ ed
  have hz : (fs.map (·.1)).length ≤ sizeLine := by rw [List.length_map, sizeLine_eq]; omega
  refine xput_old I2.kIn c n eo hn ne wi hz fun h' tk' g2 sb => ?_
  have hd : ∃ o, h'.get? dx = some o := let ⟨o, _, _, e', _⟩ := g2; ⟨o, e'⟩
  refine ⟨σ, _, I2.write (t' := tk') (x := dx) (e := dx) (by rw [ed]; exact True.intro) (.inl rfl) (fun b q hb z => (sb.2 b hb).trans z) hd (dctP_ok g2 (fun g => ?_) (fun g hg => ?_)), q2⟩
  · show RelO ((putF f y fs).lookup g) (if g = f then some u else mA g)
    rw [lookup_putF]
    by_cases q : g = f
    · rw [if_pos q, if_pos q]; exact ry
    · rw [if_neg q, if_neg q]; exact hr g
  · by_cases q : g = f
    · rw [q]; exact (keys_putF f y fs).1
    · refine (keys_putF f y fs).2 g (wi g fun z => hg ?_)
      show (if g = f then some u else mA g) = none
      rw [if_neg q]; exact z
theorem pe_xfld (he : PE X e ta) (hb : attributeBase e f X.env (eval e X.env) = eval e X.env) : PE X (.Attribute e f pos) (tXFld X.K ta f) := by
  intro pins s σ H Q I h
  refine attr_of hb (thn (he pins s σ H _ I h) fun u s1 ⟨x, H1, I1, rx, a, C, dx, fs, v, ex, ea, ed, c, n, l, q⟩ => ?_)
  subst ex
  obtain rfl : u = Value.ref a := rx
  obtain ⟨⟨vs, sl, eo⟩, _⟩ := I1.hok a _ ea
  obtain ⟨⟨mA, hn, hr, wi⟩, _⟩ := I1.hok dx _ ed
  obtain ⟨u, hu, ru⟩ := RelO.some_of (v := v) (o := mA f) (by rw [← l]; exact hr f)
  exact xget I1.kIn c n eo hn hu (handed_of ru) ⟨v, H1, I1.tok _, ru, q⟩
end
/-! ### B.__init__(self, ..), B an own class whose __init__ is ValueError's -/
structure BIn (K : PySem.W.Frag) (B : Addr) : Prop where
  sp : PySem.W.specialIn K (.ref B) "__getattribute__" = some (some (.builtin "type.__getattribute__"))
  rd : PySem.W.readsIn K B (.type "type") = true
  fc : PySem.W.findCls K (.ref B) (.type "type") "__init__" = some (.val (.builtin "ValueError.__init__"))
section
variable {prog : Program} {w : World} {A : Around} {E : Value → Shared → Prop} {h : Heap} {g : Array GenState} {d : Drawn} {t : Nat} {os : OsState}
variable {nm q : Str} {C N x t0 : Addr} {bs bm : List Value} {sn : List Str} {sub : List Value} {ab : Bool} {col : Option Bool} {dd : Option Addr} {k0 k1 k2 k3 k5 : Option Value}
theorem xck_init {M : Model} {oe : Obj} {rest : List Value} {Q : Unit → Shared → Prop} (tv : tailV bm = true) (hC : h.get? C = some (excClassObj nm q C N bs bm true sn sub ab col dd k0 k1 k2 k3 k5 "ValueError.__new__")) (hx : h.get? x = some oe) (hc : oe.cls = .ref C)
    (hq : Q () ⟨h, g, d, t, os⟩) : wpAny M A (checkBuiltinCall "ValueError.__init__" ⟨.ref x :: rest, []⟩) Q E ⟨h, g, d, t, os⟩ := by
  have F := PySem.F.excBase_ValueError
  have c1 : (Value.ref C :: bm).contains (.type "ValueError") = true := by rw [List.contains_cons, tailV_has (X := "ValueError") rfl tv]; rfl
  have ns := F.noStar
  simp only [checkBuiltinCall, F.initKind, F.initSplit, F.initRow]
  repeat (first | (with_reducible refine wpAny_loadPart_at hx ?_; rw [hc]) | with_reducible refine wpAny_loadPart_at hC ?_ | (with_reducible refine wpAny_isSubtype_exc hC ?_; rw [c1]) | wp_step)
  refine wpAny_onRaise ?_
  rw [show ∀ (a b : String) (n : Nat), Bind.check ⟨.positional, "*", "ValueError", .self, [⟨"args", .varPos, false⟩]⟩ a b n (List.map (fun y => y.fst) ({ pos := Value.ref x :: rest } : Args).kw) = pure () from fun a b n => check_star_args _ _ _ _ _ _]
  exact wpAny_pure hq
theorem xinit {rest : List Value} {od : Option Addr} {Q : Value → Shared → Prop} (tv : tailV bm = true) (hC : h.get? C = some (excClassObj nm q C N bs bm true sn sub ab col dd k0 k1 k2 k3 k5 "ValueError.__new__")) (hx : h.get? x = some (xObj C od t0)) (hz : rest.length ≤ sizeLine)
    (hq : ∀ h' t1 tk', h'.get? x = some (xObj C od t1) → (∀ b o, b ≠ x → h.get? b = some o → h'.get? b = some o) → Q .none ⟨h', g, d, tk', os⟩) :
    wpAny (model prog w) A (call (.builtin "ValueError.__init__") (.ref x :: rest)) Q E ⟨h, g, d, t, os⟩ := by
  have F := PySem.F.excBase_ValueError
  refine wpAny_call (codeAny_call_builtin F.init.plain F.initEntry (xck_init tv hC hx rfl ?_))
  wp_walk
  refine hq _ h.objs.size _ ?_ fun b o hb e => ?_
  · rw [Heap.get?_update_self _ (Heap.get?_push_of_some _ hx) rfl]
    rfl
  · rw [Heap.get?_update_other _ _ (Ne.symm hb)]
    exact Heap.get?_push_of_some _ e
end
def tBIn (K : PySem.W.Frag) (t : TA) : TE := fun σ H Q => t σ H fun vs H1 => ∃ x C od rest, vs = .ref x :: rest ∧ H1 x = some (.ext (excP x C od)) ∧ XCl K C ∧ rest.length ≤ sizeLine ∧ Q .non H1
theorem upd_id {H : Hp} {a : Addr} {o : HO} (h : H a = some o) : upd H a o = H := by
  funext b
  by_cases z : b = a
  · rw [z, upd_same, h]
  · exact upd_ne z
section
variable {X : Cx} {B : Addr} {y : Str} {p pos apos : Pos} {e : Expr} {es : List Expr} {t : TA}
theorem pe_binit {pl : Sem Bool} (hg : Gl X y) (hm : X.mg y = some (.ref B)) (b : BIn X.K B) (ha : PA X (e :: es) t) (hdb : (y == ("__debug__" : Str)) = false := by decide)
    (hst : starEach (e :: es) X.env = (false, eval e X.env) :: starEach es X.env := by rfl) (hpl : (backTo pos (starEach es X.env)).any (·.1) = false := by rfl)
    (ht : eval (.Call (.Attribute (.Name y p) "__init__" apos) (e :: es) [] pos) X.env = (do
      let ov ← eval (.Name y p) X.env
      standAt apos.atName
      let (f, first) ← holding [ov] (getMethod ov "__init__" pl)
      callWith pos f first (backTo pos (starEach (e :: es) X.env)) (backToKw pos (keywordEach [] X.env))) := by rfl) :
    PE X (.Call (.Attribute (.Name y p) "__init__" apos) (e :: es) [] pos) (tBIn X.K t) := by
  intro pins s σ H Q I h
  refine PySem.W.methodCall_KW (pl := pl) (ld_glob I hg hm ?_ hdb) ht
  refine PySem.W.method_cls I.kIn b.sp (PySem.W.cls_value I.kIn b.rd b.fc rfl ?_)
  refine PyProof.Rows.callWith_builtin1 (thn (ha pos pins _ σ H _ (I.tok _) h) fun us s1 ⟨vs, H1, I1, r, x, C, od, rest, ev, hx, c, hz, q⟩ => ?_) hst hpl
  subst ev
  cases r with
  | cons rx rr =>
    rename_i u us' hap
    obtain rfl : u = Value.ref x := rx
    obtain ⟨nm, qn, N, bs, bm, sn, sub, ab, col, dd, k0, k1, k2, k3, k5, lk, tv⟩ := c.at_
    obtain ⟨⟨t0, ex⟩, _⟩ := I1.hok x _ hx
    obtain ⟨hh, g, d, tk, os⟩ := s1
    refine xinit tv (I1.kIn _ _ lk) ex (by rw [← rr.length]; exact hz) fun h' t1 tk' e1 kk => ?_
    have I2 : Inv X pins σ (upd H1 x (.ext (excP x C od))) ⟨h', g, d, tk', os⟩ := I1.write (t' := tk') (x := x) (e := x) (by rw [hx]; exact True.intro) (.inl rfl) (fun b o hb z => kk b o hb z) ⟨_, e1⟩ (excP_ok e1)
    rw [upd_id hx] at I2
    exact ⟨.non, H1, I2, rfl, q⟩
end
/-! ### try .. except C as n -/
abbrev Cx.caught (X : Cx) (x : Addr) : Cx := { X with A := X.A.mark (some (.ref x)), calm := false, xe := fun _ _ => False }
abbrev Cx.within (X : Cx) (pn : List (Addr × Obj)) (E : Value → Shared → Prop) : Cx := { X with pn := pn, xe := E }
section
variable {X : Cx} {pins : List (Addr × Obj)} {σ : St} {H : Hp} {s : Shared} {x : Addr} {E : Value → Shared → Prop}
theorem Inv.caught (I : Inv X pins σ H s) : Inv (X.caught x) pins σ H s :=
  ⟨⟨I.ok.mod, I.ok.kind, I.ok.glob, I.ok.blt, I.ok.above, I.ok.inj, I.ok.has, I.ok.cab, fun h => Bool.noConfusion h, I.ok.frames, I.ok.stk, I.ok.exf, I.ok.bs, I.ok.bsz, I.ok.noex, I.ok.exfs, I.ok.funs, I.ok.frf⟩, I.os, I.bare, I.base, I.loc, I.cell, I.free, I.freeC, I.pin, I.hok, I.len⟩
theorem Inv.uncaught (ok : X.Ok) (I : Inv (X.caught x) pins σ H s) : Inv X pins σ H s := ⟨ok, I.os, I.bare, I.base, I.loc, I.cell, I.free, I.freeC, I.pin, I.hok, I.len⟩
theorem Inv.within (I : Inv X pins σ H s) : Inv (X.within (X.pn ++ pins) E) [] σ H s :=
  ⟨⟨I.ok.mod, I.ok.kind, I.ok.glob, I.ok.blt, I.ok.above, I.ok.inj, I.ok.has, I.ok.cab, I.ok.hd, I.ok.frames, I.ok.stk, I.ok.exf, I.ok.bs, I.ok.bsz, I.ok.noex, I.ok.exfs, I.ok.funs, I.ok.frf⟩, I.os, I.bare, I.base, I.loc, I.cell, I.free, I.freeC, (by intro p hp; exact I.pin p (by simpa using hp)), I.hok, I.len⟩
theorem Inv.out {pins' : List (Addr × Obj)} (ok : X.Ok) (I : Inv (X.within (X.pn ++ pins) E) pins' σ H s) : Inv X pins σ H s := ⟨ok, I.os, I.bare, I.base, I.loc, I.cell, I.free, I.freeC, fun p hp => I.pin p (List.mem_append_left _ hp), I.hok, I.len⟩
theorem SP.out {D : Ends} {f : Flow} {pins' : List (Addr × Obj)} (ok : X.Ok) (h : SP (X.within (X.pn ++ pins) E) pins' D f s) : SP X pins D f s := by
  cases f with
  | next => obtain ⟨σ', H', I, q⟩ := h; exact ⟨σ', H', I.out ok, q⟩
  | brk => obtain ⟨σ', H', I, q⟩ := h; exact ⟨σ', H', I.out ok, q⟩
  | cont => obtain ⟨σ', H', I, q⟩ := h; exact ⟨σ', H', I.out ok, q⟩
  | ret u => obtain ⟨v, σ', H', I, r, q⟩ := h; exact ⟨v, σ', H', I.out ok, r, q⟩
theorem Our.out {pins' : List (Addr × Obj)} {b : Addr} (o : Our (X.within (X.pn ++ pins) E) pins' H b) : Our X pins H b := ⟨o.new, o.loc, o.cel, fun p hp => o.pin p (List.mem_append_left _ hp), o.unt⟩
/-- a name goes -/
theorem Inv.unname {i : Nat} {n : Str} {h' : Heap} {v : Option Value} {m : Str → Option Value} {t' : Nat} (I : Inv X pins σ H s) (hN : X.N.Nodup) (hi : X.N[i]? = some n) (hn : h'.Ns X.env.locals (fun y => if y = n then v else m y))
    (hm : ∀ (i : Nat) (x : Str) (v : V), X.N[i]? = some x → σ[i]? = some (some v) → Vis X.env.scope x → ∃ u, RelV v u ∧ Look X.env s.heap m x u) (sb : Heap.SameBut X.env.locals s.heap h') :
    Inv X pins (σ.set i none) H { s with heap := h', toks := t' } := by
  have cne := I.cne
  have neL : ∀ b o, X.s₀.heap.get? b = some o → b ≠ X.env.locals := fun b o e => Nat.ne_of_lt (Nat.lt_of_lt_of_le (Heap.lt_size e) I.ok.above)
  refine ⟨I.ok, I.os, I.bare, ⟨fun b o e n' hb hx => (sb.2 b (neL b o e)).trans (I.base.keep b o e n' hb hx), fun b o e n' hb hx => ?_, I.base.free, fun b o e hx => ?_, I.base.tups, I.base.frzs, I.base.tbls⟩, ⟨_, hn, fun j y w e1 e2 e3 => ?_⟩, fun y c e => ?_, I.free, I.freeC, fun p hp => ?_, fun b ob e => ?_, by simpa using I.len⟩
  · obtain ⟨sl, e1⟩ := I.base.slot b o e n' hb hx
    exact ⟨sl, (sb.2 b (neL b o e)).trans e1⟩
  · obtain ⟨o', e1⟩ := I.base.there b o e hx
    exact ⟨o', (sb.2 b (neL b o e)).trans e1⟩
  · by_cases hj : j = i
    · subst hj
      have : (σ.set j none)[j]? = some (some w) := e2
      rw [List.getElem?_set] at this
      simp at this
    · rw [List.getElem?_set_ne (Ne.symm hj)] at e2
      obtain ⟨u, r, q⟩ := hm j y w e1 e2 e3
      refine ⟨u, r, ?_⟩
      rcases q with ⟨k, e⟩ | ⟨k, c, e, z⟩
      · refine .inl ⟨k, ?_⟩
        have : y ≠ n := fun e => hj (nodup_ix hN e1 (e ▸ hi))
        show (if y = n then v else m y) = some u
        rw [if_neg this]
        exact e
      · exact .inr ⟨k, c, e, z.sameBut sb (cne y c e)⟩
  · obtain ⟨w', z⟩ := I.cell y c e
    exact ⟨w', z.sameBut sb (cne y c e)⟩
  · obtain ⟨e, n', ne, nf, d⟩ := I.pin p hp
    exact ⟨(sb.2 p.1 ne).trans e, n', ne, nf, d⟩
  · refine (I.hok b ob e).stay (fun c w' hc q => (sb.2 c ?_).trans q) (fun _ q => q) fun _ _ q => q
    rintro rfl
    rcases hc with rfl | hc
    · rw [I.free] at e; cases e
    · rw [I.free] at hc; cases hc
end
def offName (i : Nat) (D : Ends) : Ends := { nx := fun σ' H' => D.nx (σ'.set i none) H', rt := D.rt, bk := fun σ' H' => D.bk (σ'.set i none) H', ct := fun σ' H' => D.ct (σ'.set i none) H' }
def tTry (tb : Ends → TS) : TS := fun D σ H => tb D D σ H
section
variable {X : Cx} {body : List Stmt} {cx n : Str} {b₀ : Stmt} {suite : List Stmt} {np hp pos : Pos} {CN : Addr} {i : Nat} {tb : Ends → TS} {ts : Addr → TS}
end
end L2

/-! OWN EXCEPTIONS WITHOUT AN __init__ OF THEIR OWN (own work). -/
namespace L2
open PySem PySem.Spec PyProof.Rows Builtin Builtin.ObjectAttr
section
variable {prog : Program} {w : World} {A : Around} {E : Value → Shared → Prop} {h : Heap} {g : Array GenState} {d : Drawn} {t : Nat} {os : OsState}
variable {nm q : Str} {C N : Addr} {bs bm : List Value} {sn : List Str} {sub : List Value} {ab : Bool} {col : Option Bool} {dd : Option Addr} {k0 k1 k2 k3 k5 : Option Value}
end
section
variable {X : Cx} {C : Addr} {x : Str} {p pos : Pos} {e : Expr} {es : List Expr} {t : TA}
end
end L2

/-! isinstance OF EXCEPTIONS, except OF A CLASS ABOVE (own work). -/
namespace L2
open PySem PySem.Spec PyProof.Rows Builtin Builtin.ObjectAttr
section
variable {prog : Program} {w : World} {A : Around} {E : Value → Shared → Prop} {s : Shared} {K : PySem.W.Frag} {x C : Addr} {ox : Obj} {od : Option Obj}
end
section
variable {X : Cx} {pins : List (Addr × Obj)} {σ : St} {H : Hp} {s : Shared} {a C : Addr} {od : Option Addr}
end
/-! ### except of a class above -/
section
variable {M : Model} {A : Around} {E : Value → Shared → Prop} {h : Heap} {g : Array GenState} {d : Drawn} {t : Nat} {os : OsState}
variable {nm q : Str} {C N : Addr} {bs bm : List Value} {sn : List Str} {sub : List Value} {ab : Bool} {col : Option Bool} {dd : Option Addr} {k0 k1 k2 k3 k5 : Option Value}
variable {nm' q' : Str} {D N' : Addr} {bs' bm' : List Value} {sn' : List Str} {sub' : List Value} {ab' : Bool} {col' : Option Bool} {dd' : Option Addr} {j0 j1 j2 j3 j5 : Option Value}
theorem xmatch {e : Addr} {oe : Obj} {b : Bool} {Q : Bool → Shared → Prop} (hC : h.get? C = some (excClassObj nm q C N bs bm true sn sub ab col dd k0 k1 k2 k3 k5 "ValueError.__new__"))
    (hD : h.get? D = some (excClassObj nm' q' D N' bs' bm' true sn' sub' ab' col' dd' j0 j1 j2 j3 j5 "ValueError.__new__")) (tD : tailV bm' = true) (he : h.get? e = some oe) (hcls : oe.cls = .ref C)
    (hb : (Value.ref C :: bm).contains (.ref D) = b) (hq : Q b ⟨h, g, d, t, os⟩) : wpAny M A (excMatches (.ref e) (.ref D)) Q E ⟨h, g, d, t, os⟩ := by
  have hcB : (Value.ref D :: bm').contains (.type "BaseException") = true := by rw [List.contains_cons, tailV_has (X := "BaseException") rfl tD]; rfl
  have f := tc_notTuple
  unfold excMatches
  repeat (first | (with_reducible refine wpAny_loadPart_at he ?_; rw [hcls]) | with_reducible refine wpAny_loadPart_at hD ?_ | (with_reducible refine wpAny_isSubtype_exc hD ?_; rw [hcB]) | (with_reducible refine wpAny_isSubtype_exc hC ?_; rw [hb]) | wp_step)
  cases b <;> (wp_walk; exact hq)
end
/-- C stands under D -/
def Under (K : PySem.W.Frag) (C D : Addr) : Prop := XCl K C ∧ PySem.W.mroIn K C (.ref D) = some true
theorem Under.has {K : PySem.W.Frag} {C D : Addr} (u : Under K C D) {nm q : Str} {N : Addr} {bs bm : List Value} {sn : List Str} {sub : List Value} {ab : Bool} {col : Option Bool} {dd : Option Addr} {k0 k1 k2 k3 k5 : Option Value}
    (lk : K.lookup C = some (excClassObj nm q C N bs bm true sn sub ab col dd k0 k1 k2 k3 k5 "ValueError.__new__")) : (Value.ref C :: bm).contains (.ref D) = true := by
  have e : PySem.W.clsIn K C = some ⟨nm, bs, .ref C :: bm, N, q, true, sn, sub, ab, col, false⟩ := by
    unfold PySem.W.clsIn
    rw [lk]
  have h := u.2
  unfold PySem.W.mroIn at h
  rw [e, Option.bind_some] at h
  exact Option.some.inj h
/-- what the body of a try must see to where it raises a class under CN: named, nameless -/
def EXu (K : PySem.W.Frag) (CN : Addr) (i : Nat) (ts : Addr → Addr → TS) (D : Ends) : XS := fun C od σ H => ∃ Cx, C = .ref Cx ∧ Under K Cx CN ∧ ∀ x, H x = none → ts x Cx (offName i D) (σ.set i (some (.ref x))) (upd H x (.ext (gotP x Cx od)))
section
variable {X : Cx} {body : List Stmt} {cx n : Str} {b₀ : Stmt} {suite : List Stmt} {np hp pos : Pos} {CN : Addr} {i : Nat} {tb : Ends → TS} {tc : Addr → Addr → TS} {ts : Addr → TS}
theorem ps_tryU (hst : X.stack = X.env :: X.outer) (hfr : X.env.frame = some X.env.locals) (hN : X.N.Nodup) (hi : X.N[i]? = some n) (hk : X.env.scope.names.lookup n = some .local) (hg : Gl X cx) (hm : X.mg cx = some (.ref CN)) (c : XCl X.K CN)
    (hb : ∀ D pn XE, Lands (X.within pn XE) (EXu X.K CN i tc D) → PSs (X.within pn XE) body (tb D)) (hs : ∀ x C, PSs (X.caught x) (b₀ :: suite) (tc x C)) (hdb : (cx == ("__debug__" : Str)) = false := by decide) :
    PS X (.Try body [.ExceptHandler (some (.Name cx np)) (some n) (b₀ :: suite) hp] [] [] pos) (tTry tb) := by
  intro pins s σ H D I h
  refine wpAny_Try_except ?_
  refine wpAny_mono (hb D (X.pn ++ pins) (fun e s₁ => wpAny (model X.prog X.w) X.A (noteFrame e X.env) (fun _ s₂ => wpAny (model X.prog X.w) X.A (setFlight e none) (fun _ s₃ => wpAny (model X.prog X.w) X.A (handleBy e X.env [.ExceptHandler (some (.Name cx np)) (some n) (b₀ :: suite) hp]) (SP X pins D) X.xe s₃) X.xe s₂) X.xe s₁) ?_ [] s σ H D I.within h) (fun f s₁ hf => ?_) fun e s₁ z => z
  · intro pins' σ1 H1 s1 x C od I1' hx' xa' q
    have I1 : Inv X pins σ1 H1 s1 := I1'.out I.ok
    have hx : Our X pins H1 x := hx'.out
    have xa : XAt s1.heap (Our X pins H1) x C od .none := xa'.imp fun _ o => o.out
    obtain ⟨Cx, rfl, un, q⟩ := q
    have hfl : X.A.frames = some (X.env :: X.outer) := by rw [I.ok.frames, hst]
    have frn : ∀ {s' : Shared} {σ' : St} {H' : Hp}, Inv X pins σ' H' s' → ∀ b o, s'.heap.get? b = some o → b ∈ frs X.stack → ∀ vs, o.data ≠ .fields vs := fun {s' σ' H'} J b o e hb => by
      obtain ⟨_, o', ho', hn⟩ := J.stack.mem hb
      rw [e] at ho'
      cases ho'
      exact hn
    refine note_ok (base := X.base) hfl (by rw [← hst]; exact I1.stack) hfr xa (fun T hT => I1.our hT) fun h1 n1 xa1 => ?_
    have I2 := I1.noted hx (by rw [hst]; exact n1)
    refine land_ok (s := { s1 with heap := h1 }) (fr := frs X.stack) xa1 (frn I2) fun h2 n2 xa2 => ?_
    have I3 := I2.noted hx n2
    obtain ⟨nm, qn, N, bs, bm, sn, sub, ab, col, dd, k0, k1, k2, k3, k5, lk, tv⟩ := c.at_
    obtain ⟨nm', qn', N', bs', bm', sn', sub', ab', col', dd', j0, j1, j2, j3, j5, lk', tv'⟩ := un.1.at_
    refine wpAny_handleBy_cons (codeAny_handlers_test ?_) (by intro q; cases q)
    refine ld_glob (X := X.caught x) I3.caught hg hm ?_ hdb
    obtain ⟨vs, sl, v1, ex, ev1, tb2⟩ := id xa2
    refine xmatch (g := s1.gens) (d := s1.drawn) (t := s1.toks) (os := s1.os) (I3.kIn _ _ lk') (I3.kIn _ _ lk) tv ex rfl (un.has lk') ?_
    refine codeAny_handlers_suite_as ?_
    refine land_ok (s := { s1 with heap := h2 }) (fr := frs X.stack) xa2 (frn I3) fun h3 n3 xa3 => ?_
    have I4 := I3.noted hx n3
    obtain ⟨vs3, sl3, v3, ex3, _, _⟩ := id xa3
    have I5 : Inv X pins σ1 (upd H1 x (.ext (gotP x Cx od))) { s1 with heap := h3 } := I4.track hx (gotP_ok ex3)
    refine store_ok (X := X.caught x) I5.caught hN hi (.inl hk) (show RelV (.ref x) (.ref x) from rfl) (fun s6 I6 => ?_) (.inr hk)
    refine wpAny_mono (hs x Cx pins s6 _ _ (offName i D) I6 (q x hx.unt)) (fun f s7 hf => ?_) fun _ _ z => False.elim z
    have fin : ∀ {σ' : St} {H' : Hp} {Q : Unit → Shared → Prop}, Inv (X.caught x) pins σ' H' s7 → (∀ s', Inv X pins (σ'.set i none) H' s' → Q () s') → wpAny (model X.prog X.w) X.A (do bindName X.env n .none; unbindBehindTheSuite X.env n hp) Q X.xe s7 := fun {σ' H' Q} J kq => by
      have J' : Inv X pins σ' H' s7 := J.uncaught I.ok
      obtain ⟨m, hmn, hml⟩ := id J'.loc
      exact wpAny_nameGoes_keeps hk hmn (by rw [I.ok.kind]; rfl) fun h' v hn' sb => kq _ (J'.unname hN hi hn' hml sb)
    cases f with
    | next => obtain ⟨σ', H', J, z⟩ := hf; exact fin J fun s' J' => ⟨_, H', J', z⟩
    | brk => obtain ⟨σ', H', J, z⟩ := hf; exact fin J fun s' J' => ⟨_, H', J', z⟩
    | cont => obtain ⟨σ', H', J, z⟩ := hf; exact fin J fun s' J' => ⟨_, H', J', z⟩
    | ret u => obtain ⟨v, σ', H', J, r, z⟩ := hf; exact fin J fun s' J' => ⟨v, _, H', J', r, z⟩
  · have hf' := hf.out I.ok
    cases f with
    | next => exact wpAny_pure hf'
    | brk => exact hf'
    | cont => exact hf'
    | ret u => exact hf'
end
end L2

namespace L2
open PySem PySem.Spec PyProof.Rows
section
variable {X : Cx}
/-! ### a module's table of texts -/
/-! ### replace of written texts -/
variable {n : Nat}
/-! ### a test that spends a token -/
end
end L2

/-! zip OF TWO TUPLES (own work, on the pattern of the library's zip of two lists). -/
namespace L2
open PySem
section
variable {prog : Program} {w : World} {A : Around} {E : Value → Shared → Prop} {s : Shared}
end
end L2

/-! for (x, y) in zip(t, u), t and u tuples (own work). -/
namespace L2
open PySem PySem.Spec PyProof.Rows
section
variable {X : Cx} {pins : List (Addr × Obj)} {σ : St} {H : Hp} {s : Shared} {h' : Heap}
/-- several records of ours have turned -/
theorem Inv.turnedL {t' : Nat} {ch : List Addr} (I : Inv X pins σ H s) (k : ∀ b o, b ∉ ch → s.heap.get? b = some o → h'.get? b = some o) (f : ∀ b ∈ ch, FpOk X pins H b) : Inv X pins σ H { s with heap := h', toks := t' } := by
  have nit : ∀ b u, H b = some u → b ∉ ch := fun b u e z => by rw [(f b z).1] at e; cases e
  refine I.step (g' := s.gens) (d' := s.drawn) (ch := ch) (fun b hb => ?_) (fun b o _ _ hc e _ => k b o hc e) (fun b o _ _ hc e _ => ⟨o.slots, k b o hc e⟩) (fun _ _ _ _ n => n) (fun b o hc e => ⟨o, k b o hc e⟩) (fun _ _ e => e) (fun _ _ _ e => e) (fun b ps e => ⟨#[], by rw [e]; simp⟩) (fun m hm => ?_) (fun b u e => ?_) I.bare
  · obtain ⟨f0, f1, f2, f3, f4, f5⟩ := f b hb
    exact ⟨f3, f1, f4, f5⟩
  · obtain ⟨o, es, ep, ho, r⟩ := hm
    refine ⟨o, es, ep, k _ o (fun z => ?_) ho, r⟩
    obtain ⟨f0, f1, _⟩ := f _ z
    exact f1 rfl
  · refine (I.hok b u e).stay (fun c v hc q => k c v ?_ q) (fun _ q => q) fun _ _ q => q
    rcases hc with z | z
    · rw [z]; exact nit b u e
    · exact nit c _ z
end
section
variable {X : Cx}
theorem boot_zip : bootBuiltins "zip" = some (.type "zip") := by decide +kernel
end
end L2

/-! range(n) as a value, list(range(n)); defs with defaults; defs that raise (own work). -/
namespace L2
open PySem PySem.Spec PyProof.Rows
section
variable {X : Cx}
theorem call_rangeR : CallR X (.type "range") (fun xs H Q => ∃ j : Int, xs = [.int j] ∧ ∀ r, H r = none → Q (.ref r) (upd H r (.rng 0 j))) := by
  intro pins s σ H xs us Q I r h
  obtain ⟨j, rfl, q⟩ := h
  obtain ⟨u, rfl, rx⟩ := vals1 r
  obtain ⟨t, rfl⟩ := rx
  refine call_range_1 ⟨.ref s.heap.objs.size, _, I.laid (a := s.heap.objs.size) (o := .rng 0 j) (t' := s.toks + 1 + 1) (fun b o e => Heap.get?_push_of_some _ e) (Nat.le_refl _) ⟨_, _, _, Heap.get?_push_size _ rfl⟩, rfl, q _ (I.hok.fresh (Nat.le_refl _))⟩
theorem call_listR (hc : X.calm = true) : CallR X (.type "list") (fun xs H Q => ∃ (r : Addr) (j : Int), xs = [.ref r] ∧ H r = some (.rng 0 j) ∧ 0 ≤ j ∧ j ≤ 1000 ∧ ∀ l, H l = none → Q (.ref l) (upd H l (.lst ((List.range j.toNat).map fun i => V.int (i : Nat))))) := by
  intro pins s σ H xs us Q I r h
  obtain ⟨a, j, rfl, hr, j0, j1, q⟩ := h
  obtain ⟨u, rfl, rx⟩ := vals1 r
  cases rx
  obtain ⟨t, u, v, e⟩ := (show ObjOk X.prog X.w H s.heap a (.rng 0 j) from I.hok a _ hr)
  have hs : Builtin.Range.rangeSize 0 j 1 = (j.toNat : Nat) := by rw [rangeSize_one]; split <;> omega
  refine call_list_range (I.ok.hd hc) e (small_one (by omega) (by omega) (by omega) (by omega)) hs (by omega) fun h' tk acc c' kp e1 it => ?_
  have sz : ((List.range j.toNat).map fun i => V.int (i : Nat)).length = j.toNat := by simp
  refine ⟨.ref s.heap.objs.size, _, I.laid (a := s.heap.objs.size) (o := .lst ((List.range j.toNat).map fun i => V.int (i : Nat))) (t' := tk) kp (Nat.le_refl _) ⟨?_, acc.toList, c', ?_, by simpa using e1⟩, rfl, q _ (I.hok.fresh (Nat.le_refl _))⟩
  · rw [sz, sizeLine_eq]; omega
  · have go : ∀ (n : Nat) (l : List Value), l.length = n → (∀ (i : Nat) (v : Value), l[i]? = some v → ∃ t, v = Value.int (i : Nat) t) → ∀ k : Nat, True → True := fun _ _ _ _ _ _ => trivial
    have hl : acc.toList.length = j.toNat := by rw [Array.length_toList]; exact it.1
    have hv : ∀ (i : Nat) (v : Value), acc.toList[i]? = some v → ∃ t, v = Value.int (i : Nat) t := fun i v hi => by
      obtain ⟨t, z⟩ := it.2 i v (by simpa using hi)
      exact ⟨t, by rw [z]; congr 1; omega⟩
    rw [← hl]
    exact vals_range hv
where
  vals_range {l : List Value} (h : ∀ (i : Nat) (v : Value), l[i]? = some v → ∃ t, v = Value.int (i : Nat) t) : Vals ((List.range l.length).map fun i => V.int (i : Nat)) l := by
    have key : ∀ (l : List Value) (k : Nat), (∀ (i : Nat) (v : Value), l[i]? = some v → ∃ t, v = Value.int ((k + i : Nat) : Int) t) → Vals ((List.range' k l.length).map fun i => V.int (i : Nat)) l := by
      intro l
      induction l with
      | nil => intro k _; exact .nil
      | cons v r ih =>
        intro k h
        rw [List.length_cons, List.range'_succ, List.map_cons]
        refine .cons (h 0 v rfl) (ih (k + 1) fun i w hi => ?_)
        obtain ⟨t, z⟩ := h (i + 1) w (by simpa using hi)
        exact ⟨t, by rw [z]; congr 2; omega⟩
    rw [List.range_eq_range']
    exact key l 0 fun i v hi => by simpa using h i v hi
end
/-- a def of the text, perhaps with defaults -/
structure FunX (K : PySem.W.Frag) (x qual : Str) (st : Stmt) (f : Addr) (fd : FuncData) : Prop where
  ex : ∃ (oc : Value) (od : Option Addr) (dV kV doc pm : Value) (an : Option Addr) (cdv ct : Value) (osl : Array (Option Value)),
    fd = PySem.W.fnOf x qual (defArgs st) (defBody st) (defScope st) dV kV doc pm an cdv ct ∧ K.lookup f = some ⟨oc, od, .func fd, osl⟩ ∧ PySem.W.codeIn K cdv qual = true
  kp : PySem.W.keepIn K (.ref f) = true
theorem funX_mk {K : PySem.W.Frag} {x qual : Str} {st : Stmt} {f : Addr} {oc : Value} {od an : Option Addr} {osl : Array (Option Value)} {dV kV doc pm cdv ct : Value} (l : K.lookup f = some ⟨oc, od, .func (PySem.W.fnOf x qual (defArgs st) (defBody st) (defScope st) dV kV doc pm an cdv ct), osl⟩)
    (c : PySem.W.codeIn K cdv qual = true) (k : PySem.W.keepIn K (.ref f) = true) : FunX K x qual st f (PySem.W.fnOf x qual (defArgs st) (defBody st) (defScope st) dV kV doc pm an cdv ct) := ⟨⟨oc, od, dV, kV, doc, pm, an, cdv, ct, osl, rfl, l, c⟩, k⟩
section
variable {P : Program} {w : World} {K : PySem.W.Frag} {mg : Str → Option Value} {base : Heap}
theorem FunX.ok {x qual : Str} {st : Stmt} {f : Addr} {fd : FuncData} {N ps : List Str} {k : Nat} {sp : Sp} (F : FunX K x qual st f fd) (S : FnScope N ps (defScope st)) (len : ∀ vs H Q E, sp vs H Q E → vs.length = ps.length)
    (hbody : ∀ (cdv : Value) (A : Around) (outer : List Env) (s : Shared) (H : Hp) (vs : List V) (Q : VK) (E : XK), Room k (A.deeper (envOfC qual (defScope st) s.heap.objs.size f cdv)) → sp vs H Q E →
      ∃ t, PSs (cxOf CX0 P w K mg base N qual (defScope st) f cdv A outer s H E).nox (defBody st) t ∧ t { nx := fun _ H' => Q .non H', rt := Q } (start N vs) H) : FnOk P w K mg base CX0 (k + 1) f fd ps sp := by
  obtain ⟨oc, od, dV, kV, doc, pm, an, cdv, ct, osl, rfl, lk, hcd⟩ := F.ex
  refine fn_of lk hcd S len fun A outer s H vs Q E hr hsp => ?_
  obtain ⟨t, h, q⟩ := hbody cdv A outer s H vs Q E hr hsp
  exact ⟨t, h.nox, q⟩
/-- .. that may raise -/
theorem FunX.okX {x qual : Str} {st : Stmt} {f : Addr} {fd : FuncData} {N ps : List Str} {k : Nat} {sp : Sp} (F : FunX K x qual st f fd) (S : FnScope N ps (defScope st)) (len : ∀ vs H Q E, sp vs H Q E → vs.length = ps.length)
    (hbody : ∀ (cdv : Value) (A : Around) (outer : List Env) (s : Shared) (H : Hp) (vs : List V) (Q : VK) (E : XK), Room k (A.deeper (envOfC qual (defScope st) s.heap.objs.size f cdv)) → sp vs H Q E →
      ∃ t, PSs (cxOf (CX1 P w) P w K mg base N qual (defScope st) f cdv A outer s H E) (defBody st) t ∧ t { nx := fun _ H' => Q .non H', rt := Q } (start N vs) H) : FnOk P w K mg base (CX1 P w) (k + 1) f fd ps sp := by
  obtain ⟨oc, od, dV, kV, doc, pm, an, cdv, ct, osl, rfl, lk, hcd⟩ := F.ex
  exact fn_of lk hcd S len fun A outer s H vs Q E hr hsp => hbody cdv A outer s H vs Q E hr hsp
theorem Fun.x {x qual : Str} {st : Stmt} {f : Addr} {fd : FuncData} (F : Fun K x qual st f fd) : FunX K x qual st f fd := by
  obtain ⟨oc, od, kV, doc, pm, an, cdv, ct, osl, e, lk, hcd⟩ := F.ex
  exact ⟨⟨oc, od, .none, kV, doc, pm, an, cdv, ct, osl, e, lk, hcd⟩, F.kp⟩
end
end L2

/-! for (x, y) in zip(l, m), l and m lists (own work). -/
namespace L2
open PySem PySem.Spec PyProof.Rows
/-- the records of a zip at place k -/
structure ZL (h : Heap) (z TI TO i1 i2 a b : Addr) (k : Nat) : Prop where
  zp : IsZip h z TI TO .none
  ti : IsPair h TI (.ref i1) (.ref i2)
  to : ∃ u v, IsPair h TO u v
  j1 : h.IsListIter i1 a k
  j2 : h.IsListIter i2 b k
def ItY (K : PySem.W.Frag) (a b : Addr) : It :=
  ⟨fun i H => ∃ xs ys x y, SqL K H a xs ∧ SqL K H b ys ∧ xs[i]? = some x ∧ ys[i]? = some y, fun i H x H' => ∃ u v p, (∀ xs ys, SqL K H a xs → SqL K H b ys → xs[i]? = some u ∧ ys[i]? = some v) ∧ x = .ref p ∧ H p = none ∧ H' = upd H p (.tup [u, v]), fun i H => ∃ xs ys, SqL K H a xs ∧ SqL K H b ys ∧ xs.length ≤ i⟩
theorem turn_zipL {P : Program} {w : World} {K : PySem.W.Frag} {es : List Expr} {x1 : Nat} {tp : Pos} (a b z TI TO i1 i2 : Addr) (D : ZipApart z TI TO i1 i2 a b) : Turn P w K (.Tuple es x1 tp) (ItY K a b) [z, TI, TO, i1, i2] z (fun i h => ZL h z TI TO i1 i2 a b i) where
  mem := by simp
  obj := fun i h st c hc => by
    obtain ⟨s1, s2, ⟨u, v, s3⟩, s4, s5⟩ := st
    simp only [List.mem_cons, List.not_mem_nil, or_false] at hc
    rcases hc with q | q | q | q | q
    · subst q; exact ⟨_, s1, fun v z => by cases z⟩
    · subst q; exact ⟨_, s2, fun v z => by cases z⟩
    · subst q; exact ⟨_, s3, fun v z => by cases z⟩
    · subst q; obtain ⟨o, e, _, d⟩ := s4; exact ⟨o, e, fun v z => by rw [d] at z; cases z⟩
    · subst q; obtain ⟨o, e, _, d⟩ := s5; exact ⟨o, e, fun v z => by rw [d] at z; cases z⟩
  keep := fun i h h' st k => by
    obtain ⟨s1, s2, ⟨u, v, s3⟩, ⟨o4, e4, r4⟩, ⟨o5, e5, r5⟩⟩ := st
    exact ⟨k z (by simp) _ s1, k TI (by simp) _ s2, ⟨u, v, k TO (by simp) _ s3⟩, ⟨o4, k i1 (by simp) _ e4, r4⟩, ⟨o5, k i2 (by simp) _ e5, r5⟩⟩
  item := by
    intro X hP hw hK hc i pins s σ H E I hf st hg
    subst hP hw hK
    obtain ⟨s1, s2, s3, s4, s5⟩ := st
    obtain ⟨xs, ys, x, y, hq1, hq2, hx, hy⟩ := hg
    obtain ⟨its, rv, p, hz⟩ := I.list hq1
    obtain ⟨jts, rw', p', hz'⟩ := I.list hq2
    obtain ⟨u, hu, ru⟩ := rv.get hx
    obtain ⟨v, hv, rv'⟩ := rw'.get hy
    obtain ⟨t3a, t3b, t3⟩ := id s3
    refine wpAny_pyNext_zip_item D s1 s2 t3 s4 s5 p.isList p'.isList (x := u) (y := v) (by simpa using hu) (by simpa using hv) fun h' z1 z3 z4 z5 ht hsz kp => ?_
    refine ⟨_, rfl, ?_⟩
    refine wpAny_letOwnedTupleGo_zip (s := { s with heap := h' }) z1 fun h'' zp'' sb => ?_
    have zlt : z < s.heap.objs.size := Heap.lt_size s1
    have kp2 : ∀ c o, c ∉ [z, TI, TO, i1, i2] → s.heap.get? c = some o → h''.get? c = some o := fun c o hc e => by
      simp only [List.mem_cons, List.not_mem_nil, or_false, not_or] at hc
      exact (sb.2 c hc.1).trans (kp c o hc.1 hc.2.2.1 hc.2.2.2.1 hc.2.2.2.2 e)
    have I1 : Inv X pins σ H { s with heap := h'' } := I.turnedL (t' := s.toks) kp2 hf
    have hp : H s.heap.objs.size = none := I.hok.fresh (Nat.le_refl _)
    have e2 : h''.get? s.heap.objs.size = some { cls := .type "tuple", data := .seq #[u, v] } := (sb.2 _ (Nat.ne_of_gt zlt)).trans ht
    have I2 : Inv X pins σ (upd H s.heap.objs.size (.tup [x, y])) { s with heap := h'' } := I1.track (I.our (Nat.le_refl _)) ⟨(show 2 ≤ sizeLine by decide), [u, v], .cons ru (.cons rv' .nil), ⟨_, e2, rfl, _, rfl⟩⟩
    refine ⟨.ref s.heap.objs.size, _, I2, rfl, ⟨x, y, _, fun ws us h1 h2 => ?_, rfl, hp, rfl⟩, ?_, fun c hc => ?_⟩
    · rw [I.list_inj h1 hq1, I.list_inj h2 hq2]
      exact ⟨hx, hy⟩
    · have up : ∀ c o, c ≠ z → h'.get? c = some o → h''.get? c = some o := fun c o hc e => (sb.2 c hc).trans e
      obtain ⟨o4, e4, r4⟩ := z4
      obtain ⟨o5, e5, r5⟩ := z5
      exact ⟨zp'', up _ _ D.TIz (kp _ _ D.TIz D.TITO D.TIi1 D.TIi2 s2), ⟨_, _, up _ _ D.TOz z3⟩, ⟨o4, up _ _ D.i1z e4, r4⟩, ⟨o5, up _ _ D.i2z e5, r5⟩⟩
    · obtain ⟨f0, _⟩ := hf c hc
      rw [upd_ne fun q => ?_]
      · exact f0
      · have lt : ∀ c o, s.heap.get? c = some o → c ≠ s.heap.objs.size := fun c o e => Nat.ne_of_lt (Heap.lt_size e)
        obtain ⟨q3a, q3b, q3⟩ := s3
        obtain ⟨o4, e4, _⟩ := s4
        obtain ⟨o5, e5, _⟩ := s5
        simp only [List.mem_cons, List.not_mem_nil, or_false] at hc
        rcases hc with r | r | r | r | r
        · exact lt z _ s1 (r ▸ q)
        · exact lt TI _ s2 (r ▸ q)
        · exact lt TO _ q3 (r ▸ q)
        · exact lt i1 _ e4 (r ▸ q)
        · exact lt i2 _ e5 (r ▸ q)
  done := by
    intro X hP hw hK hc i pins s σ H E I hf st hg
    subst hP hw hK
    obtain ⟨s1, s2, s3, s4, s5⟩ := st
    obtain ⟨xs, ys, hq1, hq2, hx⟩ := hg
    obtain ⟨its, rv, p, hz⟩ := I.list hq1
    obtain ⟨jts, rw', p', hz'⟩ := I.list hq2
    have hl := rv.length
    obtain ⟨t3a, t3b, t3⟩ := id s3
    refine wpAny_pyNext_zip_end (I.ok.hd hc) D s1 s2 t3 s4 s5 p.isList p'.isList (.inl (by simp; omega)) fun h' kp => ⟨rfl, I.turnedL (t' := s.toks) (fun c o hc e => ?_) hf⟩
    simp only [List.mem_cons, List.not_mem_nil, or_false, not_or] at hc
    exact kp c o hc.1 hc.2.2.1 hc.2.2.2.1 hc.2.2.2.2 e
  self := fun A i s Q E st h => wpAny_pyIter_zip st.zp h
section
variable {X : Cx}
def iZipL (K : PySem.W.Frag) (ta : TA) : TI := fun σ H R => ta σ H fun vs H1 => ∃ a b, vs = [.ref a, .ref b] ∧ (∃ xs, SqL K H1 a xs) ∧ (∃ ys, SqL K H1 b ys) ∧ R (ItY K a b) H1
theorem pi_zipL {es : List Expr} {x1 : Nat} {tp : Pos} {l m : Expr} {ta : TA} {p pos : Pos} (hg : Gl X "zip") (hm : X.mg "zip" = none) (ha : PA X [l, m] ta) (hs : starEach [l, m] X.env = (false, eval l X.env) :: starEach [m] X.env := by rfl) (hpl : (backTo pos (starEach [m] X.env)).any (·.1) = false := by rfl) :
    PI X (.Tuple es x1 tp) (.Call (.Name "zip" p) [l, m] [] pos) (iZipL X.K ta) := by
  intro pins s σ H R I h
  refine Call_ (ld_blt I hg hm boot_zip (PyProof.Rows.callWith_type1 (thn (ha pos pins s σ H _ I h) fun us s1 ⟨vs, H1, I1, r1, q1⟩ => ?_) hs hpl))
  obtain ⟨a, b, e, ⟨xs, hq1⟩, ⟨ys, hq2⟩, q⟩ := q1
  subst e
  obtain ⟨u, v, rfl, rx, ry⟩ := vals2 r1
  cases rx
  cases ry
  obtain ⟨its, rv, p1, hz⟩ := I1.list hq1
  obtain ⟨jts, rw', p2, hz'⟩ := I1.list hq2
  have la : a < s1.heap.objs.size := by obtain ⟨o, e, _⟩ := p1.isList; exact Heap.lt_size e
  have lb : b < s1.heap.objs.size := by obtain ⟨o, e, _⟩ := p2.isList; exact Heap.lt_size e
  have D : ZipApart (s1.heap.objs.size + 4) (s1.heap.objs.size + 2) (s1.heap.objs.size + 3) s1.heap.objs.size (s1.heap.objs.size + 1) a b := by
    generalize s1.heap.objs.size = n at la lb
    constructor <;> (intro z; simp only [Addr] at *; omega)
  refine call_zip_2 p1.isList p2.isList fun h' z1 z2 z3 z4 z5 hsz hk => ?_
  have I2 : Inv X pins σ H1 { s1 with heap := h' } := I1.kept (t' := s1.toks) hk
  refine wpAny_pyIter_zip (s := { s1 with heap := h' }) z1 ?_
  refine ⟨s1.heap.objs.size + 4, [s1.heap.objs.size + 4, s1.heap.objs.size + 2, s1.heap.objs.size + 3, s1.heap.objs.size, s1.heap.objs.size + 1], _, _, H1, rfl, I2, turn_zipL a b _ _ _ _ _ D, ⟨z1, z2, ⟨_, _, z3⟩, z4, z5⟩, fun c hc => ?_, q⟩
  have nb : s1.heap.objs.size ≤ c := by
    simp only [List.mem_cons, List.not_mem_nil, or_false] at hc
    rcases hc with r | r | r | r | r <;> (rw [r]; first | exact Nat.le_refl _ | exact Nat.le_add_right _ _)
  exact I1.fpOk nb (I1.hok.fresh nb)
/-- the loop -/
theorem for_zipL {K : PySem.W.Frag} {a b : Addr} {xs ys : List V} {g : TG} {tb : TS} {D : Ends} {σ : St} {H : Hp} (Pv : Nat → St → Hp → Prop) (hlen : xs.length = ys.length) (h0 : Pv 0 σ H) (hl : ∀ i σ H, i ≤ xs.length → Pv i σ H → SqL K H a xs ∧ SqL K H b ys)
    (hs : ∀ i x y p σ H, xs[i]? = some x → ys[i]? = some y → Pv i σ H → H p = none → g (.ref p) σ (upd H p (.tup [x, y])) fun σ2 H2 => tb { D with nx := Pv (i + 1), ct := Pv (i + 1), bk := D.nx } σ2 H2) (hd : ∀ σ H, Pv xs.length σ H → D.nx σ H) :
    ∃ W : Nat → Nat → St → Hp → Prop, (∃ m, W 0 m σ H) ∧ ∀ i m σ H, W i m σ H →
      ((ItY K a b).stop i H ∧ D.nx σ H) ∨ ((ItY K a b).go i H ∧ ∃ N : St → Hp → Prop, (∀ σ' H', N σ' H' → ∃ m', m' < m ∧ W (i + 1) m' σ' H') ∧ ∀ x H', (ItY K a b).yld i H x H' → g x σ H' fun σ2 H2 => tb { D with nx := N, ct := N, bk := D.nx } σ2 H2) := by
  refine ⟨fun i m σ H => m = xs.length - i ∧ i ≤ xs.length ∧ Pv i σ H, ⟨xs.length, by simp, Nat.zero_le _, h0⟩, ?_⟩
  rintro i m σ H ⟨rfl, hi, p⟩
  obtain ⟨q1, q2⟩ := hl i σ H hi p
  by_cases hlt : i < xs.length
  · have hlt2 : i < ys.length := by omega
    refine .inr ⟨⟨xs, ys, xs[i], ys[i], q1, q2, by simp [hlt], by simp [hlt2]⟩, Pv (i + 1), fun σ' H' p' => ⟨xs.length - (i + 1), by omega, rfl, hlt, p'⟩, fun x H' y => ?_⟩
    obtain ⟨u, v, pa, hk, ex, hn, e⟩ := y
    subst e ex
    exact hs i u v pa σ H (hk xs ys q1 q2).1 (hk xs ys q1 q2).2 p hn
  · have e : i = xs.length := by omega
    subst e
    exact .inl ⟨⟨xs, ys, q1, q2, Nat.le_refl _⟩, hd σ H p⟩
end
end L2

/-! TRY WITH TWO HANDLERS (own work). -/
namespace L2
open PySem PySem.Spec PyProof.Rows
section
variable {X : Cx} {body : List Stmt} {cx cy n : Str} {b₀ b₁ : Stmt} {suite suite' : List Stmt} {np hp np' hp' pos : Pos} {CN CM Cx : Addr} {i : Nat} {tb : Ends → TS} {tc td : Addr → Addr → TS} {ts : Addr → TS} {pins : List (Addr × Obj)} {σ1 : St} {H1 : Hp} {s : Shared} {x : Addr} {od : Option Addr} {D : Ends} {rest : List ExceptHandler}
end
end L2

/-! DICTS WALKED (own work): a dict stands frozen while it is walked. -/
namespace L2
open PySem PySem.Spec PyProof.Rows
section
variable {X : Cx} {pins : List (Addr × Obj)} {σ : St} {H : Hp} {s : Shared} {a : Addr} {kvs : List (Key × V)} {o : Obj}
theorem Inv.freeze (I : Inv X pins σ H s) (e : H a = some (.dK kvs)) (ho : s.heap.get? a = some o) : Inv X pins σ (upd H a (.frz o (.dK kvs))) s := by
  have ne : ∀ b u, H b = some u → u ≠ .dK kvs → b ≠ a := fun b u q n z => by
    subst z
    rw [e] at q
    exact n (Option.some.inj q).symm
  have nn : ∀ b, H b = none → b ≠ a := fun b q z => by subst z; rw [e] at q; cases q
  refine ⟨I.ok, I.os, I.bare, ⟨I.base.keep, I.base.slot, fun b ob q n hx => ?_, I.base.there, fun b xs q => ?_, fun b ob u q => ?_, fun b ps q => ?_⟩, I.loc, I.cell, ?_, fun x c q => ?_, fun p hp => ?_, fun b u q => ?_, I.len⟩
  · have h := I.base.free b ob q n hx
    rw [upd_ne (nn b h)]
    exact h
  · have h := I.base.tups b xs q
    rw [upd_ne (ne b _ h (by simp))]
    exact h
  · have h := I.base.frzs b ob u q
    rw [upd_ne (ne b _ h (by simp))]
    exact h
  · obtain ⟨m, h⟩ := I.base.tbls b ps q
    exact ⟨m, by rw [upd_ne (ne b _ h (by simp))]; exact h⟩
  · rw [upd_ne (nn _ I.free)]
    exact I.free
  · rw [upd_ne (nn _ (I.freeC x c q))]
    exact I.freeC x c q
  · obtain ⟨h1, h2, h3⟩ := I.pin p hp
    exact ⟨h1, by rw [upd_ne (nn _ h2)]; exact h2, h3⟩
  · by_cases hb : b = a
    · subst hb
      rw [upd_same] at q
      cases q
      exact ⟨ho, I.hok b _ e⟩
    · rw [upd_ne hb] at q
      exact (I.hok b u q).stay (fun c v _ r => r) (fun c r => by rw [upd_ne (ne c _ r (by simp))]; exact r) fun c xs r => by rw [upd_ne (ne c _ r (by simp))]; exact r
theorem Inv.thaw (I : Inv X pins σ H s) (n0 : ∀ ob u, X.H₀ a ≠ some (.frz ob u)) (e : H a = some (.frz o (.dK kvs))) : Inv X pins σ (upd H a (.dK kvs)) s := by
  have ne : ∀ b u, H b = some u → u ≠ .frz o (.dK kvs) → b ≠ a := fun b u q n z => by
    subst z
    rw [e] at q
    exact n (Option.some.inj q).symm
  have nn : ∀ b, H b = none → b ≠ a := fun b q z => by subst z; rw [e] at q; cases q
  refine ⟨I.ok, I.os, I.bare, ⟨I.base.keep, I.base.slot, fun b ob q n hx => ?_, I.base.there, fun b xs q => ?_, fun b ob u q => ?_, fun b ps q => ?_⟩, I.loc, I.cell, ?_, fun x c q => ?_, fun p hp => ?_, fun b u q => ?_, I.len⟩
  · have h := I.base.free b ob q n hx
    rw [upd_ne (nn b h)]
    exact h
  · have h := I.base.tups b xs q
    rw [upd_ne (ne b _ h (by simp))]
    exact h
  · have h := I.base.frzs b ob u q
    rw [upd_ne (fun z => by subst z; exact n0 _ _ q)]
    exact h
  · obtain ⟨m, h⟩ := I.base.tbls b ps q
    exact ⟨m, by rw [upd_ne (ne b _ h (by simp))]; exact h⟩
  · rw [upd_ne (nn _ I.free)]
    exact I.free
  · rw [upd_ne (nn _ (I.freeC x c q))]
    exact I.freeC x c q
  · obtain ⟨h1, h2, h3⟩ := I.pin p hp
    exact ⟨h1, by rw [upd_ne (nn _ h2)]; exact h2, h3⟩
  · by_cases hb : b = a
    · subst hb
      rw [upd_same] at q
      cases q
      exact (I.hok b _ e).2
    · rw [upd_ne hb] at q
      exact (I.hok b u q).stay (fun c v _ r => r) (fun c r => by rw [upd_ne (ne c _ r (by simp))]; exact r) fun c xs r => by rw [upd_ne (ne c _ r (by simp))]; exact r
theorem Inv.dk_obj (I : Inv X pins σ H s) (e : H a = some (.dK kvs)) : ∃ o, s.heap.get? a = some o := by
  obtain ⟨_, _, _, _, o, _, _, g, _⟩ := I.hok a _ e
  exact ⟨o, g⟩
theorem Inv.not_frz (I : Inv X pins σ H s) (e : H a = some (.dK kvs)) : ∀ ob u, X.H₀ a ≠ some (.frz ob u) := fun ob u q => by
  have := I.base.frzs a ob u q
  rw [e] at this
  cases this
/-- a statement, an expression, while a dict stands frozen -/
def frzE (a : Addr) (o : Obj) (kvs : List (Key × V)) (D : Ends) : Ends where
  nx := fun σ' H' => H' a = some (.frz o (.dK kvs)) ∧ D.nx σ' (upd H' a (.dK kvs))
  rt := fun v H' => H' a = some (.frz o (.dK kvs)) ∧ D.rt v (upd H' a (.dK kvs))
  bk := fun σ' H' => H' a = some (.frz o (.dK kvs)) ∧ D.bk σ' (upd H' a (.dK kvs))
  ct := fun σ' H' => H' a = some (.frz o (.dK kvs)) ∧ D.ct σ' (upd H' a (.dK kvs))
def sFrz (t : TS) : TS := fun D σ H => ∃ a kvs, H a = some (.dK kvs) ∧ ∀ o, t (frzE a o kvs D) σ (upd H a (.frz o (.dK kvs)))
theorem ps_frz {st : Stmt} {t : TS} (h : PS X st t) : PS X st (sFrz t) := by
  intro pins s σ H D I hq
  obtain ⟨a, kvs, e, q⟩ := hq
  obtain ⟨o, ho⟩ := I.dk_obj e
  have n0 := I.not_frz e
  refine thn (h pins s σ _ _ (I.freeze e ho) (q o)) fun f s' hs => ?_
  cases f with
  | next => obtain ⟨σ', H', I', e', z⟩ := hs; exact ⟨σ', _, I'.thaw n0 e', z⟩
  | brk => obtain ⟨σ', H', I', e', z⟩ := hs; exact ⟨σ', _, I'.thaw n0 e', z⟩
  | cont => obtain ⟨σ', H', I', e', z⟩ := hs; exact ⟨σ', _, I'.thaw n0 e', z⟩
  | ret u => obtain ⟨v, σ', H', I', r, e', z⟩ := hs; exact ⟨v, σ', _, I'.thaw n0 e', r, z⟩
end

/-! ### the keys of a frozen dict, one by one -/
def epOf (o : Obj) : Nat := match o.data with
  | .dict _ ep => ep
  | _ => 0
theorem is_kV {P : Program} {w : World} : ∀ {k : Key} {u : Value}, (mixKind P w).is k u = true → RelV (kV k) u := by
  intro k u h
  rcases keyIs_shape (k := k) (v := u) h with ⟨i, t, rfl, rfl⟩ | ⟨x, t, rfl, rfl⟩
  · exact ⟨t, rfl⟩
  · exact ⟨t, rfl⟩
def Itd (a : Addr) (o : Obj) (kvs : List (Key × V)) : It :=
  ⟨fun i H => i < kvs.length ∧ H a = some (.frz o (.dK kvs)), fun i H x H' => H' = H ∧ ∃ k v, kvs[i]? = some (k, v) ∧ x = kV k, fun i H => kvs.length ≤ i ∧ H a = some (.frz o (.dK kvs))⟩
section
variable {X : Cx}
theorem kv_get : ∀ {kvs : List (Key × V)} {vs : List (Key × Value)} {i : Nat} {p : Key × V}, KV kvs vs → kvs[i]? = some p → ∃ u, vs[i]? = some (p.1, u) ∧ RelV p.2 u
  | _, _, _, _, .nil, e => by simp at e
  | _, _, 0, _, .cons (b := q) r _, e => by
    simp at e
    subst e
    obtain ⟨q1, q2⟩ := q
    obtain ⟨r1, r2⟩ := r
    exact ⟨q2, by rw [List.getElem?_cons_zero]; exact congrArg (fun z => some (z, q2)) r1.symm, r2⟩
  | _, _, i + 1, p, .cons _ t, e => by
    obtain ⟨u, h1, h2⟩ := kv_get (i := i) (p := p) t (by simpa using e)
    exact ⟨u, by simpa using h1, h2⟩
theorem Inv.dictAt {pins : List (Addr × Obj)} {σ : St} {H : Hp} {s : Shared} {a : Addr} {o : Obj} {kvs : List (Key × V)} (I : Inv X pins σ H s) (e : H a = some (.frz o (.dK kvs))) :
    ∃ vs, KV kvs vs ∧ s.heap.DictAt (mixKind X.prog X.w) a vs (epOf o) ∧ (a == sysModules) = false := by
  obtain ⟨g, _, hs, vs, kv, o', es, ep, g', ex, hd, hk, hp, hn⟩ := I.hok a _ e
  rw [g] at g'
  cases g'
  have he : epOf o = ep := by unfold epOf; rw [hd]
  exact ⟨vs, kv, ⟨o, es, g, ex, by rw [he]; exact hd, hk, hp, hn⟩, hs⟩
theorem KV.len {kvs : List (Key × V)} {vs : List (Key × Value)} (r : KV kvs vs) : kvs.length = vs.length := Paired.length r
theorem turn_dict {P : Program} {w : World} {K : PySem.W.Frag} {tg : Expr} (a it : Addr) (o : Obj) (kvs : List (Key × V)) : Turn P w K tg (Itd a o kvs) [it] it (fun i h => h.IsKeyIter it a i kvs.length (epOf o)) where
  mem := by simp
  obj := fun i h st b hb => by
    have e : b = it := by simpa using hb
    subst e
    obtain ⟨o, e, c, d⟩ := st
    exact ⟨o, e, fun v z => by rw [d] at z; cases z⟩
  keep := fun i h h' st k => st.at fun o e => k it (by simp) o e
  item := by
    intro X hP hw hK hc i pins s σ H E I hf st hg
    subst hP hw hK
    obtain ⟨hi, hq⟩ := hg
    obtain ⟨vs, kv, da, _⟩ := I.dictAt hq
    have hl := kv.len
    obtain ⟨u, hu, ru⟩ := kv_get kv (show kvs[i]? = some (kvs[i].1, kvs[i].2) by simp [hi])
    obtain ⟨f0, f1, f2, f3, f4, f5⟩ := hf it (by simp)
    rw [hl] at st
    refine wpAny_pyNext_dict_item st da hu fun key h' hkey st' sb => ?_
    rw [← hl] at st'
    have I1 : Inv X pins σ H { s with heap := h' } := I.turned (t' := s.toks) (fun b o hb e => (sb.2 b hb).trans e) f0 f1 f3 f4 f5
    obtain ⟨oi, e, c, d⟩ := id st'
    exact ⟨key, rfl, go_of (s := { s with heap := h' }) e c d (by decide) ⟨kV kvs[i].1, H, I1, is_kV hkey, ⟨rfl, kvs[i].1, kvs[i].2, by simp [hi], rfl⟩, st', fun b hb => (hf b hb).1⟩⟩
  done := by
    intro X hP hw hK hc i pins s σ H E I hf st hg
    subst hP hw hK
    obtain ⟨hi, hq⟩ := hg
    obtain ⟨vs, kv, da, _⟩ := I.dictAt hq
    have hl := kv.len
    obtain ⟨f0, f1, f2, f3, f4, f5⟩ := hf it (by simp)
    rw [hl] at st
    exact wpAny_pyNext_dict_end (I.ok.hd hc) st da (by simp; omega) fun h' eb => ⟨rfl, I.turned (t' := s.toks) (fun b o hb e => eb b o hb e) f0 f1 f3 f4 f5⟩
  self := fun _ _ _ _ _ st h => wpAny_pyIter_keyiter st h
def iDict (tl : TE) : TI := fun σ H R => tl σ H fun x H1 => ∃ a o kvs, x = .ref a ∧ H1 a = some (.frz o (.dK kvs)) ∧ R (Itd a o kvs) H1
theorem pi_dict {tg l : Expr} {tl : TE} (hl : PE X l tl) : PI X tg l (iDict tl) := by
  intro pins s σ H R I h
  refine thn (hl pins s σ H _ I h) fun v s1 ⟨x, H1, I1, r1, q1⟩ => ?_
  obtain ⟨a, o, kvs, e, hq, q⟩ := q1
  subst e
  cases r1
  obtain ⟨vs, kv, da, hs⟩ := I1.dictAt hq
  refine wpAny_pyIter_dict hs da ?_
  refine ⟨s1.heap.objs.size, [s1.heap.objs.size], _, _, H1, rfl, I1.kept (t' := s1.toks) fun b o e => Heap.get?_push_of_some _ e, turn_dict a _ o kvs, ⟨_, Heap.get?_push_size _ rfl, rfl, by rw [kv.len]; rfl⟩, fun b hb => ?_, q⟩
  have e : b = s1.heap.objs.size := by simpa using hb
  subst e
  exact I1.fpOk (Nat.le_refl _) (I1.hok.fresh (Nat.le_refl _))
/-- the loop over a frozen dict's keys -/
theorem for_dict {a : Addr} {o : Obj} {kvs : List (Key × V)} {g : TG} {tb : TS} {D : Ends} {σ : St} {H : Hp} (Pv : Nat → St → Hp → Prop) (h0 : Pv 0 σ H) (hl : ∀ i σ H, i ≤ kvs.length → Pv i σ H → H a = some (.frz o (.dK kvs)))
    (hs : ∀ i k v σ H, kvs[i]? = some (k, v) → Pv i σ H → g (kV k) σ H fun σ2 H2 => tb { D with nx := Pv (i + 1), ct := Pv (i + 1), bk := D.nx } σ2 H2) (hd : ∀ σ H, Pv kvs.length σ H → D.nx σ H) :
    ∃ W : Nat → Nat → St → Hp → Prop, (∃ m, W 0 m σ H) ∧ ∀ i m σ H, W i m σ H →
      ((Itd a o kvs).stop i H ∧ D.nx σ H) ∨ ((Itd a o kvs).go i H ∧ ∃ N : St → Hp → Prop, (∀ σ' H', N σ' H' → ∃ m', m' < m ∧ W (i + 1) m' σ' H') ∧ ∀ x H', (Itd a o kvs).yld i H x H' → g x σ H' fun σ2 H2 => tb { D with nx := N, ct := N, bk := D.nx } σ2 H2) := by
  refine ⟨fun i m σ H => m = kvs.length - i ∧ i ≤ kvs.length ∧ Pv i σ H, ⟨kvs.length, by simp, Nat.zero_le _, h0⟩, ?_⟩
  rintro i m σ H ⟨rfl, hi, p⟩
  have q := hl i σ H hi p
  by_cases hlt : i < kvs.length
  · refine .inr ⟨⟨hlt, q⟩, Pv (i + 1), fun σ' H' p' => ⟨kvs.length - (i + 1), by omega, rfl, hlt, p'⟩, fun x H' y => ?_⟩
    obtain ⟨e, k, v, hk, ex⟩ := y
    subst e ex
    exact hs i k v σ _ hk p
  · have e : i = kvs.length := by omega
    subst e
    exact .inl ⟨⟨Nat.le_refl _, q⟩, hd σ H p⟩
end
end L2

namespace L2
open PySem PySem.Spec PyProof.Rows
theorem vals_strs : ∀ {us : List Value} {zs : List Str}, StrsAre us zs → Vals (zs.map V.str) us
  | _, _, .nil => .nil
  | _, _, .cons _ k t => .cons ⟨_, rfl⟩ (vals_strs t)
section
variable {X : Cx}
end
end L2

namespace L2
open PySem PySem.Spec PyProof.Rows
/-! ### for (k, v) in d.items(): a frozen dict's pairs, each as a new tuple -/
theorem entry_itemiter_iter : entryFor table "dict_itemiterator.__iter__" = some Builtin.«dict_keyiterator.__iter__» :=
  entryFor_alias (id' := "dict_keyiterator.__iter__") (by kernel_rfl) rfl (by decide +kernel) (by kernel_rfl)
theorem iter_itemiter {prog : Program} {w : World} {A : Around} {E : Value → Shared → Prop} {s : Shared} {it d : Addr} {i n ep : Nat} {ok ov : Value} {Q : Value → Shared → Prop} (hit : IsItemIter s.heap it d i n ep ok ov) (h : Q (.ref it) s) : wpAny (model prog w) A (pyIter (.ref it)) Q E s := by
  have hT : s.TypeIs (.ref it) "dict_itemiterator" := ⟨_, hit, rfl⟩
  refine wpAny_pyIter_slot hT F.slot_dict_itemiterator_iter (wpAny_call_entry F.slot_dict_itemiterator_iter hT entry_itemiter_iter ?_ (F.args_dict_itemiterator_iter_1 _))
  show wpAny _ _ (ret (.ref it)) _ _ s
  exact wpAny_pure ⟨_, rfl, "dict_itemiterator", _, hT, F.slot_dict_itemiterator_next.lookup, h⟩
def Itm (a : Addr) (o : Obj) (kvs : List (Key × V)) : It :=
  ⟨fun i H => i < kvs.length ∧ H a = some (.frz o (.dK kvs)), fun i H x H' => ∃ k v p, kvs[i]? = some (k, v) ∧ x = .ref p ∧ H p = none ∧ H' = upd H p (.tup [kV k, v]), fun i H => kvs.length ≤ i ∧ H a = some (.frz o (.dK kvs))⟩
section
variable {X : Cx}
theorem turn_items {P : Program} {w : World} {K : PySem.W.Frag} {es : List Expr} {x1 : Nat} {tp : Pos} (a it : Addr) (o : Obj) (kvs : List (Key × V)) : Turn P w K (.Tuple es x1 tp) (Itm a o kvs) [it] it (fun i h => ∃ ok ov, IsItemIter h it a i kvs.length (epOf o) ok ov) where
  mem := by simp
  obj := fun i h st b hb => by
    have e : b = it := by simpa using hb
    subst e
    obtain ⟨ok, ov, st⟩ := st
    exact ⟨_, st, fun v z => by cases z⟩
  keep := fun i h h' st k => by
    obtain ⟨ok, ov, st⟩ := st
    exact ⟨ok, ov, k it (by simp) _ st⟩
  item := by
    intro X hP hw hK hc i pins s σ H E I hf st hg
    subst hP hw hK
    obtain ⟨hi, hq⟩ := hg
    obtain ⟨ok, ov, st⟩ := st
    obtain ⟨vs, kv, da, _⟩ := I.dictAt hq
    have hl := kv.len
    obtain ⟨u, hu, ru⟩ := kv_get kv (show kvs[i]? = some (kvs[i].1, kvs[i].2) by simp [hi])
    obtain ⟨f0, f1, f2, f3, f4, f5⟩ := hf it (by simp)
    have hit : it < s.heap.objs.size := Heap.lt_size st
    rw [hl] at st
    refine wpAny_pyNext_items_item st da hu fun key h' hkey st' ht hsz kp => ?_
    refine ⟨_, rfl, ?_⟩
    refine wpAny_letOwnedTupleGo_items (s := { s with heap := h' }) st' fun h'' st'' sb => ?_
    rw [← hl] at st''
    have I0 : Inv X pins σ H { s with heap := s.heap.update it fun _ => { cls := .type "dict_itemiterator", dict := none, data := .fields #[.none, .bool false, .ref a, .int (i + 1 : Nat) 0, .int kvs.length 0, .int (epOf o) 0, key, u], slots := #[] } } :=
      I.turned (t' := s.toks) (fun b ob hb e => by rw [Heap.get?_update_ne _ _ _ _ hb]; exact e) f0 f1 f3 f4 f5
    have hp : H s.heap.objs.size = none := I.hok.fresh (Nat.le_refl _)
    refine ⟨.ref s.heap.objs.size, upd H s.heap.objs.size (.tup [kV kvs[i].1, kvs[i].2]), I0.laid (t' := s.toks) (h' := h'') (fun b ob e => ?_) (by rw [Heap.size_update]; exact Nat.le_refl _) ?_, rfl, ⟨_, _, _, by simp [hi], rfl, hp, rfl⟩, ⟨key, u, st''⟩, fun b hb => ?_⟩
    · by_cases hb : b = it
      · subst hb
        rw [Heap.get?_update_self _ st rfl] at e
        rw [← e]
        exact st''
      · rw [Heap.get?_update_ne _ _ _ _ hb] at e
        exact (sb.2 b hb).trans (kp b ob hb e)
    · refine ⟨(show 2 ≤ sizeLine by decide), [key, u], .cons (is_kV hkey) (.cons ru .nil), ⟨_, (sb.2 _ (Nat.ne_of_gt hit)).trans ht, rfl, _, rfl⟩⟩
    · have e : b = it := by simpa using hb
      subst e
      rw [upd_ne (Nat.ne_of_lt hit)]
      exact f0
  done := by
    intro X hP hw hK hc i pins s σ H E I hf st hg
    subst hP hw hK
    obtain ⟨hi, hq⟩ := hg
    obtain ⟨ok, ov, st⟩ := st
    obtain ⟨vs, kv, da, _⟩ := I.dictAt hq
    have hl := kv.len
    obtain ⟨f0, f1, f2, f3, f4, f5⟩ := hf it (by simp)
    rw [hl] at st
    exact wpAny_pyNext_items_end (I.ok.hd hc) st da (by simp; omega) fun h' eb => ⟨rfl, I.turned (t' := s.toks) (fun b o hb e => eb b o hb e) f0 f1 f3 f4 f5⟩
  self := fun A i s Q E st h => by
    obtain ⟨ok, ov, st⟩ := st
    exact iter_itemiter st h
/-- d.items(), d frozen -/
def iItems (tl : TE) : TI := fun σ H R => tl σ H fun x H1 => ∃ a o kvs, x = .ref a ∧ H1 a = some (.frz o (.dK kvs)) ∧ R (Itm a o kvs) H1
theorem pi_items {es : List Expr} {x1 : Nat} {tp : Pos} {l : Expr} {tl : TE} {apos cpos : Pos} (hl : PE X l tl) (hbase : attributeBase l "items" X.env (eval l X.env) = eval l X.env := by rfl) (hline : (apos.endLine == cpos.line) = true := by rfl) :
    PI X (.Tuple es x1 tp) (.Call (.Attribute l "items" apos) [] [] cpos) (iItems tl) := by
  intro pins s σ H R I h
  refine wpAny_Call_method0_late hbase hline (thn (hl pins s σ H _ I h) fun v s1 ⟨x, H1, I1, r1, q1⟩ => ?_)
  obtain ⟨a, o, kvs, e, hq, q⟩ := q1
  subst e
  cases r1
  obtain ⟨vs, kv, da, hs⟩ := I1.dictAt hq
  obtain ⟨g, _⟩ := I1.hok a _ hq
  have ex : o.ExactDict := by
    obtain ⟨o', es', g', x', _⟩ := id da
    rw [g] at g'
    cases g'
    exact x'
  refine ⟨"dict", "dict.items", F.plainAttrs_dict, F.slot_dict_items, F.type_dict_items, da.dictOf.typeIs, (fun b e => by cases e; exact ⟨o, g, ex.2.1⟩), Calls.callWith_builtin rfl (PySem.evalArgs_none ?_)⟩
  refine call_meetsIn F.slot_dict_items da.dictOf.typeIs F.entry_dict_items (F.args_dict_items_1 _) (meets_dict_items (mixKind X.prog X.w) a hs) ⟨⟨vs, da.dictOf⟩, ?_⟩
  have I2 : Inv X pins σ H1 { s1 with heap := s1.heap.push { cls := .type "dict_items", data := .fields #[.ref a] } } := I1.kept (t' := s1.toks) fun b o e => Heap.get?_push_of_some _ e
  refine wpAny_pyIter_items (s := { s1 with heap := s1.heap.push { cls := .type "dict_items", data := .fields #[.ref a] } }) (knd := mixKind X.prog X.w) (kvs := vs) (ep := epOf o) ⟨_, Heap.get?_push_size _ rfl, rfl, rfl⟩ (da.push _) ?_
  refine ⟨_, [_], _, _, H1, rfl, I2.kept (t' := s1.toks) fun b o e => Heap.get?_push_of_some _ e, turn_items a _ o kvs, ⟨.none, .none, by rw [kv.len]; exact Heap.get?_push_size _ rfl⟩, fun b hb => ?_, q⟩
  have e := List.mem_singleton.mp hb
  subst e
  exact I2.fpOk (Nat.le_refl _) (I2.hok.fresh (Nat.le_refl _))
/-- the loop -/
theorem for_items {a : Addr} {o : Obj} {kvs : List (Key × V)} {g : TG} {tb : TS} {D : Ends} {σ : St} {H : Hp} (Pv : Nat → St → Hp → Prop) (h0 : Pv 0 σ H) (hl : ∀ i σ H, i ≤ kvs.length → Pv i σ H → H a = some (.frz o (.dK kvs)))
    (hs : ∀ i k v p σ H, kvs[i]? = some (k, v) → Pv i σ H → H p = none → g (.ref p) σ (upd H p (.tup [kV k, v])) fun σ2 H2 => tb { D with nx := Pv (i + 1), ct := Pv (i + 1), bk := D.nx } σ2 H2) (hd : ∀ σ H, Pv kvs.length σ H → D.nx σ H) :
    ∃ W : Nat → Nat → St → Hp → Prop, (∃ m, W 0 m σ H) ∧ ∀ i m σ H, W i m σ H →
      ((Itm a o kvs).stop i H ∧ D.nx σ H) ∨ ((Itm a o kvs).go i H ∧ ∃ N : St → Hp → Prop, (∀ σ' H', N σ' H' → ∃ m', m' < m ∧ W (i + 1) m' σ' H') ∧ ∀ x H', (Itm a o kvs).yld i H x H' → g x σ H' fun σ2 H2 => tb { D with nx := N, ct := N, bk := D.nx } σ2 H2) := by
  refine ⟨fun i m σ H => m = kvs.length - i ∧ i ≤ kvs.length ∧ Pv i σ H, ⟨kvs.length, by simp, Nat.zero_le _, h0⟩, ?_⟩
  rintro i m σ H ⟨rfl, hi, p⟩
  have q := hl i σ H hi p
  by_cases hlt : i < kvs.length
  · refine .inr ⟨⟨hlt, q⟩, Pv (i + 1), fun σ' H' p' => ⟨kvs.length - (i + 1), by omega, rfl, hlt, p'⟩, fun x H' y => ?_⟩
    obtain ⟨k, v, pa, hk, ex, hn, e⟩ := y
    subst e ex
    exact hs i k v pa σ H hk p hn
  · have e : i = kvs.length := by omega
    subst e
    exact .inl ⟨⟨Nat.le_refl _, q⟩, hd σ H p⟩
/-- d.clear(), dict(d) -/
theorem mt_dclear : MtR X "dict.clear" (fun x xs H Q => ∃ a kvs, x = .ref a ∧ xs = [] ∧ H a = some (.dK kvs) ∧ Q .non (upd H a (.dK []))) := by
  intro pins s σ H x xs v us Q I rx r h
  obtain ⟨a, kvs, rfl, rfl, e, q⟩ := h
  cases rx
  cases r
  exact d_clear I e fun s' I' => ⟨.non, _, I', rfl, q⟩
theorem call_dict_of : CallR X (.type "dict") (fun xs H Q => ∃ a kvs, xs = [.ref a] ∧ Rd H a (.dK kvs) ∧ ∀ p, H p = none → Q (.ref p) (upd H p (.dK kvs))) := by
  intro pins s σ H xs us Q I r h
  obtain ⟨a, kvs, rfl, e, q⟩ := h
  obtain ⟨u, rfl, rx⟩ := vals1 r
  cases rx
  exact d_copyOf I e fun p s' hp I' => ⟨.ref p, _, I', rfl, q p hp⟩
end
end L2

namespace L2
open PySem PySem.Spec PyProof.Rows
theorem ObjOk.there {P : Program} {w : World} {H : Hp} {h : Heap} {a : Addr} {o : HO} (x : ObjOk P w H h a o) : ∃ ob, h.get? a = some ob := by
  cases o with
  | lst xs => obtain ⟨_, _, _, _, e⟩ := x; exact ⟨_, e⟩
  | tup xs => obtain ⟨_, _, _, o, e, _⟩ := x; exact ⟨_, e⟩
  | dK kvs => obtain ⟨_, _, _, _, o, _, _, e, _⟩ := x; exact ⟨_, e⟩
  | dT kvs => obtain ⟨_, _, _, _, o, _, _, e, _⟩ := x; exact ⟨_, e⟩
  | set S n => obtain ⟨o, _, _, _, e, _⟩ := x; exact ⟨_, e⟩
  | ins C dx fs => obtain ⟨_, _, _, e, _⟩ := x; exact ⟨_, e⟩
  | own y => exact x
  | xd fs => obtain ⟨_, ⟨_, _, _, e, _⟩, _⟩ := x; exact ⟨_, e⟩
  | met f y => exact ⟨_, x⟩
  | rng lo hi => obtain ⟨_, _, _, e⟩ := x; exact ⟨_, e⟩
  | frz ob u => exact ⟨_, x.1⟩
  | tbl ps => exact ⟨_, x⟩
  | ext φ => exact x.2.1
section
variable {X : Cx} {pins : List (Addr × Obj)} {σ : St} {H : Hp} {s : Shared} {h' : Heap} {a : Addr} {o : HO}
theorem Inv.none_at (I : Inv X pins σ H s) (hn : s.heap.get? a = none) : H a = none := by
  cases e : H a with
  | none => rfl
  | some u =>
    obtain ⟨ob, q⟩ := (I.hok a u e).there
    rw [hn] at q
    cases q
/-- a new object at an address where nothing stood -/
theorem Inv.laidAt {t' : Nat} (I : Inv X pins σ H s) (k : ∀ b u, s.heap.get? b = some u → h'.get? b = some u) (hn : s.heap.get? a = none) (new : ObjOk X.prog X.w (upd H a o) h' a o) : Inv X pins σ (upd H a o) { s with heap := h', toks := t' } := by
  have hH := I.none_at hn
  have ne : ∀ b u, s.heap.get? b = some u → b ≠ a := fun b u q z => by subst z; rw [hn] at q; cases q
  refine I.un ⟨fun b u q _ _ _ => k b u q, fun b u q _ _ _ => ⟨u.slots, k b u q⟩, fun b u q n _ => by rw [upd_ne (ne b u q)]; exact n, fun b u q _ => ⟨u, k b u q⟩,
    fun b xs q => by rw [upd_ne (ne_of_none q hH)]; exact q, fun b u xs q => by rw [upd_ne (ne_of_none q hH)]; exact q, fun b ps q => ⟨#[], by rw [upd_ne (ne_of_none q hH), q]; simp⟩⟩ fun b u q => ?_
  by_cases hb : b = a
  · subst hb
    rw [upd_same] at q
    cases q
    exact new
  · rw [upd_ne hb] at q
    exact (I.hok b u q).stay (fun c v _ r => k c v r) (fun c r => by rw [upd_ne (ne_of_none r hH)]; exact r) fun c xs r => by rw [upd_ne (ne_of_none r hH)]; exact r
end
theorem strs_at : ∀ (us : List Value) (zs : List Str), us.length = zs.length → (∀ (j : Nat) (v : Value) (z : Str), us[j]? = some v → zs[j]? = some z → ∃ t, v = Value.str z t) → StrsAre us zs
  | [], [], _, _ => .nil
  | [], _ :: _, h, _ => by simp at h
  | _ :: _, [], h, _ => by simp at h
  | u :: us, z :: zs, h, f => by
    obtain ⟨t, rfl⟩ := f 0 u z rfl rfl
    exact .cons _ _ (strs_at us zs (by simpa using h) fun j v y h1 h2 => f (j + 1) v y (by simpa using h1) (by simpa using h2))
theorem kv_key : ∀ {kvs : List (Key × V)} {vs : List (Key × Value)} {i : Nat} {q : Key × Value}, KV kvs vs → vs[i]? = some q → (kvs.map (·.1))[i]? = some q.1
  | _, _, _, _, .nil, e => by simp at e
  | _, _, 0, _, .cons r _, e => by
    simp at e
    subst e
    simp [r.1]
  | _, _, i + 1, q, .cons _ t, e => by
    have h := kv_key (i := i) (q := q) t (by simpa using e)
    simpa using h
section
variable {X : Cx}
/-- sorted(a dict whose keys are texts) -/
theorem call_sortedD (hc : X.calm = true) : CallR X (.builtin "sorted") (fun xs H Q => ∃ p kvs zs, xs = [.ref p] ∧ Rd H p (.dK kvs) ∧ kvs.map (·.1) = zs.map Sum.inr ∧ zs.length < 64 ∧ ∀ l ys, H l = none → ys.Perm zs → sortedS ys = true → Q (.ref l) (upd H l (.lst (ys.map V.str)))) := by
  intro pins s σ H xs us Q I r h
  obtain ⟨p, kvs, zs, rfl, hq, hz, h64, q⟩ := h
  obtain ⟨u, rfl, rx⟩ := vals1 r
  cases rx
  obtain ⟨hlen, lo, vs, kv, dd⟩ := hq.ok I.hok
  obtain ⟨ep, da⟩ := dd.dictAt
  have hl := kv.len
  have hl2 : kvs.length = zs.length := by simpa using congrArg List.length hz
  refine Calls.call_function_entry kind_sorted plain_sorted entry_sorted (args_sorted1 _) ?_
  unfold Builtin.«sorted»
  refine wpAny_bind (m := checkCount "sorted" 1 1 _) (wpAny_pure ?_)
  refine wpAny_bind (PySem.W.kdu_collect (PySem.W.kdl_dict (knd := mixKind X.prog X.w) (kvs := vs) (ep := ep) lo) (I.ok.hd hc) da (by rw [← hl]; exact hlen) fun h' tk acc hk hacc => ?_)
  have hS : StrsAre acc.toList zs := by
    refine strs_at _ _ (by rw [Array.length_toList, hacc.1, ← hl, hl2]) fun j v z h1 h2 => ?_
    obtain ⟨k, x, hx, hkv⟩ := hacc.2 j v (by rw [← Array.getElem?_toList]; exact h1)
    have hk' := kv_key kv hx
    rw [hz, List.getElem?_map, h2] at hk'
    have e : Sum.inr z = k := by simpa using hk'
    subst e
    exact is_kV hkv
  have hal : acc.toList.length = zs.length := by
    rw [Array.length_toList, hacc.1, ← hl, hl2]
  refine wpAny_bind (wpAny_newList ?_ (by rw [hal, ← hl2]; exact hlen))
  have hoL : (h'.push (seqObj "list" acc.toList.toArray 0)).get? h'.objs.size = some (seqObj "list" acc.toList.toArray 0) := Heap.get?_push_size _ rfl
  refine wpAny_bind (wpAny_holding (wpAny_call_entry slot_list_sort ⟨_, hoL, rfl⟩ entry_list_sort (list_sort_treeK (s := { s with heap := h'.push (seqObj "list" acc.toList.toArray 0), toks := tk }) strKind_oneLt hoL hS.keysOf (fun v₁ v₂ rest e => keyKind_strs (by rw [← e]; exact hS)) (by rw [hal]; exact h64) fun st' hp hs => ⟨_, rfl, ?_⟩) (args_list_sort _)))
  obtain ⟨ss', h1, h2, h3⟩ := sorted_out_str hS hp hs
  obtain ⟨e, he⟩ := sortedHeap_at (out := (arrOf st').map (·.2)) hoL
  have hn : s.heap.get? h'.objs.size = none := by
    cases q : s.heap.get? h'.objs.size with
    | none => rfl
    | some ob => exact absurd (Heap.lt_size (hk _ _ q)) (Nat.lt_irrefl _)
  refine wpAny_pure ⟨_, rfl, .ref h'.objs.size, _, I.laidAt (t' := tk) (o := .lst (ss'.map V.str)) (fun b ob q => ?_) hn ?_, rfl, q _ ss' (I.none_at hn) h2 h3⟩
  · have q' := hk b ob q
    have hlt := Heap.lt_size q'
    rw [sortedHeap_old (Nat.ne_of_lt hlt) (by rw [size_push']; exact Nat.lt_succ_of_lt hlt)]
    exact Heap.get?_push_of_some _ q'
  · exact ⟨by rw [List.length_map, h2.length_eq, ← hl2]; exact hlen, _, e, vals_strs h1, he⟩
end
end L2

namespace L2
open PySem PySem.Spec PyProof.Rows
/-! ### for (i, x) in enumerate(a list) -/
def Ite (K : PySem.W.Frag) (a : Addr) : It :=
  ⟨fun i H => ∃ xs x, SqL K H a xs ∧ xs[i]? = some x, fun i H x H' => ∃ y p, (∀ xs, SqL K H a xs → xs[i]? = some y) ∧ x = .ref p ∧ H p = none ∧ H' = upd H p (.tup [.int i, y]), fun i H => ∃ xs, SqL K H a xs ∧ xs.length ≤ i⟩
theorem turn_enum {P : Program} {w : World} {K : PySem.W.Frag} {es : List Expr} {x1 : Nat} {tp : Pos} (a e it : Addr) (ne : e ≠ it) : Turn P w K (.Tuple es x1 tp) (Ite K a) [e, it] e (fun i h => (∃ old, IsEnum h e it i old) ∧ h.IsListIter it a i) where
  mem := by simp
  obj := fun i h st b hb => by
    obtain ⟨⟨old, s1⟩, s2⟩ := st
    rcases List.mem_cons.mp hb with z | z
    · subst z
      exact ⟨_, s1, fun v z => by cases z⟩
    · have z := List.mem_singleton.mp z
      subst z
      obtain ⟨o, e, c, d⟩ := s2
      exact ⟨o, e, fun v z => by rw [d] at z; cases z⟩
  keep := fun i h h' st k => by
    obtain ⟨⟨old, s1⟩, s2⟩ := st
    exact ⟨⟨old, k e (by simp) _ s1⟩, s2.at fun o e => k it (by simp) o e⟩
  item := by
    intro X hP hw hK hc i pins s σ H E I hf st hg
    subst hP hw hK
    obtain ⟨⟨old, s1⟩, s2⟩ := st
    obtain ⟨xs, x, hq, hx⟩ := hg
    obtain ⟨its, rv, p, hz⟩ := I.list hq
    obtain ⟨u, hu, ru⟩ := rv.get hx
    obtain ⟨f0, f1, f2, f3, f4, f5⟩ := hf e (by simp)
    obtain ⟨g0, g1, g2, g3, g4, g5⟩ := hf it (by simp)
    have le : e < s.heap.objs.size := Heap.lt_size s1
    have li : it < s.heap.objs.size := by obtain ⟨o, e, _⟩ := s2; exact Heap.lt_size e
    refine wpAny_pyNext_enum_item s1 s2 p.isList (x := u) (by simpa using hu) ne fun h' st' si' ht hsz kp => ?_
    refine ⟨_, rfl, ?_⟩
    refine wpAny_letOwnedTupleGo_enum (s := { s with heap := h', toks := s.toks + 1 }) st' fun h'' st'' sb => ?_
    have si'' : h''.IsListIter it a (i + 1) := si'.at fun o q => (sb.2 it (Ne.symm ne)).trans q
    obtain ⟨oi, ei, ci, di⟩ := id si''
    obtain ⟨oi0, ei0, _⟩ := id s2
    have I0 : Inv X pins σ H { s with heap := s.heap.update e fun _ => { cls := .type "enumerate", dict := none, data := .fields #[.none, .bool false, .ref it, rawInt ((i : Int) + 1), .none, u], slots := #[] } } :=
      I.turned (t' := s.toks) (fun b ob hb q => by rw [Heap.get?_update_ne _ _ _ _ hb]; exact q) f0 f1 f3 f4 f5
    have I1 : Inv X pins σ H { s with heap := (s.heap.update e fun _ => { cls := .type "enumerate", dict := none, data := .fields #[.none, .bool false, .ref it, rawInt ((i : Int) + 1), .none, u], slots := #[] }).update it fun _ => oi } :=
      I0.turned (t' := s.toks) (fun b ob hb q => by rw [Heap.get?_update_ne _ _ _ _ hb]; exact q) g0 g1 g3 g4 g5
    have hp : H s.heap.objs.size = none := I.hok.fresh (Nat.le_refl _)
    have foi : oi.isFreed = false := (Heap.get?_some_iff.mp ei).2
    refine ⟨.ref s.heap.objs.size, upd H s.heap.objs.size (.tup [.int i, x]), I1.laid (t' := s.toks + 1) (h' := h'') (fun b ob q => ?_) (by rw [Heap.size_update, Heap.size_update]; exact Nat.le_refl _) ?_, rfl, ⟨x, _, fun ys hy => by rw [I.list_inj hy hq]; exact hx, rfl, hp, rfl⟩, ⟨⟨u, ?_⟩, si''⟩, fun b hb => ?_⟩
    · by_cases hb : b = it
      · subst hb
        rw [Heap.get?_update_self _ (show (s.heap.update e _).get? b = some oi0 by rw [Heap.get?_update_ne _ _ _ _ (Ne.symm ne)]; exact ei0) foi] at q
        rw [← q]
        exact ei
      · rw [Heap.get?_update_ne _ _ _ _ hb] at q
        by_cases hb2 : b = e
        · subst hb2
          rw [Heap.get?_update_self _ s1 rfl] at q
          rw [← q]
          exact st''
        · rw [Heap.get?_update_ne _ _ _ _ hb2] at q
          exact (sb.2 b hb2).trans (kp b ob hb2 hb q)
    · exact ⟨(show 2 ≤ sizeLine by decide), [.int i s.toks, u], .cons ⟨_, rfl⟩ (.cons ru .nil), ⟨_, (sb.2 _ (Nat.ne_of_gt le)).trans ht, rfl, _, rfl⟩⟩
    · exact st''
    · rcases List.mem_cons.mp hb with z | z
      · subst z
        rw [upd_ne (Nat.ne_of_lt le)]
        exact f0
      · have z := List.mem_singleton.mp z
        subst z
        rw [upd_ne (Nat.ne_of_lt li)]
        exact g0
  done := by
    intro X hP hw hK hc i pins s σ H E I hf st hg
    subst hP hw hK
    obtain ⟨⟨old, s1⟩, s2⟩ := st
    obtain ⟨xs, hq, hx⟩ := hg
    obtain ⟨its, rv, p, hz⟩ := I.list hq
    obtain ⟨g0, g1, g2, g3, g4, g5⟩ := hf it (by simp)
    have hl := rv.length
    exact wpAny_pyNext_enum_end (I.ok.hd hc) s1 s2 p.isList (by simp; omega) fun h' eb => ⟨rfl, I.turned (t' := s.toks) (fun b o hb e => eb b o hb e) g0 g1 g3 g4 g5⟩
  self := fun A i s Q E st h => by
    obtain ⟨⟨old, s1⟩, _⟩ := st
    exact wpAny_pyIter_enum s1 h
section
variable {X : Cx}
theorem boot_enum : bootBuiltins "enumerate" = some (.type "enumerate") := by decide +kernel
def iEnum (K : PySem.W.Frag) (ta : TA) : TI := fun σ H R => ta σ H fun vs H1 => ∃ a, vs = [.ref a] ∧ (∃ xs, SqL K H1 a xs) ∧ R (Ite K a) H1
theorem pi_enum {es : List Expr} {x1 : Nat} {tp : Pos} {l : Expr} {ta : TA} {p pos : Pos} (hg : Gl X "enumerate") (hm : X.mg "enumerate" = none) (ha : PA X [l] ta) (hs : starEach [l] X.env = [(false, eval l X.env)] := by rfl) :
    PI X (.Tuple es x1 tp) (.Call (.Name "enumerate" p) [l] [] pos) (iEnum X.K ta) := by
  intro pins s σ H R I h
  refine Call_ (ld_blt I hg hm boot_enum (PyProof.Rows.callWith_type1 (thn (ha pos pins s σ H _ I h) fun us s1 ⟨vs, H1, I1, r1, q1⟩ => ?_) hs rfl))
  obtain ⟨a, e, ⟨xs, hq⟩, q⟩ := q1
  subst e
  obtain ⟨u, rfl, rx⟩ := vals1 r1
  cases rx
  obtain ⟨its, rv, pl, hz⟩ := I1.list hq
  refine call_enumerate_list pl.isList fun h' he hi hsz hk => ?_
  have I2 : Inv X pins σ H1 { s1 with heap := h' } := I1.kept (t' := s1.toks) hk
  refine wpAny_pyIter_enum (s := { s1 with heap := h' }) he ?_
  refine ⟨s1.heap.objs.size + 1, [s1.heap.objs.size + 1, s1.heap.objs.size], _, _, H1, rfl, I2, turn_enum a _ _ (Nat.succ_ne_self _), ⟨⟨_, he⟩, hi⟩, fun b hb => ?_, q⟩
  have nb : s1.heap.objs.size ≤ b := by
    rcases List.mem_cons.mp hb with z | z
    · rw [z]; exact Nat.le_succ _
    · rw [List.mem_singleton.mp z]; exact Nat.le_refl _
  exact I1.fpOk nb (I1.hok.fresh nb)
/-- the loop -/
theorem for_enum {K : PySem.W.Frag} {a : Addr} {xs : List V} {g : TG} {tb : TS} {D : Ends} {σ : St} {H : Hp} (Pv : Nat → St → Hp → Prop) (h0 : Pv 0 σ H) (hl : ∀ i σ H, i ≤ xs.length → Pv i σ H → SqL K H a xs)
    (hs : ∀ i x p σ H, xs[i]? = some x → Pv i σ H → H p = none → g (.ref p) σ (upd H p (.tup [.int i, x])) fun σ2 H2 => tb { D with nx := Pv (i + 1), ct := Pv (i + 1), bk := D.nx } σ2 H2) (hd : ∀ σ H, Pv xs.length σ H → D.nx σ H) :
    ∃ W : Nat → Nat → St → Hp → Prop, (∃ m, W 0 m σ H) ∧ ∀ i m σ H, W i m σ H →
      ((Ite K a).stop i H ∧ D.nx σ H) ∨ ((Ite K a).go i H ∧ ∃ N : St → Hp → Prop, (∀ σ' H', N σ' H' → ∃ m', m' < m ∧ W (i + 1) m' σ' H') ∧ ∀ x H', (Ite K a).yld i H x H' → g x σ H' fun σ2 H2 => tb { D with nx := N, ct := N, bk := D.nx } σ2 H2) := by
  refine ⟨fun i m σ H => m = xs.length - i ∧ i ≤ xs.length ∧ Pv i σ H, ⟨xs.length, by simp, Nat.zero_le _, h0⟩, ?_⟩
  rintro i m σ H ⟨rfl, hi, p⟩
  have q := hl i σ H hi p
  by_cases hlt : i < xs.length
  · refine .inr ⟨⟨xs, xs[i], q, by simp [hlt]⟩, Pv (i + 1), fun σ' H' p' => ⟨xs.length - (i + 1), by omega, rfl, hlt, p'⟩, fun x H' y => ?_⟩
    obtain ⟨z, pa, hk, ex, hn, e⟩ := y
    subst e ex
    exact hs i z pa σ H (hk xs q) p hn
  · have e : i = xs.length := by omega
    subst e
    exact .inl ⟨⟨xs, q, Nat.le_refl _⟩, hd σ H p⟩
end
end L2

namespace L2
open PySem PySem.Spec PyProof.Rows
section
variable {X : Cx}
end
end L2

/-! SORTING BY KEYS THAT DIFFER (own work): what the asking sort does, whoever answers. -/
namespace Srt
open PySem PySem.W PyProof.Rows
section
variable {N : Nat} {r : Nat → Nat → Bool} {cmp : Nat → Nat → (Bool → Shared → Prop) → Shared → Prop} {P : Shared → Prop} {p : Array Nat}
end
end Srt

/-! sorted OF A LIST OF TUPLES WHOSE FIRST THINGS ARE TEXTS THAT DIFFER (own work). -/
namespace Srt
open PySem PySem.W PyProof.Rows
section
variable {prog : Program} {w : World} {A : Around} {E : Value → Shared → Prop} {s : Shared}
end
end Srt
namespace L2
open PySem PySem.Spec PyProof.Rows
section
variable {X : Cx}
end
end L2

/-! == OF TWO DICTS, where they are alike (own work). -/
namespace L2
open PySem PySem.Spec PyProof.Rows PySem.Builtin PySem.Builtin.Dict
theorem dict_eq_tree (a b : Value) : Builtin.«dict.__eq__» ⟨[a, b], []⟩ = (do
    let (self, other) ← dictSlotArgs "__eq__" ⟨[a, b], []⟩
    if !(← isInstance other (.type "dict")) then rule s!"dict.{("__eq__" : String)}.not-a-dict"; return ← ret .notImplemented
    ret (.bool ((← Dict.samePairs s!"dict.{("__eq__" : String)}" (← addrOf self) (← addrOf other)) == true))) := rfl
theorem sub_dict_dict : isSubtype (.type "dict") (.type "dict") = pure true := by rw [isSubtype_type]; kernel_rfl
section
variable {prog : Program} {w : World} {A : Around} {E : Value → Shared → Prop} {s : Shared} {a b : Addr} {oa ob : Obj} {es fs : Array DictEntry} {ep fp : Nat}
theorem same_pairs {id : String} {Q : Bool → Shared → Prop} (ha : s.heap.get? a = some oa) (da : oa.data = .dict es ep) (hb : s.heap.get? b = some ob) (db : ob.data = .dict fs fp) (na : (a == sysModules) = false) (nb : (b == sysModules) = false) (hsz : es.size = fs.size)
    (hf : ∀ (i : Nat) (e : DictEntry), es[i]? = some e → ∃ (j : Nat) (f : DictEntry), fs[j]? = some f ∧ (∀ (R : Option Nat → Shared → Prop), R (some j) s → wpAny (model prog w) A (dictFind b e.key e.hash) R E s) ∧ ∀ (R : Bool → Shared → Prop), R true s → wpAny (model prog w) A (eqBool e.val f.val) R E s)
    (hq : Q true s) : wpAny (model prog w) A (Dict.samePairs id a b) Q E s := by
  unfold Dict.samePairs Dict.showsAll
  simp only [na, nb, Bool.false_eq_true, if_false]
  refine wpAny_bind (wpAny_pure (wpAny_bind (wpAny_pure ?_)))
  refine wpAny_bind (wpAny_dictEntries ha da ?_)
  refine wpAny_bind (wpAny_dictEntries hb db ?_)
  rw [if_neg (by rw [hsz]; simp)]
  refine wpAny_bind (wpAny_dictEpoch ha da ?_)
  rw [Std.Legacy.Range.forIn_eq_forIn_range']
  refine wpAny_bind (wpAny_forIn_list _ (fun rest b s' => b = (none, ()) ∧ s' = s ∧ ∀ x ∈ rest, x < es.size) _ (fun i rest b s' hI => ?_) (fun b s' hI => ?_) _ _ ⟨rfl, rfl, fun x hx => ?_⟩)
  · obtain ⟨rfl, rfl, hl⟩ := hI
    have hi := hl i List.mem_cons_self
    obtain ⟨j, f, hj, h1, h2⟩ := hf i es[i] (by simp [hi])
    refine wpAny_bind (wpAny_dictEntries ha da ?_)
    have ei : es[i]? = some es[i] := by simp [hi]
    rw [ei]
    dsimp only
    refine wpAny_bind (wpAny_holding (wpAny_bind (h1 _ ?_)))
    dsimp only
    refine wpAny_bind (wpAny_dictEntries hb db ?_)
    rw [hj]
    dsimp only
    refine wpAny_holding (h2 _ ?_)
    rw [if_neg (by decide)]
    refine wpAny_bind (wpAny_dictEpoch ha da ?_)
    rw [if_neg (by simp)]
    exact wpAny_pure ⟨rfl, rfl, fun x hx => hl x (List.mem_cons_of_mem _ hx)⟩
  · obtain ⟨rfl, rfl, _⟩ := hI
    exact wpAny_pure hq
  · have := List.mem_range'.mp hx
    obtain ⟨k, hk, rfl⟩ := this
    simp [Std.Legacy.Range.size] at hk ⊢
    omega
end
end L2

namespace L2
open PySem PySem.Spec PyProof.Rows PySem.Builtin PySem.Builtin.Dict
theorem pairs_len {P : Program} {w : World} : ∀ {es : List DictEntry} {kvs : List (Key × Value)}, Pairs (mixKind P w) es kvs → es.length = kvs.length
  | _, _, .nil => rfl
  | _, _, .cons _ _ r => by simp [pairs_len r]
theorem find_str {prog : Program} {w : World} {A : Around} {E : Value → Shared → Prop} {s : Shared} {d : Addr} {o : Obj} {es : Array DictEntry} {ep j : Nat} {x : Str} {t : Tok} {hs : Int} {Q : Option Nat → Shared → Prop} (ho : s.heap.get? d = some o) (hd : o.data = .dict es ep)
    (hall : ∀ e ∈ es, ∃ z t, e.key = Value.str z t) (hj : es.findIdx? (fun e => e.key.isStr x) = some j) (h : Q (some j) s) : wpAny (model prog w) A (dictFind d (.str x t) hs) Q E s := by
  obtain ⟨hjs, hjt, _⟩ := Array.findIdx?_eq_some_iff_getElem.mp hj
  have ha : (es.all fun e => isExactStrKey e.key) = true := by
    rw [Array.all_eq_true']
    intro e he
    obtain ⟨z, t, q⟩ := hall e he
    rw [q]
    rfl
  obtain ⟨z, tz, ez⟩ := hall es[j] (Array.getElem_mem hjs)
  have zx : z = x := by
    rw [ez] at hjt
    exact eq_of_beq hjt
  subst zx
  unfold dictFind
  refine wpAny_holding ?_
  refine wpAny_bind (wpAny_dictEntries ho hd ?_)
  dsimp only
  rw [if_pos ha]
  unfold foundByValue
  rw [hj]
  dsimp only
  rw [Array.getElem?_eq_getElem hjs]
  dsimp only
  rw [ez]
  refine wpAny_bind (wpAny_dictEpoch ho hd (wpAny_bind (wpAny_eqBool_str (wpAny_bind (wpAny_dictEpoch ho hd ?_)))))
  rw [if_neg (by simp), if_pos (by simp)]
  exact wpAny_bind (wpAny_rule (wpAny_pure h))
section
variable {A : Around} {s : Shared} {P : Program} {w : World}
/-- two dicts, each key of the one in the other, the values equal -/
theorem eqAt_dicts {a b : Addr} {kvs kws : List (Key × Value)} (da : s.heap.DictOf (mixKind P w) a kvs) (db : s.heap.DictOf (mixKind P w) b kws) (na : (a == sysModules) = false) (nb : (b == sysModules) = false) (hl : kvs.length = kws.length) (tx : ∀ (k : Key) (v : Value), (k, v) ∈ kws → ∃ x, k = .inr x)
    (he : ∀ (k : Key) (v : Value), (k, v) ∈ kvs → ∃ v', (k, v') ∈ kws ∧ SeqAt.EqAt A.in1 s v v' true) (hu : A.units < cLine) : SeqAt.EqAt A s (.ref a) (.ref b) true := by
  by_cases hab : a = b
  · rw [hab]
    exact SeqAt.EqAt.same _
  refine SeqAt.EqAt.of_refs hab fun prog w' E Q hq => ?_
  obtain ⟨oa, es, ep, ha, xa, dda, ka, pa, nda⟩ := da
  obtain ⟨ob, fs, fp, hb, xb, ddb, kb, pb, ndb⟩ := db
  have Ta : s.TypeIs (.ref a) "dict" := ⟨oa, ha, xa.1⟩
  have Tb : s.TypeIs (.ref b) "dict" := ⟨ob, hb, xb.1⟩
  have la : es.size = kvs.length := by have := pairs_len pa; simpa using this
  have lb : fs.size = kws.length := by have := pairs_len pb; simpa using this
  have kb' : ∀ e ∈ fs, ∃ z t, e.key = Value.str z t := fun e he' => by
    obtain ⟨m, hm, rfl⟩ := Array.mem_iff_getElem.mp he'
    obtain ⟨⟨k, v⟩, hk⟩ : ∃ kv, kws[m]? = some kv := ⟨_, List.getElem?_eq_getElem (by omega)⟩
    obtain ⟨g1, _⟩ := pb.get? (i := m) (e := fs[m]) (by simp [hm]) hk
    obtain ⟨x, rfl⟩ := tx k v (List.mem_of_getElem? hk)
    rcases keyIs_shape (k := .inr x) (v := fs[m].key) g1 with ⟨i, t, q, _⟩ | ⟨z, t, q, q2⟩
    · cases q
    · exact ⟨z, t, q2⟩
  refine wpAny_richCompare_same_room Ta Tb F.slot_dict_eq (wpAny_call_entry F.slot_dict_eq Ta F.entry_dict_eq ?_ (F.args_dict_eq_2 _ _)) hu
  rw [dict_eq_tree]
  refine wpAny_bind ?_
  show wpAny _ _ (pure (Value.ref a, Value.ref b)) _ _ _
  refine wpAny_pure ?_
  dsimp only
  refine wpAny_bind (wpAny_isInstance (T := "dict") (b := true) Tb sub_dict_dict ?_)
  simp only [Bool.not_true, Bool.false_eq_true, if_false]
  refine wpAny_bind (wpAny_pure (wpAny_bind (wpAny_pure (wpAny_bind (same_pairs ha dda hb ddb na nb (by omega) (fun i e ei => ?_) ?_)))))
  · have hi : i < es.size := (Array.getElem?_eq_some_iff.mp ei).1
    obtain ⟨⟨k, v⟩, hk⟩ : ∃ kv, kvs[i]? = some kv := ⟨_, List.getElem?_eq_getElem (by omega)⟩
    obtain ⟨g1, g2⟩ := pa.get? (i := i) (e := e) (by simpa using ei) hk
    obtain ⟨k2, g3, g4⟩ := ka e (Array.mem_of_getElem? ei)
    have ek : k2 = k := (mixKind P w).inj _ _ _ g3 g1
    subst ek
    obtain ⟨v', hv', eq⟩ := he k2 v (List.mem_of_getElem? hk)
    obtain ⟨x, rfl⟩ := tx k2 v' hv'
    obtain ⟨t0, ek0⟩ : ∃ t, e.key = Value.str x t := by
      rcases keyIs_shape (k := .inr x) (v := e.key) g1 with ⟨i, t, q, _⟩ | ⟨z, t, q, q2⟩
      · cases q
      · cases q
        exact ⟨t, q2⟩
    obtain ⟨m, hm⟩ := List.getElem?_of_mem hv'
    have hm' : m < fs.size := by have := (List.getElem?_eq_some_iff.mp hm).1; omega
    have em : fs.toList[m]? = some fs[m] := by simp [hm']
    obtain ⟨q1, q2⟩ := pb.get? em hm
    obtain ⟨j, hj⟩ : ∃ j, fs.findIdx? (fun e => e.key.isStr x) = some j := by
      cases z : fs.findIdx? (fun e => e.key.isStr x) with
      | some j => exact ⟨j, rfl⟩
      | none =>
        have := Array.findIdx?_eq_none_iff.mp z fs[m] (Array.getElem_mem hm')
        have q1' : fs[m].key.isStr x = true := by
          rcases keyIs_shape (k := .inr x) (v := fs[m].key) q1 with ⟨i, t, q, _⟩ | ⟨z, t, q, q2⟩
          · cases q
          · cases q
            rw [q2]
            exact beq_self_eq_true x
        rw [q1'] at this
        cases this
    obtain ⟨hjs, hjt, _⟩ := Array.findIdx?_eq_some_iff_getElem.mp hj
    obtain ⟨⟨k3, v3⟩, hk3⟩ : ∃ kv, kws[j]? = some kv := ⟨_, List.getElem?_eq_getElem (by omega)⟩
    obtain ⟨r1, r2⟩ := pb.get? (i := j) (e := fs[j]) (by simp [hjs]) hk3
    have hjk : (mixKind P w).is (.inr x) fs[j].key = true := by
      obtain ⟨z, t, q⟩ := kb' fs[j] (Array.getElem_mem hjs)
      rw [q] at hjt ⊢
      have zx : z = x := eq_of_beq hjt
      rw [zx]
      rw [(mixKind P w).strs (.inr x) x t0 _ (by rw [← ek0]; exact g1)]
      exact beq_self_eq_true x
    have e3 : k3 = .inr x := (mixKind P w).inj _ _ _ r1 hjk
    subst e3
    have jm : j = m := by
      have hj1 : (kws.map (·.1))[j]? = some (Sum.inr x) := by rw [List.getElem?_map, hk3]; rfl
      have hm1 : (kws.map (·.1))[m]? = some (Sum.inr x) := by rw [List.getElem?_map, hm]; rfl
      obtain ⟨x1, y1⟩ := List.getElem?_eq_some_iff.mp hj1
      obtain ⟨x2, y2⟩ := List.getElem?_eq_some_iff.mp hm1
      rcases Nat.lt_trichotomy j m with z | z | z
      · exact absurd (y1.trans y2.symm) (List.pairwise_iff_getElem.mp ndb j m x1 x2 z)
      · exact z
      · exact absurd (y2.trans y1.symm) (List.pairwise_iff_getElem.mp ndb m j x2 x1 z)
    subst jm
    rw [hm] at hk3
    cases hk3
    refine ⟨j, fs[j], by simp [hjs], fun R hR => ?_, fun R hR => ?_⟩
    · rw [ek0]
      exact find_str hb ddb kb' hj hR
    · rw [g2, r2]
      exact eq prog w' E R hR
  · exact wpAny_pure ⟨_, rfl, (fun z => nomatch z), hq⟩
end
end L2

/-! == AND != OF THINGS THAT ARE ALIKE ALL THE WAY DOWN (own work). -/
namespace L2
open PySem PySem.Spec PyProof.Rows
inductive Dq (H : Hp) : Nat → V → V → Prop
  | non {n : Nat} : Dq H n .non .non
  | bl {n : Nat} {b : Bool} : Dq H n (.bl b) (.bl b)
  | int {n : Nat} {i : Int} : Dq H n (.int i) (.int i)
  | str {n : Nat} {z : Str} : Dq H n (.str z) (.str z)
  | ref {n : Nat} {a : Addr} : Dq H n (.ref a) (.ref a)
  | tup {n : Nat} {a b : Addr} {xs ys : List V} (ha : H a = some (.tup xs)) (hb : H b = some (.tup ys)) (hl : xs.length = ys.length) (h : ∀ (i : Nat) (x y : V), xs[i]? = some x → ys[i]? = some y → Dq H n x y) : Dq H (n + 1) (.ref a) (.ref b)
  | lst {n : Nat} {a b : Addr} {xs ys : List V} (ha : H a = some (.lst xs)) (hb : H b = some (.lst ys)) (hl : xs.length = ys.length) (h : ∀ (i : Nat) (x y : V), xs[i]? = some x → ys[i]? = some y → Dq H n x y) : Dq H (n + 1) (.ref a) (.ref b)
  | dct {n : Nat} {a b : Addr} {kvs kws : List (Key × V)} (f : Key → V) (ha : Rd H a (.dK kvs)) (hb : Rd H b (.dK kws)) (hl : kvs.length = kws.length) (tx : ∀ (k : Key) (v : V), (k, v) ∈ kws → ∃ x, k = .inr x)
      (hf : ∀ (k : Key) (v : V), (k, v) ∈ kvs → (k, f k) ∈ kws) (h : ∀ (k : Key) (v : V), (k, v) ∈ kvs → Dq H n v (f k)) : Dq H (n + 1) (.ref a) (.ref b)
theorem kv_back : ∀ {kvs : List (Key × V)} {vs : List (Key × Value)} {k : Key} {u : Value} {i : Nat}, KV kvs vs → vs[i]? = some (k, u) → ∃ v, kvs[i]? = some (k, v) ∧ RelV v u
  | _, _, _, _, _, .nil, e => by simp at e
  | _, _, k, u, 0, .cons (a := p) r _, e => by
    simp at e
    subst e
    obtain ⟨p1, p2⟩ := p
    obtain ⟨r1, r2⟩ := r
    simp only at r1
    subst r1
    exact ⟨p2, rfl, r2⟩
  | _, _, k, u, i + 1, .cons _ t, e => by
    obtain ⟨v, h1, h2⟩ := kv_back (i := i) t (by simpa using e)
    exact ⟨v, by simpa using h1, h2⟩
section
variable {X : Cx} {pins : List (Addr × Obj)} {σ : St} {H : Hp} {s : Shared}
theorem eqAt_Dq (I : Inv X pins σ H s) {n : Nat} {x y : V} (d : Dq H n x y) : ∀ {u u' : Value} {A : Around}, RelV x u → RelV y u' → A.units + n < cLine → SeqAt.EqAt A s u u' true := by
  induction d with
  | non => intro u u' A r r' _; cases r; cases r'; exact SeqAt.EqAt.same _
  | bl => intro u u' A r r' _; cases r; cases r'; exact SeqAt.EqAt.same _
  | @int n i =>
    intro u u' A r r' _
    obtain ⟨t, rfl⟩ := r
    obtain ⟨t', rfl⟩ := r'
    have h := SeqAt.EqAt.int_int (A := A) (s := s) i t i t'
    rwa [beq_self_eq_true] at h
  | @str n z =>
    intro u u' A r r' _
    obtain ⟨t, rfl⟩ := r
    obtain ⟨t', rfl⟩ := r'
    have h := SeqAt.EqAt.str_str (A := A) (s := s) z t z t'
    rwa [beq_self_eq_true] at h
  | ref => intro u u' A r r' _; cases r; cases r'; exact SeqAt.EqAt.same _
  | @tup n a b xs ys ha hb hl h ih =>
    intro u u' A r r' hu
    cases r
    cases r'
    by_cases hab : a = b
    · rw [hab]; exact SeqAt.EqAt.same _
    obtain ⟨its, r1, pl, _⟩ := I.tuple (SqT.of (K := X.K) ha)
    obtain ⟨jts, r2, ql, _⟩ := I.tuple (SqT.of (K := X.K) hb)
    have l1 := r1.length
    have l2 := r2.length
    have h0 := SeqAt.RcAt.tuples (A := A) (e := fun _ => true) pl ql (by omega) (fun j g1 g2 => ?_)
    · have e : ((List.range (min its.toArray.size jts.toArray.size)).all (fun _ => true) && its.toArray.size == jts.toArray.size) = true := by
        simp
        omega
      rw [e] at h0
      exact SeqAt.EqAt.of_refs hab h0
    · have g1' : j < its.length := by simpa using g1
      have g2' : j < jts.length := by simpa using g2
      obtain ⟨u1, e1, k1⟩ := r1.get (i := j) (x := xs[j]'(by omega)) (by simp)
      obtain ⟨u2, e2, k2⟩ := r2.get (i := j) (x := ys[j]'(by omega)) (by simp)
      have w1 : its.toArray[j] = u1 := by have := (List.getElem?_eq_some_iff.mp e1).2; simpa using this
      have w2 : jts.toArray[j] = u2 := by have := (List.getElem?_eq_some_iff.mp e2).2; simpa using this
      rw [w1, w2]
      exact ih j _ _ (by simp) (by simp) k1 k2 (by show A.units + 1 + n < cLine; omega)
  | @lst n a b xs ys ha hb hl h ih =>
    intro u u' A r r' hu
    cases r
    cases r'
    by_cases hab : a = b
    · rw [hab]; exact SeqAt.EqAt.same _
    obtain ⟨its, r1, pl, _⟩ := I.list (xs := xs) (.inl (.inl ha))
    obtain ⟨jts, r2, ql, _⟩ := I.list (xs := ys) (.inl (.inl hb))
    have l1 := r1.length
    have l2 := r2.length
    have h0 := SeqAt.RcAt.lists (A := A) (e := fun _ => true) pl.isList ql.isList (by simp; omega) (by omega) (fun j g1 g2 => ?_)
    · have e : ((List.range its.toArray.size).all (fun _ => true)) = true := by simp
      rw [e] at h0
      exact SeqAt.EqAt.of_refs hab h0
    · have g1' : j < its.length := by simpa using g1
      have g2' : j < jts.length := by simpa using g2
      obtain ⟨u1, e1, k1⟩ := r1.get (i := j) (x := xs[j]'(by omega)) (by simp)
      obtain ⟨u2, e2, k2⟩ := r2.get (i := j) (x := ys[j]'(by omega)) (by simp)
      have w1 : its.toArray[j] = u1 := by have := (List.getElem?_eq_some_iff.mp e1).2; simpa using this
      have w2 : jts.toArray[j] = u2 := by have := (List.getElem?_eq_some_iff.mp e2).2; simpa using this
      rw [w1, w2]
      exact ih j _ _ (by simp) (by simp) k1 k2 (by show A.units + 1 + n < cLine; omega)
  | @dct n a b kvs kws f ha hb hl tx hf h ih =>
    intro u u' A r r' hu
    cases r
    cases r'
    obtain ⟨_, na, vs, kv, da⟩ := dk_rd I.hok ha
    obtain ⟨_, nb, ws, kw, db⟩ := dk_rd I.hok hb
    have l1 := kv.length
    have l2 := kw.length
    refine eqAt_dicts da db na nb (by omega) (fun k v hk => ?_) (fun k v hk => ?_) (by omega)
    · obtain ⟨i, hi⟩ := List.getElem?_of_mem hk
      obtain ⟨v0, e0, _⟩ := kv_back kw hi
      exact tx k v0 (List.mem_of_getElem? e0)
    · obtain ⟨i, hi⟩ := List.getElem?_of_mem hk
      obtain ⟨v0, e0, rv⟩ := kv_back kv hi
      have m0 := List.mem_of_getElem? e0
      obtain ⟨m, hm⟩ := List.getElem?_of_mem (hf k v0 m0)
      obtain ⟨u', e1, rv'⟩ := kv_get kw hm
      exact ⟨u', List.mem_of_getElem? e1, ih k v0 m0 rv rv' (by show A.units + 1 + n < cLine; omega)⟩
/-- == of two lists that are alike; != of them -/
theorem rc_lists {A : Around} (I : Inv X pins σ H s) {n : Nat} {a b : Addr} {xs ys : List V} (ha : SqL X.K H a xs) (hb : SqL X.K H b ys) (hl : xs.length = ys.length) (h : ∀ (i : Nat) (x y : V), xs[i]? = some x → ys[i]? = some y → Dq H n x y) (hu : A.units + n + 1 < cLine) :
    SeqAt.RcAt A s (.ref a) (.ref b) true ∧ SeqAt.RcNeAt A s (.ref a) (.ref b) false := by
  obtain ⟨its, r1, pl, _⟩ := I.list ha
  obtain ⟨jts, r2, ql, _⟩ := I.list hb
  have l1 := r1.length
  have l2 := r2.length
  have el : ∀ j (g1 : j < its.toArray.size) (g2 : j < jts.toArray.size), SeqAt.EqAt A.in1 s its.toArray[j] jts.toArray[j] true := fun j g1 g2 => by
    have g1' : j < its.length := by simpa using g1
    have g2' : j < jts.length := by simpa using g2
    obtain ⟨u1, e1, k1⟩ := r1.get (i := j) (x := xs[j]'(by omega)) (by simp)
    obtain ⟨u2, e2, k2⟩ := r2.get (i := j) (x := ys[j]'(by omega)) (by simp)
    have w1 : its.toArray[j] = u1 := by have := (List.getElem?_eq_some_iff.mp e1).2; simpa using this
    have w2 : jts.toArray[j] = u2 := by have := (List.getElem?_eq_some_iff.mp e2).2; simpa using this
    rw [w1, w2]
    exact eqAt_Dq I (h j _ _ (by simp) (by simp)) k1 k2 (by show A.units + 1 + n < cLine; omega)
  have e : ((List.range its.toArray.size).all (fun _ => true)) = true := by simp
  have h1 := SeqAt.RcAt.lists (A := A) (e := fun _ => true) pl.isList ql.isList (by simp; omega) (by omega) el
  have h2 := SeqAt.RcNeAt.lists (A := A) (e := fun _ => true) pl.isList ql.isList (by simp; omega) (by omega) el
  rw [e] at h1 h2
  exact ⟨h1, h2⟩
theorem op_neL : OpR X (compareOp .NotEq) (fun x y H Q => ∃ (n : Nat) (a b : Addr) (xs ys : List V), x = .ref a ∧ y = .ref b ∧ SqL X.K H a xs ∧ SqL X.K H b ys ∧ xs.length = ys.length ∧ (∀ (i : Nat) (x y : V), xs[i]? = some x → ys[i]? = some y → Dq H n x y) ∧ X.A.units + n + 1 < cLine ∧ Q (.bl false) H) := by
  intro pins s σ H x y v u Q I rx ry h
  obtain ⟨n, a, b, xs, ys, rfl, rfl, ha, hb, hl, hd, hu, q⟩ := h
  cases rx
  cases ry
  exact (rc_lists I ha hb hl hd hu).2 X.prog X.w X.xe _ ⟨.bl false, H, I, rfl, q⟩
end
end L2

/-! != OF LISTS OF TEXTS, != OF TWO DICTS THAT ARE ALIKE (own work). -/
namespace L2
open PySem PySem.Spec PyProof.Rows PySem.Builtin PySem.Builtin.Dict
section
variable {X : Cx}
end
theorem dict_ne_tree (a b : Value) : Builtin.«dict.__ne__» ⟨[a, b], []⟩ = (do
    let (self, other) ← dictSlotArgs "__ne__" ⟨[a, b], []⟩
    if !(← isInstance other (.type "dict")) then rule s!"dict.{("__ne__" : String)}.not-a-dict"; return ← ret .notImplemented
    ret (.bool ((← Dict.samePairs s!"dict.{("__ne__" : String)}" (← addrOf self) (← addrOf other)) == false))) := rfl
section
variable {A : Around} {s : Shared} {P : Program} {w : World}
/-- two dicts, each key of the one in the other, the values equal -/
theorem rcNe_dicts {a b : Addr} {kvs kws : List (Key × Value)} (da : s.heap.DictOf (mixKind P w) a kvs) (db : s.heap.DictOf (mixKind P w) b kws) (na : (a == sysModules) = false) (nb : (b == sysModules) = false) (hl : kvs.length = kws.length) (tx : ∀ (k : Key) (v : Value), (k, v) ∈ kws → ∃ x, k = .inr x)
    (he : ∀ (k : Key) (v : Value), (k, v) ∈ kvs → ∃ v', (k, v') ∈ kws ∧ SeqAt.EqAt A.in1 s v v' true) (hu : A.units < cLine) : SeqAt.RcNeAt A s (.ref a) (.ref b) false := fun prog w' E Q hq => by
  obtain ⟨oa, es, ep, ha, xa, dda, ka, pa, nda⟩ := da
  obtain ⟨ob, fs, fp, hb, xb, ddb, kb, pb, ndb⟩ := db
  have Ta : s.TypeIs (.ref a) "dict" := ⟨oa, ha, xa.1⟩
  have Tb : s.TypeIs (.ref b) "dict" := ⟨ob, hb, xb.1⟩
  have la : es.size = kvs.length := by have := pairs_len pa; simpa using this
  have lb : fs.size = kws.length := by have := pairs_len pb; simpa using this
  have kb' : ∀ e ∈ fs, ∃ z t, e.key = Value.str z t := fun e he' => by
    obtain ⟨m, hm, rfl⟩ := Array.mem_iff_getElem.mp he'
    obtain ⟨⟨k, v⟩, hk⟩ : ∃ kv, kws[m]? = some kv := ⟨_, List.getElem?_eq_getElem (by omega)⟩
    obtain ⟨g1, _⟩ := pb.get? (i := m) (e := fs[m]) (by simp [hm]) hk
    obtain ⟨x, rfl⟩ := tx k v (List.mem_of_getElem? hk)
    rcases keyIs_shape (k := .inr x) (v := fs[m].key) g1 with ⟨i, t, q, _⟩ | ⟨z, t, q, q2⟩
    · cases q
    · exact ⟨z, t, q2⟩
  refine wpAny_richCompare_same_room Ta Tb F.slot_dict_ne (wpAny_call_entry F.slot_dict_ne Ta F.entry_dict_ne ?_ (F.args_dict_ne_2 _ _)) hu
  rw [dict_ne_tree]
  refine wpAny_bind ?_
  show wpAny _ _ (pure (Value.ref a, Value.ref b)) _ _ _
  refine wpAny_pure ?_
  dsimp only
  refine wpAny_bind (wpAny_isInstance (T := "dict") (b := true) Tb sub_dict_dict ?_)
  simp only [Bool.not_true, Bool.false_eq_true, if_false]
  refine wpAny_bind (wpAny_pure (wpAny_bind (wpAny_pure (wpAny_bind (same_pairs ha dda hb ddb na nb (by omega) (fun i e ei => ?_) ?_)))))
  · have hi : i < es.size := (Array.getElem?_eq_some_iff.mp ei).1
    obtain ⟨⟨k, v⟩, hk⟩ : ∃ kv, kvs[i]? = some kv := ⟨_, List.getElem?_eq_getElem (by omega)⟩
    obtain ⟨g1, g2⟩ := pa.get? (i := i) (e := e) (by simpa using ei) hk
    obtain ⟨k2, g3, g4⟩ := ka e (Array.mem_of_getElem? ei)
    have ek : k2 = k := (mixKind P w).inj _ _ _ g3 g1
    subst ek
    obtain ⟨v', hv', eq⟩ := he k2 v (List.mem_of_getElem? hk)
    obtain ⟨x, rfl⟩ := tx k2 v' hv'
    obtain ⟨t0, ek0⟩ : ∃ t, e.key = Value.str x t := by
      rcases keyIs_shape (k := .inr x) (v := e.key) g1 with ⟨i, t, q, _⟩ | ⟨z, t, q, q2⟩
      · cases q
      · cases q
        exact ⟨t, q2⟩
    obtain ⟨m, hm⟩ := List.getElem?_of_mem hv'
    have hm' : m < fs.size := by have := (List.getElem?_eq_some_iff.mp hm).1; omega
    have em : fs.toList[m]? = some fs[m] := by simp [hm']
    obtain ⟨q1, q2⟩ := pb.get? em hm
    obtain ⟨j, hj⟩ : ∃ j, fs.findIdx? (fun e => e.key.isStr x) = some j := by
      cases z : fs.findIdx? (fun e => e.key.isStr x) with
      | some j => exact ⟨j, rfl⟩
      | none =>
        have := Array.findIdx?_eq_none_iff.mp z fs[m] (Array.getElem_mem hm')
        have q1' : fs[m].key.isStr x = true := by
          rcases keyIs_shape (k := .inr x) (v := fs[m].key) q1 with ⟨i, t, q, _⟩ | ⟨z, t, q, q2⟩
          · cases q
          · cases q
            rw [q2]
            exact beq_self_eq_true x
        rw [q1'] at this
        cases this
    obtain ⟨hjs, hjt, _⟩ := Array.findIdx?_eq_some_iff_getElem.mp hj
    obtain ⟨⟨k3, v3⟩, hk3⟩ : ∃ kv, kws[j]? = some kv := ⟨_, List.getElem?_eq_getElem (by omega)⟩
    obtain ⟨r1, r2⟩ := pb.get? (i := j) (e := fs[j]) (by simp [hjs]) hk3
    have hjk : (mixKind P w).is (.inr x) fs[j].key = true := by
      obtain ⟨z, t, q⟩ := kb' fs[j] (Array.getElem_mem hjs)
      rw [q] at hjt ⊢
      have zx : z = x := eq_of_beq hjt
      rw [zx]
      rw [(mixKind P w).strs (.inr x) x t0 _ (by rw [← ek0]; exact g1)]
      exact beq_self_eq_true x
    have e3 : k3 = .inr x := (mixKind P w).inj _ _ _ r1 hjk
    subst e3
    have jm : j = m := by
      have hj1 : (kws.map (·.1))[j]? = some (Sum.inr x) := by rw [List.getElem?_map, hk3]; rfl
      have hm1 : (kws.map (·.1))[m]? = some (Sum.inr x) := by rw [List.getElem?_map, hm]; rfl
      obtain ⟨x1, y1⟩ := List.getElem?_eq_some_iff.mp hj1
      obtain ⟨x2, y2⟩ := List.getElem?_eq_some_iff.mp hm1
      rcases Nat.lt_trichotomy j m with z | z | z
      · exact absurd (y1.trans y2.symm) (List.pairwise_iff_getElem.mp ndb j m x1 x2 z)
      · exact z
      · exact absurd (y2.trans y1.symm) (List.pairwise_iff_getElem.mp ndb m j x2 x1 z)
    subst jm
    rw [hm] at hk3
    cases hk3
    refine ⟨j, fs[j], by simp [hjs], fun R hR => ?_, fun R hR => ?_⟩
    · rw [ek0]
      exact find_str hb ddb kb' hj hR
    · rw [g2, r2]
      exact eq prog w' E R hR
  · exact wpAny_pure ⟨_, rfl, (fun z => nomatch z), hq⟩
end
section
variable {X : Cx}
/-- != of two dicts with text keys and the same values at the same keys -/
theorem op_neDD : OpR X (compareOp .NotEq) (fun x y H Q => ∃ (n : Nat) (a b : Addr) (kvs kws : List (Key × V)), x = .ref a ∧ y = .ref b ∧ Rd H a (.dK kvs) ∧ Rd H b (.dK kws) ∧ kvs.length = kws.length ∧ (∀ (k : Key) (v : V), (k, v) ∈ kws → ∃ z, k = .inr z) ∧ (∀ (k : Key) (v : V), (k, v) ∈ kvs → ∃ v', (k, v') ∈ kws ∧ Dq H n v v') ∧ X.A.units + n + 1 < cLine ∧ Q (.bl false) H) := by
  intro pins s σ H x y v u Q I rx ry h
  obtain ⟨n, a, b, kvs, kws, rfl, rfl, ha, hb, hl, tx, hf, hu, q⟩ := h
  cases rx
  cases ry
  obtain ⟨_, na, vs, kv, da⟩ := dk_rd I.hok ha
  obtain ⟨_, nb, ws, kw, db⟩ := dk_rd I.hok hb
  have l1 := kv.length
  have l2 := kw.length
  have hh := rcNe_dicts (A := X.A) da db na nb (by omega) (fun k v hk => by
    obtain ⟨i, hi⟩ := List.getElem?_of_mem hk
    obtain ⟨v0, e0, _⟩ := kv_back kw hi
    exact tx k v0 (List.mem_of_getElem? e0)) (fun k v hk => by
    obtain ⟨i, hi⟩ := List.getElem?_of_mem hk
    obtain ⟨v0, e0, rv⟩ := kv_back kv hi
    have m0 := List.mem_of_getElem? e0
    obtain ⟨v', hm', dq⟩ := hf k v0 m0
    obtain ⟨m, hm⟩ := List.getElem?_of_mem hm'
    obtain ⟨u', e1, rv'⟩ := kv_get kw hm
    exact ⟨u', List.mem_of_getElem? e1, eqAt_Dq I dq rv rv' (by show X.A.units + 1 + n < cLine; omega)⟩) (by omega)
  exact hh X.prog X.w X.xe _ ⟨.bl false, H, I, rfl, q⟩
end
end L2

/-! dict(A TUPLE OF PAIRS) (own work). -/
namespace L2
open PySem PySem.Spec PyProof.Rows PySem.Builtin PySem.Builtin.Dict
theorem tup_no_keys : typeLookup (.type "tuple") "keys" = pure none := am_miss_of_fast (by decide +kernel)
theorem miss_keys {prog : Program} {w : World} {A : Around} {E : Value → Shared → Prop} {s : Shared} {a : Addr} {o : Obj} {xs : Array Value} {k : Nat} {Q : Option Value → Shared → Prop}
    (hx : s.heap.get? a = some o) (hc : o.cls = .type "tuple") (hdat : o.data = .seq xs k) (hd : o.dict = none) (hA : A.handled = none)
    (h : ∀ h' tk, (∀ b ob, s.heap.get? b = some ob → h'.get? b = some ob) → Q none { s with heap := h', toks := tk }) : wpAny (model prog w) A (getAttr? (.ref a) "keys") Q E s := by
  obtain ⟨c, dct, dat, sl⟩ := o
  simp only at hc hdat hd
  subst hc hdat hd
  obtain ⟨hp, g, d, tk, os⟩ := s
  have hT : ∀ tk', (⟨hp, g, d, tk', os⟩ : Shared).TypeIs (.ref a) "tuple" := fun _ => ⟨_, hx, rfl⟩
  have f1 := sub_AttributeError
  have f3 := F.slot_tuple_getattribute.lookup
  have f4 := F.slot_tuple_getattribute.bind (.ref a)
  have f5 := am_tuple_getattr_none
  unfold getAttr? getAttrBy? getAttrBy
  repeat (any_goals (first | assumption | exact hT _ | ((with_reducible show wpAny _ _ (call (Value.builtin "tuple.__getattribute__") _ _) _ _ _); refine call_meets F.slot_tuple_getattribute (hT _) am_entry_tuple_getattribute (F.args_tuple_getattribute_2 _ _) (meets_getattribute_miss_tuple a xs k sl "keys" _ tup_no_keys (by decide +kernel) (by size_fits)) ⟨hx, hA, fun h' tk' e hx' => ?_⟩) | wp_step))
  obtain ⟨t', u', he⟩ := hx'.there
  show wpAny _ _ (getattributeRaised _ _ _ _ _ _ _) _ _ _
  unfold getattributeRaised
  repeat (any_goals (first | assumption | wp_step))
  exact h _ _ hx'.keeps
theorem entry_upd_loop : entryFor table "dict.update.loop" = some Builtin.«dict.update.loop» := entryFor_of_tree (by kernel_rfl)
section
variable {prog : Program} {w : World} {A : Around} {R : Result → Shared → Prop}
/-- the pairs, one by one -/
theorem upd_loop {h0 : Heap} {d it t : Addr} {items : Array Value} {ps : List (Key × Value)} (hh : A.handled = none) (ht : h0.IsTuple t items) (tne : t ≠ it ∧ t ≠ d) (idne : it ≠ d) (hl : ps.length = items.size) (hz : items.size ≤ 1000)
    (hp : ∀ (j : Nat) (k : Key) (v : Value), ps[j]? = some (k, v) → ∃ a o key n, items[j]? = some (.ref a) ∧ h0.get? a = some o ∧ o.cls = .type "tuple" ∧ o.data = .seq #[key, v] n ∧ (mixKind prog w).is k key = true ∧ a ≠ it ∧ a ≠ d)
    (nd : (ps.map (·.1)).Nodup) : ∀ (m i : Nat) (tk : Tok) (s : Shared), i + m = items.size → s.heap.IsTupleIter it t i → s.heap.DictOf (mixKind prog w) d (ps.take i) → (∀ b o, b ≠ it → b ≠ d → h0.get? b = some o → s.heap.get? b = some o) →
    (∀ (h' : Heap) (k : Nat), h'.DictOf (mixKind prog w) d ps → (∀ b o, b ≠ it → b ≠ d → h0.get? b = some o → h'.get? b = some o) → R (.ok (.ret .none)) { s with heap := h', toks := k }) →
    codeAny (model prog w) A (.builtin "dict.update.loop" ⟨[.ref d, .ref it, .int i tk, .none], []⟩) R s
  | 0, i, tk, s, hi, hit, hd, kp, hq => by
    refine codeAny_builtin entry_upd_loop ?_
    unfold Builtin.«dict.update.loop»
    dsimp only
    obtain ⟨o, ho, hc, n, hdt⟩ := id ht
    refine wpAny_bind (wpAny_pyNext_tuple_end (items := items) hh hit ⟨o, kp t o tne.1 tne.2 ho, hc, n, hdt⟩ (by rw [Array.getElem?_eq_none (by omega)]) fun h' ex => ?_)
    dsimp only
    refine wpAny_bind (wpAny_pure (wpAny_pure ?_))
    have e : ps.take i = ps := List.take_of_length_le (by omega)
    rw [e] at hd
    exact hq h' s.toks (hd.extBut ex idne.symm) fun b o hb1 hb2 q => ex b o hb1 (kp b o hb1 hb2 q)
  | m + 1, i, tk, s, hi, hit, hd, kp, hq => by
    refine codeAny_builtin entry_upd_loop ?_
    unfold Builtin.«dict.update.loop»
    dsimp only
    obtain ⟨o, ho, hc, n, hdt⟩ := id ht
    obtain ⟨⟨k, v⟩, hk⟩ : ∃ kv, ps[i]? = some kv := ⟨_, List.getElem?_eq_getElem (by omega)⟩
    obtain ⟨a, oa, key, na, e1, e2, e3, e4, e5, e6, e7⟩ := hp i k v hk
    refine wpAny_bind (wpAny_pyNext_tuple_item (items := items) hit ⟨o, kp t o tne.1 tne.2 ho, hc, n, hdt⟩ e1 fun h1 it1 sb => ?_)
    dsimp only
    have ha1 : h1.get? a = some oa := (sb.2 a e6).trans (kp a oa e6 e7 e2)
    have hd1 : h1.DictOf (mixKind prog w) d (ps.take i) := by
      obtain ⟨od, es, ep, g, r⟩ := hd
      exact ⟨od, es, ep, (sb.2 d idne.symm).trans g, r⟩
    refine wpAny_bind (wpAny_holding (wpAny_bind (wpAny_tryCatch ?_)))
    unfold Dict.pairItems
    refine wpAny_bind (wpAny_typeOf (T := "tuple") ⟨oa, ha1, e3⟩ ?_)
    rw [if_pos (by decide)]
    refine wpAny_bind (wpAny_seqItems ha1 e4 (wpAny_pure ?_))
    show wpAny _ _ (holding [key, v] (dictSet d key v)) _ _ _
    refine wpAny_holding (wpAny_dictSet_pairs (knd := mixKind prog w) (k := k) e5 hd1 (fun h2 hd2 sb2 => ?_) (by rw [List.length_take, sizeLine_eq]; omega))
    refine wpAny_pure ⟨Code.quiet_builtin _ (by decide +kernel), ?_⟩
    have es : stored (ps.take i) k v = ps.take (i + 1) := by
      have no : ((ps.take i).any fun kv => decide (kv.1 = k)) = false := by
        rw [List.any_eq_false]
        intro kv hkv
        rw [decide_eq_true_iff]
        intro ek
        obtain ⟨j, hj, ej⟩ := List.mem_take_iff_getElem.mp hkv
        have hj2 : j < ps.length := by omega
        have hij : j < i := by omega
        have hi2 : i < ps.length := by omega
        have ei : ps[i] = (k, v) := (List.getElem?_eq_some_iff.mp hk).2
        refine List.pairwise_iff_getElem.mp nd j i (by simpa using hj2) (by simpa using hi2) hij ?_
        rw [List.getElem_map, List.getElem_map, ej, ei, ek]
      unfold stored
      rw [if_neg (by rw [no]; decide), List.take_add_one, hk]
      rfl
    rw [es] at hd2
    exact upd_loop hh ht tne idne hl hz hp nd m (i + 1) _ _ (by omega) (by
      obtain ⟨oi, g1, g2⟩ := it1
      exact ⟨oi, (sb2.2 it idne).trans g1, g2⟩) hd2 (fun b o hb1 hb2 q => (sb2.2 b hb2).trans ((sb.2 b hb1).trans (kp b o hb1 hb2 q))) fun h' k' x y => hq h' k' x y
end
theorem pick {α β : Type} : ∀ (l : List α) (P : Nat → α → β → Prop), (∀ (j : Nat) (x : α), l[j]? = some x → ∃ u, P j x u) → ∃ us : List β, us.length = l.length ∧ ∀ (j : Nat) (x : α), l[j]? = some x → ∃ u, us[j]? = some u ∧ P j x u
  | [], _, _ => ⟨[], rfl, fun j x e => by simp at e⟩
  | y :: l, P, h => by
    obtain ⟨u, hu⟩ := h 0 y rfl
    obtain ⟨us, hl, hs⟩ := pick l (fun j => P (j + 1)) fun j x e => h (j + 1) x (by simpa using e)
    refine ⟨u :: us, by simp [hl], fun j x e => ?_⟩
    cases j with
    | zero =>
      simp at e
      subst e
      exact ⟨u, rfl, hu⟩
    | succ j =>
      obtain ⟨v, h1, h2⟩ := hs j x (by simpa using e)
      exact ⟨v, by simpa using h1, h2⟩
theorem kv_of : ∀ {kvs : List (Key × V)} {ps : List (Key × Value)}, ps.length = kvs.length → (∀ (j : Nat) (k : Key) (v : V), kvs[j]? = some (k, v) → ∃ u, ps[j]? = some (k, u) ∧ RelV v u) → KV kvs ps
  | [], [], _, _ => .nil
  | [], _ :: _, h, _ => by simp at h
  | _ :: _, [], h, _ => by simp at h
  | (k, v) :: kvs, (k', u') :: ps, h, f => by
    obtain ⟨u, e, r⟩ := f 0 k v rfl
    simp at e
    obtain ⟨rfl, rfl⟩ := e
    exact .cons ⟨rfl, r⟩ (kv_of (by simpa using h) fun j k v e => f (j + 1) k v (by simpa using e))
end L2

/-! dict(A TUPLE OF PAIRS), THE CALL (own work). -/
namespace L2
open PySem PySem.Spec PyProof.Rows PySem.Builtin PySem.Builtin.Dict
section
variable {X : Cx}
theorem call_dictT (hc : X.calm = true) : CallR X (.type "dict") (fun xs H Q => ∃ (t : Addr) (o : Obj) (ys : List V) (kvs : List (Key × V)), xs = [.ref t] ∧ H t = some (.frz o (.tup ys)) ∧ o.dict = none ∧ ys.length ≤ 1000 ∧ kvs.length = ys.length ∧
    (∀ (j : Nat) (k : Key) (v : V), kvs[j]? = some (k, v) → ∃ a, ys[j]? = some (.ref a) ∧ SqT X.K H a [kV k, v]) ∧ (kvs.map (·.1)).Nodup ∧ ∀ p, H p = none → Q (.ref p) (upd H p (.dK kvs))) := by
  intro pins s σ H xs us Q I r h
  obtain ⟨t, o, ys, kvs, rfl, ht, hod, hys, hkl, hp, nd, q⟩ := h
  obtain ⟨u, rfl, rx⟩ := vals1 r
  cases rx
  obtain ⟨g, hz, its, r', tp⟩ := I.hok t _ ht
  obtain ⟨o', g', hcl, n, hdat⟩ := tp
  rw [g] at g'
  cases g'
  have hlen := r'.length
  have hh := I.ok.hd hc
  -- the pairs as values
  have hpk : ∃ ps : List (Key × Value), ps.length = kvs.length ∧ ∀ (j : Nat) (kv : Key × V), kvs[j]? = some kv → ∃ u, ps[j]? = some u ∧ (u.1 = kv.1 ∧ RelV kv.2 u.2 ∧ ∃ a oa key na, its[j]? = some (.ref a) ∧ s.heap.get? a = some oa ∧ oa.cls = .type "tuple" ∧ oa.data = .seq #[key, u.2] na ∧ (mixKind X.prog X.w).is kv.1 key = true) := by
    refine pick kvs (fun (j : Nat) (kv : Key × V) (u : Key × Value) => u.1 = kv.1 ∧ RelV kv.2 u.2 ∧ ∃ a oa key na, its[j]? = some (.ref a) ∧ s.heap.get? a = some oa ∧ oa.cls = .type "tuple" ∧ oa.data = .seq #[key, u.2] na ∧ (mixKind X.prog X.w).is kv.1 key = true) fun j kv hj => ?_
    obtain ⟨k, v⟩ := kv
    obtain ⟨a, ea, sq⟩ := hp j k v hj
    obtain ⟨jts, rj, pj, _⟩ := I.tuple sq
    cases rj with
    | @cons _ j1 _ jr rk rr => cases rr with
      | @cons _ j2 _ jr2 rv rr2 =>
        cases rr2
        obtain ⟨oa, ga, ca, na, da⟩ := pj
        refine ⟨(k, j2), rfl, rv, a, oa, j1, na, ?_, ga, ca, da, kV_is rk⟩
        obtain ⟨w, ew, rw1⟩ := Vals.get r' ea
        cases rw1
        exact ew
  obtain ⟨ps, hpl, hps⟩ := hpk
  have gt : s.heap.get? t = some o := g
  have tlt : t < s.heap.objs.size := Heap.lt_size gt
  refine callType_codes (Q₁ := fun obj s₁ => obj = .ref s.heap.objs.size ∧ s₁ = { s with heap := s.heap.push { cls := .type "dict", data := .dict #[] } }) F.kt_called_dict (F.kt_typeCall_dict_1 _) F.entry_dict_init (kt_code_dict_new _ ⟨rfl, rfl⟩) ?_
  rintro obj s₁ ⟨rfl, rfl⟩
  have hnew : (s.heap.push { cls := .type "dict", data := .dict #[] }).DictOf (mixKind X.prog X.w) s.heap.objs.size [] := Heap.DictOf.new s.heap
  have gt1 : (s.heap.push { cls := .type "dict", data := .dict #[] }).get? t = some o := Heap.get?_push_of_some _ gt
  refine ⟨hnew.typeIs, F.args_dict_init_2 _ _, ?_⟩
  unfold Builtin.«dict.__init__»
  refine wpAny_bind ?_
  unfold Builtin.Dict.selfAndRest
  refine wpAny_bind (wpAny_notOrdered_dict hnew.typeIs ?_)
  show wpAny _ _ (pure (s.heap.objs.size, [Value.ref t])) _ _ _
  refine wpAny_pure ?_
  show wpAny _ _ (Builtin.Dict.updateFrom "dict.__init__" s.heap.objs.size (.ref t) [] .none) _ _ _
  unfold Builtin.Dict.updateFrom
  refine wpAny_bind (wpAny_typeOf (T := "tuple") ⟨o, gt1, hcl⟩ ?_)
  rw [if_pos (by decide)]
  refine wpAny_bind (miss_keys (o := o) (xs := its.toArray) (k := n) gt1 hcl hdat hod hh fun h1 tk1 kp1 => ?_)
  rw [if_pos (show (none : Option Value).isNone = true from rfl)]
  have kp : ∀ b ob, s.heap.get? b = some ob → h1.get? b = some ob := fun b ob e => kp1 b ob (Heap.get?_push_of_some _ e)
  have gt2 := kp t o gt
  have gd2 : h1.get? s.heap.objs.size = some { cls := .type "dict", data := .dict #[] } := kp1 _ _ (Heap.get?_push_size _ rfl)
  have dlt : s.heap.objs.size < h1.objs.size := Heap.lt_size gd2
  have dd1 : h1.DictOf (mixKind X.prog X.w) s.heap.objs.size [] := by
    obtain ⟨od, es, ep, gg, rr⟩ := hnew
    exact ⟨od, es, ep, kp1 _ _ gg, rr⟩
  refine wpAny_bind (wpAny_rule ?_)
  refine wpAny_bind (wpAny_pyIter_tuple (items := its.toArray) ⟨o, gt2, hcl, n, hdat⟩ ?_)
  refine wpAny_pure ⟨Code.quiet_builtin _ (by decide +kernel), ?_⟩
  have epl : ps.length = its.toArray.size := by simp; omega
  have fsts : ps.map (·.1) = kvs.map (·.1) := by
    refine List.ext_getElem (by simp [hpl]) fun j h1 h2 => ?_
    rw [List.getElem_map, List.getElem_map]
    rw [List.length_map] at h1 h2
    obtain ⟨u, eu, e1, _⟩ := hps j kvs[j] (List.getElem?_eq_getElem h2)
    rw [List.getElem?_eq_getElem h1] at eu
    cases eu
    exact e1
  refine upd_loop (A := X.A.in1) (ps := ps) (items := its.toArray) (h0 := h1.push { cls := .type "tuple_iterator", data := .fields #[.ref t, .int 0 0] }) (t := t) (d := s.heap.objs.size) (it := h1.objs.size) (show X.A.in1.handled = none from hh) ⟨o, Heap.get?_push_of_some _ gt2, hcl, n, hdat⟩ ⟨Nat.ne_of_lt (Nat.lt_trans tlt dlt), Nat.ne_of_lt tlt⟩ (Nat.ne_of_gt dlt) epl (by rw [← epl, hpl, hkl]; exact hys) (fun j k v hj => ?_) (by rw [fsts]; exact nd) its.toArray.size 0 _ { s with heap := h1.push { cls := .type "tuple_iterator", data := .fields #[.ref t, .int 0 0] }, toks := tk1 } (by omega) ⟨_, Heap.get?_push_size _ rfl, rfl, rfl⟩ (dd1.push _) (fun b o _ _ e => e) (fun h2 k2 dd2 kp2 => ?_)
  · have hjl : j < kvs.length := by
      have := (List.getElem?_eq_some_iff.mp hj).1
      omega
    obtain ⟨u, eu, e1, e2, a, oa, key, na, e3, e4, e5, e6, e7⟩ := hps j kvs[j] (List.getElem?_eq_getElem hjl)
    rw [hj] at eu
    cases eu
    have alt := Heap.lt_size e4
    refine ⟨a, oa, key, na, by simpa using e3, Heap.get?_push_of_some _ (kp a oa e4), e5, e6, ?_, Nat.ne_of_lt (Nat.lt_trans alt dlt), Nat.ne_of_lt alt⟩
    rw [show k = kvs[j].1 from e1]
    exact e7
  · refine ⟨rfl, .ref s.heap.objs.size, _, ?_, rfl, q s.heap.objs.size (I.hok.fresh (Nat.le_refl _))⟩
    have rel : KV kvs ps := kv_of hpl fun j k v e => by
      obtain ⟨u, eu, e1, e2, _⟩ := hps j (k, v) e
      obtain ⟨u1, u2⟩ := u
      cases (show u1 = k from e1)
      exact ⟨u2, eu, e2⟩
    refine I.laid (a := s.heap.objs.size) (o := .dK kvs) (fun b qo hb => ?_) (Nat.le_refl _) (dk_new (by rw [sizeLine_eq]; omega) (beq_eq_false_iff_ne.mpr (Ne.symm (Nat.ne_of_lt I.big))) rel dd2)
    have blt := Heap.lt_size hb
    exact kp2 b qo (Nat.ne_of_lt (Nat.lt_trans blt dlt)) (Nat.ne_of_lt blt) (Heap.get?_push_of_some _ (kp b qo hb))
end
end L2

/-! SETS OF TEXTS (own work). -/
namespace L2
open PySem PySem.Spec PyProof.Rows
section
variable {P : Program} {w : World} {A : Around} {E : Value → Shared → Prop} {s : Shared} {a : Addr}
end
end L2

/-! SETS OF TEXTS (own work): the layer's rule for set(a dict). -/
namespace L2
open PySem PySem.Spec PyProof.Rows
section
variable {X : Cx}
end
end L2

/-! SETS OF TEXTS (own work): != of two sets. -/
namespace L2
open PySem PySem.Spec PyProof.Rows
section
variable {A : Around} {s : Shared} {P : Program} {w : World} {E : Value → Shared → Prop}
end
section
variable {X : Cx}
end
end L2

/-! SETS OF TEXTS (own work): set(a list of texts that differ). -/
namespace L2
open PySem PySem.Spec PyProof.Rows
section
variable {P : Program} {w : World} {A : Around} {R : Result → Shared → Prop} {I : Addr} {fp wr : List Addr} {G : Array GenState → Array GenState → Prop} {n : Nat} {PV : Nat → Value → Prop} {St : Nat → Shared → Prop}
end
section
variable {P : Program} {w : World} {A : Around} {s : Shared} {E : Value → Shared → Prop}
end
section
variable {X : Cx}
end
end L2

/-! TUPLES ALIKE, DICTS WITH NUMBERS FOR KEYS SORTED, TUPLES WITH THEIR OBJECT (own work). -/
namespace L2
open PySem PySem.Spec PyProof.Rows
section
variable {X : Cx} {pins : List (Addr × Obj)} {σ : St} {H : Hp} {s : Shared}
theorem rc_tups {A : Around} (I : Inv X pins σ H s) {n : Nat} {a b : Addr} {xs ys : List V} (ha : SqT X.K H a xs) (hb : SqT X.K H b ys) (hl : xs.length = ys.length) (h : ∀ (i : Nat) (x y : V), xs[i]? = some x → ys[i]? = some y → Dq H n x y) (hu : A.units + n + 1 < cLine) :
    SeqAt.RcAt A s (.ref a) (.ref b) true ∧ SeqAt.RcNeAt A s (.ref a) (.ref b) false := by
  obtain ⟨its, r1, pl, _⟩ := I.tuple ha
  obtain ⟨jts, r2, ql, _⟩ := I.tuple hb
  have l1 := r1.length
  have l2 := r2.length
  have el : ∀ j (g1 : j < its.toArray.size) (g2 : j < jts.toArray.size), SeqAt.EqAt A.in1 s its.toArray[j] jts.toArray[j] true := fun j g1 g2 => by
    have g1' : j < its.length := by simpa using g1
    have g2' : j < jts.length := by simpa using g2
    obtain ⟨u1, e1, k1⟩ := r1.get (i := j) (x := xs[j]'(by omega)) (by simp)
    obtain ⟨u2, e2, k2⟩ := r2.get (i := j) (x := ys[j]'(by omega)) (by simp)
    have w1 : its.toArray[j] = u1 := by have := (List.getElem?_eq_some_iff.mp e1).2; simpa using this
    have w2 : jts.toArray[j] = u2 := by have := (List.getElem?_eq_some_iff.mp e2).2; simpa using this
    rw [w1, w2]
    exact eqAt_Dq I (h j _ _ (by simp) (by simp)) k1 k2 (by show A.units + 1 + n < cLine; omega)
  have h1 := SeqAt.RcAt.tuples (A := A) (e := fun _ => true) pl ql (by omega) el
  have h2 := SeqAt.RcNeAt.tuples (A := A) (e := fun _ => true) pl ql (by omega) el
  have hz : its.toArray.size = jts.toArray.size := by simp; omega
  have ea : ∀ k : Nat, (List.range k).all (fun _ => true) = true := fun k => List.all_eq_true.mpr fun _ _ => rfl
  rw [ea, hz, beq_self_eq_true] at h1 h2
  exact ⟨h1, h2⟩
theorem op_eqTp : OpR X (compareOp .Eq) (fun x y H Q => ∃ (n : Nat) (a b : Addr) (xs ys : List V), x = .ref a ∧ y = .ref b ∧ SqT X.K H a xs ∧ SqT X.K H b ys ∧ xs.length = ys.length ∧ (∀ (i : Nat) (x y : V), xs[i]? = some x → ys[i]? = some y → Dq H n x y) ∧ X.A.units + n + 1 < cLine ∧ Q (.bl true) H) := by
  intro pins s σ H x y v u Q I rx ry h
  obtain ⟨n, a, b, xs, ys, rfl, rfl, ha, hb, hl, hd, hu, q⟩ := h
  cases rx
  cases ry
  exact (rc_tups I ha hb hl hd hu).1 X.prog X.w X.xe _ ⟨.bl true, H, I, rfl, q⟩
/-- a tuple, its object kept -/
def tTupF (t : TA) : TE := fun σ H Q => t σ H fun xs H1 => xs.length ≤ sizeLine ∧ ∀ p o, H1 p = none → o.dict = none → Q (.ref p) (upd H1 p (.frz o (.tup xs)))
theorem pe_tupF {es : List Expr} {x1 : Nat} {pos : Pos} {t : TA} (h : PA X es t) : PE X (.Tuple es x1 pos) (tTupF t) := by
  intro pins s σ H Q I hq
  refine wpAny_Tuple_spliced (thn (h pos pins s σ H _ I hq) fun us s1 ⟨xs, H1, I1, r, z, q⟩ => ⟨by rw [← r.length]; exact z, ?_⟩)
  have hf : H1 s1.heap.objs.size = none := I1.hok.fresh (Nat.le_refl _)
  refine ⟨.ref s1.heap.objs.size, upd H1 s1.heap.objs.size (.frz { cls := .type "tuple", data := .seq us.toArray } (.tup xs)), I1.laid (t' := s1.toks) (fun b u e => Heap.get?_push_of_some _ e) (Nat.le_refl _) ?_, rfl, q _ _ hf rfl⟩
  exact ⟨Heap.get?_push_size _ rfl, z, us, r, ⟨_, Heap.get?_push_size _ rfl, rfl, _, rfl⟩⟩
end
theorem ints_at : ∀ (us : List Value) (ns : List Int), us.length = ns.length → (∀ (j : Nat) (v : Value) (z : Int), us[j]? = some v → ns[j]? = some z → ∃ t, v = Value.int z t) → IntsAre us ns
  | [], [], _, _ => .nil
  | u :: us, n :: ns, hl, h => by
    obtain ⟨t, rfl⟩ := h 0 u n rfl rfl
    exact .cons n t (ints_at us ns (by simpa using hl) fun j v z h1 h2 => h (j + 1) v z (by simpa using h1) (by simpa using h2))
theorem vals_ints' : ∀ {us : List Value} {ns : List Int}, IntsAre us ns → Vals (ns.map V.int) us
  | _, _, .nil => .nil
  | _, _, .cons n t h => .cons ⟨t, rfl⟩ (vals_ints' h)
section
variable {X : Cx}
/-- sorted(a dict whose keys are numbers) -/
theorem call_sortedDI (hc : X.calm = true) : CallR X (.builtin "sorted") (fun xs H Q => ∃ (p : Addr) (kvs : List (Key × V)) (ns : List Int), xs = [.ref p] ∧ Rd H p (.dK kvs) ∧ kvs.map (·.1) = ns.map Sum.inl ∧ ns.length < 64 ∧ ∀ (l : Addr) (ms : List Int), H l = none → ms.Perm ns → ms.Pairwise (· ≤ ·) → Q (.ref l) (upd H l (.lst (ms.map V.int)))) := by
  intro pins s σ H xs us Q I r h
  obtain ⟨p, kvs, zs, rfl, hq, hz, h64, q⟩ := h
  obtain ⟨u, rfl, rx⟩ := vals1 r
  cases rx
  obtain ⟨hlen, lo, vs, kv, dd⟩ := hq.ok I.hok
  obtain ⟨ep, da⟩ := dd.dictAt
  have hl := kv.len
  have hl2 : kvs.length = zs.length := by simpa using congrArg List.length hz
  refine Calls.call_function_entry kind_sorted plain_sorted entry_sorted (args_sorted1 _) ?_
  unfold Builtin.«sorted»
  refine wpAny_bind (m := checkCount "sorted" 1 1 _) (wpAny_pure ?_)
  refine wpAny_bind (PySem.W.kdu_collect (PySem.W.kdl_dict (knd := mixKind X.prog X.w) (kvs := vs) (ep := ep) lo) (I.ok.hd hc) da (by rw [← hl]; exact hlen) fun h' tk acc hk hacc => ?_)
  have hS : IntsAre acc.toList zs := by
    refine ints_at _ _ (by rw [Array.length_toList, hacc.1, ← hl, hl2]) fun j v z h1 h2 => ?_
    obtain ⟨k, x, hx, hkv⟩ := hacc.2 j v (by rw [← Array.getElem?_toList]; exact h1)
    have hk' := kv_key kv hx
    rw [hz, List.getElem?_map, h2] at hk'
    have e : Sum.inl z = k := by simpa using hk'
    subst e
    exact is_kV hkv
  have hal : acc.toList.length = zs.length := by
    rw [Array.length_toList, hacc.1, ← hl, hl2]
  refine wpAny_bind (wpAny_newList ?_ (by rw [hal, ← hl2]; exact hlen))
  have hoL : (h'.push (seqObj "list" acc.toList.toArray 0)).get? h'.objs.size = some (seqObj "list" acc.toList.toArray 0) := Heap.get?_push_size _ rfl
  refine wpAny_bind (wpAny_holding (wpAny_call_entry slot_list_sort ⟨_, hoL, rfl⟩ entry_list_sort (list_sort_tree (s := { s with heap := h'.push (seqObj "list" acc.toList.toArray 0), toks := tk }) hoL hS (by rw [hal]; exact h64) fun out ss' h1 h2 h3 => ⟨_, rfl, ?_⟩) (args_list_sort _)))
  obtain ⟨e, he⟩ := sortedHeap_at (out := out) hoL
  have hn : s.heap.get? h'.objs.size = none := by
    cases q : s.heap.get? h'.objs.size with
    | none => rfl
    | some ob => exact absurd (Heap.lt_size (hk _ _ q)) (Nat.lt_irrefl _)
  refine wpAny_pure ⟨_, rfl, .ref h'.objs.size, _, I.laidAt (t' := tk) (o := .lst (ss'.map V.int)) (fun b ob q => ?_) hn ?_, rfl, q _ ss' (I.none_at hn) h2 h3⟩
  · have q' := hk b ob q
    have hlt := Heap.lt_size q'
    rw [sortedHeap_old (Nat.ne_of_lt hlt) (by rw [size_push']; exact Nat.lt_succ_of_lt hlt)]
    exact Heap.get?_push_of_some _ q'
  · exact ⟨by rw [List.length_map, h2.length_eq, ← hl2]; exact hlen, _, e, vals_ints' h1, he⟩
end
end L2

namespace L2
open PySem PySem.Spec PyProof.Rows
/-- a comprehension whose items are told by what has come so far -/
theorem compW_idx {J : It} {g : TG} {te : TE} {R : Addr → Hp → Prop} {D : Addr} {σ0 : St} {H0 : Hp} (n : Nat) (Pv : Nat → List V → St → Hp → Prop) (hn : n ≤ sizeLine) (h0 : Pv 0 [] σ0 H0) (hD0 : H0 D = some (.lst []))
    (hs : ∀ i σ H ys, i < n → Pv i ys σ H → ys.length = i → H D = some (.lst ys) → J.go i H ∧ ∀ x H', J.yld i H x H' → g x σ H' fun σ2 H2 => te σ2 H2 fun y H4 => H4 D = some (.lst ys) ∧ Pv (i + 1) (ys ++ [y]) σ2 (upd H4 D (.lst (ys ++ [y]))))
    (hd : ∀ σ H ys, Pv n ys σ H → H D = some (.lst ys) → ys.length = n → J.stop n H ∧ R D H) : CompW J g tYes te R D σ0 H0 := by
  refine ⟨fun i m σ H => m = n - i ∧ i ≤ n ∧ ∃ ys, Pv i ys σ H ∧ H D = some (.lst ys) ∧ ys.length = i, ⟨n, by omega, Nat.zero_le _, [], h0, hD0, rfl⟩, ?_⟩
  rintro i m σ H ⟨rfl, hi, ys, p, hD, hl⟩
  by_cases hlt : i < n
  · obtain ⟨go, st⟩ := hs i σ H ys hlt p hl hD
    refine .inr ⟨go, fun σ2 y H4 => H4 D = some (.lst ys) ∧ Pv (i + 1) (ys ++ [y]) σ2 (upd H4 D (.lst (ys ++ [y]))), fun _ _ => False, ?_, fun _ _ z => z.elim, st⟩
    rintro σ2 y H4 ⟨e, p'⟩
    exact ⟨_, e, by rw [hl]; omega, n - (i + 1), by omega, rfl, hlt, _, p', upd_same, by simp [hl]⟩
  · have e : i = n := by omega
    subst e
    exact .inl (hd σ H ys p hD hl)
theorem back_same {H H1 : Hp} {a : Addr} {o : Obj} {kvs : List (Key × V)} (hc : H a = some (.dK kvs)) (e : Same (L2.upd H a (.frz o (.dK kvs))) H1) : Same H (L2.upd H1 a (.dK kvs)) := fun b u hb => by
  by_cases eb : b = a
  · subst eb
    rw [hc] at hb
    rw [← hb]
    exact upd_same
  · rw [upd_ne eb]
    exact e b u (by rw [upd_ne eb]; exact hb)
end L2

/-! VALUES WITHOUT ADDRESSES, WHERE DICTS AND LISTS ARE STILL ONE'S OWN (own work). -/
namespace L2
open PySem PySem.Spec PyProof.Rows
/-- no address -/
def flt : V → Bool
  | .non => true
  | .bl _ => true
  | .int _ => true
  | .str _ => true
  | _ => false
inductive Dp where
  | fl (v : V)
  | tup (ds : List Dp)
  | lst (ds : List Dp)
  | dic (kds : List (Str × Dp))
/-- v stands for d in H, n levels deep -/
inductive Dv (H : Hp) : Nat → Dp → V → Prop
  | fl {n : Nat} {v : V} (h : flt v = true) : Dv H n (.fl v) v
  | tup {n : Nat} {a : Addr} {vs : List V} {ds : List Dp} (ha : H a = some (.tup vs)) (hl : vs.length = ds.length) (h : ∀ (i : Nat) (v : V) (d : Dp), vs[i]? = some v → ds[i]? = some d → Dv H n d v) : Dv H (n + 1) (.tup ds) (.ref a)
  | lst {n : Nat} {a : Addr} {vs : List V} {ds : List Dp} (ha : H a = some (.lst vs)) (hl : vs.length = ds.length) (h : ∀ (i : Nat) (v : V) (d : Dp), vs[i]? = some v → ds[i]? = some d → Dv H n d v) : Dv H (n + 1) (.lst ds) (.ref a)
  | dic {n : Nat} {a : Addr} {vs : List V} {kds : List (Str × Dp)} (ha : H a = some (.dK ((kds.map (·.1)).zipWith (fun z v => ((Sum.inr z : Key), v)) vs))) (nd : (kds.map (·.1)).Nodup) (hl : vs.length = kds.length) (h : ∀ (i : Nat) (v : V) (k : Str × Dp), vs[i]? = some v → kds[i]? = some k → Dv H n k.2 v) : Dv H (n + 1) (.dic kds) (.ref a)
theorem zw_get {zs : List Str} {vs : List V} {i : Nat} : (zs.zipWith (fun z v => ((Sum.inr z : Key), v)) vs)[i]? = match zs[i]?, vs[i]? with | some z, some v => some (.inr z, v) | _, _ => none := by
  rw [List.getElem?_zipWith]
  cases zs[i]? <;> cases vs[i]? <;> rfl
theorem zw_len {zs : List Str} {vs : List V} (h : vs.length = zs.length) : (zs.zipWith (fun z v => ((Sum.inr z : Key), v)) vs).length = zs.length := by
  rw [List.length_zipWith]; omega
theorem zw_mem {zs : List Str} {vs : List V} {k : Key} {v : V} (h : (k, v) ∈ zs.zipWith (fun z v => ((Sum.inr z : Key), v)) vs) : ∃ (i : Nat) (z : Str), zs[i]? = some z ∧ vs[i]? = some v ∧ k = .inr z := by
  obtain ⟨i, hi⟩ := List.getElem?_of_mem h
  rw [zw_get] at hi
  cases h1 : zs[i]? with
  | none => rw [h1] at hi; cases hi
  | some z =>
    cases h2 : vs[i]? with
    | none => rw [h1, h2] at hi; cases hi
    | some u =>
      rw [h1, h2] at hi
      injection hi with hi
      injection hi with e1 e2
      exact ⟨i, z, h1, by rw [h2, e2], e1.symm⟩
/-- the value at a key -/
theorem zw_val {zs : List Str} {vs : List V} (nd : zs.Nodup) {i : Nat} {z : Str} {v : V} (h1 : zs[i]? = some z) (h2 : vs[i]? = some v) : valV (zs.zipWith (fun z v => ((Sum.inr z : Key), v)) vs) (.inr z) = some v := by
  induction zs generalizing vs i with
  | nil => cases h1
  | cons y r ih =>
    cases vs with
    | nil => cases h2
    | cons u us =>
      rw [List.zipWith_cons_cons]
      rw [List.nodup_cons] at nd
      cases i with
      | zero =>
        cases h1
        cases h2
        exact valV_pos rfl
      | succ i =>
        rw [List.getElem?_cons_succ] at h1 h2
        have hne : ¬ (Sum.inr y : Key) = .inr z := fun e => by
          injection e with e
          exact nd.1 (by rw [e]; exact List.mem_of_getElem? h1)
        rw [valV_neg (p := ((Sum.inr y : Key), u)) hne]
        exact ih nd.2 h1 h2
/-- two that stand for the same are alike -/
theorem Dv.dq {H : Hp} : ∀ {n : Nat} {d : Dp} {v v' : V}, Dv H n d v → Dv H n d v' → Dq H n v v' := fun {n d v v'} h => by
  induction h generalizing v' with
  | @fl n v h =>
    intro h'
    cases h'
    cases v with
    | non => exact .non
    | bl b => exact .bl
    | int i => exact .int
    | str z => exact .str
    | _ => cases h
  | @tup n a vs ds ha hl hh ih =>
    intro h'
    cases h' with
    | tup hb hl' hh' => exact .tup ha hb (by omega) fun i x y e1 e2 => ih i x _ e1 (List.getElem?_eq_getElem (by have := (List.getElem?_eq_some_iff.mp e1).1; omega)) (hh' i y _ e2 (List.getElem?_eq_getElem _))
  | @lst n a vs ds ha hl hh ih =>
    intro h'
    cases h' with
    | lst hb hl' hh' => exact .lst ha hb (by omega) fun i x y e1 e2 => ih i x _ e1 (List.getElem?_eq_getElem (by have := (List.getElem?_eq_some_iff.mp e1).1; omega)) (hh' i y _ e2 (List.getElem?_eq_getElem _))
  | @dic n a vs kds ha nd hl hh ih =>
    intro h'
    cases h' with
    | @dic _ b us _ hb nd' hl' hh' =>
      have ez : (kds.map (·.1)).length = kds.length := List.length_map ..
      refine .dct (fun k => (valV ((kds.map (·.1)).zipWith (fun z v => ((Sum.inr z : Key), v)) us) k).getD .non) (.inl ha) (.inl hb) ?_ (fun k v h => ?_) (fun k v h => ?_) (fun k v h => ?_)
      · rw [zw_len (by omega), zw_len (by omega)]
      · obtain ⟨i, z, _, _, e⟩ := zw_mem h; exact ⟨z, e⟩
      all_goals
        obtain ⟨i, z, h1, h2, rfl⟩ := zw_mem h
        have hi : i < kds.length := by have := (List.getElem?_eq_some_iff.mp h2).1; omega
        have hu : us[i]? = some us[i] := List.getElem?_eq_getElem (by omega)
        have hv := zw_val nd h1 hu
        rw [hv]
      · refine List.mem_of_getElem? (i := i) ?_
        rw [zw_get, h1, hu]
        rfl
      · exact ih i v _ h2 (List.getElem?_eq_getElem hi) (hh' i _ _ hu (List.getElem?_eq_getElem hi))
end L2

namespace My
open PySem L2 PyProof.Rows
def top (i : Nat) : Stmt := PySem.Challenge.pw_halfmoved_k12_pieces_told.main.body.getD i (.Pass ⟨0, 0, 0, 0⟩)
end My

namespace L2
open PySem PySem.Spec PyProof.Rows
/-- the heap's part that is new since H0 -/
def cut (H0 H : Hp) : Hp := fun b => match H0 b with | none => H b | some _ => none
theorem cut_sub {H0 H : Hp} : Same (cut H0 H) H := fun b o e => by
  unfold cut at e
  split at e
  · exact e
  · cases e
theorem cut_new {H0 H : Hp} {b : Addr} {o : HO} (e : cut H0 H b = some o) : H0 b = none := by
  unfold cut at e
  split at e
  · assumption
  · cases e
theorem cut_at {H0 H : Hp} {b : Addr} {o : HO} (h0 : H0 b = none) (e : H b = some o) : cut H0 H b = some o := by
  unfold cut
  rw [h0]
  exact e
theorem cut_up {H0 H H' : Hp} (s : Same H H') : Same (cut H0 H) (cut H0 H') := fun b o e => cut_at (cut_new e) (s _ _ (cut_sub _ _ e))
theorem none_of {H0 H1 : Hp} {b : Addr} (s : Same H0 H1) (h : H1 b = none) : H0 b = none := by
  cases e : H0 b with
  | none => rfl
  | some o => rw [s _ _ e] at h; cases h
theorem cut_dn {H0 H1 H : Hp} (s : Same H0 H1) : Same (cut H1 H) (cut H0 H) := fun b o e => cut_at (none_of s (cut_new e)) (cut_sub _ _ e)
theorem Same.put {H H' : Hp} {d : Addr} {o : HO} (s : Same H H') (h : H d = none) : Same H (L2.upd H' d o) := fun b u e => by
  rw [upd_ne (ne_of_none e h)]
  exact s _ _ e
end L2
namespace My
open PySem L2 PyProof.Rows
seal L2.PE L2.PT L2.PW L2.PS L2.PSs L2.PA L2.PI L2.PG L2.PGs L2.OpR L2.UnR L2.CallR L2.IxR L2.SlR L2.MtR L2.PIf L2.PO L2.MtM L2.PC
/-! ### the form -/
structure Tb where
  name : Str
  sort : Str
  cols : List (Str × Addr)
def ColsAt (H : Hp) (ct : Addr) (cols : List (Str × Addr)) : Prop := ∃ (o : Obj) (ps : List Addr), o.dict = none ∧ H ct = some (.frz o (.tup (ps.map V.ref))) ∧ ps.length = cols.length ∧ ∀ (j : Nat) (p : Addr) (c : Str × Addr), ps[j]? = some p → cols[j]? = some c → H p = some (.tup [.str c.1, .ref c.2])
def EntAt (H : Hp) (e : Addr) (T : Tb) : Prop := ∃ ct, H e = some (.tup [.str T.name, .str T.sort, .ref ct]) ∧ ColsAt H ct T.cols
def FormAt (H : Hp) (f : Addr) (sz : Int) (Ts : List Tb) : Prop := ∃ (tt : Addr) (es : List Addr), H f = some (.tup [.int sz, .ref tt]) ∧ H tt = some (.tup (es.map V.ref)) ∧ es.length = Ts.length ∧ ∀ (j : Nat) (e : Addr) (T : Tb), es[j]? = some e → Ts[j]? = some T → EntAt H e T
theorem ColsAt.same {H H' : Hp} {e : Addr} {T : List (Str × Addr)} (h : ColsAt H e T) (s : Same H H') : ColsAt H' e T := by
  obtain ⟨o, ps, h0, h1, h2, h3⟩ := h
  exact ⟨o, ps, h0, s _ _ h1, h2, fun j p c a b => s _ _ (h3 j p c a b)⟩
theorem EntAt.same {H H' : Hp} {e : Addr} {T : Tb} (h : EntAt H e T) (s : Same H H') : EntAt H' e T := by
  obtain ⟨ct, h1, h2⟩ := h
  exact ⟨ct, s _ _ h1, h2.same s⟩
theorem FormAt.same {H H' : Hp} {f : Addr} {sz : Int} {Ts : List Tb} (h : FormAt H f sz Ts) (s : Same H H') : FormAt H' f sz Ts := by
  obtain ⟨tt, es, h1, h2, h3, h4⟩ := h
  exact ⟨tt, es, s _ _ h1, s _ _ h2, h3, fun j e T a b => (h4 j e T a b).same s⟩
def kvC (cols : List (Str × Addr)) : List (Key × V) := cols.map fun p => (.inr p.1, .ref p.2)
def spTabs : Sp := fun vs H Q _ => ∃ (f : Addr) (sz : Int) (Ts : List Tb), vs = [.ref f] ∧ FormAt H f sz Ts ∧ Ts.length ≤ 8 ∧ ∀ p H', H p = none → Same H H' → H' p = some (.lst ((Ts.map (·.name)).map V.str)) → Q (.ref p) H'
def spHead : Sp := fun vs H Q _ => ∃ (f : Addr) (sz : Int) (T : Tb) (Ts : List Tb), vs = [.ref f] ∧ FormAt H f sz (T :: Ts) ∧ Q (.str T.name) H
def spTabIn : Sp := fun vs H Q _ => ∃ (f : Addr) (sz : Int) (Ts : List Tb) (T : Tb), vs = [.ref f, .str T.name] ∧ FormAt H f sz Ts ∧ (Ts.map (·.name)).Nodup ∧ T ∈ Ts ∧ ∀ e, EntAt H e T → Q (.ref e) H
def spColsOf : Sp := fun vs H Q _ => ∃ (f : Addr) (sz : Int) (Ts : List Tb) (T : Tb), vs = [.ref f, .str T.name] ∧ FormAt H f sz Ts ∧ (Ts.map (·.name)).Nodup ∧ T ∈ Ts ∧ (T.cols.map (·.1)).Nodup ∧ T.cols.length ≤ 12 ∧
  ∀ (p : Addr) (H' : Hp), H p = none → Same H H' → H' p = some (.dK (kvC T.cols)) → Q (.ref p) H'
section
variable {P : Program} {w : World} {K : PySem.W.Frag} {mg : Str → Option Value} {base : Heap}
theorem ok_tabs {f : Addr} {fd : FuncData} (F : Fun K "tables_of" "tables_of" (top 18) f fd) : FnOk P w K mg base CX0 1 f fd ["form"] spTabs := by
  have sc : FnScope ["form"] ["form"] (defScope (top 18)) := ⟨rfl, rfl, rfl, by decide +kernel, rfl, by decide +kernel, by decide +kernel⟩
  refine F.ok sc (fun vs H Q E h => ?_) (fun cdv A outer s H vs Q E hr h => ?_)
  · obtain ⟨f, sz, Ts, rfl, _⟩ := h
    rfl
  · obtain ⟨f, sz, Ts, rfl, ⟨tt, es, h1, h2, h3, h4⟩, h8, q⟩ := h
    refine ⟨_, pss_one (ps_ret (pe_comp (osc := defScope (top 18)) (N0 := ["form"]) (xs := ["entry"]) (fr := []) ⟨rfl, by decide +kernel, by decide +kernel, by decide +kernel, by decide, by decide +kernel⟩ rfl rfl rfl (pi_tup (pe_ix ix_tup (pv 0) pe_int (fun _ _ => rfl)))
        (fun s H fp => pg_name (i := 0) (show (["entry"] : List Str).Nodup by decide +kernel) rfl (Or.inl rfl)) (fun s H fp => pif_nil) (fun s H fp => pe_ix (r := rIxT K) ix_tup (pv 0) pe_int (fun _ _ => rfl)))), ?_⟩
    refine ⟨_, rfl, _, _, 1, _, rfl, rfl, SqT.of h1, rfl, tt, rfl, ⟨_, SqT.of h2⟩, fun D hD => ?_⟩
    refine compW_map Ts.length (fun i => .str ((Ts.map (·.name)).getD i "")) (fun i σ' Hc => (∃ t, σ' = [t]) ∧ Same H Hc) (by rw [sizeLine_eq]; omega) ⟨⟨none, rfl⟩, Same.upd hD⟩ upd_same ?_ ?_
    · rintro i σ' Hc hi ⟨⟨t, rfl⟩, sm⟩ hD'
      have hie : i < es.length := by omega
      refine ⟨⟨_, V.ref es[i], SqT.of (sm _ _ h2), by rw [List.getElem?_map, List.getElem?_eq_getElem hie]; rfl⟩, ?_⟩
      rintro x H' ⟨rfl, hx'⟩
      have ex := hx' _ (SqT.of (sm _ _ h2))
      rw [List.getElem?_map, List.getElem?_eq_getElem hie] at ex
      cases ex
      obtain ⟨ct, g1, _⟩ := h4 i es[i] Ts[i] (List.getElem?_eq_getElem hie) (List.getElem?_eq_getElem hi)
      refine ⟨_, rfl, _, _, 0, _, rfl, rfl, SqT.of (sm _ _ g1), rfl, ?_, hD', ⟨_, rfl⟩, sm.put hD⟩
      rw [List.getD_eq_getElem?_getD, List.getElem?_map, List.getElem?_eq_getElem hi]
      rfl
    · rintro σ' Hc ⟨_, sm⟩ hDn
      refine ⟨⟨_, SqT.of (sm _ _ h2), by rw [List.length_map]; omega⟩, q D Hc hD sm ?_⟩
      have := range_map_getD (Ts.map (·.name)) ("" : Str) (fun z => V.str z)
      rw [List.length_map] at this
      rw [hDn, this]
theorem ok_head {f : Addr} {fd : FuncData} (F : Fun K "head_of" "head_of" (top 19) f fd) : FnOk P w K mg base CX0 1 f fd ["form"] spHead := by
  have sc : FnScope ["form"] ["form"] (defScope (top 19)) := ⟨rfl, rfl, rfl, by decide +kernel, rfl, by decide +kernel, by decide +kernel⟩
  refine F.ok sc (fun vs H Q E h => ?_) (fun cdv A outer s H vs Q E hr h => ?_)
  · obtain ⟨f, sz, T, Ts, rfl, _⟩ := h
    rfl
  · obtain ⟨f, sz, T, Ts, rfl, ⟨tt, es, h1, h2, h3, h4⟩, q⟩ := h
    refine ⟨_, pss_one (ps_ret (pe_ix ix_tup (pe_ix ix_tup (pe_ix ix_tup (pv 0) pe_int (fun _ _ => rfl)) pe_int (fun _ _ => rfl)) pe_int (fun _ _ => rfl))), ?_⟩
    have hie : 0 < es.length := by rw [h3]; simp
    obtain ⟨ct, g1, _⟩ := h4 0 es[0] T (List.getElem?_eq_getElem hie) rfl
    exact ⟨_, rfl, _, _, 1, _, rfl, rfl, SqT.of h1, rfl, _, _, 0, _, rfl, rfl, SqT.of h2, atI_nat (j := 0) (by rw [List.getElem?_map, List.getElem?_eq_getElem hie]; rfl), _, _, 0, _, rfl, rfl, SqT.of g1, rfl, q⟩
theorem ok_tabIn {f : Addr} {fd : FuncData} (F : Fun K "table_in" "table_in" (top 22) f fd) : FnOk P w K mg base CX0 1 f fd ["form", "table"] spTabIn := by
  have sc : FnScope ["form", "table", "entry"] ["form", "table"] (defScope (top 22)) := ⟨rfl, rfl, rfl, by decide +kernel, rfl, by decide +kernel, by decide +kernel⟩
  refine F.ok sc (fun vs H Q E h => ?_) (fun cdv A outer s H vs Q E hr h => ?_)
  · obtain ⟨f, sz, Ts, T, rfl, _⟩ := h
    rfl
  · obtain ⟨f, sz, Ts, T, rfl, ⟨tt, es, h1, h2, h3, h4⟩, nd, hT, q⟩ := h
    refine ⟨_, pss_cons (ps_for PassesOwn.never rfl (pi_tup (pe_ix ix_tup (pv 0) pe_int (fun _ _ => rfl))) (pg_name (i := 2) sc.nd rfl (Or.inl rfl))
        (pss_one (ps_if (pt_cmpR op_eq (pe_ix ix_tup (pv 2) pe_int (fun _ _ => rfl)) (pv 1) (nomark _)) (pss_one (ps_ret (pv 2))) pss_nil))) pss_never, ?_⟩
    refine ⟨_, rfl, _, _, 1, _, rfl, rfl, SqT.of h1, rfl, tt, rfl, ⟨_, SqT.of h2⟩, for_tup (K := K) (a := tt) (xs := es.map V.ref) (fun i σ H' => H' = H ∧ (∃ u, σ = [some (.ref f), some (.str T.name), u]) ∧ ∀ j T', j < i → Ts[j]? = some T' → T'.name ≠ T.name) ⟨rfl, ⟨_, rfl⟩, fun j _ hj => absurd hj (Nat.not_lt_zero _)⟩ (fun i σ H' _ p => by rw [p.1]; exact SqT.of h2) ?_ ?_⟩
    · rintro i x σ H' hx ⟨rfl, ⟨u, rfl⟩, hn⟩
      have hie : i < es.length := by
        have := (List.getElem?_eq_some_iff.mp hx).1
        rwa [List.length_map] at this
      have hit : i < Ts.length := by omega
      rw [List.getElem?_map, List.getElem?_eq_getElem hie] at hx
      cases hx
      have ent := h4 i es[i] Ts[i] (List.getElem?_eq_getElem hie) (List.getElem?_eq_getElem hit)
      obtain ⟨ct, g1, g2⟩ := id ent
      refine ⟨_, rfl, _, _, 0, _, rfl, rfl, SqT.of g1, rfl, _, rfl, rfl, _, rfl, ?_⟩
      refine ite2 (fun hc => ?_) (fun hc => ?_)
      · have en : Ts[i].name = T.name := by
          have := of_decide_eq_true hc
          injection this
        have eT : Ts[i] = T := by
          obtain ⟨k, hk, ek⟩ := List.mem_iff_getElem.mp hT
          have : i = k := by
            refine (List.getElem_inj (h₀ := by rw [List.length_map]; exact hit) (h₁ := by rw [List.length_map]; exact hk) nd).mp ?_
            rw [List.getElem_map, List.getElem_map, ek, en]
          subst this
          exact ek
        rw [eT] at ent
        exact ⟨_, rfl, q _ ent⟩
      · refine ⟨rfl, ⟨_, rfl⟩, fun j T' hj hT' => ?_⟩
        by_cases hji : j < i
        · exact hn j T' hji hT'
        · have : j = i := by omega
          subst this
          rw [List.getElem?_eq_getElem hit] at hT'
          cases hT'
          exact fun e => hc (by rw [e]; exact decide_eq_true rfl)
    · rintro σ H' ⟨rfl, ⟨u, rfl⟩, hn⟩
      obtain ⟨k, hk, ek⟩ := List.mem_iff_getElem.mp hT
      exact absurd rfl (hn k T (by rw [List.length_map]; omega) (by rw [List.getElem?_eq_getElem hk, ek]))
theorem ok_colsOf {f fT : Addr} {fd fdT : FuncData} (F : Fun K "columns_of" "columns_of" (top 21) f fd) (B : Bl mg) (DT : Df K mg "table_in" (top 22) fT fdT) : FnOk P w K mg base CX0 2 f fd ["form", "table"] spColsOf := by
  have sc : FnScope ["form", "table"] ["form", "table"] (defScope (top 21)) := ⟨rfl, rfl, rfl, by decide +kernel, rfl, by decide +kernel, by decide +kernel⟩
  have GT : FnOk P w K mg base CX0 1 fT fdT ["form", "table"] spTabIn := ok_tabIn DT.fn
  have bT := DT.fn.binds (ps := ["form", "table"]) fun _ _ _ _ _ _ us hl => by obtain ⟨v0, v1, rfl⟩ := L2.ln2 hl; rfl
  refine F.ok sc (fun vs H Q E h => ?_) (fun cdv A outer s H vs Q E hr h => ?_)
  · obtain ⟨f, sz, Ts, T, rfl, _⟩ := h
    rfl
  · obtain ⟨f, sz, Ts, T, rfl, hf, nd, hT, ndc, c12, q⟩ := h
    refine ⟨_, pss_one (ps_ret (pe_callTy (call_dictT rfl) (by rfl) B.dict boot_dict (pa_cons (pe_ix ix_tup (pe_call GT hr (by rfl) DT.mg DT.fn.kp bT .nil pass0 (pa_cons (pv 0) (pa_cons (pv 1) pa_nil))) pe_int (fun _ _ => rfl)) pa_nil))), ?_⟩
    refine ⟨_, rfl, _, rfl, f, sz, Ts, T, rfl, hf, nd, hT, fun e he => ?_⟩
    obtain ⟨ct, g1, o, ps, ho, hct, hpl, hpz⟩ := he
    refine ⟨_, _, 2, _, rfl, rfl, SqT.of g1, rfl, ct, o, _, kvC T.cols, rfl, hct, ho, (by rw [List.length_map]; omega), (by unfold kvC; rw [List.length_map, List.length_map]; omega), (fun j k v hj => ?_), ?_, fun p hp => q p _ hp (Same.upd hp) upd_same⟩
    · unfold kvC at hj
      have hjz : j < T.cols.length := by
        have := (List.getElem?_eq_some_iff.mp hj).1
        rwa [List.length_map] at this
      have hjp : j < ps.length := by omega
      rw [List.getElem?_map, List.getElem?_eq_getElem hjz] at hj
      cases hj
      exact ⟨ps[j], by rw [List.getElem?_map, List.getElem?_eq_getElem hjp]; rfl, SqT.of (hpz j ps[j] T.cols[j] (List.getElem?_eq_getElem hjp) (List.getElem?_eq_getElem hjz))⟩
    · have e : (kvC T.cols).map (·.1) = (T.cols.map (·.1)).map fun z => (Sum.inr z : Key) := by
        unfold kvC
        rw [List.map_map, List.map_map]
        rfl
      rw [e]
      exact List.Pairwise.map _ (fun a b hab h => hab (by injection h)) ndc
end
/-! ### refusals -/
structure Tx (K : PySem.W.Frag) (mg : Str → Option Value) (CT CO CM : Addr) : Prop where
  mT : mg "TableError" = some (.ref CT)
  bT : BIn K CT
  mO : mg "NoTable" = some (.ref CO)
  xO : XCl K CO
  n1 : NoAttr K CO "table"
  n2 : NoAttr K CO "key"
  n3 : NoAttr K CO "place"
  mM : mg "Missing" = some (.ref CM)
  xM : XCl K CM
  m1 : NoAttr K CM "table"
  m2 : NoAttr K CM "key"
  m3 : NoAttr K CM "place"
def stp (z : Str) (k p : V) : List (Str × V) := putF "place" p (putF "key" k [(("table" : Str), V.str z)])
theorem stp_t {z : Str} {k p : V} : (stp z k p).lookup ("table" : Str) = some (.str z) := by
  unfold stp
  rw [lookup_putF, if_neg (by decide +kernel), lookup_putF, if_neg (by decide +kernel)]
  rfl
theorem stp_k {z : Str} {k p : V} : (stp z k p).lookup ("key" : Str) = some k := by
  unfold stp
  rw [lookup_putF, if_neg (by decide +kernel), lookup_putF, if_pos rfl]
theorem stp_p {z : Str} {k p : V} : (stp z k p).lookup ("place" : Str) = some p := by
  unfold stp
  rw [lookup_putF, if_pos rfl]
def spSInit (CO CM : Addr) : Sp := fun vs H Q _ => ∃ (x C : Addr) (z : Str) (k p : V), vs = [.ref x, .str z, k, p] ∧ (C = CO ∨ C = CM) ∧ H x = some (.ext (excP x C none)) ∧
  ∀ dx H', H dx = none → dx ≠ x → H' x = some (.ext (excP x C (some dx))) → H' dx = some (.ext (dctP dx (stp z k p))) → (∀ b, b ≠ x → b ≠ dx → H' b = H b) → Q .non H'
/-- refused, by a class, with what it tells -/
def Refd (E : XK) (H : Hp) (C : Addr) (z : Str) (k p : V) : Prop := ∀ dx H', H' dx = some (.ext (dctP dx (stp z k p))) → Same H H' → E (.ref C) (some dx) H'
section
variable {P : Program} {w : World} {K : PySem.W.Frag} {mg : Str → Option Value} {base : Heap} {CT CO CM : Addr}
theorem ok_sinit {f : Addr} {fd : FuncData} (F : FunX K "__init__" "StepError.__init__" (inClass (top 2) 0) f fd) (T : Tx K mg CT CO CM) : FnOk P w K mg base CX0 1 f fd ["self", "table", "key", "place"] (spSInit CO CM) := by
  have sc : FnScope ["self", "table", "key", "place"] ["self", "table", "key", "place"] (defScope (inClass (top 2) 0)) := ⟨rfl, rfl, rfl, by decide +kernel, rfl, by decide +kernel, by decide +kernel⟩
  refine F.ok sc (fun vs H Q E h => ?_) (fun cdv A outer s H vs Q E hr h => ?_)
  · obtain ⟨x, C, z, k, p, rfl, _⟩ := h
    rfl
  · obtain ⟨x, C, z, k, p, rfl, hC, hx, q⟩ := h
    have xC : XCl K C := by rcases hC with rfl | rfl; exact T.xO; exact T.xM
    have c1 : NoAttr K C "table" := by rcases hC with rfl | rfl; exact T.n1; exact T.m1
    have c2 : NoAttr K C "key" := by rcases hC with rfl | rfl; exact T.n2; exact T.m2
    have c3 : NoAttr K C "place" := by rcases hC with rfl | rfl; exact T.n3; exact T.m3
    refine ⟨_, pss_cons (ps_expr (pe_binit (by rfl) T.mT T.bT (pa_cons (pv 0) (pa_cons (pv 1) (pa_cons (pv 2) (pa_cons (pv 3) pa_nil))))))
      (pss_cons (ps_xset1 (pv 0) (pv 1) rfl) (pss_cons (ps_xset2 (pv 0) (pv 2) rfl) (pss_one (ps_xset2 (pv 0) (pv 3) rfl)))), ?_⟩
    refine ⟨_, rfl, _, rfl, _, rfl, _, rfl, x, C, none, _, rfl, hx, xC, (by show 3 ≤ sizeLine; decide), ?_⟩
    refine ⟨_, rfl, _, rfl, x, C, rfl, hx, xC, c1, fun dx hd ne => ?_⟩
    refine ⟨_, rfl, _, rfl, x, C, dx, _, rfl, upd_same, (by rw [upd_ne ne]; exact upd_same), ne, xC, c2, (by show 1 < 1000; decide), ?_⟩
    refine ⟨_, rfl, _, rfl, x, C, dx, _, rfl, (by rw [upd_ne (Ne.symm ne)]; exact upd_same), upd_same, ne, xC, c3, ?_, ?_⟩
    · have := length_putF "key" k [(("table" : Str), V.str z)]
      simp only [List.length_cons, List.length_nil] at this
      omega
    · exact q dx _ hd ne (by rw [upd_ne (Ne.symm ne), upd_ne (Ne.symm ne)]; exact upd_same) upd_same fun b n1 n2 => by rw [upd_ne n2, upd_ne n2, upd_ne n1, upd_ne n2]
/-- what `raise C(z, k, p)` asks, from Refd -/
theorem raised {n : Nat} {E : XS} {σ : L2.St} {D : Ends} {H : Hp} {C : Addr} {z : Str} {k p : V} {t : TA} {E' : XK} (T : Tx K mg CT CO CM) (hC : C = CO ∨ C = CM) (hE : ∀ c od H', E' c od H' → E c od σ H') (h : ∀ R, R [.str z, k, p] H → t σ H R) (r : Refd E' H C z k p) :
    tRaise n K E (tXMake n C (spSInit CO CM) [] t) D σ H := by
  refine h _ ⟨(by show 3 ≤ sizeLine; decide), fun x nx hx => ⟨x, C, z, k, p, rfl, hC, upd_same, fun dx H2 hd ne h2x h2d fr => ⟨rfl, x, C, some dx, rfl, h2x, nx, (by rcases hC with rfl | rfl; exact T.xO; exact T.xM), hE _ _ _ ?_⟩⟩⟩
  rw [upd_ne ne] at hd
  refine r dx _ (by rw [dropH_ne ne]; exact h2d) fun b o e => ?_
  have nb : b ≠ x := ne_of_none e hx
  rw [dropH_ne nb, fr b nb (ne_of_none e hd), upd_ne nb]
  exact e
end
end My

namespace L2
open PySem PySem.Spec PyProof.Rows
theorem cut_put {H H1 : Hp} {r : Addr} {o : HO} (h : H r = none) : cut H (upd H1 r o) = upd (cut H H1) r o := by
  funext b
  by_cases e : b = r
  · subst e
    rw [upd_same, cut]
    rw [h]
    exact upd_same
  · rw [upd_ne e]
    unfold cut
    split
    · rw [upd_ne e]
    · rfl
theorem cut_upd {H H2 : Hp} {a : Addr} {o o' : HO} (h : H a = some o') : Same (cut H H2) (cut H (upd H2 a o)) := fun b u e => by
  have nb : b ≠ a := fun e2 => by rw [e2, cut] at e; rw [h] at e; cases e
  exact cut_at (cut_new e) (by rw [upd_ne nb]; exact cut_sub _ _ e)
end L2
namespace My
open PySem L2 PyProof.Rows
seal L2.PE L2.PT L2.PW L2.PS L2.PSs L2.PA L2.PI L2.PG L2.PGs L2.OpR L2.UnR L2.CallR L2.IxR L2.SlR L2.MtR L2.PIf L2.PO L2.MtM L2.PC
/-! ### rows, tables, pieces: contents without addresses -/
abbrev Rw := List (Str × V)
abbrev Pc := List (Str × List Rw)
def rK (row : Rw) : List (Key × V) := row.map fun c => (.inr c.1, c.2)
def rD (row : Rw) : Dp := .dic (row.map fun c => (c.1, .fl c.2))
def RwOk (row : Rw) : Prop := (row.map (·.1)).Nodup ∧ ∀ c ∈ row, flt c.2 = true
def RowsAt (H : Hp) (l : Addr) (rows : List Rw) : Prop := ∃ rs : List Addr, H l = some (.lst (rs.map V.ref)) ∧ rs.length = rows.length ∧ ∀ (j : Nat) (r : Addr) (row : Rw), rs[j]? = some r → rows[j]? = some row → H r = some (.dK (rK row))
def zK (zs : List Str) (ls : List Addr) : List (Key × V) := zs.zipWith (fun z v => ((Sum.inr z : Key), v)) (ls.map V.ref)
def PcAt (H : Hp) (p : Addr) (pc : Pc) : Prop := ∃ ls : List Addr, H p = some (.dK (zK (pc.map (·.1)) ls)) ∧ ls.length = pc.length ∧ ∀ (j : Nat) (l : Addr) (t : Str × List Rw), ls[j]? = some l → pc[j]? = some t → RowsAt H l t.2
structure PcOk (pc : Pc) : Prop where
  nd : (pc.map (·.1)).Nodup
  le : pc.length ≤ 8
  rl : ∀ t ∈ pc, t.2.length ≤ 1000
  rw_ : ∀ t ∈ pc, ∀ row ∈ t.2, RwOk row
theorem RowsAt.same {H H' : Hp} {l : Addr} {rows : List Rw} (h : RowsAt H l rows) (s : Same H H') : RowsAt H' l rows := let ⟨rs, a, b, c⟩ := h; ⟨rs, s _ _ a, b, fun j r row x y => s _ _ (c j r row x y)⟩
theorem PcAt.same {H H' : Hp} {p : Addr} {pc : Pc} (h : PcAt H p pc) (s : Same H H') : PcAt H' p pc := let ⟨ls, a, b, c⟩ := h; ⟨ls, s _ _ a, b, fun j l t x y => (c j l t x y).same s⟩
theorem rK_flat {row : Rw} (ok : RwOk row) {k : Key} {a : Addr} : (k, V.ref a) ∉ rK row := fun h => by
  obtain ⟨c, hc, e⟩ := List.mem_map.mp h
  injection e with _ e2
  have := ok.2 c hc
  rw [e2] at this
  cases this
theorem zK_mem {zs : List Str} {ls : List Addr} {j : Nat} {z : Str} {l : Addr} (h1 : zs[j]? = some z) (h2 : ls[j]? = some l) : ((.inr z : Key), V.ref l) ∈ zK zs ls := by
  refine List.mem_of_getElem? (i := j) ?_
  unfold zK
  rw [zw_get, h1, List.getElem?_map, h2]
  rfl
theorem zK_get {zs : List Str} {ls : List Addr} {j : Nat} {k : Key} {v : V} (h : (zK zs ls)[j]? = some (k, v)) : ∃ z l, zs[j]? = some z ∧ ls[j]? = some l ∧ k = .inr z ∧ v = .ref l := by
  unfold zK at h
  rw [zw_get, List.getElem?_map] at h
  cases h1 : zs[j]? with
  | none => rw [h1] at h; cases h
  | some z =>
    cases h2 : ls[j]? with
    | none => rw [h1, h2] at h; cases h
    | some l =>
      rw [h1, h2] at h
      cases h
      exact ⟨z, l, rfl, rfl, rfl, rfl⟩
theorem zK_len {zs : List Str} {ls : List Addr} (h : ls.length = zs.length) : (zK zs ls).length = zs.length := by
  unfold zK
  exact zw_len (by rw [List.length_map]; exact h)
theorem zK_snoc {zs : List Str} {ls : List Addr} {z : Str} {l : Addr} (h : ls.length = zs.length) : zK (zs ++ [z]) (ls ++ [l]) = zK zs ls ++ [(.inr z, .ref l)] := by
  unfold zK
  rw [List.map_append, List.zipWith_append (by rw [List.length_map]; exact h.symm)]
  rfl
theorem zK_new {zs : List Str} {ls : List Addr} {z : Str} (h : z ∉ zs) : valV (zK zs ls) (.inr z) = none := by
  unfold valV
  rw [List.find?_eq_none.mpr fun x hx => ?_]
  · rfl
  · obtain ⟨k, v⟩ := x
    obtain ⟨i, y, h1, h2, e⟩ := zw_mem hx
    intro hd
    have e2 := of_decide_eq_true hd
    rw [e] at e2
    injection e2 with e2
    exact h (by rw [← e2]; exact List.mem_of_getElem? h1)
/-- the piece's dict is none of its lists and rows -/
theorem PcAt.apart {H : Hp} {p : Addr} {pc : Pc} (ok : PcOk pc) {ls : List Addr} (hp : H p = some (.dK (zK (pc.map (·.1)) ls))) (hl : ls.length = pc.length) {j : Nat} {l : Addr} {t : Str × List Rw} (h1 : ls[j]? = some l) (h2 : pc[j]? = some t) (hr : RowsAt H l t.2) :
    l ≠ p ∧ ∀ (r : Addr) (row : Rw), row ∈ t.2 → H r = some (.dK (rK row)) → r ≠ p := by
  obtain ⟨rs, a1, _⟩ := hr
  refine ⟨(fun e => by rw [e, hp] at a1; cases a1), fun r row hrow hrr e => ?_⟩
  rw [e, hp] at hrr
  injection hrr with e1
  injection e1 with e2
  have hm : ((.inr t.1 : Key), V.ref l) ∈ zK (pc.map (·.1)) ls := zK_mem (j := j) (by rw [List.getElem?_map, h2]; rfl) h1
  rw [e2] at hm
  exact rK_flat (ok.rw_ t (List.mem_of_getElem? h2) row hrow) hm
def spCopied : Sp := fun vs H Q _ => ∃ (p : Addr) (pc : Pc), vs = [.ref p] ∧ PcAt H p pc ∧ PcOk pc ∧ ∀ p' H', Same H H' → PcAt (cut H H') p' pc → Q (.ref p') H'
section
variable {P : Program} {w : World} {K : PySem.W.Frag} {mg : Str → Option Value} {base : Heap}
theorem ok_copied {f : Addr} {fd : FuncData} (F : Fun K "copied" "copied" (top 24) f fd) (B : Bl mg) : FnOk P w K mg base CX0 1 f fd ["piece"] spCopied := by
  have sc : FnScope ["piece", "fresh", "table", "rows"] ["piece"] (defScope (top 24)) := ⟨rfl, rfl, rfl, by decide +kernel, rfl, by decide +kernel, by decide +kernel⟩
  refine F.ok sc (fun vs H Q E h => ?_) (fun cdv A outer s H vs Q E hr h => ?_)
  · obtain ⟨p, pc, rfl, _⟩ := h
    rfl
  · obtain ⟨p, pc, rfl, hpc, ok, q⟩ := h
    have hu : (A.deeper (envOfC "copied" (defScope (top 24)) s.heap.objs.size f cdv)).units + 1 < cLine := hu_of hr
    refine ⟨_, pss_cons (ps_set (i := 1) sc.nd rfl (Or.inl rfl) pe_dnewK) (pss_cons (ps_frz (ps_for PassesOwn.never rfl (pi_items (pv 0)) (pg_tup rfl (pgs_cons (pg_name (i := 2) sc.nd rfl (Or.inl rfl)) (pgs_cons (pg_name (i := 3) sc.nd rfl (Or.inl rfl)) pgs_nil)))
        (pss_one (ps_dput hu (pv 1) (pv 2) (pe_comp (osc := defScope (top 24)) (N0 := ["piece", "fresh", "table", "rows"]) (xs := ["row"]) (fr := []) ⟨rfl, by decide +kernel, by decide +kernel, by decide +kernel, by decide, by decide +kernel⟩ rfl rfl rfl (pi_list (pv 3))
          (fun s H fp => pg_name (i := 0) (show (["row"] : List Str).Nodup by decide +kernel) rfl (Or.inl rfl)) (fun s H fp => pif_nil) (fun s H fp => pe_callTy call_dict_of (by rfl) B.dict boot_dict (pa_cons (pv 0) pa_nil))) rfl)))) (pss_one (ps_ret (pv 1)))), ?_⟩
    obtain ⟨ls, hp, hll, hls⟩ := hpc
    refine fun fr hfr => ⟨p, _, (Same.upd hfr) _ _ hp, fun o => ?_⟩
    have np : p ≠ fr := fun e => by rw [← e, hp] at hfr; cases hfr
    have S0 : Same H (upd H fr (.dK [])) := Same.upd hfr
    have d0 : (upd H fr (.dK [])) fr = some (.dK []) := upd_same
    generalize upd H fr (.dK []) = H1 at *
    have hfa : (upd H1 p (.frz o (.dK (zK (pc.map (·.1)) ls)))) p = some (.frz o (.dK (zK (pc.map (·.1)) ls))) := upd_same
    have hb0 : Same H (upd (upd H1 p (.frz o (.dK (zK (pc.map (·.1)) ls)))) p (.dK (zK (pc.map (·.1)) ls))) := S0.trans (back_same (S0 _ _ hp) (Same.refl _))
    have d1 : (upd H1 p (.frz o (.dK (zK (pc.map (·.1)) ls)))) fr = some (.dK []) := by rw [upd_ne np.symm]; exact d0
    generalize upd H1 p (.frz o (.dK (zK (pc.map (·.1)) ls))) = H2 at *
    have kl : (zK (pc.map (·.1)) ls).length = pc.length := by rw [zK_len (by rw [List.length_map]; exact hll), List.length_map]
    refine ⟨_, rfl, p, o, _, rfl, hfa, for_items (a := p) (o := o) (kvs := zK (pc.map (·.1)) ls) (fun i σ H3 => H3 p = some (.frz o (.dK (zK (pc.map (·.1)) ls))) ∧ Same H (upd H3 p (.dK (zK (pc.map (·.1)) ls))) ∧ ∃ u2 u3, σ = [some (.ref p), some (.ref fr), u2, u3] ∧ PcAt (cut H H3) fr (pc.take i))
      ⟨hfa, hb0, _, _, rfl, [], cut_at hfr d1, rfl, fun j l t h => nomatch h⟩ (fun i σ H3 _ p => p.1) ?_ ?_⟩
    · rintro i k v p1 σ H3 hk ⟨h3p, sm, u2, u3, rfl, ls', f1, f2, f3⟩ hp1
      have hi : i < pc.length := by
        have := (List.getElem?_eq_some_iff.mp hk).1
        omega
      obtain ⟨z, l, hz, hl, rfl, rfl⟩ := zK_get hk
      have hil : i < ls.length := by omega
      rw [List.getElem?_map, List.getElem?_eq_getElem hi] at hz
      cases hz
      rw [List.getElem?_eq_getElem hil] at hl
      cases hl
      have hR := hls i ls[i] pc[i] (List.getElem?_eq_getElem hil) (List.getElem?_eq_getElem hi)
      obtain ⟨nl, nr⟩ := PcAt.apart ok hp hll (List.getElem?_eq_getElem hil) (List.getElem?_eq_getElem hi) hR
      obtain ⟨rs, a1, a2, a3⟩ := id hR
      have okt := ok.rl pc[i] (List.getElem_mem hi)
      have T1 := Same.upd (o := .tup [kV (.inr pc[i].1), .ref ls[i]]) hp1
      refine ⟨p1, _, rfl, SqT.of upd_same, rfl, _, _, rfl, _, _, rfl, rfl, ?_⟩
      generalize upd H3 p1 (.tup [kV (.inr pc[i].1), .ref ls[i]]) = H4 at T1
      have back : ∀ {b : Addr} {ob : HO}, b ≠ p → H b = some ob → H4 b = some ob := fun {b ob} nb e => by
        have := sm b ob e
        rw [upd_ne nb] at this
        exact T1 _ _ this
      have l4 := back nl a1
      refine ⟨_, rfl, ls[i], rfl, ⟨_, SqL.of l4⟩, fun D hD => ?_⟩
      have nH : ∀ {b : Addr}, H4 b = none → H b = none := fun {b} e => by
        by_cases nb : b = p
        · rw [nb, T1 _ _ h3p] at e; cases e
        · cases e2 : H b with
          | none => rfl
          | some ob => rw [back nb e2] at e; cases e
      refine compW_idx rs.length (fun i' ys σ' Hc => (∃ t, σ' = [t]) ∧ Same H4 Hc ∧ ∃ qs : List Addr, ys = qs.map V.ref ∧ ∀ (j : Nat) (r : Addr) (row : Rw), qs[j]? = some r → pc[i].2[j]? = some row → H r = none ∧ r ≠ D ∧ r ≠ fr ∧ Hc r = some (.dK (rK row))) (by rw [sizeLine_eq]; omega) ⟨⟨none, rfl⟩, Same.upd hD, [], rfl, fun j r row h => nomatch h⟩ upd_same ?_ ?_
      · rintro i' σ' Hc ys hi' ⟨⟨u, rfl⟩, sc', qs, rfl, hqs⟩ hyl hD'
        rw [List.length_map] at hyl
        have hrow : i' < pc[i].2.length := by omega
        refine ⟨⟨_, V.ref rs[i'], SqL.of (sc' _ _ l4), by rw [List.getElem?_map, List.getElem?_eq_getElem hi']; rfl⟩, ?_⟩
        rintro x H' ⟨rfl, hx'⟩
        have ex := hx' _ (SqL.of (sc' _ _ l4))
        rw [List.getElem?_map, List.getElem?_eq_getElem hi'] at ex
        cases ex
        have r0 := a3 i' rs[i'] pc[i].2[i'] (List.getElem?_eq_getElem hi') (List.getElem?_eq_getElem hrow)
        have r4 := back (nr _ _ (List.getElem_mem hrow) r0) r0
        refine ⟨_, rfl, rs[i'], _, rfl, .inl (sc' _ _ r4), fun r' hr' => ?_⟩
        have T2 := Same.upd (o := .dK (rK pc[i].2[i'])) hr'
        have rD : r' ≠ D := fun e => by rw [e, hD'] at hr'; cases hr'
        refine ⟨T2 _ _ hD', ⟨_, rfl⟩, (sc'.trans T2).put hD, qs ++ [r'], by rw [List.map_append]; rfl, fun j r row h1 h2 => ?_⟩
        by_cases hj : j < qs.length
        · rw [List.getElem?_append_left hj] at h1
          obtain ⟨e1, e2, e4, e3⟩ := hqs j r row h1 h2
          exact ⟨e1, e2, e4, by rw [upd_ne e2]; exact T2 _ _ e3⟩
        · have hj' : j = qs.length := by
            have := (List.getElem?_eq_some_iff.mp h1).1
            rw [List.length_append] at this
            simp at this
            omega
          subst hj'
          rw [List.getElem?_append_right (Nat.le_refl _), Nat.sub_self] at h1
          cases h1
          rw [hyl, List.getElem?_eq_getElem hrow] at h2
          cases h2
          exact ⟨nH (none_of sc' hr'), rD, (fun e => by rw [e, (T1.trans sc') _ _ (cut_sub _ _ f1)] at hr'; cases hr'), by rw [upd_ne rD]; exact upd_same⟩
      · rintro σ' Hc ys ⟨_, sc', qs, rfl, hqs⟩ hDn hyl
        rw [List.length_map] at hyl
        have f1c := (T1.trans sc') _ _ (cut_sub _ _ f1)
        have lt' : ls'.length = i := by rw [f2, List.length_take]; omega
        refine ⟨⟨_, SqL.of (sc' _ _ l4), by rw [List.length_map]; exact Nat.le_refl _⟩, _, rfl, _, rfl, fr, _, rfl, .inl ⟨_, .inr pc[i].1, f1c, rfl, (by rw [zK_len (by rw [List.length_map]; exact f2), List.length_map, List.length_take, sizeLine_eq]; have := ok.le; omega), rfl⟩, ?_⟩
        have hnew : pc[i].1 ∉ (pc.take i).map (·.1) := fun hm => by
          have nd := ok.nd
          have e : pc.map (·.1) = (pc.take i).map (·.1) ++ (pc.drop i).map (·.1) := by rw [← List.map_append, List.take_append_drop]
          rw [e, List.nodup_append] at nd
          refine nd.2.2 _ hm pc[i].1 ?_ rfl
          rw [List.drop_eq_getElem_cons hi, List.map_cons]
          exact List.mem_cons_self
        rw [putK_new _ (zK_new hnew), ← zK_snoc (by rw [List.length_map]; exact f2)]
        have nDf : D ≠ fr := fun e => by rw [e, T1 _ _ (cut_sub _ _ f1)] at hD; cases hD
        refine ⟨by rw [upd_ne np]; exact (T1.trans sc') _ _ h3p, fun b ob hb => ?_, _, _, rfl, ls' ++ [D], cut_at hfr ?_, ?_, fun j l t h1 h2 => ?_⟩
        · by_cases e : b = p
          · subst e
            rw [upd_same]
            rw [hp] at hb
            exact hb
          · rw [upd_ne e, upd_ne (ne_of_none hb hfr)]
            exact sc' _ _ (back e hb)
        · rw [upd_same, List.take_succ, List.getElem?_eq_getElem hi, List.map_append]
          rfl
        · rw [List.length_append, lt', List.length_take]
          show i + 1 = _
          omega
        · by_cases hj : j < i
          · rw [List.getElem?_append_left (by omega)] at h1
            have h2' : (pc.take i)[j]? = some t := by
              rw [List.getElem?_take] at h2 ⊢
              rw [if_pos (by omega)] at h2 ⊢
              exact h2
            obtain ⟨qs', b1, b2, b3⟩ := f3 j l t h1 h2'
            have g := cut_up (H0 := H) (T1.trans sc')
            have nlf : l ≠ fr := fun e => by rw [e, f1] at b1; cases b1
            refine ⟨qs', ?_, b2, fun j' r row c1 c2 => ?_⟩
            · rw [cut_put hfr, upd_ne nlf]
              exact g _ _ b1
            · have b4 := b3 j' r row c1 c2
              have htp : t ∈ pc := by
                rw [List.getElem?_take, if_pos hj] at h2'
                exact List.mem_of_getElem? h2'
              have nrf : r ≠ fr := fun e => by
                rw [e, f1] at b4
                injection b4 with e1
                injection e1 with e2
                have hm : ((.inr t.1 : Key), V.ref l) ∈ zK ((pc.take i).map (·.1)) ls' := zK_mem (j := j) (by rw [List.getElem?_map, h2']; rfl) h1
                rw [e2] at hm
                exact rK_flat (ok.rw_ t htp row (List.mem_of_getElem? c2)) hm
              rw [cut_put hfr, upd_ne nrf]
              exact g _ _ b4
          · have hj' : j = i := by
              have := (List.getElem?_eq_some_iff.mp h1).1
              rw [List.length_append, lt'] at this
              simp at this
              omega
            subst hj'
            rw [List.getElem?_append_right (by omega), lt', Nat.sub_self] at h1
            cases h1
            rw [List.getElem?_take, if_pos (by omega), List.getElem?_eq_getElem hi] at h2
            cases h2
            refine ⟨qs, cut_at (nH hD) (by rw [upd_ne nDf]; exact hDn), by omega, fun j' r row c1 c2 => ?_⟩
            obtain ⟨e1, e2, nrf, e3⟩ := hqs j' r row c1 c2
            exact cut_at e1 (by rw [upd_ne nrf]; exact e3)
    · rintro σ H3 ⟨h3p, sm, u2, u3, rfl, hfin⟩
      rw [kl, List.take_length] at hfin
      exact ⟨h3p, _, rfl, q fr _ sm (hfin.same (cut_upd hp))⟩
end
end My

namespace L2
open PySem PySem.Spec PyProof.Rows
theorem perm_lift {α β : Type} (f : α → β) {l1 l2 : List β} (h : l1.Perm l2) : ∀ ts : List α, l2 = ts.map f → ∃ us : List α, us.Perm ts ∧ us.map f = l1 := by
  induction h with
  | nil =>
    intro ts e
    cases ts with
    | nil => exact ⟨[], .nil, rfl⟩
    | cons a b => cases e
  | cons x _ ih =>
    intro ts e
    cases ts with
    | nil => cases e
    | cons a b =>
      rw [List.map_cons] at e
      injection e with e1 e2
      obtain ⟨us, h1, h2⟩ := ih b e2
      exact ⟨a :: us, .cons a h1, by rw [List.map_cons, h2, e1]⟩
  | swap x y l =>
    intro ts e
    match ts, e with
    | a :: b :: r, e =>
      rw [List.map_cons, List.map_cons] at e
      injection e with e1 e2
      injection e2 with e2 e3
      exact ⟨b :: a :: r, .swap a b r, by rw [List.map_cons, List.map_cons, ← e1, ← e2, ← e3]⟩
  | trans _ _ ih1 ih2 =>
    intro ts e
    obtain ⟨us, h1, h2⟩ := ih2 ts e
    obtain ⟨ws, h3, h4⟩ := ih1 us h2.symm
    exact ⟨ws, h3.trans h1, h4⟩
/-- pairs sorted by their numbers -/
def srt {α : Type} (es : List (Int × α)) : List (Int × α) := es.mergeSort fun a b => decide (a.1 ≤ b.1)
theorem srt_perm {α : Type} (es : List (Int × α)) : (srt es).Perm es := List.mergeSort_perm _ _
theorem srt_le {α : Type} (es : List (Int × α)) : ((srt es).map (·.1)).Pairwise (· ≤ ·) := by
  rw [List.pairwise_map]
  refine (List.pairwise_mergeSort (le := fun a b : Int × α => decide (a.1 ≤ b.1)) (fun a b c h1 h2 => ?_) (fun a b => ?_) es).imp (fun h => of_decide_eq_true h)
  · exact decide_eq_true (Int.le_trans (of_decide_eq_true h1) (of_decide_eq_true h2))
  · rcases Int.le_total a.1 b.1 with h | h
    · rw [decide_eq_true h]; rfl
    · rw [decide_eq_true h, Bool.or_true]
theorem srt_keys {α : Type} {es : List (Int × α)} {ms : List Int} (h : ms.Perm (es.map (·.1))) (hs : ms.Pairwise (· ≤ ·)) : ms = (srt es).map (·.1) :=
  List.Perm.eq_of_pairwise (le := fun a b : Int => a ≤ b) (fun a b _ _ h1 h2 => Int.le_antisymm h1 h2) hs (srt_le es) (h.trans ((srt_perm es).map _).symm)
theorem mt_app {X : Cx} : MtR X "list.append" rAppend := mt_append
theorem mt_clr {X : Cx} : MtR X "list.clear" rClear := mt_clear
end L2
namespace My
open PySem L2 PyProof.Rows
seal L2.PE L2.PT L2.PW L2.PS L2.PSs L2.PA L2.PI L2.PG L2.PGs L2.OpR L2.UnR L2.CallR L2.IxR L2.SlR L2.MtR L2.PIf L2.PO L2.MtM L2.PC
/-- a thing: its key, its piece's place and content -/
structure En where
  k : Int
  p : Addr
  pc : Pc
def kc (e : En) : Int × Pc := (e.k, e.pc)
def kvT (es : List En) : List (Key × V) := es.map fun e => (.inl e.k, .ref e.p)
structure ThsAt (H : Hp) (a : Addr) (es : List En) : Prop where
  at_ : H a = some (.dK (kvT es))
  nd : (es.map (·.k)).Nodup
  le : es.length ≤ 63
  th : ∀ e ∈ es, PcAt H e.p e.pc
  ok : ∀ e ∈ es, PcOk e.pc
theorem ThsAt.same {H H' : Hp} {a : Addr} {es : List En} (h : ThsAt H a es) (s : Same H H') : ThsAt H' a es := ⟨s _ _ h.at_, h.nd, h.le, fun e he => (h.th e he).same s, h.ok⟩
theorem valV_map {α : Type} {f : α → Int} {g : α → V} {l : List α} (nd : (l.map f).Nodup) {t : α} (h : t ∈ l) : valV (l.map fun t => ((Sum.inl (f t) : Key), g t)) (.inl (f t)) = some (g t) := by
  induction l with
  | nil => cases h
  | cons a r ih =>
    rw [List.map_cons, List.nodup_cons] at nd
    by_cases e : f a = f t
    · have : t = a := by
        rcases List.mem_cons.mp h with h | h
        · exact h
        · exact absurd (List.mem_map.mpr ⟨t, h, e.symm⟩) nd.1
      subst this
      exact valV_pos rfl
    · rcases List.mem_cons.mp h with h | h
      · rw [h] at e; exact absurd rfl e
      · rw [List.map_cons, valV_neg (p := ((Sum.inl (f a) : Key), g a)) (fun e2 => e (by injection e2))]
        exact ih nd.2 h
theorem valV_non {α : Type} {f : α → Int} {g : α → V} {l : List α} {k : Int} (h : k ∉ l.map f) : valV (l.map fun t => ((Sum.inl (f t) : Key), g t)) (.inl k) = none := by
  unfold valV
  rw [List.find?_eq_none.mpr fun x hx => ?_]
  · rfl
  · obtain ⟨t, ht, rfl⟩ := List.mem_map.mp hx
    intro hd
    have e := of_decide_eq_true hd
    injection e with e
    exact h (List.mem_map.mpr ⟨t, ht, e⟩)
theorem ThsAt.get {H : Hp} {a : Addr} {es : List En} (h : ThsAt H a es) {e : En} (he : e ∈ es) : DGet H a (.int e.k) (some (.ref e.p)) := .inl ⟨_, .inl e.k, .inl h.at_, rfl, (valV_map (f := En.k) (g := fun t : En => V.ref t.p) h.nd he).symm⟩
theorem ThsAt.non {H : Hp} {a : Addr} {es : List En} (h : ThsAt H a es) {k : Int} (hk : k ∉ es.map (·.k)) : DGet H a (.int k) none := .inl ⟨_, .inl k, .inl h.at_, rfl, (valV_non (f := En.k) (g := fun t : En => V.ref t.p) hk).symm⟩
/-- a table of a piece -/
def tab (pc : Pc) (T : Str) : List Rw := ((pc.find? fun t => decide (t.1 = T)).map (·.2)).getD []
theorem tab_at {pc : Pc} {T : Str} (h : T ∈ pc.map (·.1)) : ∃ (i : Nat) (t : Str × List Rw), pc[i]? = some t ∧ t.1 = T ∧ t.2 = tab pc T := by
  induction pc with
  | nil => cases h
  | cons a r ih =>
    by_cases e : a.1 = T
    · refine ⟨0, a, rfl, e, ?_⟩
      unfold tab
      rw [List.find?_cons_of_pos (by simpa using e)]
      rfl
    · rw [List.map_cons] at h
      rcases List.mem_cons.mp h with h | h
      · exact absurd h.symm e
      · obtain ⟨i, t, h1, h2, h3⟩ := ih h
        refine ⟨i + 1, t, by rw [List.getElem?_cons_succ]; exact h1, h2, ?_⟩
        rw [h3]
        unfold tab
        rw [List.find?_cons_of_neg (by simpa using e)]
theorem PcAt.get {H : Hp} {p : Addr} {pc : Pc} (ok : PcOk pc) (h : PcAt H p pc) {T : Str} (hT : T ∈ pc.map (·.1)) : ∃ l, DGet H p (.str T) (some (.ref l)) ∧ RowsAt H l (tab pc T) ∧ (tab pc T).length ≤ 1000 ∧ ∀ row ∈ tab pc T, RwOk row := by
  obtain ⟨i, t, h1, rfl, h3⟩ := tab_at hT
  obtain ⟨ls, a1, a2, a3⟩ := h
  have hi : i < ls.length := by have := (List.getElem?_eq_some_iff.mp h1).1; omega
  refine ⟨ls[i], .inl ⟨_, .inr t.1, .inl a1, rfl, ?_⟩, ?_, ?_, ?_⟩
  · unfold zK
    rw [zw_val (i := i) (z := t.1) (v := .ref ls[i]) ok.nd (by rw [List.getElem?_map, h1]; rfl) (by rw [List.getElem?_map, List.getElem?_eq_getElem hi]; rfl)]
  · rw [← h3]; exact a3 i _ t (List.getElem?_eq_getElem hi) h1
  · rw [← h3]; exact ok.rl t (List.mem_of_getElem? h1)
  · rw [← h3]; exact ok.rw_ t (List.mem_of_getElem? h1)
theorem keys_ths (es : List En) : (kvT es).map (·.1) = ((es.map kc).map (·.1)).map Sum.inl := by
  unfold kvT
  rw [List.map_map, List.map_map, List.map_map]
  rfl
/-- the rows of a table, in order of keys and places -/
def flat (T : Str) (es : List (Int × Pc)) : List (Int × Nat × Rw) := es.flatMap fun e => (tab e.2 T).mapIdx fun i row => (e.1, i, row)
/-- the tuples that rows_in makes: the rows themselves are the old ones (in HO) -/
def RIn (HO H : Hp) (l : Addr) (cs : List (Int × Nat × Rw)) : Prop := ∃ xs rs : List Addr, H l = some (.lst (xs.map V.ref)) ∧ xs.length = cs.length ∧ rs.length = cs.length ∧ ∀ (j : Nat) (x r : Addr) (c : Int × Nat × Rw), xs[j]? = some x → rs[j]? = some r → cs[j]? = some c → H x = some (.tup [.int c.1, .int (c.2.1 : Nat), .ref r]) ∧ HO r = some (.dK (rK c.2.2))
theorem RIn.same {HO H H' : Hp} {l : Addr} {cs : List (Int × Nat × Rw)} (h : RIn HO H l cs) (s : Same H H') : RIn HO H' l cs := let ⟨xs, rs, a, b, c, d⟩ := h; ⟨xs, rs, s _ _ a, b, c, fun j x r k e1 e2 e3 => ⟨s _ _ (d j x r k e1 e2 e3).1, (d j x r k e1 e2 e3).2⟩⟩
/-- one more -/
theorem RIn.snoc {HO H H' : Hp} {l x r : Addr} {cs : List (Int × Nat × Rw)} {c : Int × Nat × Rw} {xs rs : List Addr} (a1 : H' l = some (.lst ((xs ++ [x]).map V.ref))) (a2 : xs.length = cs.length) (a3 : rs.length = cs.length)
    (a4 : ∀ (j : Nat) (x r : Addr) (c : Int × Nat × Rw), xs[j]? = some x → rs[j]? = some r → cs[j]? = some c → H x = some (.tup [.int c.1, .int (c.2.1 : Nat), .ref r]) ∧ HO r = some (.dK (rK c.2.2))) (s : ∀ b o, b ≠ l → H b = some o → H' b = some o) (nl : ∀ ys, H l = some (.lst ys) ∨ True) (hl : ∃ ys, H l = some (.lst ys))
    (hx : H' x = some (.tup [.int c.1, .int (c.2.1 : Nat), .ref r])) (hr : HO r = some (.dK (rK c.2.2))) : RIn HO H' l (cs ++ [c]) := by
  refine ⟨xs ++ [x], rs ++ [r], a1, by rw [List.length_append, List.length_append, a2]; rfl, by rw [List.length_append, List.length_append, a3]; rfl, fun j y q k e1 e2 e3 => ?_⟩
  by_cases hj : j < cs.length
  · rw [List.getElem?_append_left (by omega)] at e1 e2 e3
    obtain ⟨g1, g2⟩ := a4 j y q k e1 e2 e3
    obtain ⟨ys, hl⟩ := hl
    exact ⟨s _ _ (fun e => by rw [e, hl] at g1; cases g1) g1, g2⟩
  · have hj' : j = cs.length := by
      have := (List.getElem?_eq_some_iff.mp e3).1
      rw [List.length_append] at this
      simp at this
      omega
    subst hj'
    rw [List.getElem?_append_right (by omega)] at e1 e2 e3
    rw [a2, Nat.sub_self] at e1
    rw [a3, Nat.sub_self] at e2
    rw [Nat.sub_self] at e3
    cases e1
    cases e2
    cases e3
    exact ⟨hx, hr⟩
def spRowsIn : Sp := fun vs H Q _ => ∃ (a : Addr) (T : Str) (es : List En), vs = [.ref a, .str T] ∧ ThsAt H a es ∧ (∀ e ∈ es, T ∈ e.pc.map (·.1)) ∧ (flat T (srt (es.map kc))).length ≤ 100000 ∧ ∀ l H', Same H H' → RIn H (cut H H') l (flat T (srt (es.map kc))) → Q (.ref l) H'
section
variable {P : Program} {w : World} {K : PySem.W.Frag} {mg : Str → Option Value} {base : Heap}
theorem ok_rowsIn {f : Addr} {fd : FuncData} (F : Fun K "rows_in" "rows_in" (top 37) f fd) (B : Bl mg) : FnOk P w K mg base CX0 1 f fd ["things", "table"] spRowsIn := by
  have sc : FnScope ["things", "table", "found", "key", "place", "row"] ["things", "table"] (defScope (top 37)) := ⟨rfl, rfl, rfl, by decide +kernel, rfl, by decide +kernel, by decide +kernel⟩
  refine F.ok sc (fun vs H Q E h => ?_) (fun cdv A outer s H vs Q E hr h => ?_)
  · obtain ⟨a, T, es, rfl, _⟩ := h
    rfl
  · obtain ⟨a, T, es, rfl, hts, hT, hbig, q⟩ := h
    have hu : (A.deeper (envOfC "rows_in" (defScope (top 37)) s.heap.objs.size f cdv)).units + 1 < cLine := hu_of hr
    refine ⟨_, pss_cons (ps_set (i := 2) sc.nd rfl (Or.inl rfl) (pe_lst pa_nil)) (pss_cons (ps_for PassesOwn.never rfl (pi_list (pe_callB (call_sortedDI rfl) (by rfl) B.sorted boot_sorted (pa_cons (pv 0) pa_nil))) (pg_name (i := 3) sc.nd rfl (Or.inl rfl))
        (pss_one (ps_for PassesOwn.never rfl (pi_enum (by rfl) B.enum (pa_cons (pe_dget hu (pe_dget hu (pv 0) (pv 3) (fun _ _ => rfl)) (pv 1) (fun _ _ => rfl)) pa_nil)) (pg_tup rfl (pgs_cons (pg_name (i := 4) sc.nd rfl (Or.inl rfl)) (pgs_cons (pg_name (i := 5) sc.nd rfl (Or.inl rfl)) pgs_nil)))
          (pss_one (ps_expr (pe_bm PySem.F.plainAttrs_list PySem.F.slot_list_append PySem.F.type_list_append mt_app (pv 2) (pa_cons (pe_tup (pa_cons (pv 3) (pa_cons (pv 4) (pa_cons (pv 5) pa_nil)))) pa_nil)))))))
      (pss_one (ps_ret (pv 2)))), ?_⟩
    refine ⟨Nat.zero_le _, fun fo hfo => ?_⟩
    have S0 := Same.upd (o := .lst []) hfo
    have f0 : (upd H fo (.lst [])) fo = some (.lst []) := upd_same
    generalize upd H fo (.lst []) = H0 at *
    refine ⟨_, rfl, a, _, (es.map kc).map (·.1), rfl, .inl (S0 _ _ hts.at_), keys_ths es, (by rw [List.length_map, List.length_map]; have := hts.le; omega), fun l ms hl hp hs => ?_⟩
    obtain rfl := srt_keys hp hs
    obtain ⟨us, hus, huk⟩ := perm_lift kc (srt_perm (es.map kc)) es rfl
    rw [← huk] at hbig q
    have S1 := Same.upd (o := .lst (((srt (es.map kc)).map (·.1)).map V.int)) hl
    have l1 : (upd H0 l (.lst (((srt (es.map kc)).map (·.1)).map V.int))) l = some (.lst (us.map fun u => V.int u.k)) := by
      rw [upd_same, ← huk, List.map_map, List.map_map]
      rfl
    generalize upd H0 l (.lst (((srt (es.map kc)).map (·.1)).map V.int)) = H1 at *
    have S01 := S0.trans S1
    have nlf : l ≠ fo := fun e => by rw [e, f0] at hl; cases hl
    refine ⟨l, rfl, ⟨_, SqL.of l1⟩, for_list (K := K) (a := l) (xs := us.map fun u => V.int u.k) (fun i σ H2 => Same H H2 ∧ H2 l = some (.lst (us.map fun u => V.int u.k)) ∧ ∃ (u3 u4 u5 : Option V), σ = [some (.ref a), some (.str T), some (.ref fo), u3, u4, u5] ∧ RIn H (cut H H2) fo (flat T ((us.map kc).take i))) ⟨S01, l1, _, _, _, rfl, [], [], cut_at hfo (S1 _ _ f0), rfl, rfl, fun j x r c h => nomatch h⟩ (fun i σ H2 _ p => SqL.of p.2.1) ?_ ?_⟩
    · rintro i x σ H2 hx ⟨sm, hl2, u3, u4, u5, rfl, hR⟩
      have hi : i < us.length := by
        have := (List.getElem?_eq_some_iff.mp hx).1
        rwa [List.length_map] at this
      rw [List.getElem?_map, List.getElem?_eq_getElem hi] at hx
      cases hx
      have hum : us[i] ∈ es := hus.mem_iff.mp (List.getElem_mem hi)
      obtain ⟨lr, g1, g2, g3, g4⟩ := PcAt.get (hts.ok _ hum) (hts.th _ hum) (hT _ hum)
      have g1' : ∀ {H5 : Hp}, Same H H5 → DGet H5 us[i].p (.str T) (some (.ref lr)) := fun {H5} s5 => by
        rcases g1 with ⟨kvs, k, e1, e2, e3⟩ | ⟨_, _, b, _, e2, _⟩
        · rcases e1 with e1 | ⟨ob, e1⟩
          · exact .inl ⟨kvs, k, .inl (s5 _ _ e1), e2, e3⟩
          · exact .inl ⟨kvs, k, .inr ⟨ob, s5 _ _ e1⟩, e2, e3⟩
        · cases e2
      obtain ⟨rs, b1, b2, b3⟩ := g2
      refine ⟨_, rfl, _, rfl, a, _, rfl, (hts.same sm).get hum, _, rfl, _, _, rfl, g1' sm, _, rfl, ⟨_, SqL.of (sm _ _ b1)⟩, ?_⟩
      have tk1 : ∀ j, j ≤ (tab us[i].pc T).length → (flat T ((us.map kc).take i) ++ ((tab us[i].pc T).take j).mapIdx fun n row => (us[i].k, n, row)).length ≤ 100000 := fun j hj => by
        have e : (flat T (us.map kc)) = flat T ((us.map kc).take i) ++ ((tab us[i].pc T).mapIdx (fun n row => (us[i].k, n, row)) ++ flat T ((us.map kc).drop (i + 1))) := by
          have : us.map kc = (us.map kc).take i ++ (kc us[i] :: (us.map kc).drop (i + 1)) := by
            rw [← List.map_take, ← List.map_drop]
            rw [← List.map_cons (f := kc), ← List.map_append]
            rw [← List.drop_eq_getElem_cons hi, List.take_append_drop]
          conv => lhs; rw [this]
          unfold flat
          rw [List.flatMap_append, List.flatMap_cons]
          rfl
        have hb := hbig
        rw [e, List.length_append, List.length_append, List.length_mapIdx] at hb
        rw [List.length_append, List.length_mapIdx, List.length_take]
        omega
      refine for_enum (K := K) (a := lr) (xs := rs.map V.ref) (fun j σ H3 => Same H H3 ∧ H3 l = some (.lst (us.map fun u => V.int u.k)) ∧ ∃ (u4 u5 : Option V), σ = [some (.ref a), some (.str T), some (.ref fo), some (.int us[i].k), u4, u5] ∧ RIn H (cut H H3) fo (flat T ((us.map kc).take i) ++ ((tab us[i].pc T).take j).mapIdx fun n row => (us[i].k, n, row))) ⟨sm, hl2, _, _, rfl, by rw [List.take_zero]; simpa using hR⟩ (fun j σ H3 _ p => SqL.of (p.1 _ _ b1)) ?_ ?_
      · rintro j x p σ H3 hx ⟨sm3, hl3, u4, u5, rfl, xs3, rs3, q1, q2, q3, q4⟩ hp
        have hj : j < rs.length := by
          have := (List.getElem?_eq_some_iff.mp hx).1
          rwa [List.length_map] at this
        have hjt : j < (tab us[i].pc T).length := by omega
        rw [List.getElem?_map, List.getElem?_eq_getElem hj] at hx
        cases hx
        have T1 := Same.upd (o := .tup [.int (j : Nat), .ref rs[j]]) hp
        refine ⟨p, _, rfl, SqT.of upd_same, rfl, _, _, rfl, _, _, rfl, rfl, ?_⟩
        generalize upd H3 p (.tup [.int (j : Nat), .ref rs[j]]) = H4 at T1
        have fo4 := T1 _ _ (cut_sub _ _ q1)
        refine ⟨_, rfl, .inl ⟨rfl, _, SqL.of fo4⟩, _, rfl, _, rfl, _, rfl, (by show 3 ≤ sizeLine; decide), fun t ht => ?_⟩
        have T2 := Same.upd (o := .tup [.int us[i].k, .int (j : Nat), .ref rs[j]]) ht
        have t2 : (upd H4 t (.tup [.int us[i].k, .int (j : Nat), .ref rs[j]])) t = some (.tup [.int us[i].k, .int (j : Nat), .ref rs[j]]) := upd_same
        generalize upd H4 t (.tup [.int us[i].k, .int (j : Nat), .ref rs[j]]) = H5 at T2 t2
        have T12 := T1.trans T2
        have tf : t ≠ fo := fun e => by rw [e, fo4] at ht; cases ht
        have hle := tk1 j (by omega)
        refine ⟨fo, _, _, rfl, rfl, T2 _ _ fo4, (by rw [List.length_map, q2, sizeLine_eq]; omega), ?_⟩
        refine ⟨(sm3.trans T12).put hfo, by rw [upd_ne nlf]; exact T12 _ _ hl3, _, _, rfl, ?_⟩
        have e2 : (tab us[i].pc T).take (j + 1) = (tab us[i].pc T).take j ++ [(tab us[i].pc T)[j]] := by rw [List.take_succ, List.getElem?_eq_getElem hjt]; rfl
        rw [e2, List.mapIdx_concat, ← List.append_assoc]
        refine RIn.snoc (H := cut H H3) (x := t) (r := rs[j]) (xs := xs3) (rs := rs3) (cut_at hfo (by rw [upd_same, List.map_append]; rfl)) q2 q3 q4 (fun b ob nb e => cut_at (cut_new e) (by rw [upd_ne nb]; exact T12 _ _ (cut_sub _ _ e))) (fun _ => .inr trivial) ⟨_, q1⟩ (cut_at (none_of (sm3.trans T1) ht) ?_) (b3 j _ _ (List.getElem?_eq_getElem hj) (List.getElem?_eq_getElem hjt))
        rw [upd_ne tf, t2, List.length_take]
        rw [Nat.min_eq_left (by omega)]
      · rintro σ H3 ⟨sm3, hl3, u4, u5, rfl, rr⟩
        rw [List.length_map, b2, List.take_length] at rr
        refine ⟨sm3, hl3, _, _, _, rfl, ?_⟩
        have e : flat T ((us.map kc).take (i + 1)) = flat T ((us.map kc).take i) ++ (tab us[i].pc T).mapIdx fun n row => (us[i].k, n, row) := by
          rw [List.take_succ, List.getElem?_map, List.getElem?_eq_getElem hi]
          unfold flat
          rw [List.flatMap_append]
          show _ ++ List.flatMap _ [kc us[i]] = _
          rw [List.flatMap_singleton]
          rfl
        rw [e]
        exact rr
    · rintro σ H2 ⟨sm, hl2, u3, u4, u5, rfl, rr⟩
      rw [List.length_map, ← List.length_map (f := kc), List.take_length] at rr
      exact ⟨_, rfl, q fo H2 sm rr⟩
end
end My

namespace My
open PySem L2 PyProof.Rows
seal L2.PE L2.PT L2.PW L2.PS L2.PSs L2.PA L2.PI L2.PG L2.PGs L2.OpR L2.UnR L2.CallR L2.IxR L2.SlR L2.MtR L2.PIf L2.PO L2.MtM L2.PC
/-- a form whose columns are neither of this sort nor of that -/
structure FmAt (H : Hp) (f : Addr) (sz : Int) (Ts : List Tb) : Prop where
  at_ : FormAt H f sz Ts
  nd : (Ts.map (·.name)).Nodup
  le : Ts.length ≤ 8
  cn : ∀ T ∈ Ts, (T.cols.map (·.1)).Nodup ∧ T.cols.length ≤ 12
  kd : ∀ T ∈ Ts, ∀ c ∈ T.cols, ∃ z rest, H c.2 = some (.tup (.str z :: rest)) ∧ z ≠ ("once" : Str) ∧ z ≠ ("key" : Str)
theorem FmAt.same {H H' : Hp} {f : Addr} {sz : Int} {Ts : List Tb} (h : FmAt H f sz Ts) (s : Same H H') : FmAt H' f sz Ts := ⟨h.at_.same s, h.nd, h.le, h.cn, fun T hT c hc => let ⟨z, r, a, b, d⟩ := h.kd T hT c hc; ⟨z, r, s _ _ a, b, d⟩⟩
theorem valC {cols : List (Str × Addr)} (nd : (cols.map (·.1)).Nodup) {c : Str × Addr} (h : c ∈ cols) : valV (kvC cols) (.inr c.1) = some (.ref c.2) := by
  induction cols with
  | nil => cases h
  | cons a r ih =>
    rw [List.map_cons, List.nodup_cons] at nd
    unfold kvC at ih ⊢
    rw [List.map_cons]
    by_cases e : a.1 = c.1
    · have : c = a := by
        rcases List.mem_cons.mp h with h | h
        · exact h
        · exact absurd (List.mem_map.mpr ⟨c, h, e.symm⟩) nd.1
      subst this
      exact valV_pos rfl
    · rcases List.mem_cons.mp h with h | h
      · rw [h] at e; exact absurd rfl e
      · rw [valV_neg (p := ((Sum.inr a.1 : Key), V.ref a.2)) (fun e2 => e (by injection e2))]
        exact ih nd.2 h
def spCBS : Sp := fun vs H Q _ => ∃ (f : Addr) (sz : Int) (Ts : List Tb) (z : Str), vs = [.ref f, .str z] ∧ FmAt H f sz Ts ∧ (z = "once" ∨ z = "key") ∧ ∀ p H', Same H H' → H' p = some (.lst []) → Q (.ref p) H'
def spAskW : Sp := fun vs H Q _ => ∃ (f : Addr) (sz : Int) (Ts : List Tb) (x : V), vs = [.ref f, x] ∧ FmAt H f sz Ts ∧ ∀ H', Same H H' → Q .non H'
section
variable {P : Program} {w : World} {K : PySem.W.Frag} {mg : Str → Option Value} {base : Heap}
theorem ok_cbs {f fT fC fI : Addr} {fd fdT fdC fdI : FuncData} (F : Fun K "columns_by_sort" "columns_by_sort" (top 34) f fd) (B : Bl mg) (DT : Df K mg "tables_of" (top 18) fT fdT) (DC : Df K mg "columns_of" (top 21) fC fdC) (DI : Df K mg "table_in" (top 22) fI fdI) : FnOk P w K mg base CX0 3 f fd ["form", "sort"] spCBS := by
  have sc : FnScope ["form", "sort", "found", "table", "columns", "column"] ["form", "sort"] (defScope (top 34)) := ⟨rfl, rfl, rfl, by decide +kernel, rfl, by decide +kernel, by decide +kernel⟩
  have GT : FnOk P w K mg base CX0 1 fT fdT ["form"] spTabs := ok_tabs DT.fn
  have bT := DT.fn.binds (ps := ["form"]) fun _ _ _ _ _ _ us hl => by obtain ⟨v0, rfl⟩ := L2.ln1 hl; rfl
  have GC : FnOk P w K mg base CX0 2 fC fdC ["form", "table"] spColsOf := ok_colsOf DC.fn B DI
  have bC := DC.fn.binds (ps := ["form", "table"]) fun _ _ _ _ _ _ us hl => by obtain ⟨v0, v1, rfl⟩ := L2.ln2 hl; rfl
  refine F.ok sc (fun vs H Q E h => ?_) (fun cdv A outer s H vs Q E hr h => ?_)
  · obtain ⟨f, sz, Ts, z, rfl, _⟩ := h
    rfl
  · obtain ⟨f, sz, Ts, z, rfl, hf, nz, q⟩ := h
    have hr1 : Room 1 _ := hr.mono (by decide)
    have hu : (A.deeper (envOfC "columns_by_sort" (defScope (top 34)) s.heap.objs.size _ cdv)).units + 1 < cLine := hu_of hr
    refine ⟨_, pss_cons (ps_set (i := 2) sc.nd rfl (Or.inl rfl) (pe_lst pa_nil)) (pss_cons (ps_for PassesOwn.never rfl (pi_list (pe_call GT hr1 (by rfl) DT.mg DT.fn.kp bT .nil pass0 (pa_cons (pv 0) pa_nil))) (pg_name (i := 3) sc.nd rfl (Or.inl rfl))
        (pss_cons (ps_set (i := 4) sc.nd rfl (Or.inl rfl) (pe_call GC hr (by rfl) DC.mg DC.fn.kp bC .nil pass0 (pa_cons (pv 0) (pa_cons (pv 3) pa_nil))))
          (pss_one (ps_for PassesOwn.never rfl (pi_list (pe_callB (call_sortedD rfl) (by rfl) B.sorted boot_sorted (pa_cons (pv 4) pa_nil))) (pg_name (i := 5) sc.nd rfl (Or.inl rfl))
            (pss_one (ps_if (pt_cmpR op_eq (pe_ix ix_tup (pe_dget hu (pv 4) (pv 5) (fun _ _ => rfl)) pe_int (fun _ _ => rfl)) (pv 1) (nomark _)) pss_never pss_nil)))))) (pss_one (ps_ret (pv 2)))), ?_⟩
    refine ⟨Nat.zero_le _, fun fo hfo0 => ?_⟩
    have S0 := Same.upd (o := .lst []) hfo0
    have f0 : (upd H fo (.lst [])) fo = some (.lst []) := upd_same
    generalize upd H fo (.lst []) = H0 at *
    refine ⟨_, rfl, f, sz, _, rfl, hf.at_.same S0, hf.le, fun p H1 hp s1 p1 => ?_⟩
    have S1 := S0.trans s1
    refine ⟨p, rfl, ⟨_, SqL.of p1⟩, for_list (K := K) (a := p) (xs := (Ts.map (·.name)).map V.str) (fun i σ H2 => Same H1 H2 ∧ ∃ u3 u4 u5, σ = [some (.ref f), some (.str z), some (.ref fo), u3, u4, u5]) ⟨Same.refl _, _, _, _, rfl⟩ (fun i σ H2 _ p => SqL.of (p.1 _ _ p1)) ?_ ?_⟩
    · rintro i x σ H2 hx ⟨s2, u3, u4, u5, rfl⟩
      obtain ⟨nm, hnm, rfl⟩ := List.mem_map.mp (List.mem_of_getElem? hx)
      obtain ⟨T, hT, rfl⟩ := List.mem_map.mp hnm
      obtain ⟨cnd, cle⟩ := hf.cn T hT
      refine ⟨_, rfl, _, rfl, f, sz, Ts, T, rfl, hf.at_.same (S1.trans s2), hf.nd, hT, cnd, cle, fun c H3 hc s3 c3 => ?_⟩
      refine ⟨_, rfl, c, _, T.cols.map (·.1), rfl, .inl c3, (by unfold kvC; rw [List.map_map, List.map_map]; rfl), (by rw [List.length_map]; omega), fun l ys hl hp hs => ?_⟩
      have T4 := Same.upd (o := .lst (ys.map V.str)) hl
      have l4 : (upd H3 l (.lst (ys.map V.str))) l = some (.lst (ys.map V.str)) := upd_same
      generalize upd H3 l (.lst (ys.map V.str)) = H4 at *
      refine ⟨l, rfl, ⟨_, SqL.of l4⟩, for_list (K := K) (a := l) (xs := ys.map V.str) (fun j σ H5 => H5 = H4 ∧ ∃ u5, σ = [some (.ref f), some (.str z), some (.ref fo), some (.str T.name), some (.ref c), u5]) ⟨rfl, _, rfl⟩ (fun i σ H2 _ p => by rw [p.1]; exact SqL.of l4) ?_ ?_⟩
      · rintro j x σ H5 hx ⟨rfl, u5, rfl⟩
        obtain ⟨y, hy, rfl⟩ := List.mem_map.mp (List.mem_of_getElem? hx)
        obtain ⟨cc, hcc, rfl⟩ := List.mem_map.mp (hp.mem_iff.mp hy)
        obtain ⟨kz, rest, k1, k2, k3⟩ := hf.kd T hT cc hcc
        refine ⟨_, rfl, _, rfl, c, _, rfl, .inl ⟨_, .inr cc.1, .inl (T4 _ _ c3), rfl, (valC cnd hcc).symm⟩, _, _, 0, .str kz, rfl, rfl, SqT.of ((((S1.trans s2).trans s3).trans T4) _ _ k1), atI_nat (j := 0) rfl, _, rfl, rfl, _, rfl, ?_⟩
        refine iteC (decide_eq_false fun e => ?_) ⟨rfl, _, rfl⟩
        injection e with e
        rcases nz with rfl | rfl
        · exact k2 e
        · exact k3 e
      · rintro σ H5 ⟨rfl, u5, rfl⟩
        exact ⟨s2.trans (s3.trans T4), _, _, _, rfl⟩
    · rintro σ H2 ⟨s2, u3, u4, u5, rfl⟩
      exact ⟨_, rfl, q fo H2 (S1.trans s2) ((s1.trans s2) _ _ f0)⟩
theorem ok_askW {f fB fT fC fI : Addr} {fd fdB fdT fdC fdI : FuncData} (F : Fun K "ask_whole_table" "ask_whole_table" (top 33) f fd) (B : Bl mg) (DB : Df K mg "columns_by_sort" (top 34) fB fdB) (DT : Df K mg "tables_of" (top 18) fT fdT) (DC : Df K mg "columns_of" (top 21) fC fdC) (DI : Df K mg "table_in" (top 22) fI fdI) : FnOk P w K mg base CX0 4 f fd ["form", "things"] spAskW := by
  have sc : FnScope ["form", "things", "table", "column"] ["form", "things"] (defScope (top 33)) := ⟨rfl, rfl, rfl, by decide +kernel, rfl, by decide +kernel, by decide +kernel⟩
  have GB : FnOk P w K mg base CX0 3 fB fdB ["form", "sort"] spCBS := ok_cbs DB.fn B DT DC DI
  have bB := DB.fn.binds (ps := ["form", "sort"]) fun _ _ _ _ _ _ us hl => by obtain ⟨v0, v1, rfl⟩ := L2.ln2 hl; rfl
  refine F.ok sc (fun vs H Q E h => ?_) (fun cdv A outer s H vs Q E hr h => ?_)
  · obtain ⟨f, sz, Ts, x, rfl, _⟩ := h
    rfl
  · obtain ⟨f, sz, Ts, x, rfl, hf, q⟩ := h
    refine ⟨_, pss_cons (ps_for PassesOwn.never rfl (pi_list (pe_call GB hr (by rfl) DB.mg DB.fn.kp bB .nil pass0 (pa_cons (pv 0) (pa_cons pe_str pa_nil)))) (pg_tup rfl (pgs_cons (pg_name (i := 2) sc.nd rfl (Or.inl rfl)) (pgs_cons (pg_name (i := 3) sc.nd rfl (Or.inl rfl)) pgs_nil))) pss_never)
      (pss_one (ps_for PassesOwn.never rfl (pi_list (pe_call GB hr (by rfl) DB.mg DB.fn.kp bB .nil pass0 (pa_cons (pv 0) (pa_cons pe_str pa_nil)))) (pg_tup rfl (pgs_cons (pg_name (i := 2) sc.nd rfl (Or.inl rfl)) (pgs_cons (pg_name (i := 3) sc.nd rfl (Or.inl rfl)) pgs_nil))) pss_never)), ?_⟩
    refine ⟨_, rfl, f, sz, Ts, _, rfl, hf, .inl rfl, fun p H1 s1 p1 => ⟨p, rfl, ⟨_, SqL.of p1⟩, for_list (K := K) (a := p) (xs := []) (fun i σ H2 => H2 = H1 ∧ σ = [some (.ref f), some x, none, none]) ⟨rfl, rfl⟩ (fun i σ H2 _ p => by rw [p.1]; exact SqL.of p1) (fun i x σ H2 hx => nomatch hx) ?_⟩⟩
    rintro σ H2 ⟨rfl, rfl⟩
    refine ⟨_, rfl, f, sz, Ts, _, rfl, hf.same s1, .inr rfl, fun p' H1 s1' p1' => ⟨p', rfl, ⟨_, SqL.of p1'⟩, for_list (K := K) (a := p') (xs := []) (fun i σ H2 => H2 = H1) rfl (fun i σ H2 _ p => by rw [p]; exact SqL.of p1') (fun i x σ H2 hx => nomatch hx) ?_⟩⟩
    rintro σ H3 rfl
    exact q _ (s1.trans s1')
end
end My

namespace My
open PySem L2 PyProof.Rows
seal L2.PE L2.PT L2.PW L2.PS L2.PSs L2.PA L2.PI L2.PG L2.PGs L2.OpR L2.UnR L2.CallR L2.IxR L2.SlR L2.MtR L2.PIf L2.PO L2.MtM L2.PC
/-! ### Plain -/
def flds (fo td : Addr) : List (Str × V) := putF "things" (.ref td) (putF "form" (.ref fo) [])
theorem flds_form {fo td : Addr} : (flds fo td).lookup ("form" : Str) = some (.ref fo) := by
  unfold flds
  rw [lookup_putF, if_neg (by decide +kernel), lookup_putF, if_pos rfl]
theorem flds_things {fo td : Addr} : (flds fo td).lookup ("things" : Str) = some (.ref td) := by
  unfold flds
  rw [lookup_putF, if_pos rfl]
theorem flds_no {fo td : Addr} {m : Str} (h1 : ¬ m = "things") (h2 : ¬ m = "form") : (flds fo td).lookup m = none := by
  unfold flds
  rw [lookup_putF, if_neg h1, lookup_putF, if_neg h2]
  rfl
structure ClP (K : PySem.W.Frag) (CP : Addr) : Prop where
  cl : Cls K CP
  nF : NoAttr K CP "form"
  nT : NoAttr K CP "things"
structure PlAt (CP : Addr) (H : Hp) (a : Addr) (sz : Int) (Ts : List Tb) (es : List En) : Prop where
  ex : ∃ dx fo td, H a = some (.ins CP dx (flds fo td)) ∧ FmAt H fo sz Ts ∧ ThsAt H td es
  tb : ∀ e ∈ es, ∀ T ∈ Ts.map (·.name), T ∈ e.pc.map (·.1)
theorem PlAt.same {CP : Addr} {H H' : Hp} {a : Addr} {sz : Int} {Ts : List Tb} {es : List En} (h : PlAt CP H a sz Ts es) (s : Same H H') : PlAt CP H' a sz Ts es := let ⟨dx, fo, td, h1, h2, h3⟩ := h.ex; ⟨⟨dx, fo, td, s _ _ h1, h2.same s, h3.same s⟩, h.tb⟩
/-- no dict with a number for a key -/
def TxO (o : HO) : Prop := ∀ kvs, o = .dK kvs → ∀ k v, (k, v) ∈ kvs → ∃ z, k = .inr z
theorem PcAt.move {H H2 : Hp} {p : Addr} {pc : Pc} (h : PcAt H p pc) (m : ∀ b o, H b = some o → TxO o → H2 b = some o) : PcAt H2 p pc := by
  obtain ⟨ls, a1, a2, a3⟩ := h
  refine ⟨ls, m _ _ a1 (fun kvs e k v hm => ?_), a2, fun j l t e1 e2 => ?_⟩
  · cases e
    obtain ⟨i, z, _, _, e⟩ := zw_mem hm
    exact ⟨z, e⟩
  · obtain ⟨rs, b1, b2, b3⟩ := a3 j l t e1 e2
    refine ⟨rs, m _ _ b1 (fun kvs e => nomatch e), b2, fun j' r row c1 c2 => m _ _ (b3 j' r row c1 c2) (fun kvs e k v hm => ?_)⟩
    cases e
    obtain ⟨c, _, e⟩ := List.mem_map.mp hm
    injection e with e1 _
    exact ⟨_, e1.symm⟩
theorem kvT_txo {es : List En} {e : En} (he : e ∈ es) : ¬ TxO (.dK (kvT es)) := fun h => by
  obtain ⟨z, hz⟩ := h _ rfl (.inl e.k) (.ref e.p) (List.mem_map.mpr ⟨e, he, rfl⟩)
  cases hz
def spPInit (CP : Addr) : Sp := fun vs H Q _ => ∃ (x dx fo a : Addr) (sz : Int) (Ts : List Tb) (es : List En), vs = [.ref x, .ref fo, .ref a] ∧ H x = some (.ins CP dx []) ∧ FmAt H fo sz Ts ∧ ThsAt H a es ∧
  ∀ td us H', H' x = some (.ins CP dx (flds fo td)) → (∀ b o, b ≠ x → H b = some o → H' b = some o) → us.map kc = es.map kc → ThsAt (cut H H') td us → Q .non H'
section
variable {P : Program} {w : World} {K : PySem.W.Frag} {mg : Str → Option Value} {base : Heap} {CP : Addr}
theorem ok_pinit {f fK fW fB fT fC fI : Addr} {fd fdK fdW fdB fdT fdC fdI : FuncData} (F : FunX K "__init__" "Plain.__init__" (inClass (top 26) 0) f fd) (B : Bl mg) (L : ClP K CP) (DK : Df K mg "copied" (top 24) fK fdK) (DW : Df K mg "ask_whole_table" (top 33) fW fdW) (DB : Df K mg "columns_by_sort" (top 34) fB fdB) (DT : Df K mg "tables_of" (top 18) fT fdT) (DC : Df K mg "columns_of" (top 21) fC fdC) (DI : Df K mg "table_in" (top 22) fI fdI) :
    FnOk P w K mg base CX0 5 f fd ["self", "form", "things"] (spPInit CP) := by
  have sc : FnScope ["self", "form", "things", "taken", "key", "piece"] ["self", "form", "things"] (defScope (inClass (top 26) 0)) := ⟨rfl, rfl, rfl, by decide +kernel, rfl, by decide +kernel, by decide +kernel⟩
  have GK : FnOk P w K mg base CX0 1 fK fdK ["piece"] spCopied := ok_copied DK.fn B
  have bK := DK.fn.binds (ps := ["piece"]) fun _ _ _ _ _ _ us hl => by obtain ⟨v0, rfl⟩ := L2.ln1 hl; rfl
  have GW : FnOk P w K mg base CX0 4 fW fdW ["form", "things"] spAskW := ok_askW DW.fn B DB DT DC DI
  have bW := DW.fn.binds (ps := ["form", "things"]) fun _ _ _ _ _ _ us hl => by obtain ⟨v0, v1, rfl⟩ := L2.ln2 hl; rfl
  refine F.ok sc (fun vs H Q E h => ?_) (fun cdv A outer s H vs Q E hr h => ?_)
  · obtain ⟨x, dx, fo, a, sz, Ts, es, rfl, _⟩ := h
    rfl
  · obtain ⟨x, dx, fo, a, sz, Ts, es, rfl, hx, hf, hts, q⟩ := h
    have hr1 : Room 1 _ := hr.mono (by decide)
    have hu : (A.deeper (envOfC "Plain.__init__" (defScope (inClass (top 26) 0)) s.heap.objs.size f cdv)).units + 1 < cLine := hu_of hr
    refine ⟨_, pss_cons (ps_set (i := 3) sc.nd rfl (Or.inl rfl) pe_dnewK) (pss_cons (ps_if (pt_cmpR op_notN (pv 2) pe_non (nomark _)) (pss_one (ps_frz (ps_for PassesOwn.never rfl (pi_items (pv 2)) (pg_tup rfl (pgs_cons (pg_name (i := 4) sc.nd rfl (Or.inl rfl)) (pgs_cons (pg_name (i := 5) sc.nd rfl (Or.inl rfl)) pgs_nil)))
        (pss_one (ps_dput hu (pv 3) (pv 4) (pe_call GK hr1 (by rfl) DK.mg DK.fn.kp bK .nil pass0 (pa_cons (pv 5) pa_nil)) rfl))))) pss_nil)
      (pss_cons (ps_expr (pe_call GW hr (by rfl) DW.mg DW.fn.kp bW .nil pass0 (pa_cons (pv 1) (pa_cons (pv 3) pa_nil)))) (pss_cons (ps_fld (pv 0) (pv 1) rfl) (pss_one (ps_fld (pv 0) (pv 3) rfl))))), ?_⟩
    refine fun td htd => ?_
    have S0 := Same.upd (o := .dK []) htd
    have d0 : (upd H td (.dK [])) td = some (.dK []) := upd_same
    generalize upd H td (.dK []) = H0 at *
    have nat : td ≠ a := fun e => by rw [e, hts.at_] at htd; cases htd
    refine ⟨_, rfl, rfl, _, rfl, iteT ⟨a, _, S0 _ _ hts.at_, fun o => ?_⟩⟩
    have hfa : (upd H0 a (.frz o (.dK (kvT es)))) a = some (.frz o (.dK (kvT es))) := upd_same
    have hb0 : Same H (upd (upd H0 a (.frz o (.dK (kvT es)))) a (.dK (kvT es))) := S0.trans (back_same (S0 _ _ hts.at_) (Same.refl _))
    have d1 : (upd H0 a (.frz o (.dK (kvT es)))) td = some (.dK []) := by rw [upd_ne nat]; exact d0
    generalize upd H0 a (.frz o (.dK (kvT es))) = H1 at *
    refine ⟨_, rfl, a, o, _, rfl, hfa, for_items (a := a) (o := o) (kvs := kvT es) (fun i σ H2 => H2 a = some (.frz o (.dK (kvT es))) ∧ Same H (upd H2 a (.dK (kvT es))) ∧ ∃ (us : List En) (u4 u5 : Option V), σ = [some (.ref x), some (.ref fo), some (.ref a), some (.ref td), u4, u5] ∧ us.map kc = (es.take i).map kc ∧ ThsAt (cut H H2) td us)
      ⟨hfa, hb0, [], _, _, rfl, rfl, cut_at htd d1, List.nodup_nil, Nat.zero_le _, (fun t h => nomatch h), (fun t h => nomatch h)⟩ (fun i σ H2 _ p => p.1) ?_ ?_⟩
    · rintro i k v p1 σ H2 hk ⟨h2a, sm, us, u4, u5, rfl, huk, hus⟩ hp
      have hi : i < es.length := by
        have := (List.getElem?_eq_some_iff.mp hk).1
        unfold kvT at this
        rwa [List.length_map] at this
      unfold kvT at hk
      rw [List.getElem?_map, List.getElem?_eq_getElem hi] at hk
      cases hk
      have tin : es[i] ∈ es := List.getElem_mem hi
      have ht2 : PcAt H2 es[i].p es[i].pc := (hts.th _ tin).move fun b ob hb tx => by
        have nb : b ≠ a := fun e => by
          rw [e, hts.at_] at hb
          cases hb
          exact kvT_txo tin tx
        have := sm b ob hb
        rwa [upd_ne nb] at this
      have T1 := Same.upd (o := .tup [kV (.inl es[i].k), .ref es[i].p]) hp
      refine ⟨p1, _, rfl, SqT.of upd_same, rfl, _, _, rfl, _, _, rfl, rfl, ?_⟩
      generalize upd H2 p1 (.tup [kV (.inl es[i].k), .ref es[i].p]) = H3 at T1
      refine ⟨_, rfl, es[i].p, es[i].pc, rfl, ht2.same T1, hts.ok _ tin, fun pn H4 s4 hu4 => ?_⟩
      have hul : us.length = i := by
        have := congrArg List.length huk
        rw [List.length_map, List.length_map, List.length_take] at this
        omega
      have hk0 : (us.map (·.k)) = (es.take i).map (·.k) := by
        have := congrArg (List.map Prod.fst) huk
        rw [List.map_map, List.map_map] at this
        exact this
      have hnd : ((us ++ [(⟨es[i].k, pn, es[i].pc⟩ : En)]).map (·.k)).Nodup := by
        have e : (us ++ [(⟨es[i].k, pn, es[i].pc⟩ : En)]).map (·.k) = (es.take (i + 1)).map (·.k) := by
          rw [List.map_append, hk0, List.take_succ, List.getElem?_eq_getElem hi, List.map_append]
          rfl
        rw [e]
        exact hts.nd.sublist ((List.take_sublist _ _).map _)
      have hnew : valV (kvT us) (.inl es[i].k) = none := by
        refine valV_non (f := En.k) (g := fun t : En => V.ref t.p) fun hm => ?_
        rw [List.map_append, List.nodup_append] at hnd
        exact hnd.2.2 _ hm _ (List.mem_singleton.mpr rfl) rfl
      have hd4 := (T1.trans s4) _ _ (cut_sub _ _ hus.at_)
      refine ⟨_, rfl, _, rfl, td, _, rfl, .inl ⟨kvT us, .inl es[i].k, hd4, rfl, (by unfold kvT; rw [List.length_map, sizeLine_eq]; have := hts.le; omega), rfl⟩, ?_⟩
      rw [putK_new _ hnew]
      have nH : ∀ {b : Addr}, H3 b = none → H b = none := fun {b} e => by
        have e2 := none_of T1 e
        have nb : b ≠ a := fun e3 => by rw [e3, h2a] at e2; cases e2
        exact none_of sm (by rw [upd_ne nb]; exact e2)
      refine ⟨?_, fun b ob hb => ?_, us ++ [(⟨es[i].k, pn, es[i].pc⟩ : En)], _, _, rfl, ?_, ?_⟩
      · rw [upd_ne nat.symm]
        exact (T1.trans s4) _ _ h2a
      · by_cases e : b = a
        · subst e
          rw [upd_same]
          rw [hts.at_] at hb
          exact hb
        · rw [upd_ne e, upd_ne (ne_of_none hb htd)]
          have := sm b ob hb
          rw [upd_ne e] at this
          exact (T1.trans s4) _ _ this
      · rw [List.map_append, huk, List.take_succ, List.getElem?_eq_getElem hi, List.map_append]
        rfl
      · refine ⟨cut_at htd ?_, hnd, ?_, fun e he => ?_, fun e he => ?_⟩
        · rw [upd_same]
          unfold kvT
          rw [List.map_append]
          rfl
        · rw [List.length_append, hul]
          show i + 1 ≤ 63
          have := hts.le
          omega
        · rcases List.mem_append.mp he with he | he
          · refine (hus.th e he).move fun b ob hb tx => ?_
            have nb : b ≠ td := fun e2 => by
              rw [e2, hus.at_] at hb
              cases hb
              exact kvT_txo he tx
            exact cut_at (cut_new hb) (by rw [upd_ne nb]; exact (T1.trans s4) _ _ (cut_sub _ _ hb))
          · rw [List.mem_singleton.mp he]
            refine hu4.move fun b ob hb _ => ?_
            have nb : b ≠ td := fun e2 => by
              have := cut_new hb
              rw [e2, T1 _ _ (cut_sub _ _ hus.at_)] at this
              cases this
            exact cut_at (nH (cut_new hb)) (by rw [upd_ne nb]; exact cut_sub _ _ hb)
        · rcases List.mem_append.mp he with he | he
          · exact hus.ok e he
          · rw [List.mem_singleton.mp he]
            exact hts.ok es[i] tin
    · rintro σ H2 ⟨h2a, sm, us, u4, u5, rfl, huk, hus⟩
      have el : (kvT es).length = es.length := by unfold kvT; rw [List.length_map]
      rw [el, List.take_length] at huk
      refine ⟨h2a, ?_⟩
      have hus' := hus.same (cut_upd (o := .dK (kvT es)) hts.at_)
      generalize upd H2 a (.dK (kvT es)) = H3 at sm hus'
      refine ⟨_, rfl, _, rfl, fo, sz, Ts, _, rfl, hf.same sm, fun H4 s4 => ?_⟩
      have S4 := sm.trans s4
      refine ⟨_, rfl, _, rfl, x, CP, dx, [], rfl, S4 _ _ hx, L.cl, L.nF, (by show 0 < 1000; decide), ?_⟩
      refine ⟨_, rfl, _, rfl, x, CP, dx, _, rfl, upd_same, L.cl, L.nT, (by show 1 < 1000; decide), ?_⟩
      have hU := (hus'.same (cut_up s4)).same ((cut_upd (o := .ins CP dx (putF "form" (.ref fo) [])) hx))
      refine q td us _ upd_same (fun b ob nb hb => by rw [upd_ne nb, upd_ne nb]; exact S4 _ _ hb) huk (hU.same (cut_upd hx))
end
end My

namespace L2
open PySem PySem.Spec PyProof.Rows
theorem pg_tupK {X : Cx} {K : PySem.W.Frag} {es : List Expr} {k : Nat} {pos : Pos} {t : TGs} {n : Nat} (hK : X.K = K) (hc : X.calm = true) (h : PGs X es t)
    (hn : (assignEach es X.env).length = n := by rfl) (hst : (assignEach es X.env).findIdx? (·.1) = none := by rfl) : PG X (.Tuple es k pos) (gTup K n t) := by
  subst hK
  exact pg_tup hc h hn hst
theorem inV_str (z : Str) (l : List Str) : inV (.str z) (l.map V.str) = decide (z ∈ l) := by
  unfold inV
  rw [Bool.eq_iff_iff, List.any_eq_true, decide_eq_true_iff]
  constructor
  · rintro ⟨y, hy, e⟩
    obtain ⟨x, hx, rfl⟩ := List.mem_map.mp hy
    have : x = z := by simpa [eqV] using e
    rw [← this]
    exact hx
  · intro h
    exact ⟨_, List.mem_map.mpr ⟨z, h, rfl⟩, by simp [eqV]⟩
theorem flat_strs (l : List Str) : (l.map V.str).all flatV = true := by
  rw [List.all_map]
  exact List.all_eq_true.mpr fun _ _ => rfl
end L2
namespace My
open PySem L2 PyProof.Rows
seal L2.PE L2.PT L2.PW L2.PS L2.PSs L2.PA L2.PI L2.PG L2.PGs L2.OpR L2.UnR L2.CallR L2.IxR L2.SlR L2.MtR L2.PIf L2.PO L2.MtM L2.PC
def NewR (H : Hp) (l : Addr) (cs : List (Int × Nat × Rw)) : Prop := ∃ xs : List Addr, H l = some (.lst (xs.map V.ref)) ∧ xs.length = cs.length ∧ ∀ (j : Nat) (x : Addr) (c : Int × Nat × Rw), xs[j]? = some x → cs[j]? = some c → ∃ r, H x = some (.tup [.int c.1, .int (c.2.1 : Nat), .ref r]) ∧ H r = some (.dK (rK c.2.2))
theorem NewR.same {H H' : Hp} {l : Addr} {cs : List (Int × Nat × Rw)} (h : NewR H l cs) (s : Same H H') : NewR H' l cs := by
  obtain ⟨xs, h1, h2, h3⟩ := h
  refine ⟨xs, s _ _ h1, h2, fun j x e a b => ?_⟩
  obtain ⟨r, g1, g2⟩ := h3 j x e a b
  exact ⟨r, s _ _ g1, s _ _ g2⟩
def spRow (CP : Addr) : Sp := fun vs H Q _ => ∃ (a : Addr) (sz : Int) (T : Str) (Ts : List Tb) (es : List En) (e : En) (pl : Nat) (row : Rw), vs = [.ref a, .str T, .int e.k, .int (pl : Nat)] ∧ PlAt CP H a sz Ts es ∧ e ∈ es ∧ T ∈ Ts.map (·.name) ∧ (tab e.pc T)[pl]? = some row ∧ ∀ r H', Same H H' → cut H H' r = some (.dK (rK row)) → Q (.ref r) H'
def spRows (CP : Addr) : Sp := fun vs H Q _ => ∃ (a : Addr) (sz : Int) (T : Str) (Ts : List Tb) (es : List En), vs = [.ref a, .str T] ∧ PlAt CP H a sz Ts es ∧ T ∈ Ts.map (·.name) ∧ (flat T (srt (es.map kc))).length ≤ 100000 ∧ ∀ l H', Same H H' → NewR (cut H H') l (flat T (srt (es.map kc))) → Q (.ref l) H'
def spPiece (CP : Addr) : Sp := fun vs H Q _ => ∃ (a : Addr) (sz : Int) (Ts : List Tb) (es : List En) (e : En), vs = [.ref a, .int e.k] ∧ PlAt CP H a sz Ts es ∧ e ∈ es ∧ ∀ p' H', Same H H' → PcAt (cut H H') p' e.pc → Q (.ref p') H'
def spHeld (CP : Addr) : Sp := fun vs H Q _ => ∃ (a : Addr) (sz : Int) (Ts : List Tb) (es : List En), vs = [.ref a] ∧ PlAt CP H a sz Ts es ∧ ∀ l H', Same H H' → cut H H' l = some (.lst (((srt (es.map kc)).map (·.1)).map V.int)) → Q (.ref l) H'
/-- refusals -/
def spRowX (CP CO CM : Addr) : Sp := fun vs H _ E => ∃ (a : Addr) (sz : Int) (z : Str) (Ts : List Tb) (es : List En) (k p : Int), vs = [.ref a, .str z, .int k, .int p] ∧ PlAt CP H a sz Ts es ∧ (z ∉ Ts.map (·.name) → Refd E H CO z (.int k) (.int p)) ∧ (z ∈ Ts.map (·.name) → (∀ e ∈ es, e.k = k → ¬ (0 ≤ p ∧ p < ((tab e.pc z).length : Nat))) ∧ Refd E H CM z (.int k) (.int p))
def spRowsX (CP CO : Addr) : Sp := fun vs H _ E => ∃ (a : Addr) (sz : Int) (z : Str) (Ts : List Tb) (es : List En), vs = [.ref a, .str z] ∧ PlAt CP H a sz Ts es ∧ z ∉ Ts.map (·.name) ∧ Refd E H CO z .non .non
def spPieceX (CP CM : Addr) : Sp := fun vs H _ E => ∃ (a : Addr) (sz : Int) (T : Tb) (Ts : List Tb) (es : List En) (k : Int), vs = [.ref a, .int k] ∧ PlAt CP H a sz (T :: Ts) es ∧ k ∉ es.map (·.k) ∧ Refd E H CM T.name (.int k) (.int 0)
theorem Refd.same {E : XK} {H H' : Hp} {C : Addr} {z : Str} {k p : V} (r : Refd E H C z k p) (s : Same H H') : Refd E H' C z k p := fun dx H2 e s2 => r dx H2 e (s.trans s2)
section
variable {P : Program} {w : World} {K : PySem.W.Frag} {mg : Str → Option Value} {base : Heap} {CP CT CO CM : Addr}
theorem ok_row {f fT : Addr} {fd fdT : FuncData} (F : FunX K "row" "Plain.row" (inClass (top 26) 4) f fd) (B : Bl mg) (L : ClP K CP) (DT : Df K mg "tables_of" (top 18) fT fdT) : FnOk P w K mg base CX0 2 f fd ["self", "table", "key", "place"] (spRow CP) := by
  have sc : FnScope ["self", "table", "key", "place", "standing"] ["self", "table", "key", "place"] (defScope (inClass (top 26) 4)) := ⟨rfl, rfl, rfl, by decide +kernel, rfl, by decide +kernel, by decide +kernel⟩
  have GT : FnOk P w K mg base CX0 1 fT fdT ["form"] spTabs := ok_tabs DT.fn
  have bT := DT.fn.binds (ps := ["form"]) fun _ _ _ _ _ _ us hl => by obtain ⟨v0, rfl⟩ := L2.ln1 hl; rfl
  refine F.ok sc (fun vs H Q E h => ?_) (fun cdv A outer s H vs Q E hr h => ?_)
  · obtain ⟨a, sz, T, Ts, es, e, pl, row, rfl, _⟩ := h
    rfl
  · obtain ⟨a, sz, T, Ts, es, e, pl, row, rfl, ⟨⟨dx, fo, td, ha, hf, hts⟩, htb⟩, htm, hT, hrow, q⟩ := h
    have hu : (A.deeper (envOfC "Plain.row" (defScope (inClass (top 26) 4)) s.heap.objs.size f cdv)).units + 1 < cLine := hu_of hr
    refine ⟨_, pss_cons (ps_if (pt_cmpR op_notIn_seq (pv 1) (pe_call GT hr (by rfl) DT.mg DT.fn.kp bT .nil pass0 (pa_cons (pe_fld (pv 0) rfl) pa_nil)) (by with_unfolding_all rfl)) pss_never pss_nil)
      (pss_cons (ps_if (pt_cmp (pc_dnotin hu (pv 2) (pe_fld (pv 0) rfl))) pss_never pss_nil)
      (pss_cons (ps_set (i := 4) sc.nd rfl (Or.inl rfl) (pe_dget hu (pe_dget hu (pe_fld (pv 0) rfl) (pv 2) (fun _ _ => rfl)) (pv 1) (fun _ _ => rfl)))
      (pss_cons (ps_if (pt_not (pt_chain op_le op_lt pe_int (pv 3) (pe_callB call_len_seq (by rfl) B.len PySem.boot_len (pa_cons (pv 4) pa_nil)))) pss_never pss_nil)
      (pss_one (ps_ret (pe_callTy call_dict_of (by rfl) B.dict boot_dict (pa_cons (pe_ix ix_list (pv 4) (pv 3) (fun _ _ => rfl)) pa_nil))))))), ?_⟩
    refine ⟨_, rfl, _, rfl, a, CP, dx, _, _, rfl, ha, L.cl, L.nF, flds_form, fo, sz, _, rfl, hf.at_, hf.le, fun p H1 hp s1 p1 => ?_⟩
    refine ⟨p, _, rfl, .inl (SqL.of p1), rfl, flat_strs _, _, rfl, ?_⟩
    refine iteC (by show (!inV _ _) = false; rw [inV_str, decide_eq_true hT]; rfl) ?_
    have hts1 := hts.same s1
    obtain ⟨lr, g1, ⟨rs, b1, b2, b3⟩, g3, g4⟩ := PcAt.get (hts1.ok _ htm) (hts1.th _ htm) (htb e htm T hT)
    have hpl : pl < (tab e.pc T).length := (List.getElem?_eq_some_iff.mp hrow).1
    have hpr : pl < rs.length := by omega
    refine ⟨_, rfl, _, rfl, a, CP, dx, _, _, rfl, s1 _ _ ha, L.cl, L.nT, flds_things, td, _, rfl, hts1.get htm, _, rfl, iteF ?_⟩
    refine ⟨_, rfl, a, CP, dx, _, _, rfl, s1 _ _ ha, L.cl, L.nT, flds_things, _, rfl, td, _, rfl, hts1.get htm, _, rfl, _, _, rfl, g1, ?_⟩
    refine ⟨_, rfl, _, _, rfl, rfl, _, rfl, ?_⟩
    rw [show decide ((0 : Int) ≤ (pl : Nat)) = true from decide_eq_true (by omega)]
    refine iteT ⟨_, rfl, _, _, rfl, .inl (SqL.of b1), _, _, rfl, rfl, _, rfl, ?_⟩
    refine iteC (by rw [decide_eq_true (by rw [List.length_map]; omega)]; rfl) ?_
    have r1 := b3 pl rs[pl] row (List.getElem?_eq_getElem hpr) hrow
    exact ⟨_, rfl, _, rfl, _, _, _, _, rfl, rfl, SqL.of b1, atI_nat (by rw [List.getElem?_map, List.getElem?_eq_getElem hpr]; rfl), rs[pl], _, rfl, .inl r1, fun r hr' => q r _ (s1.trans (Same.upd hr')) (cut_at (none_of s1 hr') upd_same)⟩
theorem ok_held {f : Addr} {fd : FuncData} (F : Fun K "held" "Plain.held" (inClass (top 26) 7) f fd) (B : Bl mg) (L : ClP K CP) : FnOk P w K mg base CX0 1 f fd ["self"] (spHeld CP) := by
  have sc : FnScope ["self"] ["self"] (defScope (inClass (top 26) 7)) := ⟨rfl, rfl, rfl, by decide +kernel, rfl, by decide +kernel, by decide +kernel⟩
  refine F.ok sc (fun vs H Q E h => ?_) (fun cdv A outer s H vs Q E hr h => ?_)
  · obtain ⟨a, sz, Ts, es, rfl, _⟩ := h
    rfl
  · obtain ⟨a, sz, Ts, es, rfl, ⟨⟨dx, fo, td, ha, hf, hts⟩, htb⟩, q⟩ := h
    refine ⟨_, pss_one (ps_ret (pe_callB (call_sortedDI rfl) (by rfl) B.sorted boot_sorted (pa_cons (pe_fld (pv 0) rfl) pa_nil))), ?_⟩
    refine ⟨_, rfl, a, CP, dx, _, _, rfl, ha, L.cl, L.nT, flds_things, td, _, (es.map kc).map (·.1), rfl, .inl hts.at_, keys_ths es, (by rw [List.length_map, List.length_map]; have := hts.le; omega), fun l ms hl hp hs => ?_⟩
    obtain rfl := srt_keys hp hs
    exact q l _ (Same.upd hl) (cut_at hl upd_same)
theorem ok_piece {f fK : Addr} {fd fdK : FuncData} (F : Fun K "piece" "Plain.piece" (inClass (top 26) 6) f fd) (B : Bl mg) (L : ClP K CP) (DK : Df K mg "copied" (top 24) fK fdK) : FnOk P w K mg base CX0 2 f fd ["self", "key"] (spPiece CP) := by
  have sc : FnScope ["self", "key"] ["self", "key"] (defScope (inClass (top 26) 6)) := ⟨rfl, rfl, rfl, by decide +kernel, rfl, by decide +kernel, by decide +kernel⟩
  have GK : FnOk P w K mg base CX0 1 fK fdK ["piece"] spCopied := ok_copied DK.fn B
  have bK := DK.fn.binds (ps := ["piece"]) fun _ _ _ _ _ _ us hl => by obtain ⟨v0, rfl⟩ := L2.ln1 hl; rfl
  refine F.ok sc (fun vs H Q E h => ?_) (fun cdv A outer s H vs Q E hr h => ?_)
  · obtain ⟨a, sz, Ts, es, e, rfl, _⟩ := h
    rfl
  · obtain ⟨a, sz, Ts, es, e, rfl, ⟨⟨dx, fo, td, ha, hf, hts⟩, htb⟩, htm, q⟩ := h
    have hu : (A.deeper (envOfC "Plain.piece" (defScope (inClass (top 26) 6)) s.heap.objs.size f cdv)).units + 1 < cLine := hu_of hr
    refine ⟨_, pss_cons (ps_if (pt_cmp (pc_dnotin hu (pv 1) (pe_fld (pv 0) rfl))) pss_never pss_nil) (pss_one (ps_ret (pe_call GK hr (by rfl) DK.mg DK.fn.kp bK .nil pass0 (pa_cons (pe_dget hu (pe_fld (pv 0) rfl) (pv 1) (fun _ _ => rfl)) pa_nil)))), ?_⟩
    exact ⟨_, rfl, _, rfl, a, CP, dx, _, _, rfl, ha, L.cl, L.nT, flds_things, td, _, rfl, hts.get htm, _, rfl, iteF ⟨_, rfl, a, CP, dx, _, _, rfl, ha, L.cl, L.nT, flds_things, _, rfl, td, _, rfl, hts.get htm, e.p, e.pc, rfl, hts.th e htm, hts.ok e htm, q⟩⟩
theorem ok_rows {f fT fR : Addr} {fd fdT fdR : FuncData} (F : Fun K "rows" "Plain.rows" (inClass (top 26) 5) f fd) (B : Bl mg) (L : ClP K CP) (DT : Df K mg "tables_of" (top 18) fT fdT) (DR : Df K mg "rows_in" (top 37) fR fdR) : FnOk P w K mg base CX0 2 f fd ["self", "table"] (spRows CP) := by
  have sc : FnScope ["self", "table"] ["self", "table"] (defScope (inClass (top 26) 5)) := ⟨rfl, rfl, rfl, by decide +kernel, rfl, by decide +kernel, by decide +kernel⟩
  have GT : FnOk P w K mg base CX0 1 fT fdT ["form"] spTabs := ok_tabs DT.fn
  have bT := DT.fn.binds (ps := ["form"]) fun _ _ _ _ _ _ us hl => by obtain ⟨v0, rfl⟩ := L2.ln1 hl; rfl
  have GR : FnOk P w K mg base CX0 1 fR fdR ["things", "table"] spRowsIn := ok_rowsIn DR.fn B
  have bR := DR.fn.binds (ps := ["things", "table"]) fun _ _ _ _ _ _ us hl => by obtain ⟨v0, v1, rfl⟩ := L2.ln2 hl; rfl
  refine F.ok sc (fun vs H Q E h => ?_) (fun cdv A outer s H vs Q E hr h => ?_)
  · obtain ⟨a, sz, T, Ts, es, rfl, _⟩ := h
    rfl
  · obtain ⟨a, sz, T, Ts, es, rfl, ⟨⟨dx, fo, td, ha, hf, hts⟩, htb⟩, hT, hbig, q⟩ := h
    have nd3 : (["key", "place", "row"] : List Str).Nodup := by decide +kernel
    refine ⟨_, pss_cons (ps_if (pt_cmpR op_notIn_seq (pv 1) (pe_call GT hr (by rfl) DT.mg DT.fn.kp bT .nil pass0 (pa_cons (pe_fld (pv 0) rfl) pa_nil)) (by with_unfolding_all rfl)) pss_never pss_nil)
      (pss_one (ps_ret (pe_comp (osc := defScope (inClass (top 26) 5)) (N0 := ["self", "table"]) (xs := ["key", "place", "row"]) (fr := []) ⟨rfl, by decide +kernel, by decide +kernel, by decide +kernel, by decide, by decide +kernel⟩ rfl rfl rfl (pi_list (pe_call GR hr (by rfl) DR.mg DR.fn.kp bR .nil pass0 (pa_cons (pe_fld (pv 0) rfl) (pa_cons (pv 1) pa_nil))))
        (fun s H fp => pg_tupK (K := K) (n := 3) rfl rfl (pgs_cons (pg_name (i := 0) nd3 rfl (Or.inl rfl)) (pgs_cons (pg_name (i := 1) nd3 rfl (Or.inl rfl)) (pgs_cons (pg_name (i := 2) nd3 rfl (Or.inl rfl)) pgs_nil)))) (fun s H fp => pif_nil)
        (fun s H fp => pe_tup (pa_cons (pv 0) (pa_cons (pv 1) (pa_cons (pe_callTy call_dict_of (by rfl) B.dict boot_dict (pa_cons (pv 2) pa_nil)) pa_nil))))))), ?_⟩
    refine ⟨_, rfl, _, rfl, a, CP, dx, _, _, rfl, ha, L.cl, L.nF, flds_form, fo, sz, _, rfl, hf.at_, hf.le, fun p H1 hp s1 p1 => ?_⟩
    refine ⟨p, _, rfl, .inl (SqL.of p1), rfl, flat_strs _, _, rfl, ?_⟩
    refine iteC (by show (!inV _ _) = false; rw [inV_str, decide_eq_true hT]; rfl) ?_
    refine ⟨_, rfl, a, CP, dx, _, _, rfl, s1 _ _ ha, L.cl, L.nT, flds_things, _, rfl, td, T, es, rfl, hts.same s1, (fun e he => htb e he T hT), hbig, fun l H2 s2 hR => ?_⟩
    have S2 := s1.trans s2
    generalize flat T (srt (es.map kc)) = cs at *
    obtain ⟨xs, rs, r1, r2, r2', r3⟩ := hR
    have l2 := cut_sub _ _ r1
    refine ⟨l, rfl, ⟨_, SqL.of l2⟩, fun D hD => ?_⟩
    have hD0 : H D = none := none_of S2 hD
    refine compW_idx cs.length (fun i ys σ' Hc => (∃ t0 t1 t2, σ' = [t0, t1, t2]) ∧ Same H2 Hc ∧ ∃ ps : List Addr, ys = ps.map V.ref ∧ ∀ (j : Nat) (p : Addr) (u : Int × Nat × Rw), ps[j]? = some p → cs[j]? = some u → H p = none ∧ p ≠ D ∧ ∃ r, H r = none ∧ r ≠ D ∧ Hc p = some (.tup [.int u.1, .int (u.2.1 : Nat), .ref r]) ∧ Hc r = some (.dK (rK u.2.2))) (by rw [sizeLine_eq]; omega) ⟨⟨none, none, none, rfl⟩, Same.upd hD, [], rfl, fun j p u h => nomatch h⟩ upd_same ?_ ?_
    · rintro i σ' Hc ys hi ⟨⟨t0, t1, t2, rfl⟩, sm, ps, rfl, hps⟩ hyl hD'
      rw [List.length_map] at hyl
      have hix : i < xs.length := by omega
      have hir : i < rs.length := by omega
      refine ⟨⟨_, V.ref xs[i], SqL.of (sm _ _ l2), by rw [List.getElem?_map, List.getElem?_eq_getElem hix]; rfl⟩, ?_⟩
      rintro x H' ⟨rfl, hx'⟩
      have ex := hx' _ (SqL.of (sm _ _ l2))
      rw [List.getElem?_map, List.getElem?_eq_getElem hix] at ex
      cases ex
      obtain ⟨hx3, hr3⟩ := r3 i xs[i] rs[i] cs[i] (List.getElem?_eq_getElem hix) (List.getElem?_eq_getElem hir) (List.getElem?_eq_getElem hi)
      refine ⟨xs[i], _, rfl, SqT.of (sm _ _ (cut_sub _ _ hx3)), rfl, _, _, rfl, _, _, rfl, _, _, rfl, rfl, ?_⟩
      refine ⟨_, rfl, _, rfl, _, rfl, rs[i], _, rfl, .inl ((s2.trans sm) _ _ hr3), fun r hr' => ⟨(by show 3 ≤ sizeLine; decide), fun p' hp' => ?_⟩⟩
      have T1 := Same.upd (o := .dK (rK cs[i].2.2)) hr'
      have g1 : (upd H' r (.dK (rK cs[i].2.2))) r = some (.dK (rK cs[i].2.2)) := upd_same
      generalize upd H' r (.dK (rK cs[i].2.2)) = H5 at *
      have T2 := Same.upd (o := .tup [.int cs[i].1, .int (cs[i].2.1 : Nat), .ref r]) hp'
      have g2 : (upd H5 p' (.tup [.int cs[i].1, .int (cs[i].2.1 : Nat), .ref r])) p' = some (.tup [.int cs[i].1, .int (cs[i].2.1 : Nat), .ref r]) := upd_same
      generalize upd H5 p' (.tup [.int cs[i].1, .int (cs[i].2.1 : Nat), .ref r]) = H6 at *
      have T12 := T1.trans T2
      have rD : r ≠ D := fun e => by rw [e, hD'] at hr'; cases hr'
      have pD : p' ≠ D := fun e => by rw [e, T1 _ _ hD'] at hp'; cases hp'
      refine ⟨T12 _ _ hD', ⟨_, _, _, rfl⟩, (sm.trans T12).put hD, ps ++ [p'], by rw [List.map_append]; rfl, fun j p u h1 h2 => ?_⟩
      by_cases hj : j < ps.length
      · rw [List.getElem?_append_left hj] at h1
        obtain ⟨e1, e2, r0, e3, e4, e5, e6⟩ := hps j p u h1 h2
        exact ⟨e1, e2, r0, e3, e4, by rw [upd_ne e2]; exact T12 _ _ e5, by rw [upd_ne e4]; exact T12 _ _ e6⟩
      · have hj' : j = ps.length := by
          have := (List.getElem?_eq_some_iff.mp h1).1
          rw [List.length_append] at this
          simp at this
          omega
        subst hj'
        rw [List.getElem?_append_right (Nat.le_refl _), Nat.sub_self] at h1
        cases h1
        rw [hyl, List.getElem?_eq_getElem hi] at h2
        cases h2
        exact ⟨none_of ((S2.trans sm).trans T1) hp', pD, r, none_of (S2.trans sm) hr', rD, by rw [upd_ne pD]; exact g2, by rw [upd_ne rD]; exact T2 _ _ g1⟩
    · rintro σ' Hc ys ⟨_, sm, ps, rfl, hps⟩ hDn hyl
      rw [List.length_map] at hyl
      refine ⟨⟨_, SqL.of (sm _ _ l2), by rw [List.length_map]; omega⟩, q D Hc (S2.trans sm) ⟨ps, cut_at hD0 hDn, hyl, fun j p e h1 h2 => ?_⟩⟩
      obtain ⟨e1, e2, r0, e3, e4, e5, e6⟩ := hps j p e h1 h2
      exact ⟨r0, cut_at e1 e5, cut_at e3 e6⟩
end
end My

namespace My
open PySem L2 PyProof.Rows
seal L2.PE L2.PT L2.PW L2.PS L2.PSs L2.PA L2.PI L2.PG L2.PGs L2.OpR L2.UnR L2.CallR L2.IxR L2.SlR L2.MtR L2.PIf L2.PO L2.MtM L2.PC
section
variable {P : Program} {w : World} {K : PySem.W.Frag} {mg : Str → Option Value} {base : Heap} {CP CT CO CM : Addr}
theorem ok_rowX {f fT fI : Addr} {fd fdT fdI : FuncData} (F : FunX K "row" "Plain.row" (inClass (top 26) 4) f fd) (B : Bl mg) (L : ClP K CP) (X : Tx K mg CT CO CM) (DT : Df K mg "tables_of" (top 18) fT fdT) (FI : FunX K "__init__" "StepError.__init__" (inClass (top 2) 0) fI fdI) (MO : XMk K CO fI) (MM : XMk K CM fI) (bI : Binds K fdI ["self", "table", "key", "place"] []) :
    FnOk P w K mg base (CX1 P w) 3 f fd ["self", "table", "key", "place"] (spRowX CP CO CM) := by
  have sc : FnScope ["self", "table", "key", "place", "standing"] ["self", "table", "key", "place"] (defScope (inClass (top 26) 4)) := ⟨rfl, rfl, rfl, by decide +kernel, rfl, by decide +kernel, by decide +kernel⟩
  have GT : FnOk P w K mg base CX0 1 fT fdT ["form"] spTabs := ok_tabs DT.fn
  have bT := DT.fn.binds (ps := ["form"]) fun _ _ _ _ _ _ us hl => by obtain ⟨v0, rfl⟩ := L2.ln1 hl; rfl
  have GI : FnOk P w K mg base CX0 1 fI fdI ["self", "table", "key", "place"] (spSInit CO CM) := ok_sinit FI X
  refine F.okX sc (fun vs H Q E h => ?_) (fun cdv A outer s H vs Q E hr h => ?_)
  · obtain ⟨a, sz, z, Ts, es, k, p, rfl, _⟩ := h
    rfl
  · obtain ⟨a, sz, z, Ts, es, k, pl, rfl, ⟨⟨dx, fo, td, ha, hf, hts⟩, htb⟩, qO, qM⟩ := h
    have hr1 : Room 1 _ := hr.mono (by decide)
    have hu : (A.deeper (envOfC "Plain.row" (defScope (inClass (top 26) 4)) s.heap.objs.size f cdv)).units + 1 < cLine := hu_of hr
    refine ⟨_, pss_cons (ps_if (pt_cmpR op_notIn_seq (pv 1) (pe_call GT hr1 (by rfl) DT.mg DT.fn.kp bT .nil pass0 (pa_cons (pe_fld (pv 0) rfl) pa_nil)) (by with_unfolding_all rfl)) (pss_one (ps_raise rfl (pe_xmake MO GI hr (by rfl) X.mO bI .nil (pa_cons (pv 1) (pa_cons (pv 2) (pa_cons (pv 3) pa_nil)))) lands_cx)) pss_nil)
      (pss_cons (ps_if (pt_cmp (pc_dnotin hu (pv 2) (pe_fld (pv 0) rfl))) (pss_one (ps_raise rfl (pe_xmake MM GI hr (by rfl) X.mM bI .nil (pa_cons (pv 1) (pa_cons (pv 2) (pa_cons (pv 3) pa_nil)))) lands_cx)) pss_nil)
      (pss_cons (ps_set (i := 4) sc.nd rfl (Or.inl rfl) (pe_dget hu (pe_dget hu (pe_fld (pv 0) rfl) (pv 2) (fun _ _ => rfl)) (pv 1) (fun _ _ => rfl)))
      (pss_cons (ps_if (pt_not (pt_chain op_le op_lt pe_int (pv 3) (pe_callB call_len_seq (by rfl) B.len PySem.boot_len (pa_cons (pv 4) pa_nil)))) (pss_one (ps_raise rfl (pe_xmake MM GI hr (by rfl) X.mM bI .nil (pa_cons (pv 1) (pa_cons (pv 2) (pa_cons (pv 3) pa_nil)))) lands_cx)) pss_nil)
      pss_never))), ?_⟩
    refine ⟨_, rfl, _, rfl, a, CP, dx, _, _, rfl, ha, L.cl, L.nF, flds_form, fo, sz, _, rfl, hf.at_, hf.le, fun p H1 hp s1 p1 => ?_⟩
    refine ⟨p, _, rfl, .inl (SqL.of p1), rfl, flat_strs _, _, rfl, ?_⟩
    show if (!inV (.str z) _) = true then _ else _
    rw [inV_str]
    by_cases hz : z ∈ Ts.map (·.name)
    · rw [decide_eq_true hz]
      refine iteF ?_
      obtain ⟨hno, qN⟩ := qM hz
      have hts1 := hts.same s1
      by_cases hk : k ∈ es.map (·.k)
      · obtain ⟨e, htm, rfl⟩ := List.mem_map.mp hk
        obtain ⟨lr, g1, ⟨rs, b1, b2, b3⟩, g3, g4⟩ := PcAt.get (hts1.ok _ htm) (hts1.th _ htm) (htb e htm z hz)
        refine ⟨_, rfl, _, rfl, a, CP, dx, _, _, rfl, s1 _ _ ha, L.cl, L.nT, flds_things, td, _, rfl, hts1.get htm, _, rfl, iteF ?_⟩
        refine ⟨_, rfl, a, CP, dx, _, _, rfl, s1 _ _ ha, L.cl, L.nT, flds_things, _, rfl, td, _, rfl, hts1.get htm, _, rfl, _, _, rfl, g1, ?_⟩
        refine ⟨_, rfl, _, _, rfl, rfl, _, rfl, ?_⟩
        have np := hno e htm rfl
        have R := raised (n := s.heap.objs.size) (E := fun C od _ H' => E C od H') (σ := [some (.ref a), some (.str z), some (.int e.k), some (.int pl), some (.ref lr)]) (D := { nx := fun _ H' => Q .non H', rt := Q }) (t := tCons (tVar 1) (tCons (tVar 2) (tCons (tVar 3) tNil))) X (.inr rfl) (fun _ _ _ h => h) (fun R h => ⟨_, rfl, _, rfl, _, rfl, h⟩) (qN.same s1)
        refine ite2 (fun c => ?_) (fun c => ⟨false, rfl, iteT R⟩)
        refine ⟨_, rfl, _, _, rfl, .inl (SqL.of b1), _, _, rfl, rfl, _, rfl, ?_⟩
        refine ite2 (fun _ => R) (fun c2 => ?_)
        exfalso
        have h1 : (0 : Int) ≤ pl := of_decide_eq_true c
        have h2 : ¬ pl < (((rs.map V.ref).length : Nat) : Int) := fun h => np ⟨h1, by rw [List.length_map] at h; omega⟩
        exact c2 (by rw [decide_eq_false h2]; rfl)
      · refine ⟨_, rfl, _, rfl, a, CP, dx, _, _, rfl, s1 _ _ ha, L.cl, L.nT, flds_things, td, _, rfl, hts1.non hk, _, rfl, iteT ?_⟩
        exact raised X (.inr rfl) (fun _ _ _ h => h) (fun R h => ⟨_, rfl, _, rfl, _, rfl, h⟩) (qN.same s1)
    · rw [decide_eq_false hz]
      refine iteT ?_
      exact raised X (.inl rfl) (fun _ _ _ h => h) (fun R h => ⟨_, rfl, _, rfl, _, rfl, h⟩) ((qO hz).same s1)
theorem ok_rowsX {f fT fI : Addr} {fd fdT fdI : FuncData} (F : Fun K "rows" "Plain.rows" (inClass (top 26) 5) f fd) (B : Bl mg) (L : ClP K CP) (X : Tx K mg CT CO CM) (DT : Df K mg "tables_of" (top 18) fT fdT) (FI : FunX K "__init__" "StepError.__init__" (inClass (top 2) 0) fI fdI) (MO : XMk K CO fI) (bI : Binds K fdI ["self", "table", "key", "place"] []) :
    FnOk P w K mg base (CX1 P w) 3 f fd ["self", "table"] (spRowsX CP CO) := by
  have sc : FnScope ["self", "table"] ["self", "table"] (defScope (inClass (top 26) 5)) := ⟨rfl, rfl, rfl, by decide +kernel, rfl, by decide +kernel, by decide +kernel⟩
  have GT : FnOk P w K mg base CX0 1 fT fdT ["form"] spTabs := ok_tabs DT.fn
  have bT := DT.fn.binds (ps := ["form"]) fun _ _ _ _ _ _ us hl => by obtain ⟨v0, rfl⟩ := L2.ln1 hl; rfl
  have GI : FnOk P w K mg base CX0 1 fI fdI ["self", "table", "key", "place"] (spSInit CO CM) := ok_sinit FI X
  refine F.x.okX sc (fun vs H Q E h => ?_) (fun cdv A outer s H vs Q E hr h => ?_)
  · obtain ⟨a, sz, z, Ts, es, rfl, _⟩ := h
    rfl
  · obtain ⟨a, sz, z, Ts, es, rfl, ⟨⟨dx, fo, td, ha, hf, hts⟩, htb⟩, hz, qO⟩ := h
    have hr1 : Room 1 _ := hr.mono (by decide)
    refine ⟨_, pss_cons (ps_if (pt_cmpR op_notIn_seq (pv 1) (pe_call GT hr1 (by rfl) DT.mg DT.fn.kp bT .nil pass0 (pa_cons (pe_fld (pv 0) rfl) pa_nil)) (by with_unfolding_all rfl)) (pss_one (ps_raise rfl (pe_xmake MO GI hr (by rfl) X.mO bI .nil (pa_cons (pv 1) (pa_cons pe_non (pa_cons pe_non pa_nil)))) lands_cx)) pss_nil) pss_never, ?_⟩
    refine ⟨_, rfl, _, rfl, a, CP, dx, _, _, rfl, ha, L.cl, L.nF, flds_form, fo, sz, _, rfl, hf.at_, hf.le, fun p H1 hp s1 p1 => ?_⟩
    refine ⟨p, _, rfl, .inl (SqL.of p1), rfl, flat_strs _, _, rfl, ?_⟩
    show if (!inV (.str z) _) = true then _ else _
    rw [inV_str, decide_eq_false hz]
    refine iteT ?_
    exact raised X (.inl rfl) (fun _ _ _ h => h) (fun R h => ⟨_, rfl, h⟩) (qO.same s1)
theorem ok_pieceX {f fH fI : Addr} {fd fdH fdI : FuncData} (F : Fun K "piece" "Plain.piece" (inClass (top 26) 6) f fd) (L : ClP K CP) (X : Tx K mg CT CO CM) (DH : Df K mg "head_of" (top 19) fH fdH) (FI : FunX K "__init__" "StepError.__init__" (inClass (top 2) 0) fI fdI) (MM : XMk K CM fI) (bI : Binds K fdI ["self", "table", "key", "place"] []) :
    FnOk P w K mg base (CX1 P w) 3 f fd ["self", "key"] (spPieceX CP CM) := by
  have sc : FnScope ["self", "key"] ["self", "key"] (defScope (inClass (top 26) 6)) := ⟨rfl, rfl, rfl, by decide +kernel, rfl, by decide +kernel, by decide +kernel⟩
  have GH : FnOk P w K mg base CX0 1 fH fdH ["form"] spHead := ok_head DH.fn
  have bH := DH.fn.binds (ps := ["form"]) fun _ _ _ _ _ _ us hl => by obtain ⟨v0, rfl⟩ := L2.ln1 hl; rfl
  have GI : FnOk P w K mg base CX0 1 fI fdI ["self", "table", "key", "place"] (spSInit CO CM) := ok_sinit FI X
  refine F.x.okX sc (fun vs H Q E h => ?_) (fun cdv A outer s H vs Q E hr h => ?_)
  · obtain ⟨a, sz, T, Ts, es, k, rfl, _⟩ := h
    rfl
  · obtain ⟨a, sz, T, Ts, es, k, rfl, ⟨⟨dx, fo, td, ha, hf, hts⟩, htb⟩, hk, q⟩ := h
    have hr1 : Room 1 _ := hr.mono (by decide)
    have hu : (A.deeper (envOfC "Plain.piece" (defScope (inClass (top 26) 6)) s.heap.objs.size f cdv)).units + 1 < cLine := hu_of hr
    refine ⟨_, pss_cons (ps_if (pt_cmp (pc_dnotin hu (pv 1) (pe_fld (pv 0) rfl))) (pss_one (ps_raise rfl (pe_xmake MM GI hr (by rfl) X.mM bI .nil (pa_cons (pe_call GH hr1 (by rfl) DH.mg DH.fn.kp bH .nil pass0 (pa_cons (pe_fld (pv 0) rfl) pa_nil)) (pa_cons (pv 1) (pa_cons pe_int pa_nil)))) lands_cx)) pss_nil) pss_never, ?_⟩
    refine ⟨_, rfl, _, rfl, a, CP, dx, _, _, rfl, ha, L.cl, L.nT, flds_things, td, _, rfl, hts.non hk, _, rfl, iteT ?_⟩
    exact raised X (.inr rfl) (fun _ _ _ h => h) (fun R h => ⟨_, rfl, a, CP, dx, _, _, rfl, ha, L.cl, L.nF, flds_form, fo, sz, _, _, rfl, hf.at_, _, rfl, h⟩) q
end
end My

/-! text * n, ANY SMALL n (own work). -/
namespace L2
open PySem PySem.Spec PyProof.Rows
theorem fold_app : ∀ (l : List (Array Nat)) (a : Array Nat), (l.foldl (· ++ ·) a).toList = a.toList ++ (l.map (·.toList)).flatten
  | [], a => by simp
  | x :: r, a => by
    rw [List.foldl_cons, fold_app r (a ++ x), Array.toList_append, List.map_cons, List.flatten_cons, List.append_assoc]
section
variable {X : Cx}
theorem op_mulSN : OpR X (binaryOp .Mult) (fun x y H Q => ∃ (z : Str) (n : Nat), x = .str z ∧ y = .int n ∧ n < 1000 ∧ 0 < z.length ∧ z.length ≤ 10000 ∧ ∀ r : Str, r.cps.toList = (List.replicate n z.cps.toList).flatten → Q (.str r) H) := by
  intro pins s σ H x y v u Q I rx ry h
  obtain ⟨z, n, rfl, rfl, h2, h3, h4, q⟩ := h
  by_cases e0 : n = 0
  · subst e0
    obtain ⟨t, rfl⟩ := rx
    obtain ⟨t', rfl⟩ := ry
    exact P.mul_str_none (by decide) (by decide) ⟨.str Str.empty, H, I.tok _, ⟨_, rfl⟩, q _ rfl⟩
  by_cases e1 : n = 1
  · subst e1
    obtain ⟨t, rfl⟩ := rx
    obtain ⟨t', rfl⟩ := ry
    refine P.mul_str (by decide) (fun _ h => ?_) (fun _ h => ?_) ?_
    · rw [Bool.or_eq_false_iff] at h; exact absurd h.1 (by decide)
    · rw [Bool.or_eq_false_iff] at h; exact absurd h.1 (by decide)
    · rw [if_neg (by decide), if_pos (by rw [Bool.or_eq_true]; exact .inl (by decide))]
      exact ⟨.str z, H, I, ⟨t, rfl⟩, q _ (by simp)⟩
  · refine op_mulSI pins s σ H _ _ v u Q I rx ry ⟨z, n, rfl, rfl, by omega, h2, h3, h4, q _ ?_⟩
    show ((List.replicate n z.cps).foldl (· ++ ·) #[]).toList = _
    rw [fold_app, List.map_replicate]
    rfl
end
end L2

namespace My
open PySem L2 PyProof.Rows
seal L2.PE L2.PT L2.PW L2.PS L2.PSs L2.PA L2.PI L2.PG L2.PGs L2.OpR L2.UnR L2.CallR L2.IxR L2.SlR L2.MtR L2.PIf L2.PO L2.MtM L2.PC
/-! ### names drawn -/
def abc : Str := "abcdefghijklmnopqrstuvwxyz"
theorem let_at : ∀ n < 26, abc.cps.toList[n]? = some (97 + n) := by decide +kernel
theorem let_emod (x : Int) : ∃ n : Nat, x % 26 = (n : Int) ∧ n < 26 := by
  have n0 := Int.emod_nonneg x (show (26 : Int) ≠ 0 by decide)
  have n1 := Int.emod_lt_of_pos x (show (0 : Int) < 26 by decide)
  obtain ⟨n, hn⟩ := Int.eq_ofNat_of_zero_le n0
  exact ⟨n, hn, by omega⟩
def nmA (w : Str) (c : Nat) (i : Nat) : Str := w ++ ⟨(List.replicate i c).toArray⟩
theorem nmA_len {w : Str} {c i : Nat} : (nmA w c i).length = w.length + i := by
  unfold nmA
  rw [Str.length_append]
  show _ + (List.replicate i c).toArray.size = _
  simp
theorem str_ext {a b : Str} (h : a.cps.toList = b.cps.toList) : a = b := by
  cases a; cases b
  congr 1
  exact Array.toList_inj.mp h
theorem nmA_nd {w : Str} {c : Nat} (m : Nat) : ((List.range m).map (nmA w c)).Nodup := by
  refine List.Pairwise.map _ (fun a b h e => ?_) List.nodup_range
  have := congrArg Str.length e
  rw [nmA_len, nmA_len] at this
  omega
def nmB (w : Str) (at_ : Int) (s st : Int) (i : Nat) : Str := Txt.slice w none (some at_) ++ ⟨#[97 + (s + st * (i : Nat)).toNat]⟩ ++ Txt.slice w (some (at_ + 1)) none
theorem nmB_list {w : Str} {at_ s st : Int} {i : Nat} (h0 : 0 ≤ at_) (h1 : at_ < w.length) : (nmB w at_ s st i).cps.toList = w.cps.toList.take at_.toNat ++ [97 + (s + st * (i : Nat)).toNat] ++ w.cps.toList.drop (at_ + 1).toNat := by
  unfold nmB
  rw [Str.cps_append, Array.toList_append, Str.cps_append, Array.toList_append, slice_to w h0 (by omega), slice_from w (by omega) (by omega)]
theorem nmB_len {w : Str} {at_ s st : Int} {i : Nat} (h0 : 0 ≤ at_) (h1 : at_ < w.length) : (nmB w at_ s st i).length = w.length := by
  have := congrArg List.length (nmB_list (s := s) (st := st) (i := i) h0 h1)
  have e : w.length = w.cps.toList.length := (Array.length_toList ..).symm
  rw [List.length_append, List.length_append, List.length_take, List.length_drop, ← e] at this
  show (nmB w at_ s st i).cps.size = _
  rw [← Array.length_toList, this]
  simp
  omega
theorem nmB_nd {w : Str} {at_ s st : Int} (h0 : 0 ≤ at_) (h1 : at_ < w.length) (s0 : 0 ≤ s) (t0 : 0 < st) (m : Nat) : ((List.range m).map (nmB w at_ s st)).Nodup := by
  refine List.Pairwise.map _ (fun a b h e => ?_) List.nodup_range
  have := congrArg (fun z : Str => z.cps.toList) e
  simp only [nmB_list h0 h1] at this
  rw [List.append_assoc, List.append_assoc] at this
  have h2 := List.append_cancel_left this
  injection h2 with h3
  have ha : 0 ≤ st * (a : Int) := Int.mul_nonneg (by omega) (by omega)
  have hb : 0 ≤ st * (b : Int) := Int.mul_nonneg (by omega) (by omega)
  have h4 : st * (a : Int) = st * (b : Int) := by omega
  have := Int.eq_of_mul_eq_mul_left (by omega) h4
  omega
def spCel (K : PySem.W.Frag) : Sp := fun vs H Q _ => ∃ (a : Addr) (ns : List Int) (k : Int), vs = [.ref a, .int k] ∧ SqL K H a (ns.map V.int) ∧ 0 ≤ k ∧ ∀ i : Int, Q (.int i) H
def spNames : Sp := fun vs H Q _ => ∃ c m : Int, vs = [.int c, .int m] ∧ 0 ≤ m ∧ m ≤ 4 ∧ ∀ (l : Addr) (zs : List Str) (H' : Hp), Same H H' → cut H H' l = some (.lst (zs.map V.str)) → (zs.length : Int) = m → zs.Nodup → (∀ z ∈ zs, 1 ≤ z.length ∧ z.length ≤ 8) → Q (.ref l) H'
def nmN : List Str := ["_law_cell_here", "_law_many_here", "_law_letters", "_law_word", "_law_k", "_law_at", "_law_start", "_law_step"]
section
variable {P : Program} {w : World} {K : PySem.W.Frag} {mg : Str → Option Value} {base : Heap}
theorem ok_cel {f : Addr} {fd : FuncData} (F : Fun K "_law_cell" "_law_cell" (top 39) f fd) (B : Bl mg) : FnOk P w K mg base CX0 1 f fd ["_law_script", "_law_k"] (spCel K) := by
  have sc : FnScope ["_law_script", "_law_k"] ["_law_script", "_law_k"] (defScope (top 39)) := ⟨rfl, rfl, rfl, by decide +kernel, rfl, by decide +kernel, by decide +kernel⟩
  refine F.ok sc (fun vs H Q E h => ?_) (fun cdv A outer s H vs Q E hr h => ?_)
  · obtain ⟨a, ns, k, rfl, _⟩ := h
    rfl
  · obtain ⟨a, ns, k, rfl, ha, k0, q⟩ := h
    refine ⟨_, pss_cons (ps_if (pt_cmpR op_lt (pv 1) (pe_callB call_len_seq (by rfl) B.len PySem.boot_len (pa_cons (pv 0) pa_nil)) (nomark _)) (pss_one (ps_ret (pe_ix ix_list (pv 0) (pv 1) (fun _ _ => rfl)))) pss_nil) (pss_one (ps_ret pe_int)), ?_⟩
    refine ⟨_, rfl, _, rfl, _, _, rfl, .inl ha, _, _, rfl, rfl, _, rfl, ?_⟩
    refine ite2 (fun c => ?_) (fun _ => q _)
    have c' : k < (((ns.map V.int).length : Nat) : Int) := of_decide_eq_true c
    obtain ⟨j, rfl⟩ := Int.eq_ofNat_of_zero_le k0
    have hj : j < ns.length := by rw [List.length_map] at c'; omega
    exact ⟨_, rfl, _, rfl, _, _, _, _, rfl, rfl, ha, atI_nat (by rw [List.getElem?_map, List.getElem?_eq_getElem hj]; rfl), q _⟩
theorem ok_names {f : Addr} {fd : FuncData} (F : Fun K "_law_names" "_law_names" (top 40) f fd) (B : Bl mg) : FnOk P w K mg base CX0 1 f fd ["_law_cell_here", "_law_many_here"] spNames := by
  have sc : FnScope nmN ["_law_cell_here", "_law_many_here"] (defScope (top 40)) := ⟨rfl, rfl, rfl, by decide +kernel, rfl, by decide +kernel, by decide +kernel⟩
  refine F.ok sc (fun vs H Q E h => ?_) (fun cdv A outer s H vs Q E hr h => ?_)
  · obtain ⟨c, m, rfl, _⟩ := h
    rfl
  · obtain ⟨c, m, rfl, m0, m4, q⟩ := h
    have ndA : (["_law_k", "_law_word", "_law_letters", "_law_cell_here"] : List Str).Nodup := by decide +kernel
    have ndB : (["_law_k", "_law_word", "_law_at", "_law_letters", "_law_start", "_law_step"] : List Str).Nodup := by decide +kernel
    refine ⟨_, pss_cons (ps_set (i := 2) sc.nd rfl (Or.inr rfl) pe_str) (pss_cons (ps_set (i := 3) sc.nd rfl (Or.inr rfl) pe_str)
      (pss_cons (ps_for PassesOwn.never rfl (pi_range1 rfl B.range (pa_cons (pe_op op_add pe_int (pe_op op_mod (pv 0) pe_int)) pa_nil)) (pg_name (i := 4) sc.nd rfl (Or.inl rfl))
        (pss_one (ps_set (i := 3) sc.nd rfl (Or.inr rfl) (pe_op op_add_str (pv 3) (pe_ix ix_str (pv 2) (pe_op op_mod (pe_op op_add (pe_op op_fdiv (pv 0) pe_int) (pe_op op_mul pe_int (pv 4))) pe_int) (fun _ _ => rfl))))))
      (pss_cons (ps_if (pt_cmpR op_eq (pe_op op_mod (pe_op op_fdiv (pv 0) pe_int) pe_int) pe_int (nomark _)) (pss_one (ps_ret (pe_comp (osc := defScope (top 40)) (N0 := nmN) (xs := ["_law_k"]) (fr := [3, 2, 0]) ⟨rfl, by decide +kernel, by decide +kernel, by decide +kernel, (fun j hj => by
              have e : j = 3 ∨ j = 2 ∨ j = 0 := by simpa using hj
              rcases e with rfl | rfl | rfl
              · exact ⟨_, rfl, by decide +kernel⟩
              · exact ⟨_, rfl, by decide +kernel⟩
              · exact ⟨_, rfl, by decide +kernel⟩), by decide +kernel⟩ rfl rfl rfl (pi_range1 rfl B.range (pa_cons (pv 1) pa_nil))
            (fun s H fp => pg_name (i := 0) ndA rfl (Or.inl rfl)) (fun s H fp => pif_nil)
            (fun s H fp => pe_op op_add_str (pv 1) (pe_op op_mulSN (pe_ix ix_str (pv 2) (pe_op op_mod (pe_op op_fdiv (pv 3) pe_int) pe_int) (fun _ _ => rfl)) (pv 0)))))) pss_nil)
      (pss_cons (ps_set (i := 5) sc.nd rfl (Or.inr rfl) (pe_op op_mod (pe_op op_fdiv (pv 0) pe_int) (pe_callB call_len_str (by rfl) B.len PySem.boot_len (pa_cons (pv 3) pa_nil))))
      (pss_cons (ps_set (i := 6) sc.nd rfl (Or.inr rfl) (pe_op op_mod (pe_op op_fdiv (pv 0) pe_int) pe_int))
      (pss_cons (ps_set (i := 7) sc.nd rfl (Or.inr rfl) (pe_op op_add pe_int (pe_op op_mod (pe_op op_fdiv (pv 0) pe_int) pe_int)))
      (pss_one (ps_ret (pe_comp (osc := defScope (top 40)) (N0 := nmN) (xs := ["_law_k"]) (fr := [3, 5, 2, 6, 7]) ⟨rfl, by decide +kernel, by decide +kernel, by decide +kernel, (fun j hj => by
              have e : j = 3 ∨ j = 5 ∨ j = 2 ∨ j = 6 ∨ j = 7 := by simpa using hj
              rcases e with rfl | rfl | rfl | rfl | rfl
              · exact ⟨_, rfl, by decide +kernel⟩
              · exact ⟨_, rfl, by decide +kernel⟩
              · exact ⟨_, rfl, by decide +kernel⟩
              · exact ⟨_, rfl, by decide +kernel⟩
              · exact ⟨_, rfl, by decide +kernel⟩), by decide +kernel⟩ rfl rfl rfl (pi_range1 rfl B.range (pa_cons (pv 1) pa_nil))
            (fun s H fp => pg_name (i := 0) ndB rfl (Or.inl rfl)) (fun s H fp => pif_nil)
            (fun s H fp => pe_op op_add_str (pe_op op_add_str (pe_slice sl_str (pv 1) po_none (po_some (pv 2))) (pe_ix ix_str (pv 3) (pe_op op_add (pv 4) (pe_op op_mul (pv 5) (pv 0))) (fun _ _ => rfl))) (pe_slice sl_str (pv 1) (po_some (pe_op op_add (pv 2) pe_int)) po_none))))))))))), ?_⟩
    have a0 := Int.emod_nonneg c (show (4 : Int) ≠ 0 by decide)
    have a4 := Int.emod_lt_of_pos c (show (0 : Int) < 4 by decide)
    have abl : abc.length ≤ sizeLine := by decide +kernel
    refine ⟨_, rfl, _, _, rfl, rfl, (pos rfl), _, _, rfl, rfl, _, rfl, (by omega), (by omega), for_range (fun i σ H' => H' = H ∧ ∃ (z : Str) (u4 : Option V), σ = [some (.int c), some (.int m), some (.str abc), some (.str z), u4, none, none, none] ∧ z.length = i) ⟨rfl, "", _, rfl, by decide⟩ ?_ ?_⟩
    · rintro i σ H' hi ⟨rfl, z, u4, rfl, hz⟩
      obtain ⟨n, hn, n26⟩ := let_emod (c / 4 + 7 * (0 + (i : Int)))
      refine ⟨_, rfl, _, rfl, _, rfl, _, _, rfl, rfl, ⟨by decide, by decide⟩, _, rfl, _, _, rfl, rfl, .inl ⟨by decide, by decide⟩, _, _, rfl, rfl, _, _, rfl, rfl, (pos rfl), _, _, _, rfl, rfl, abl, (by rw [hn]; exact atI_nat (let_at n n26)), _, _, rfl, rfl, (by rw [sizeLine_eq]; show z.length + 1 ≤ _; omega), rfl, _, _, rfl, ?_⟩
      rw [Str.length_append, hz]
      rfl
    rintro σ H' ⟨rfl, z, u4, rfl, hz⟩
    have zl : z.length ≤ sizeLine := by rw [sizeLine_eq]; omega
    refine ⟨_, rfl, _, _, rfl, rfl, ⟨by decide, by decide⟩, _, _, rfl, rfl, (pos rfl), rfl, _, rfl, ?_⟩
    refine ite2 (fun _ => ?_) (fun _ => ?_)
    · obtain ⟨n, hn, n26⟩ := let_emod (c / 16)
      refine ⟨_, rfl, _, rfl, (by omega), (by omega), fun D hD => ?_⟩
      refine compW_map m.toNat (fun i => .str (nmA z (97 + n) i)) (fun i σ' Hc => (∃ t, σ' = [t, some (.str z), some (.str abc), some (.int c)]) ∧ Same H' Hc) (by rw [sizeLine_eq]; omega) ⟨⟨none, rfl⟩, Same.upd hD⟩ upd_same ?_ ?_
      · rintro i σ' Hc hi ⟨⟨t, rfl⟩, sm⟩ hD'
        refine ⟨hi, ?_⟩
        rintro y H'' ⟨rfl, rfl⟩
        refine ⟨_, rfl, _, rfl, _, rfl, _, _, rfl, rfl, ⟨by decide, by decide⟩, _, _, rfl, rfl, (pos rfl), _, _, _, rfl, rfl, abl, (by rw [hn]; exact atI_nat (let_at n n26)), _, rfl, ?_⟩
        refine ⟨⟨#[97 + n]⟩, i, rfl, (by rw [Int.zero_add]), (by omega), (by show 0 < 1; decide), (by show 1 ≤ 10000; decide), fun r hr' => ?_⟩
        have er : r = ⟨(List.replicate i (97 + n)).toArray⟩ := str_ext (by rw [hr']; simp)
        subst er
        refine ⟨_, _, rfl, rfl, ?_, rfl, hD', ⟨_, rfl⟩, sm.put hD⟩
        have e2 : Str.length ⟨(List.replicate i (97 + n)).toArray⟩ = i := by show (List.replicate i (97 + n)).toArray.size = i; simp
        rw [sizeLine_eq, e2]
        omega
      · rintro σ' Hc ⟨_, sm⟩ hDn
        refine ⟨Nat.le_refl _, ?_⟩
        have e1 : (List.range m.toNat).map (fun i => V.str (nmA z (97 + n) i)) = ((List.range m.toNat).map (nmA z (97 + n))).map V.str := by rw [List.map_map]; rfl
        rw [e1] at hDn
        refine q D _ Hc sm (cut_at hD hDn) (by rw [List.length_map, List.length_range]; omega) (nmA_nd _) (fun x hx => ?_)
        obtain ⟨i, hi, rfl⟩ := List.mem_map.mp hx
        have := List.mem_range.mp hi
        rw [nmA_len]
        omega
    · have lz : (0 : Int) < (z.length : Nat) := by omega
      refine ⟨_, rfl, _, _, rfl, rfl, ⟨by decide, by decide⟩, _, rfl, _, rfl, zl, _, _, rfl, rfl, lz, ?_⟩
      have t0 := Int.emod_nonneg (c / 16) (show ((z.length : Nat) : Int) ≠ 0 by omega)
      have t1 := Int.emod_lt_of_pos (c / 16) lz
      refine ⟨_, rfl, _, _, rfl, rfl, ⟨by decide, by decide⟩, _, _, rfl, rfl, (pos rfl), ?_⟩
      have s0 := Int.emod_nonneg (c / 64) (show (6 : Int) ≠ 0 by decide)
      have s1 := Int.emod_lt_of_pos (c / 64) (show (0 : Int) < 6 by decide)
      refine ⟨_, rfl, _, _, rfl, rfl, ⟨by decide, by decide⟩, _, _, rfl, rfl, (pos rfl), _, _, rfl, rfl, ?_⟩
      have p0 := Int.emod_nonneg (c / 512) (show (4 : Int) ≠ 0 by decide)
      have p1 := Int.emod_lt_of_pos (c / 512) (show (0 : Int) < 4 by decide)
      dsimp only
      generalize c / 16 % ((z.length : Nat) : Int) = at_ at *
      generalize c / 64 % 6 = st at *
      generalize hsp : 1 + c / 512 % 4 = sp at *
      have sp0 : 0 < sp := by omega
      have sp5 : sp < 5 := by omega
      refine ⟨_, rfl, _, rfl, (by omega), (by omega), fun D hD => ?_⟩
      refine compW_map m.toNat (fun i => .str (nmB z at_ st sp i)) (fun i σ' Hc => (∃ t, σ' = [t, some (.str z), some (.int at_), some (.str abc), some (.int st), some (.int sp)]) ∧ Same H' Hc) (by rw [sizeLine_eq]; omega) ⟨⟨none, rfl⟩, Same.upd hD⟩ upd_same ?_ ?_
      · rintro i σ' Hc hi ⟨⟨t, rfl⟩, sm⟩ hD'
        have hi4 : i < 4 := by omega
        refine ⟨hi, ?_⟩
        rintro y H'' ⟨rfl, rfl⟩
        have hb : 0 ≤ sp * (i : Int) := Int.mul_nonneg (by omega) (by omega)
        have hb2 : sp * (i : Int) ≤ 4 * 3 := Int.mul_le_mul (by omega) (by omega) (by omega) (by decide)
        obtain ⟨n, hn⟩ := Int.eq_ofNat_of_zero_le (show 0 ≤ st + sp * (i : Int) by omega)
        have n26 : n < 26 := by omega
        have hn' : st + sp * (0 + (i : Int)) = (n : Int) := by rw [Int.zero_add]; exact hn
        refine ⟨_, rfl, _, rfl, _, rfl, z, rfl, zl, _, rfl, _, rfl, _, rfl, _, rfl, _, _, rfl, rfl, .inl ⟨by omega, by omega⟩, _, _, rfl, rfl, _, _, _, rfl, rfl, abl, (by rw [hn']; exact atI_nat (let_at n n26)), _, _, rfl, rfl, ?_, _, rfl, _, rfl, _, _, rfl, rfl, _, rfl, z, rfl, zl, _, _, rfl, rfl, ?_, ?_, hD', ⟨_, rfl⟩, sm.put hD⟩
        · have := Txt.slice_le z none (some at_)
          rw [sizeLine_eq]
          show _ + 1 ≤ _
          omega
        · have h1 := Txt.slice_le z none (some at_)
          have h2 := Txt.slice_le z (some (at_ + 1)) none
          rw [sizeLine_eq, Str.length_append]
          show _ + 1 + _ ≤ _
          omega
        · show V.str _ = V.str (nmB z at_ st sp i)
          unfold nmB
          rw [hn]
          rfl
      · rintro σ' Hc ⟨_, sm⟩ hDn
        refine ⟨Nat.le_refl _, ?_⟩
        have e1 : (List.range m.toNat).map (fun i => V.str (nmB z at_ st sp i)) = ((List.range m.toNat).map (nmB z at_ st sp)).map V.str := by rw [List.map_map]; rfl
        rw [e1] at hDn
        refine q D _ Hc sm (cut_at hD hDn) (by rw [List.length_map, List.length_range]; omega) (nmB_nd t0 (by omega) s0 sp0 _) (fun x hx => ?_)
        obtain ⟨i, hi, rfl⟩ := List.mem_map.mp hx
        rw [nmB_len t0 (by omega)]
        omega
end
end My

namespace L2
open PySem PySem.Spec PyProof.Rows
theorem sIx_at {n d : Nat} {k : Int} (h0 : 0 ≤ k) (h1 : k ≤ n) : HT.sIx n d (some k) = k.toNat := by
  have e := HT.clip_eq k n d
  rw [if_neg (by omega)] at e
  omega
theorem cut_to {xs : List V} {k : Int} (h0 : 0 ≤ k) (h1 : k ≤ xs.length) : cutV xs none (some k) = xs.take k.toNat := by
  unfold cutV
  rw [sIx_at h0 h1, HT.sIx_none, List.drop_zero, Nat.sub_zero]
theorem cut_from {xs : List V} {k : Int} (h0 : 0 ≤ k) (h1 : k ≤ xs.length) : cutV xs (some k) none = xs.drop k.toNat := by
  unfold cutV
  rw [sIx_at h0 h1, HT.sIx_none]
  refine List.take_of_length_le ?_
  rw [List.length_drop]
  omega
end L2
namespace My
open PySem L2 PyProof.Rows
seal L2.PE L2.PT L2.PW L2.PS L2.PSs L2.PA L2.PI L2.PG L2.PGs L2.OpR L2.UnR L2.CallR L2.IxR L2.SlR L2.MtR L2.PIf L2.PO L2.MtM L2.PC
/-! ### sheets: a table's name, its sort, its column -/
abbrev Sh := Str × Str × Str
def ShAt (H : Hp) (l : Addr) (shs : List Sh) : Prop := ∃ ys : List Addr, H l = some (.lst (ys.map V.ref)) ∧ ys.length = shs.length ∧ ∀ (j : Nat) (y : Addr) (s : Sh), ys[j]? = some y → shs[j]? = some s → H y = some (.tup [.str s.1, .str s.2.1, .str s.2.2])
theorem ShAt.same {H H' : Hp} {l : Addr} {shs : List Sh} (h : ShAt H l shs) (s : Same H H') : ShAt H' l shs := let ⟨ys, a, b, c⟩ := h; ⟨ys, s _ _ a, b, fun j y x e1 e2 => s _ _ (c j y x e1 e2)⟩
theorem ShAt.snoc {H H' : Hp} {l y : Addr} {shs : List Sh} {s : Sh} {ys : List Addr} (hl : ∃ us, H l = some (.lst us)) (a1 : H' l = some (.lst ((ys ++ [y]).map V.ref))) (a2 : ys.length = shs.length) (a3 : ∀ (j : Nat) (y : Addr) (s : Sh), ys[j]? = some y → shs[j]? = some s → H y = some (.tup [.str s.1, .str s.2.1, .str s.2.2]))
    (fr : ∀ b o, b ≠ l → H b = some o → H' b = some o) (hy : H' y = some (.tup [.str s.1, .str s.2.1, .str s.2.2])) : ShAt H' l (shs ++ [s]) := by
  refine ⟨ys ++ [y], a1, by rw [List.length_append, List.length_append, a2]; rfl, fun j x t e1 e2 => ?_⟩
  by_cases hj : j < shs.length
  · rw [List.getElem?_append_left (by omega)] at e1 e2
    have g := a3 j x t e1 e2
    obtain ⟨us, hl⟩ := hl
    exact fr _ _ (fun e => by rw [e, hl] at g; cases g) g
  · have hj' : j = shs.length := by
      have := (List.getElem?_eq_some_iff.mp e2).1
      rw [List.length_append] at this
      simp at this
      omega
    subst hj'
    rw [List.getElem?_append_right (by omega)] at e1 e2
    rw [a2, Nat.sub_self] at e1
    rw [Nat.sub_self] at e2
    cases e1
    cases e2
    exact hy
def sides : List Str := ["twin", "many", "some"]
structure ShOk (shs : List Sh) : Prop where
  four : shs.length = 4
  nd : (shs.map (·.1)).Nodup
  nm : ∀ s ∈ shs, 1 ≤ s.1.length ∧ s.1.length ≤ 8
  co : ∀ s ∈ shs, s.2.2.length ≤ 8
  hd : ∃ s r, shs = s :: r ∧ s.2.1 = "head" ∧ ∀ t ∈ r, t.2.1 ∈ sides
def spSheets (K : PySem.W.Frag) : Sp := fun vs H Q _ => ∃ (a : Addr) (ns : List Int), vs = [.ref a] ∧ SqL K H a (ns.map V.int) ∧ ∀ l shs H', Same H H' → ShAt (cut H H') l shs → ShOk shs → Q (.ref l) H'
def shN : List Str := ["_law_script", "_law_names_here", "_law_columns", "_law_at", "_law_turn", "_law_sheets_here", "_law_k", "_law_name", "_law_bare"]
section
variable {P : Program} {w : World} {K : PySem.W.Frag} {mg : Str → Option Value} {base : Heap}
theorem ok_sheets {f fC fN : Addr} {fd fdC fdN : FuncData} (F : Fun K "_law_sheets" "_law_sheets" (top 41) f fd) (B : Bl mg) (DC : Df K mg "_law_cell" (top 39) fC fdC) (DN : Df K mg "_law_names" (top 40) fN fdN) : FnOk P w K mg base CX0 2 f fd ["_law_script"] (spSheets K) := by
  have sc : FnScope shN ["_law_script"] (defScope (top 41)) := ⟨rfl, rfl, rfl, by decide +kernel, rfl, by decide +kernel, by decide +kernel⟩
  have GC : FnOk P w K mg base CX0 1 fC fdC ["_law_script", "_law_k"] (spCel K) := ok_cel DC.fn B
  have bC := DC.fn.binds (ps := ["_law_script", "_law_k"]) fun _ _ _ _ _ _ us hl => by obtain ⟨v0, v1, rfl⟩ := L2.ln2 hl; rfl
  have GN : FnOk P w K mg base CX0 1 fN fdN ["_law_cell_here", "_law_many_here"] spNames := ok_names DN.fn B
  have bN := DN.fn.binds (ps := ["_law_cell_here", "_law_many_here"]) fun _ _ _ _ _ _ us hl => by obtain ⟨v0, v1, rfl⟩ := L2.ln2 hl; rfl
  refine F.ok sc (fun vs H Q E h => ?_) (fun cdv A outer s H vs Q E hr h => ?_)
  · obtain ⟨a, ns, rfl, _⟩ := h
    rfl
  · obtain ⟨a, ns, rfl, hS, q⟩ := h
    have nd3 : (["_law_k", "_law_sheet", "_law_bare"] : List Str).Nodup := by decide +kernel
    refine ⟨_, pss_cons (ps_set (i := 1) sc.nd rfl (Or.inl rfl) (pe_call GN hr (by rfl) DN.mg DN.fn.kp bN .nil pass0 (pa_cons (pe_call GC hr (by rfl) DC.mg DC.fn.kp bC .nil pass0 (pa_cons (pv 0) (pa_cons pe_int pa_nil))) (pa_cons pe_int pa_nil))))
      (pss_cons (ps_set (i := 2) sc.nd rfl (Or.inl rfl) (pe_call GN hr (by rfl) DN.mg DN.fn.kp bN .nil pass0 (pa_cons (pe_call GC hr (by rfl) DC.mg DC.fn.kp bC .nil pass0 (pa_cons (pv 0) (pa_cons pe_int pa_nil))) (pa_cons pe_int pa_nil))))
      (pss_cons (ps_set (i := 3) sc.nd rfl (Or.inl rfl) (pe_op op_mod (pe_call GC hr (by rfl) DC.mg DC.fn.kp bC .nil pass0 (pa_cons (pv 0) (pa_cons pe_int pa_nil))) pe_int))
      (pss_cons (ps_set (i := 4) sc.nd rfl (Or.inl rfl) (pe_op op_mod (pe_op op_fdiv (pe_call GC hr (by rfl) DC.mg DC.fn.kp bC .nil pass0 (pa_cons (pv 0) (pa_cons pe_int pa_nil))) pe_int) pe_int))
      (pss_cons (ps_set (i := 5) sc.nd rfl (Or.inl rfl) (pe_lst (pa_cons (pe_tup (pa_cons (pe_ix ix_list (pv 1) (pv 3) (fun _ _ => rfl)) (pa_cons pe_str (pa_cons (pe_ix ix_list (pv 2) (pv 3) (fun _ _ => rfl)) pa_nil)))) pa_nil)))
      (pss_cons (ps_for PassesOwn.never rfl (pi_enum (by rfl) B.enum (pa_cons (pe_op op_cat (pe_slice sl_list (pv 1) po_none (po_some (pv 3))) (pe_slice sl_list (pv 1) (po_some (pe_op op_add (pv 3) pe_int)) po_none)) pa_nil)) (pg_tup rfl (pgs_cons (pg_name (i := 6) sc.nd rfl (Or.inl rfl)) (pgs_cons (pg_name (i := 7) sc.nd rfl (Or.inl rfl)) pgs_nil)))
        (pss_one (ps_expr (pe_bm PySem.F.plainAttrs_list PySem.F.slot_list_append PySem.F.type_list_append mt_app (pv 5) (pa_cons (pe_tup (pa_cons (pv 7) (pa_cons (pe_ix ix_list (pe_lst (pa_cons pe_str (pa_cons pe_str (pa_cons pe_str pa_nil)))) (pe_op op_mod (pe_op op_add (pv 6) (pv 4)) pe_int) (fun _ _ => rfl)) (pa_cons (pe_ix ix_list (pv 2) (pv 6) (fun _ _ => rfl)) pa_nil)))) pa_nil)))))
      (pss_cons (ps_set (i := 8) sc.nd rfl (Or.inr rfl) (pe_op op_mod (pe_op op_fdiv (pe_call GC hr (by rfl) DC.mg DC.fn.kp bC .nil pass0 (pa_cons (pv 0) (pa_cons pe_int pa_nil))) pe_int) pe_int))
      (pss_one (ps_ret (pe_comp (osc := defScope (top 41)) (N0 := shN) (xs := ["_law_k", "_law_sheet"]) (fr := [8]) ⟨rfl, by decide +kernel, by decide +kernel, by decide +kernel, (fun j hj => by
              have e : j = 8 := by simpa using hj
              subst e
              exact ⟨_, rfl, by decide +kernel⟩), by decide +kernel⟩ rfl rfl rfl (pi_enum (by rfl) B.enum (pa_cons (pv 5) pa_nil))
            (fun s H fp => pg_tupK (K := K) (n := 2) rfl rfl (pgs_cons (pg_name (i := 0) nd3 rfl (Or.inl rfl)) (pgs_cons (pg_name (i := 1) nd3 rfl (Or.inl rfl)) pgs_nil))) (fun s H fp => pif_nil)
            (fun s H fp => pe_tup (pa_cons (pe_ix (r := rIxT K) ix_tup (pv 1) pe_int (fun _ _ => rfl)) (pa_cons (pe_ix (r := rIxT K) ix_tup (pv 1) pe_int (fun _ _ => rfl)) (pa_cons (pe_ix (r := rIxL K) ix_list (pe_lst (pa_cons (pe_ix (r := rIxT K) ix_tup (pv 1) pe_int (fun _ _ => rfl)) (pa_cons pe_str pa_nil))) (pe_callTy call_int1 (by rfl) B.int boot_int (pa_cons (pe_cmpR op_eq (pv 0) (pv 2) (nomark _)) pa_nil)) (fun _ _ => rfl)) pa_nil)))))))))))))  , ?_⟩
    refine ⟨_, rfl, a, ns, 0, rfl, hS, by decide, fun c0 => ⟨c0, 4, rfl, by decide, by decide, fun nl zs H1 s1 n1 nlen nnd nok => ?_⟩⟩
    refine ⟨_, rfl, a, ns, 1, rfl, s1.seq hS, by decide, fun c1 => ⟨c1, 4, rfl, by decide, by decide, fun cl ks H2 s2 k1 klen knd kok => ?_⟩⟩
    have S2 := s1.trans s2
    refine ⟨_, rfl, a, ns, 2, rfl, S2.seq hS, by decide, fun c2 => ⟨_, _, rfl, rfl, (pos rfl), ?_⟩⟩
    refine ⟨_, rfl, a, ns, 2, rfl, S2.seq hS, by decide, fun c3 => ⟨_, _, rfl, rfl, ⟨by decide, by decide⟩, _, _, rfl, rfl, (pos rfl), ?_⟩⟩
    have t0 := Int.emod_nonneg (c3 / 4) (show (3 : Int) ≠ 0 by decide)
    have a0 := Int.emod_nonneg c2 (show (4 : Int) ≠ 0 by decide)
    have a4 := Int.emod_lt_of_pos c2 (show (0 : Int) < 4 by decide)
    dsimp only
    generalize c3 / 4 % 3 = tn at *
    generalize c2 % 4 = an at *
    obtain ⟨n, rfl⟩ := Int.eq_ofNat_of_zero_le a0
    have hnz : n < zs.length := by omega
    have hnk : n < ks.length := by omega
    have nl2 := s2 _ _ (cut_sub _ _ n1)
    have cl2 := cut_sub _ _ k1
    refine ⟨_, rfl, _, rfl, nl, _, _, _, rfl, rfl, SqL.of nl2, atI_nat (by rw [List.getElem?_map, List.getElem?_eq_getElem hnz]; rfl), _, rfl, _, rfl, cl, _, _, _, rfl, rfl, SqL.of cl2, atI_nat (by rw [List.getElem?_map, List.getElem?_eq_getElem hnk]; rfl), (by show 3 ≤ sizeLine; decide), fun y0 hy0 => ?_⟩
    have T3 := Same.upd (o := .tup [.str zs[n], .str "head", .str ks[n]]) hy0
    have e3 : (upd H2 y0 (.tup [.str zs[n], .str "head", .str ks[n]])) y0 = some (.tup [.str zs[n], .str "head", .str ks[n]]) := upd_same
    generalize upd H2 y0 (.tup [.str zs[n], .str "head", .str ks[n]]) = H3 at *
    refine ⟨(by show 1 ≤ sizeLine; decide), fun sl hsl => ?_⟩
    have T4 := Same.upd (o := .lst [.ref y0]) hsl
    have e4 : (upd H3 sl (.lst [.ref y0])) sl = some (.lst [.ref y0]) := upd_same
    generalize upd H3 sl (.lst [.ref y0]) = H4 at *
    have S4 := S2.trans (T3.trans T4)
    have nl4 := (T3.trans T4) _ _ nl2
    have zl : (zs.map V.str).length = 4 := by rw [List.length_map]; omega
    refine ⟨_, rfl, _, rfl, _, rfl, nl, _, rfl, SqL.of nl4, fun p1 h1 => ?_⟩
    rw [cut_to (by omega) (by rw [zl]; omega), ← List.map_take]
    have T5 := Same.upd (o := .lst ((zs.take ((n : Int)).toNat).map V.str)) h1
    have e5 : (upd H4 p1 (.lst ((zs.take ((n : Int)).toNat).map V.str))) p1 = some (.lst ((zs.take ((n : Int)).toNat).map V.str)) := upd_same
    generalize upd H4 p1 (.lst ((zs.take ((n : Int)).toNat).map V.str)) = H5 at *
    refine ⟨_, rfl, _, rfl, _, _, rfl, rfl, _, rfl, nl, _, rfl, SqL.of (T5 _ _ nl4), fun p2 h2 => ?_⟩
    rw [cut_from (by omega) (by rw [zl]; omega), ← List.map_drop]
    have T6 := Same.upd (o := .lst ((zs.drop ((n : Int) + 1).toNat).map V.str)) h2
    have e6 : (upd H5 p2 (.lst ((zs.drop ((n : Int) + 1).toNat).map V.str))) p2 = some (.lst ((zs.drop ((n : Int) + 1).toNat).map V.str)) := upd_same
    generalize upd H5 p2 (.lst ((zs.drop ((n : Int) + 1).toNat).map V.str)) = H6 at *
    refine ⟨p1, p2, _, _, rfl, rfl, T6 _ _ e5, e6, (by rw [List.length_map, List.length_map, List.length_take, List.length_drop, sizeLine_eq]; omega), fun p3 h3 => ?_⟩
    rw [← List.map_append]
    have hrest : ∃ rest, rest = zs.take ((n : Int)).toNat ++ zs.drop ((n : Int) + 1).toNat := ⟨_, rfl⟩
    obtain ⟨rest, hrest⟩ := hrest
    rw [← hrest]
    have rlen : rest.length = 3 := by
      rw [hrest, List.length_append, List.length_take, List.length_drop]
      omega
    have hperm : (zs[n] :: rest).Perm zs := by
      have e1 : ((n : Int)).toNat = n := by omega
      have e2 : ((n : Int) + 1).toNat = n + 1 := by omega
      rw [hrest, e1, e2]
      have : zs = zs.take n ++ zs[n] :: zs.drop (n + 1) := by rw [← List.drop_eq_getElem_cons hnz, List.take_append_drop]
      conv => rhs; rw [this]
      exact List.perm_middle.symm
    have T7 := Same.upd (o := .lst (rest.map V.str)) h3
    have e7 : (upd H6 p3 (.lst (rest.map V.str))) p3 = some (.lst (rest.map V.str)) := upd_same
    generalize upd H6 p3 (.lst (rest.map V.str)) = H7 at *
    have S7 := S4.trans (T5.trans (T6.trans T7))
    have hsl0 : H sl = none := none_of (S2.trans T3) hsl
    have sh0 : ShAt (cut H H7) sl [(zs[n], "head", ks[n])] := ⟨[y0], cut_at hsl0 ((T5.trans (T6.trans T7)) _ _ e4), rfl, fun j y s c1 c2 => by
      match j, c1, c2 with
      | 0, c1, c2 => cases c1; cases c2; exact cut_at (none_of S2 hy0) ((T4.trans (T5.trans (T6.trans T7))) _ _ e3)⟩
    have cl7 := (T3.trans (T4.trans (T5.trans (T6.trans T7)))) _ _ cl2
    have np3 : p3 ≠ sl := fun e => by rw [e, (T5.trans T6) _ _ e4] at h3; cases h3
    have ncl : cl ≠ sl := fun e => by rw [e] at cl2; rw [T3 _ _ cl2] at hsl; cases hsl
    refine ⟨p3, rfl, ⟨_, SqL.of e7⟩, for_enum (K := K) (a := p3) (xs := rest.map V.str) (fun i σ H' => Same H H' ∧ H' p3 = some (.lst (rest.map V.str)) ∧ H' cl = some (.lst (ks.map V.str)) ∧ ∃ (u6 u7 : Option V) (tl : List Sh), σ = [some (.ref a), some (.ref nl), some (.ref cl), some (.int (n : Int)), some (.int tn), some (.ref sl), u6, u7, none] ∧ ShAt (cut H H') sl ((zs[n], "head", ks[n]) :: tl) ∧ tl.map (·.1) = rest.take i ∧ ∀ t ∈ tl, t.2.1 ∈ sides ∧ t.2.2 ∈ ks) ⟨S7, e7, cl7, _, _, [], rfl, sh0, rfl, fun t h => nomatch h⟩ (fun i σ H' _ p => SqL.of p.2.1) ?_ ?_⟩
    · rintro i x p σ H' hx ⟨sm, h3', hc', u6, u7, tl, rfl, ⟨ys, y1, y2, y3⟩, htl, hts⟩ hp
      have hi : i < rest.length := by
        have := (List.getElem?_eq_some_iff.mp hx).1
        rwa [List.length_map] at this
      rw [List.getElem?_map, List.getElem?_eq_getElem hi] at hx
      cases hx
      have T1 := Same.upd (o := .tup [.int (i : Nat), .str rest[i]]) hp
      refine ⟨p, _, rfl, SqT.of upd_same, rfl, _, _, rfl, _, _, rfl, rfl, ?_⟩
      generalize upd H' p (.tup [.int (i : Nat), .str rest[i]]) = Ha at T1
      obtain ⟨m, hm, m3⟩ : ∃ m : Nat, ((i : Nat) + tn) % 3 = (m : Int) ∧ m < 3 := by
        have n0 := Int.emod_nonneg ((i : Nat) + tn) (show (3 : Int) ≠ 0 by decide)
        have n1 := Int.emod_lt_of_pos ((i : Nat) + tn) (show (0 : Int) < 3 by decide)
        obtain ⟨m, hm⟩ := Int.eq_ofNat_of_zero_le n0
        exact ⟨m, hm, by omega⟩
      have hsd : ([V.str "twin", V.str "many", V.str "some"])[m]? = some (.str (sides.getD m "")) ∧ sides.getD m "" ∈ sides := by
        rcases (show m = 0 ∨ m = 1 ∨ m = 2 by omega) with rfl | rfl | rfl
        · exact ⟨rfl, by decide +kernel⟩
        · exact ⟨rfl, by decide +kernel⟩
        · exact ⟨rfl, by decide +kernel⟩
      have hik : i < ks.length := by omega
      have sla := T1 _ _ (cut_sub _ _ y1)
      refine ⟨_, rfl, .inl ⟨rfl, _, SqL.of sla⟩, _, rfl, (by show 3 ≤ sizeLine; decide), fun q1 hq1 => ?_⟩
      have T2 := Same.upd (o := .lst [.str "twin", .str "many", .str "some"]) hq1
      have e2 : (upd Ha q1 (.lst [.str "twin", .str "many", .str "some"])) q1 = some (.lst [.str "twin", .str "many", .str "some"]) := upd_same
      generalize upd Ha q1 (.lst [.str "twin", .str "many", .str "some"]) = Hb at *
      refine ⟨_, rfl, _, rfl, _, _, rfl, rfl, _, _, rfl, rfl, (pos rfl), q1, _, _, _, rfl, rfl, SqL.of e2, (by rw [hm]; exact atI_nat hsd.1), _, rfl, _, rfl, cl, _, _, _, rfl, rfl, SqL.of ((T1.trans T2) _ _ hc'), atI_nat (by rw [List.getElem?_map, List.getElem?_eq_getElem hik]; rfl), (by show 3 ≤ sizeLine; decide), fun t ht => ?_⟩
      have T8 := Same.upd (o := .tup [.str rest[i], .str (sides.getD m ""), .str ks[i]]) ht
      have e8 : (upd Hb t (.tup [.str rest[i], .str (sides.getD m ""), .str ks[i]])) t = some (.tup [.str rest[i], .str (sides.getD m ""), .str ks[i]]) := upd_same
      generalize upd Hb t (.tup [.str rest[i], .str (sides.getD m ""), .str ks[i]]) = Hc at *
      have T18 := T1.trans (T2.trans T8)
      have slb := T2 _ _ sla
      have tsl : t ≠ sl := fun e => by rw [e, slb] at ht; cases ht
      have tll : tl.length = i := by
        have := congrArg List.length htl
        rw [List.length_map, List.length_take] at this
        omega
      refine ⟨sl, _, _, rfl, rfl, T8 _ _ slb, (by rw [List.length_map, y2, List.length_cons, tll, sizeLine_eq]; omega), ?_⟩
      refine ⟨(sm.trans T18).put hsl0, by rw [upd_ne np3]; exact T18 _ _ h3', by rw [upd_ne ncl]; exact T18 _ _ hc', _, _, tl ++ [(rest[i], sides.getD m "", ks[i])], rfl, ?_, ?_, fun u hu => ?_⟩
      · rw [← List.cons_append]
        exact ShAt.snoc (H := cut H H') (y := t) (ys := ys) ⟨_, y1⟩ (cut_at hsl0 (by rw [upd_same, List.map_append]; rfl)) y2 y3 (fun b ob nb e => cut_at (cut_new e) (by rw [upd_ne nb]; exact T18 _ _ (cut_sub _ _ e))) (cut_at (none_of (sm.trans (T1.trans T2)) ht) (by rw [upd_ne tsl]; exact e8))
      · rw [List.map_append, htl, List.take_succ, List.getElem?_eq_getElem hi]
        rfl
      · rcases List.mem_append.mp hu with hu | hu
        · exact hts u hu
        · rw [List.mem_singleton.mp hu]
          exact ⟨hsd.2, List.getElem_mem hik⟩
    · rintro σ H' ⟨sm, h3', hc', u6, u7, tl, rfl, hsh, htl, hts⟩
      rw [List.length_map, List.take_length] at htl
      have tll : tl.length = 3 := by
        have := congrArg List.length htl
        rw [List.length_map] at this
        omega
      refine ⟨_, rfl, a, ns, 2, rfl, sm.seq hS, by decide, fun c4 => ⟨_, _, rfl, rfl, ⟨by decide, by decide⟩, _, _, rfl, rfl, (pos rfl), ?_⟩⟩
      dsimp only
      generalize c4 / 12 % 8 = br
      obtain ⟨ys, y1, y2, y3⟩ := hsh
      have y1' := cut_sub _ _ y1
      have yl : ys.length = 4 := by rw [y2, List.length_cons, tll]
      have hall : ∀ s ∈ ((zs[n], "head", ks[n]) :: tl : List Sh), s.2.2 ∈ ks := fun s hs => by
        rcases List.mem_cons.mp hs with rfl | hs
        · exact List.getElem_mem hnk
        · exact (hts s hs).2
      generalize hshs : ((zs[n], "head", ks[n]) :: tl : List Sh) = shs at *
      have sl4 : shs.length = 4 := by omega
      refine ⟨_, rfl, sl, rfl, ⟨_, SqL.of y1'⟩, fun D hD => ?_⟩
      refine compW_idx 4 (fun i ys' σ' Hc => (∃ t0 t1, σ' = [t0, t1, some (.int br)]) ∧ Same H' Hc ∧ ∃ (ps : List Addr) (out : List Sh), ys' = ps.map V.ref ∧ out.length = i ∧ out.map (·.1) = (shs.take i).map (·.1) ∧ out.map (·.2.1) = (shs.take i).map (·.2.1) ∧ (∀ o ∈ out, o.2.2.length ≤ 8) ∧ ∀ (j : Nat) (p : Addr) (o : Sh), ps[j]? = some p → out[j]? = some o → H p = none ∧ p ≠ D ∧ Hc p = some (.tup [.str o.1, .str o.2.1, .str o.2.2])) (by decide) ⟨⟨none, none, rfl⟩, Same.upd hD, [], [], rfl, rfl, rfl, rfl, (fun o h => nomatch h), fun j p o h => nomatch h⟩ upd_same ?_ ?_
      · rintro i σ' Hc ys' hi ⟨⟨t0, t1, rfl⟩, sc', ps, out, rfl, ol, o1, o2, o3, o4⟩ hyl hD'
        rw [List.length_map] at hyl
        have hiy : i < ys.length := by omega
        have his : i < shs.length := by omega
        have yc := sc' _ _ y1'
        refine ⟨⟨_, V.ref ys[i], SqL.of yc, by rw [List.getElem?_map, List.getElem?_eq_getElem hiy]; rfl⟩, ?_⟩
        rintro x H'' ⟨z, pa, hk, ex, hn, e⟩
        subst e ex
        have ez := hk _ (SqL.of yc)
        rw [List.getElem?_map, List.getElem?_eq_getElem hiy] at ez
        cases ez
        have yy := sc' _ _ (cut_sub _ _ (y3 i ys[i] shs[i] (List.getElem?_eq_getElem hiy) (List.getElem?_eq_getElem his)))
        have T1 := Same.upd (o := .tup [.int (i : Nat), .ref ys[i]]) hn
        refine ⟨pa, _, rfl, SqT.of upd_same, rfl, _, _, rfl, _, _, rfl, rfl, ?_⟩
        generalize upd Hc pa (.tup [.int (i : Nat), .ref ys[i]]) = Ha at T1
        have yya := T1 _ _ yy
        refine ⟨_, rfl, ys[i], _, 0, _, rfl, rfl, SqT.of yya, rfl, _, rfl, ys[i], _, 1, _, rfl, rfl, SqT.of yya, rfl, _, rfl, ys[i], _, 2, _, rfl, rfl, SqT.of yya, rfl, (by show 2 ≤ sizeLine; decide), fun q1 hq1 => ?_⟩
        have T2 := Same.upd (o := .lst [.str shs[i].2.2, .str ""]) hq1
        have e2 : (upd Ha q1 (.lst [.str shs[i].2.2, .str ""])) q1 = some (.lst [.str shs[i].2.2, .str ""]) := upd_same
        generalize upd Ha q1 (.lst [.str shs[i].2.2, .str ""]) = Hb at *
        obtain ⟨col, hcol, hat⟩ : ∃ col : Str, col.length ≤ 8 ∧ atI [V.str shs[i].2.2, V.str ""] (if decide (V.int (i : Nat) = V.int br) = true then 1 else 0) = some (.str col) := by
          by_cases hb : V.int (i : Nat) = V.int br
          · rw [decide_eq_true hb, if_pos rfl]
            exact ⟨"", by decide, rfl⟩
          · rw [decide_eq_false hb, if_neg (by decide)]
            exact ⟨_, (kok _ (hall _ (List.getElem_mem his))).2, rfl⟩
        refine ⟨_, rfl, _, rfl, rfl, .inr ⟨_, rfl, q1, _, _, _, rfl, rfl, SqL.of e2, hat, (by show 3 ≤ sizeLine; decide), fun t ht => ?_⟩⟩
        have T3 := Same.upd (o := .tup [.str shs[i].1, .str shs[i].2.1, .str col]) ht
        have e3' : (upd Hb t (.tup [.str shs[i].1, .str shs[i].2.1, .str col])) t = some (.tup [.str shs[i].1, .str shs[i].2.1, .str col]) := upd_same
        generalize upd Hb t (.tup [.str shs[i].1, .str shs[i].2.1, .str col]) = Hd at *
        have T13 := T1.trans (T2.trans T3)
        have tD : t ≠ D := fun e => by rw [e, (T1.trans T2) _ _ hD'] at ht; cases ht
        have tks : shs.take (i + 1) = shs.take i ++ [shs[i]] := by rw [List.take_succ, List.getElem?_eq_getElem his]; rfl
        refine ⟨T13 _ _ hD', ⟨_, _, rfl⟩, (sc'.trans T13).put hD, ps ++ [t], out ++ [(shs[i].1, shs[i].2.1, col)], by rw [List.map_append]; rfl, by rw [List.length_append, ol]; rfl, by rw [List.map_append, o1, tks, List.map_append]; rfl, by rw [List.map_append, o2, tks, List.map_append]; rfl, fun o ho => ?_, fun j p o h1 h2 => ?_⟩
        · rcases List.mem_append.mp ho with ho | ho
          · exact o3 o ho
          · rw [List.mem_singleton.mp ho]; exact hcol
        · by_cases hj : j < i
          · rw [List.getElem?_append_left (by omega)] at h1 h2
            obtain ⟨f1, f2, f3⟩ := o4 j p o h1 h2
            exact ⟨f1, f2, by rw [upd_ne f2]; exact T13 _ _ f3⟩
          · have hj' : j = i := by
              have := (List.getElem?_eq_some_iff.mp h1).1
              rw [List.length_append] at this
              simp at this
              omega
            subst hj'
            rw [List.getElem?_append_right (by omega)] at h1 h2
            rw [hyl, Nat.sub_self] at h1
            rw [ol, Nat.sub_self] at h2
            cases h1
            cases h2
            exact ⟨none_of (sm.trans (sc'.trans (T1.trans T2))) ht, tD, by rw [upd_ne tD]; exact e3'⟩
      · rintro σ' Hc ys' ⟨_, sc', ps, out, rfl, ol, o1, o2, o3, o4⟩ hDn hyl
        rw [List.length_map] at hyl
        rw [List.take_of_length_le (by omega)] at o1 o2
        refine ⟨⟨_, SqL.of (sc' _ _ y1'), by rw [List.length_map]; omega⟩, q D out Hc (sm.trans sc') ⟨ps, cut_at (none_of sm hD) hDn, by omega, fun j p o h1 h2 => ?_⟩ ?_⟩
        · obtain ⟨f1, f2, f3⟩ := o4 j p o h1 h2
          exact cut_at f1 f3
        have names : (zs[n] :: rest) = out.map (·.1) := by rw [o1, ← hshs, List.map_cons, htl]
        refine ⟨ol, ?_, fun s hs => ?_, o3, ?_⟩
        · rw [← names]; exact hperm.nodup_iff.mpr nnd
        · exact nok _ (hperm.mem_iff.mp (by rw [names]; exact List.mem_map.mpr ⟨s, hs, rfl⟩))
        · match out, o2, ol with
          | s :: r, o2, _ =>
            rw [← hshs, List.map_cons, List.map_cons] at o2
            injection o2 with o5 o6
            refine ⟨s, r, rfl, o5, fun t ht => ?_⟩
            have : t.2.1 ∈ tl.map (·.2.1) := by rw [← o6]; exact List.mem_map.mpr ⟨t, ht, rfl⟩
            obtain ⟨t', ht', e⟩ := List.mem_map.mp this
            rw [← e]
            exact (hts t' ht').1
end
end My

namespace My
open PySem L2 PyProof.Rows
seal L2.PE L2.PT L2.PW L2.PS L2.PSs L2.PA L2.PI L2.PG L2.PGs L2.OpR L2.UnR L2.CallR L2.IxR L2.SlR L2.MtR L2.PIf L2.PO L2.MtM L2.PC
/-! ### refusals caught -/
structure Rf (K : PySem.W.Frag) (mg : Str → Option Value) (CT CO CM : Addr) : Prop where
  X : Tx K mg CT CO CM
  uO : Under K CO CO
  uM : Under K CM CM
structure MsX (P : Program) (w : World) (K : PySem.W.Frag) (mg : Str → Option Value) (base : Heap) (CP CO CM fR fO fP : Addr) (fdR fdO fdP : FuncData) : Prop where
  L : ClP K CP
  gR : FnOk P w K mg base (CX1 P w) 3 fR fdR ["self", "table", "key", "place"] (spRowX CP CO CM)
  mR : Meth K CP "row" fR
  bR : Binds K fdR ["self", "table", "key", "place"] []
  gO : FnOk P w K mg base (CX1 P w) 3 fO fdO ["self", "table"] (spRowsX CP CO)
  mO : Meth K CP "rows" fO
  bO : Binds K fdO ["self", "table"] []
  gP : FnOk P w K mg base (CX1 P w) 3 fP fdP ["self", "key"] (spPieceX CP CM)
  mP : Meth K CP "piece" fP
  bP : Binds K fdP ["self", "key"] []
def spMissing (CP : Addr) : Sp := fun vs H Q _ => ∃ (a : Addr) (sz : Int) (z : Str) (Ts : List Tb) (es : List En) (k p : Int), vs = [.ref a, .str z, .int k, .int p] ∧ PlAt CP H a sz Ts es ∧ z ∈ Ts.map (·.name) ∧ (∀ e ∈ es, e.k = k → ¬ (0 ≤ p ∧ p < ((tab e.pc z).length : Nat))) ∧ ∀ H', Same H H' → Q (.bl true) H'
def spRefuses (CP : Addr) : Sp := fun vs H Q _ => ∃ (a : Addr) (sz : Int) (z : Str) (T : Tb) (Ts : List Tb) (es : List En) (k : Int), vs = [.ref a, .str z, .str T.name, .int k] ∧ PlAt CP H a sz (T :: Ts) es ∧ z ∉ (T :: Ts).map (·.name) ∧ k ∉ es.map (·.k) ∧ ∀ H', Same H H' → Q (.bl true) H'
section
variable {P : Program} {w : World} {K : PySem.W.Frag} {mg : Str → Option Value} {base : Heap} {CP CT CO CM fR fO fP : Addr} {fdR fdO fdP : FuncData}
theorem ok_missing {f : Addr} {fd : FuncData} (F : Fun K "_law_missing" "_law_missing" (top 48) f fd) (R : Rf K mg CT CO CM) (M : MsX P w K mg base CP CO CM fR fO fP fdR fdO fdP) : FnOk P w K mg base CX0 4 f fd ["_law_plain", "_law_name", "_law_key", "_law_place"] (spMissing CP) := by
  have sc : FnScope ["_law_plain", "_law_name", "_law_key", "_law_place", "_law_found", "e"] ["_law_plain", "_law_name", "_law_key", "_law_place"] (defScope (top 48)) := ⟨rfl, rfl, rfl, by decide +kernel, rfl, by decide +kernel, by decide +kernel⟩
  refine F.ok sc (fun vs H Q E h => ?_) (fun cdv A outer s H vs Q E hr h => ?_)
  · obtain ⟨a, sz, z, Ts, es, k, p, rfl, _⟩ := h
    rfl
  · obtain ⟨a, sz, z, Ts, es, k, p, rfl, hPl, hz, hno, q⟩ := h
    have hu3 : (A.deeper (envOfC "_law_missing" (defScope (top 48)) s.heap.objs.size f cdv)).units + 0 + 1 < cLine := by have := hr.un; omega
    refine ⟨_, pss_cons (ps_set (i := 4) sc.nd rfl (Or.inl rfl) pe_non)
      (pss_cons (ps_tryU (i := 5) rfl rfl sc.nd rfl rfl (by rfl) R.X.mM R.X.xM
        (fun D pn XE L => pss_one (ps_expr (pe_methX (pv 0) M.L.cl M.mR M.gR hr M.bR .nil L (pa_cons (pv 1) (pa_cons (pv 2) (pa_cons (pv 3) pa_nil))))))
        (fun x C => pss_one (ps_set (i := 4) sc.nd rfl (Or.inl rfl) (pe_tup (pa_cons (pe_xfld (pv 5) rfl) (pa_cons (pe_xfld (pv 5) rfl) (pa_cons (pe_xfld (pv 5) rfl) pa_nil)))))))
      (pss_one (ps_ret (pe_cmpR op_eqTp (pv 4) (pe_tup (pa_cons (pv 1) (pa_cons (pv 2) (pa_cons (pv 3) pa_nil)))) (nomark _))))), ?_⟩
    obtain ⟨dx0, fo, td, ha, _⟩ := id hPl.ex
    refine ⟨_, rfl, a, dx0, _, rfl, ha, flds_no (by decide +kernel) (by decide +kernel), _, rfl, _, rfl, _, rfl, a, sz, z, Ts, es, k, p, rfl, hPl, (fun h => absurd hz h), fun _ => ⟨hno, fun dx H8 hd s8 => ?_⟩⟩
    refine ⟨CM, rfl, R.uM, fun x hx => ?_⟩
    have T9 := Same.upd (o := .ext (gotP x CM (some dx))) hx
    have hx9 : (upd H8 x (.ext (gotP x CM (some dx)))) x = some (.ext (gotP x CM (some dx))) := upd_same
    have S9 := s8.trans T9
    have hd9 := T9 _ _ hd
    generalize upd H8 x (.ext (gotP x CM (some dx))) = H9 at *
    refine ⟨_, rfl, x, CM, dx, _, _, rfl, hx9, hd9, R.X.xM, R.X.m1, stp_t, _, rfl, x, CM, dx, _, _, rfl, hx9, hd9, R.X.xM, R.X.m2, stp_k, _, rfl, x, CM, dx, _, _, rfl, hx9, hd9, R.X.xM, R.X.m3, stp_p, (by show 3 ≤ sizeLine; decide), fun t1 ht1 => ?_⟩
    have T11 := Same.upd (o := .tup [.str z, .int k, .int p]) ht1
    refine ⟨_, rfl, _, rfl, _, rfl, _, rfl, (by show 3 ≤ sizeLine; decide), fun t2 ht2 => ?_⟩
    have T13 := Same.upd (o := .tup [.str z, .int k, .int p]) ht2
    refine ⟨0, t1, t2, _, _, rfl, rfl, SqT.of (T13 _ _ upd_same), SqT.of upd_same, rfl, fun j y z c1 c2 => ?_, hu3, q _ (S9.trans (T11.trans T13))⟩
    match j, c1, c2 with
    | 0, c1, c2 => cases c1; cases c2; exact .str
    | 1, c1, c2 => cases c1; cases c2; exact .int
    | 2, c1, c2 => cases c1; cases c2; exact .int
theorem ok_refuses {f : Addr} {fd : FuncData} (F : Fun K "_law_refuses" "_law_refuses" (top 50) f fd) (R : Rf K mg CT CO CM) (M : MsX P w K mg base CP CO CM fR fO fP fdR fdO fdP) : FnOk P w K mg base CX0 4 f fd ["_law_plain", "_law_other", "_law_head", "_law_key"] (spRefuses CP) := by
  have sc : FnScope ["_law_plain", "_law_other", "_law_head", "_law_key", "_law_first", "_law_second", "e"] ["_law_plain", "_law_other", "_law_head", "_law_key"] (defScope (top 50)) := ⟨rfl, rfl, rfl, by decide +kernel, rfl, by decide +kernel, by decide +kernel⟩
  refine F.ok sc (fun vs H Q E h => ?_) (fun cdv A outer s H vs Q E hr h => ?_)
  · obtain ⟨a, sz, z, T, Ts, es, k, rfl, _⟩ := h
    rfl
  · obtain ⟨a, sz, z, T, Ts, es, k, rfl, hPl, hz, hk, q⟩ := h
    have hu3 : (A.deeper (envOfC "_law_refuses" (defScope (top 50)) s.heap.objs.size f cdv)).units + 0 + 1 < cLine := by have := hr.un; omega
    refine ⟨_, pss_cons (ps_set (i := 4) sc.nd rfl (Or.inl rfl) pe_non) (pss_cons (ps_set (i := 5) sc.nd rfl (Or.inl rfl) pe_non)
      (pss_cons (ps_tryU (i := 6) rfl rfl sc.nd rfl rfl (by rfl) R.X.mO R.X.xO
        (fun D pn XE L => pss_one (ps_expr (pe_methX (pv 0) M.L.cl M.mO M.gO hr M.bO .nil L (pa_cons (pv 1) pa_nil))))
        (fun x C => pss_one (ps_set (i := 4) sc.nd rfl (Or.inl rfl) (pe_tup (pa_cons (pe_xfld (pv 6) rfl) (pa_cons (pe_xfld (pv 6) rfl) (pa_cons (pe_xfld (pv 6) rfl) pa_nil)))))))
      (pss_cons (ps_tryU (i := 6) rfl rfl sc.nd rfl rfl (by rfl) R.X.mM R.X.xM
        (fun D pn XE L => pss_one (ps_expr (pe_methX (pv 0) M.L.cl M.mP M.gP hr M.bP .nil L (pa_cons (pv 3) pa_nil))))
        (fun x C => pss_one (ps_set (i := 5) sc.nd rfl (Or.inl rfl) (pe_tup (pa_cons (pe_xfld (pv 6) rfl) (pa_cons (pe_xfld (pv 6) rfl) (pa_cons (pe_xfld (pv 6) rfl) pa_nil)))))))
      (pss_one (ps_ret (pe_and (pe_cmpR op_eqTp (pv 4) (pe_tup (pa_cons (pv 1) (pa_cons pe_non (pa_cons pe_non pa_nil)))) (nomark _)) (pe_one (pe_cmpR op_eqTp (pv 5) (pe_tup (pa_cons (pv 2) (pa_cons (pv 3) (pa_cons pe_int pa_nil)))) (nomark _))))))))), ?_⟩
    obtain ⟨dx0, fo, td, ha, _⟩ := id hPl.ex
    refine ⟨_, rfl, a, dx0, _, rfl, ha, flds_no (by decide +kernel) (by decide +kernel), _, rfl, a, sz, z, _, es, rfl, hPl, hz, fun dx H8 hd s8 => ?_⟩
    refine ⟨CO, rfl, R.uO, fun x hx => ?_⟩
    have T9 := Same.upd (o := .ext (gotP x CO (some dx))) hx
    have hx9 : (upd H8 x (.ext (gotP x CO (some dx)))) x = some (.ext (gotP x CO (some dx))) := upd_same
    have S9 := s8.trans T9
    have hd9 := T9 _ _ hd
    generalize upd H8 x (.ext (gotP x CO (some dx))) = H9 at *
    refine ⟨_, rfl, x, CO, dx, _, _, rfl, hx9, hd9, R.X.xO, R.X.n1, stp_t, _, rfl, x, CO, dx, _, _, rfl, hx9, hd9, R.X.xO, R.X.n2, stp_k, _, rfl, x, CO, dx, _, _, rfl, hx9, hd9, R.X.xO, R.X.n3, stp_p, (by show 3 ≤ sizeLine; decide), fun t1 ht1 => ?_⟩
    have T11 := Same.upd (o := .tup [.str z, .non, .non]) ht1
    have e11 : (upd H9 t1 (.tup [.str z, .non, .non])) t1 = some (.tup [.str z, .non, .non]) := upd_same
    generalize upd H9 t1 (.tup [.str z, .non, .non]) = H11 at *
    have S11 := S9.trans T11
    refine ⟨_, rfl, a, dx0, _, rfl, S11 _ _ ha, flds_no (by decide +kernel) (by decide +kernel), _, rfl, a, sz, T, Ts, es, k, rfl, hPl.same S11, hk, fun ex H14 he s14 => ?_⟩
    refine ⟨CM, rfl, R.uM, fun y hy => ?_⟩
    have T15 := Same.upd (o := .ext (gotP y CM (some ex))) hy
    have hy15 : (upd H14 y (.ext (gotP y CM (some ex)))) y = some (.ext (gotP y CM (some ex))) := upd_same
    have he15 := T15 _ _ he
    have S15 := S11.trans (s14.trans T15)
    have e15 := (s14.trans T15) _ _ e11
    generalize upd H14 y (.ext (gotP y CM (some ex))) = H15 at *
    refine ⟨_, rfl, y, CM, ex, _, _, rfl, hy15, he15, R.X.xM, R.X.m1, stp_t, _, rfl, y, CM, ex, _, _, rfl, hy15, he15, R.X.xM, R.X.m2, stp_k, _, rfl, y, CM, ex, _, _, rfl, hy15, he15, R.X.xM, R.X.m3, stp_p, (by show 3 ≤ sizeLine; decide), fun t3 ht3 => ?_⟩
    have T16 := Same.upd (o := .tup [.str T.name, .int k, .int 0]) ht3
    have e16 : (upd H15 t3 (.tup [.str T.name, .int k, .int 0])) t3 = some (.tup [.str T.name, .int k, .int 0]) := upd_same
    generalize upd H15 t3 (.tup [.str T.name, .int k, .int 0]) = H16 at *
    refine ⟨_, rfl, _, rfl, (by show 3 ≤ sizeLine; decide), fun t4 ht4 => ?_⟩
    have T17 := Same.upd (o := .tup [.str z, .non, .non]) ht4
    refine ⟨0, t1, t4, _, _, rfl, rfl, SqT.of ((T16.trans T17) _ _ e15), SqT.of upd_same, rfl, (fun j y z c1 c2 => by
      match j, c1, c2 with
      | 0, c1, c2 => cases c1; cases c2; exact .str
      | 1, c1, c2 => cases c1; cases c2; exact .non
      | 2, c1, c2 => cases c1; cases c2; exact .non), hu3, _, rfl, iteT ?_⟩
    refine ⟨_, rfl, _, rfl, _, rfl, (by show 3 ≤ sizeLine; decide), fun t5 ht5 => ?_⟩
    have T18 := Same.upd (o := .tup [.str T.name, .int k, .int 0]) ht5
    refine ⟨0, t3, t5, _, _, rfl, rfl, SqT.of ((T17.trans T18) _ _ e16), SqT.of upd_same, rfl, (fun j y z c1 c2 => by
      match j, c1, c2 with
      | 0, c1, c2 => cases c1; cases c2; exact .str
      | 1, c1, c2 => cases c1; cases c2; exact .int
      | 2, c1, c2 => cases c1; cases c2; exact .int), hu3, q _ (S15.trans (T16.trans (T17.trans T18)))⟩
end
end My

namespace My
open PySem L2 PyProof.Rows
seal L2.PE L2.PT L2.PW L2.PS L2.PSs L2.PA L2.PI L2.PG L2.PGs L2.OpR L2.UnR L2.CallR L2.IxR L2.SlR L2.MtR L2.PIf L2.PO L2.MtM L2.PC
/-- a cell of the script: the same at each asking -/
def cellV (ns : List Int) (k : Int) : Int := ns.getD k.toNat 0
def spCelD (K : PySem.W.Frag) : Sp := fun vs H Q _ => ∃ (a : Addr) (ns : List Int) (k : Int), vs = [.ref a, .int k] ∧ SqL K H a (ns.map V.int) ∧ 0 ≤ k ∧ Q (.int (cellV ns k)) H
section
variable {P : Program} {w : World} {K : PySem.W.Frag} {mg : Str → Option Value} {base : Heap}
theorem ok_celD {f : Addr} {fd : FuncData} (F : Fun K "_law_cell" "_law_cell" (top 39) f fd) (B : Bl mg) : FnOk P w K mg base CX0 1 f fd ["_law_script", "_law_k"] (spCelD K) := by
  have sc : FnScope ["_law_script", "_law_k"] ["_law_script", "_law_k"] (defScope (top 39)) := ⟨rfl, rfl, rfl, by decide +kernel, rfl, by decide +kernel, by decide +kernel⟩
  refine F.ok sc (fun vs H Q E h => ?_) (fun cdv A outer s H vs Q E hr h => ?_)
  · obtain ⟨a, ns, k, rfl, _⟩ := h
    rfl
  · obtain ⟨a, ns, k, rfl, ha, k0, q⟩ := h
    refine ⟨_, pss_cons (ps_if (pt_cmpR op_lt (pv 1) (pe_callB call_len_seq (by rfl) B.len PySem.boot_len (pa_cons (pv 0) pa_nil)) (nomark _)) (pss_one (ps_ret (pe_ix ix_list (pv 0) (pv 1) (fun _ _ => rfl)))) pss_nil) (pss_one (ps_ret pe_int)), ?_⟩
    obtain ⟨j, rfl⟩ := Int.eq_ofNat_of_zero_le k0
    have ej : cellV ns (j : Int) = ns.getD j 0 := by unfold cellV; rw [Int.toNat_natCast]
    rw [ej] at q
    refine ⟨_, rfl, _, rfl, _, _, rfl, .inl ha, _, _, rfl, rfl, _, rfl, ?_⟩
    refine ite2 (fun c => ?_) (fun c => ?_)
    · have c' : (j : Int) < (((ns.map V.int).length : Nat) : Int) := of_decide_eq_true c
      have hj : j < ns.length := by rw [List.length_map] at c'; omega
      rw [List.getD_eq_getElem?_getD, List.getElem?_eq_getElem hj] at q
      exact ⟨_, rfl, _, rfl, _, _, _, _, rfl, rfl, ha, atI_nat (by rw [List.getElem?_map, List.getElem?_eq_getElem hj]; rfl), q⟩
    · have hj : ns.length ≤ j := by
        by_cases h : j < ns.length
        · exact absurd (decide_eq_true (by rw [List.length_map]; omega)) c
        · omega
      rw [List.getD_eq_getElem?_getD, List.getElem?_eq_none hj] at q
      exact q
end
end My

namespace My
open PySem L2 PyProof.Rows
seal L2.PE L2.PT L2.PW L2.PS L2.PSs L2.PA L2.PI L2.PG L2.PGs L2.OpR L2.UnR L2.CallR L2.IxR L2.SlR L2.MtR L2.PIf L2.PO L2.MtM L2.PC
def manyV (ns : List Int) (so : Str) (k : Int) : Int := if k = 0 ∧ so ∈ (["many", "some"] : List Str) ∧ cellV ns 5 / 2 % 8 = 5 then 60 else if so = "many" then cellV ns (6 + k) % 4 else if so = "some" then 1 + cellV ns (6 + k) / 4 % 3 else 1
theorem cutF {G : Prop} {T : Hp → Prop} (R : Hp → Prop) (h : (∀ H8, R H8 → T H8) → G) (fin : ∀ H8, R H8 → T H8) : G := h fin
def spMany (K : PySem.W.Frag) : Sp := fun vs H Q _ => ∃ (a : Addr) (ns : List Int) (so : Str) (k : Int), vs = [.ref a, .str so, .int k] ∧ SqL K H a (ns.map V.int) ∧ 0 ≤ k ∧ ∀ H', Same H H' → Q (.int (manyV ns so k)) H'
section
variable {P : Program} {w : World} {K : PySem.W.Frag} {mg : Str → Option Value} {base : Heap}
theorem ok_many {f fC : Addr} {fd fdC : FuncData} (F : Fun K "_law_many" "_law_many" (top 44) f fd) (B : Bl mg) (DC : Df K mg "_law_cell" (top 39) fC fdC) : FnOk P w K mg base CX0 2 f fd ["_law_script", "_law_sort", "_law_k"] (spMany K) := by
  have sc : FnScope ["_law_script", "_law_sort", "_law_k", "_law_cell_here"] ["_law_script", "_law_sort", "_law_k"] (defScope (top 44)) := ⟨rfl, rfl, rfl, by decide +kernel, rfl, by decide +kernel, by decide +kernel⟩
  have GC : FnOk P w K mg base CX0 1 fC fdC ["_law_script", "_law_k"] (spCelD K) := ok_celD DC.fn B
  have bC := DC.fn.binds (ps := ["_law_script", "_law_k"]) fun _ _ _ _ _ _ us hl => by obtain ⟨v0, v1, rfl⟩ := L2.ln2 hl; rfl
  refine F.ok sc (fun vs H Q E h => ?_) (fun cdv A outer s H vs Q E hr h => ?_)
  · obtain ⟨a, ns, so, k, rfl, _⟩ := h
    rfl
  · obtain ⟨a, ns, so, k, rfl, hS, k0, q⟩ := h
    refine ⟨_, pss_cons (ps_set (i := 3) sc.nd rfl (Or.inl rfl) (pe_call GC hr (by rfl) DC.mg DC.fn.kp bC .nil pass0 (pa_cons (pv 0) (pa_cons (pe_op op_add pe_int (pv 2)) pa_nil))))
      (pss_cons (ps_if (PW.pt (pw_and (pt_cmpR op_eq (pv 2) pe_int (nomark _)) (pw_and (pt_cmpR op_in_seq (pv 1) (pe_tup (pa_cons pe_str (pa_cons pe_str pa_nil))) (by with_unfolding_all rfl)) (pw_and1 (pt_cmpR op_eq (pe_op op_mod (pe_op op_fdiv (pe_call GC hr (by rfl) DC.mg DC.fn.kp bC .nil pass0 (pa_cons (pv 0) (pa_cons pe_int pa_nil))) pe_int) pe_int) pe_int (nomark _)))))) (pss_one (ps_ret pe_int)) pss_nil)
      (pss_cons (ps_if (pt_cmpR op_eq (pv 1) pe_str (nomark _)) (pss_one (ps_ret (pe_op op_mod (pv 3) pe_int))) pss_nil)
      (pss_cons (ps_if (pt_cmpR op_eq (pv 1) pe_str (nomark _)) (pss_one (ps_ret (pe_op op_add pe_int (pe_op op_mod (pe_op op_fdiv (pv 3) pe_int) pe_int)))) pss_nil)
      (pss_one (ps_ret pe_int))))), ?_⟩
    refine ⟨_, rfl, _, rfl, _, _, rfl, rfl, a, ns, _, rfl, hS, by omega, ?_⟩
    apply cutF (fun H8 => Same H H8 ∧ ¬ (k = 0 ∧ so ∈ (["many", "some"] : List Str) ∧ cellV ns 5 / 2 % 8 = 5))
    · intro fin
      refine ⟨_, rfl, rfl, _, rfl, ?_⟩
      by_cases h1 : ¬ k = 0
      · exact iteC (decide_eq_false fun e => h1 (by injection e)) (iteF (fin _ ⟨Same.refl _, fun h => h1 h.1⟩))
      · have h1' := Classical.not_not.mp h1
        rw [show decide (V.int k = V.int 0) = true from decide_eq_true (by rw [h1'])]
        refine iteT ⟨_, rfl, (by show 2 ≤ sizeLine; decide), fun p hp => ?_⟩
        have T1 := Same.upd (o := .tup [.str "many", .str "some"]) hp
        have e1 : (upd H p (.tup [.str "many", .str "some"])) p = some (.tup [.str "many", .str "some"]) := upd_same
        generalize upd H p (.tup [.str "many", .str "some"]) = H1 at *
        refine ⟨p, _, rfl, .inr (SqT.of e1), rfl, rfl, _, rfl, ?_⟩
        show if inV (.str so) ((["many", "some"] : List Str).map V.str) = true then _ else _
        rw [inV_str]
        by_cases h2 : so ∈ (["many", "some"] : List Str)
        · rw [decide_eq_true h2]
          refine iteT ⟨_, rfl, a, ns, 5, rfl, T1.seq hS, by decide, _, _, rfl, rfl, ⟨by decide, by decide⟩, _, _, rfl, rfl, (pos rfl), rfl, _, rfl, ?_⟩
          by_cases h3 : cellV ns 5 / 2 % 8 = 5
          · rw [show decide (V.int (cellV ns 5 / 2 % 8) = V.int 5) = true from decide_eq_true (by rw [h3])]
            have := q H1 T1
            unfold manyV at this
            rw [if_pos ⟨h1', h2, h3⟩] at this
            exact iteT this
          · exact iteC (decide_eq_false fun e => h3 (by injection e)) (fin _ ⟨T1, fun h => h3 h.2.2⟩)
        · rw [decide_eq_false h2]
          exact iteF (iteF (fin _ ⟨T1, fun h => h2 h.2.1⟩))
    rintro H8 ⟨s8, hno⟩
    have q8 := q H8 s8
    unfold manyV at q8
    rw [if_neg hno] at q8
    refine ⟨_, rfl, rfl, _, rfl, ?_⟩
    by_cases h4 : so = "many"
    · rw [if_pos h4] at q8
      rw [show decide (V.str so = V.str "many") = true from decide_eq_true (by rw [h4])]
      exact iteT ⟨_, rfl, _, _, rfl, rfl, (pos rfl), q8⟩
    · rw [if_neg h4] at q8
      refine iteC (decide_eq_false fun e => h4 (by injection e)) ?_
      refine ⟨_, rfl, rfl, _, rfl, ?_⟩
      by_cases h5 : so = "some"
      · rw [if_pos h5] at q8
        rw [show decide (V.str so = V.str "some") = true from decide_eq_true (by rw [h5])]
        exact iteT ⟨_, rfl, _, _, rfl, rfl, ⟨by decide, by decide⟩, _, _, rfl, rfl, (pos rfl), _, _, rfl, rfl, q8⟩
      · rw [if_neg h5] at q8
        exact iteC (decide_eq_false fun e => h5 (by injection e)) q8
end
end My

namespace My
open PySem L2 PyProof.Rows
seal L2.PE L2.PT L2.PW L2.PS L2.PSs L2.PA L2.PI L2.PG L2.PGs L2.OpR L2.UnR L2.CallR L2.IxR L2.SlR L2.MtR L2.PIf L2.PO L2.MtM L2.PC
def spKeys (K : PySem.W.Frag) : Sp := fun vs H Q _ => ∃ (a : Addr) (ns : List Int) (sz : Int), vs = [.ref a, .int sz] ∧ SqL K H a (ns.map V.int) ∧ 6 ≤ sz ∧ ∀ (l : Addr) (ks : List Int) (H' : Hp), Same H H' → cut H H' l = some (.lst (ks.map V.int)) → ks.length ≤ 5 → ks.Pairwise (· < ·) → (∀ k ∈ ks, 0 ≤ k ∧ k < sz) → Q (.ref l) H'
theorem keys_rise (x s : Int) (hs : 0 < s) (m : Nat) : ((List.range m).map fun i : Nat => x + (i : Int) * s).Pairwise (· < ·) := by
  rw [List.pairwise_map]
  refine List.pairwise_lt_range.imp fun {a b} h => ?_
  have : (a : Int) * s < (b : Int) * s := Int.mul_lt_mul_of_pos_right (by omega) hs
  omega
section
variable {P : Program} {w : World} {K : PySem.W.Frag} {mg : Str → Option Value} {base : Heap}
theorem ok_keys {f fC : Addr} {fd fdC : FuncData} (F : Fun K "_law_keys" "_law_keys" (top 43) f fd) (B : Bl mg) (DC : Df K mg "_law_cell" (top 39) fC fdC) : FnOk P w K mg base CX0 2 f fd ["_law_script", "_law_size"] (spKeys K) := by
  have sc : FnScope ["_law_script", "_law_size", "_law_many_here", "_law_start"] ["_law_script", "_law_size"] (defScope (top 43)) := ⟨rfl, rfl, rfl, by decide +kernel, rfl, by decide +kernel, by decide +kernel⟩
  have GC : FnOk P w K mg base CX0 1 fC fdC ["_law_script", "_law_k"] (spCelD K) := ok_celD DC.fn B
  have bC := DC.fn.binds (ps := ["_law_script", "_law_k"]) fun _ _ _ _ _ _ us hl => by obtain ⟨v0, v1, rfl⟩ := L2.ln2 hl; rfl
  refine F.ok sc (fun vs H Q E h => ?_) (fun cdv A outer s H vs Q E hr h => ?_)
  · obtain ⟨a, ns, sz, rfl, _⟩ := h
    rfl
  · obtain ⟨a, ns, sz, rfl, hS, s6, q⟩ := h
    have ndA : (["_law_k", "_law_start", "_law_size"] : List Str).Nodup := by decide +kernel
    refine ⟨_, pss_cons (ps_set (i := 2) sc.nd rfl (Or.inl rfl) (pe_op op_mod (pe_call GC hr (by rfl) DC.mg DC.fn.kp bC .nil pass0 (pa_cons (pv 0) (pa_cons pe_int pa_nil))) pe_int))
      (pss_cons (ps_set (i := 3) sc.nd rfl (Or.inr rfl) (pe_op op_fdiv (pe_call GC hr (by rfl) DC.mg DC.fn.kp bC .nil pass0 (pa_cons (pv 0) (pa_cons pe_int pa_nil))) pe_int))
      (pss_cons (ps_if (pt_cmpR op_eq (pe_op op_mod (pe_call GC hr (by rfl) DC.mg DC.fn.kp bC .nil pass0 (pa_cons (pv 0) (pa_cons pe_int pa_nil))) pe_int) pe_int (nomark _))
        (pss_one (ps_ret (pe_comp (osc := defScope (top 43)) (N0 := ["_law_script", "_law_size", "_law_many_here", "_law_start"]) (xs := ["_law_k"]) (fr := [3, 1]) ⟨rfl, by decide +kernel, by decide +kernel, by decide +kernel, (fun j hj => by
              have e : j = 3 ∨ j = 1 := by simpa using hj
              rcases e with rfl | rfl
              · exact ⟨_, rfl, by decide +kernel⟩
              · exact ⟨_, rfl, by decide +kernel⟩), by decide +kernel⟩ rfl rfl rfl (pi_range1 rfl B.range (pa_cons (pv 2) pa_nil))
            (fun s H fp => pg_name (i := 0) ndA rfl (Or.inl rfl)) (fun s H fp => pif_nil)
            (fun s H fp => pe_op op_add (pe_op op_mod (pv 1) (pe_op op_sub (pv 2) pe_int)) (pv 0))))) pss_nil)
      (pss_one (ps_ret (pe_comp (osc := defScope (top 43)) (N0 := ["_law_script", "_law_size", "_law_many_here", "_law_start"]) (xs := ["_law_k"]) (fr := [3, 1]) ⟨rfl, by decide +kernel, by decide +kernel, by decide +kernel, (fun j hj => by
              have e : j = 3 ∨ j = 1 := by simpa using hj
              rcases e with rfl | rfl
              · exact ⟨_, rfl, by decide +kernel⟩
              · exact ⟨_, rfl, by decide +kernel⟩), by decide +kernel⟩ rfl rfl rfl (pi_range1 rfl B.range (pa_cons (pv 2) pa_nil))
            (fun s H fp => pg_name (i := 0) ndA rfl (Or.inl rfl)) (fun s H fp => pif_nil)
            (fun s H fp => pe_op op_add (pe_op op_mod (pv 1) (pe_op op_fdiv (pv 2) pe_int)) (pe_op op_mul (pv 0) (pe_op op_fdiv (pv 2) pe_int)))))))), ?_⟩
    refine ⟨_, rfl, a, ns, 4, rfl, hS, by decide, _, _, rfl, rfl, (pos rfl), ?_⟩
    refine ⟨_, rfl, a, ns, 4, rfl, hS, by decide, _, _, rfl, rfl, ⟨by decide, by decide⟩, ?_⟩
    have m0 := Int.emod_nonneg (cellV ns 4) (show (6 : Int) ≠ 0 by decide)
    have m6 := Int.emod_lt_of_pos (cellV ns 4) (show (0 : Int) < 6 by decide)
    dsimp only
    generalize cellV ns 4 % 6 = m at *
    generalize cellV ns 4 / 6 = st at *
    have fin : ∀ (D : Addr) (Hc : Hp) (x g : Int), H D = none → Same H Hc → 0 < g → 0 ≤ x → x + 4 * g < sz → Hc D = some (.lst ((List.range m.toNat).map fun i : Nat => V.int (x + (i : Int) * g))) → Q (.ref D) Hc := fun D Hc x g hD sm g0 x0 hlt hDn => by
      have e1 : ((List.range m.toNat).map fun i : Nat => V.int (x + (i : Int) * g)) = ((List.range m.toNat).map fun i : Nat => x + (i : Int) * g).map V.int := by rw [List.map_map]; rfl
      rw [e1] at hDn
      refine q D _ Hc sm (cut_at hD hDn) (by rw [List.length_map, List.length_range]; omega) (keys_rise x g g0 _) (fun k hk => ?_)
      obtain ⟨i, hi, rfl⟩ := List.mem_map.mp hk
      have hi' := List.mem_range.mp hi
      have h1 : 0 ≤ (i : Int) * g := Int.mul_nonneg (by omega) (by omega)
      have h2 : (i : Int) * g ≤ 4 * g := Int.mul_le_mul_of_nonneg_right (by omega) (by omega)
      omega
    refine ⟨_, rfl, a, ns, 5, rfl, hS, by decide, _, _, rfl, rfl, (pos rfl), rfl, _, rfl, ?_⟩
    refine ite2 (fun _ => ?_) (fun _ => ?_)
    · have x0 := Int.emod_nonneg st (show sz - 5 ≠ 0 by omega)
      have x1 := Int.emod_lt_of_pos st (show 0 < sz - 5 by omega)
      refine ⟨_, rfl, _, rfl, (by omega), (by omega), fun D hD => ?_⟩
      refine compW_map m.toNat (fun i => V.int (st % (sz - 5) + (i : Int) * 1)) (fun i σ' Hc => (∃ t, σ' = [t, some (.int st), some (.int sz)]) ∧ Same H Hc) (by rw [sizeLine_eq]; omega) ⟨⟨none, rfl⟩, Same.upd hD⟩ upd_same ?_ ?_
      · rintro i σ' Hc hi ⟨⟨t, rfl⟩, sm⟩ hD'
        refine ⟨hi, ?_⟩
        rintro y H'' ⟨rfl, rfl⟩
        exact ⟨_, rfl, _, rfl, _, _, rfl, rfl, _, _, rfl, rfl, (by omega), _, rfl, _, _, rfl, rfl, (by rw [Int.zero_add, Int.mul_one]), hD', ⟨_, rfl⟩, sm.put hD⟩
      · rintro σ' Hc ⟨_, sm⟩ hDn
        exact ⟨Nat.le_refl _, fin D Hc _ 1 hD sm (by decide) x0 (by omega) hDn⟩
    · have g0 : 0 < sz / 6 := by omega
      have x0 := Int.emod_nonneg st (show sz / 6 ≠ 0 by omega)
      have x1 := Int.emod_lt_of_pos st g0
      refine ⟨_, rfl, _, rfl, (by omega), (by omega), fun D hD => ?_⟩
      refine compW_map m.toNat (fun i => V.int (st % (sz / 6) + (i : Int) * (sz / 6))) (fun i σ' Hc => (∃ t, σ' = [t, some (.int st), some (.int sz)]) ∧ Same H Hc) (by rw [sizeLine_eq]; omega) ⟨⟨none, rfl⟩, Same.upd hD⟩ upd_same ?_ ?_
      · rintro i σ' Hc hi ⟨⟨t, rfl⟩, sm⟩ hD'
        refine ⟨hi, ?_⟩
        rintro y H'' ⟨rfl, rfl⟩
        exact ⟨_, rfl, _, rfl, _, _, rfl, rfl, ⟨by decide, by decide⟩, _, _, rfl, rfl, g0, _, rfl, _, rfl, _, _, rfl, rfl, ⟨by decide, by decide⟩, _, _, rfl, rfl, .inl ⟨by omega, by omega⟩, _, _, rfl, rfl, (by rw [Int.zero_add]), hD', ⟨_, rfl⟩, sm.put hD⟩
      · rintro σ' Hc ⟨_, sm⟩ hDn
        exact ⟨Nat.le_refl _, fin D Hc _ (sz / 6) hD sm g0 x0 (by omega) hDn⟩
end
end My

namespace My
open PySem L2 PyProof.Rows
seal L2.PE L2.PT L2.PW L2.PS L2.PSs L2.PA L2.PI L2.PG L2.PGs L2.OpR L2.UnR L2.CallR L2.IxR L2.SlR L2.MtR L2.PIf L2.PO L2.MtM L2.PC
def WhAt (H : Hp) (T : Tb) : Prop := T.cols.length ≤ 1 ∧ ∀ c ∈ T.cols, H c.2 = some (.tup [.str "whole"])
theorem WhAt.same {H H' : Hp} {T : Tb} (h : WhAt H T) (s : Same H H') : WhAt H' T := ⟨h.1, fun c hc => s _ _ (h.2 c hc)⟩
def EntsAt (H : Hp) (es : List Addr) (Ts : List Tb) : Prop := es.length = Ts.length ∧ ∀ (j : Nat) (e : Addr) (T : Tb), es[j]? = some e → Ts[j]? = some T → EntAt H e T ∧ WhAt H T
theorem EntsAt.same {H H' : Hp} {es : List Addr} {Ts : List Tb} (h : EntsAt H es Ts) (s : Same H H') : EntsAt H' es Ts := ⟨h.1, fun j e T a b => ⟨(h.2 j e T a b).1.same s, (h.2 j e T a b).2.same s⟩⟩
theorem EntsAt.snoc {H : Hp} {es : List Addr} {Ts : List Tb} {e : Addr} {T : Tb} (h : EntsAt H es Ts) (he : EntAt H e T) (hw : WhAt H T) : EntsAt H (es ++ [e]) (Ts ++ [T]) := by
  refine ⟨by rw [List.length_append, List.length_append, h.1]; rfl, fun j x U a b => ?_⟩
  by_cases hj : j < Ts.length
  · rw [List.getElem?_append_left (by have := h.1; omega)] at a
    rw [List.getElem?_append_left hj] at b
    exact h.2 j x U a b
  · have hj' : j = Ts.length := by
      have := (List.getElem?_eq_some_iff.mp b).1
      rw [List.length_append] at this
      simp at this
      omega
    subst hj'
    rw [List.getElem?_append_right (by have := h.1; omega), h.1, Nat.sub_self] at a
    rw [List.getElem?_append_right (Nat.le_refl _), Nat.sub_self] at b
    cases a
    cases b
    exact ⟨he, hw⟩
def spForm (K : PySem.W.Frag) : Sp := fun vs H Q _ => ∃ (l : Addr) (sz : Int) (shs : List Sh), vs = [.int sz, .ref l] ∧ ShAt H l shs ∧ ShOk shs ∧ ∀ f Ts H', Same H H' → FmAt (cut H H') f sz Ts → Ts.map (·.name) = shs.map (·.1) → Q (.ref f) H'
def fmN : List Str := ["_law_size", "_law_sheets_here", "_law_tables", "_law_name", "_law_sort", "_law_column", "_law_shape"]
theorem cutE {G : Prop} {T : Addr → Hp → Prop} (R : Addr → Hp → Prop) (h : (∀ v H8, R v H8 → T v H8) → G) (fin : ∀ v H8, R v H8 → T v H8) : G := h fin
section
variable {P : Program} {w : World} {K : PySem.W.Frag} {mg : Str → Option Value} {base : Heap}
theorem ok_form {f : Addr} {fd : FuncData} (F : Fun K "_law_form" "_law_form" (top 42) f fd) (B : Bl mg) : FnOk P w K mg base CX0 1 f fd ["_law_size", "_law_sheets_here"] (spForm K) := by
  have sc : FnScope fmN ["_law_size", "_law_sheets_here"] (defScope (top 42)) := ⟨rfl, rfl, rfl, by decide +kernel, rfl, by decide +kernel, by decide +kernel⟩
  refine F.ok sc (fun vs H Q E h => ?_) (fun cdv A outer s H vs Q E hr h => ?_)
  · obtain ⟨l, sz, shs, rfl, _⟩ := h
    rfl
  · obtain ⟨l, sz, shs, rfl, ⟨ys, y1, y2, y3⟩, ok, q⟩ := h
    refine ⟨_, pss_cons (ps_set (i := 2) sc.nd rfl (Or.inl rfl) (pe_lst pa_nil))
      (pss_cons (ps_for PassesOwn.never rfl (pi_list (pv 1)) (pg_tup rfl (pgs_cons (pg_name (i := 3) sc.nd rfl (Or.inl rfl)) (pgs_cons (pg_name (i := 4) sc.nd rfl (Or.inl rfl)) (pgs_cons (pg_name (i := 5) sc.nd rfl (Or.inl rfl)) pgs_nil))))
        (pss_cons (ps_set (i := 6) sc.nd rfl (Or.inl rfl) (pe_tupF (pa_cons (pe_tup (pa_cons (pv 5) (pa_cons (pe_tup (pa_cons pe_str pa_nil)) pa_nil))) pa_nil)))
        (pss_cons (ps_if (pt_cmpR op_eq (pv 5) pe_str (nomark _)) (pss_one (ps_set (i := 6) sc.nd rfl (Or.inl rfl) (pe_tupF pa_nil))) pss_nil)
        (pss_one (ps_expr (pe_bm PySem.F.plainAttrs_list PySem.F.slot_list_append PySem.F.type_list_append mt_app (pv 2) (pa_cons (pe_tup (pa_cons (pv 3) (pa_cons (pv 4) (pa_cons (pv 6) pa_nil)))) pa_nil)))))))
      (pss_one (ps_ret (pe_tup (pa_cons (pv 0) (pa_cons (pe_callTy call_tuple_of (by rfl) B.tuple boot_tuple (pa_cons (pv 2) pa_nil)) pa_nil)))))), ?_⟩
    refine ⟨Nat.zero_le _, fun tl htl => ?_⟩
    have S0 := Same.upd (o := .lst []) htl
    have e0 : (upd H tl (.lst [])) tl = some (.lst []) := upd_same
    generalize upd H tl (.lst []) = H0 at *
    have nl : l ≠ tl := fun e => by rw [← e, y1] at htl; cases htl
    refine ⟨_, rfl, l, rfl, ⟨_, SqL.of (S0 _ _ y1)⟩, for_list (K := K) (a := l) (xs := ys.map V.ref) (fun i σ H' => Same H H' ∧ ∃ (es : List Addr) (Ts : List Tb) (u3 u4 u5 u6 : Option V), σ = [some (.int sz), some (.ref l), some (.ref tl), u3, u4, u5, u6] ∧ H' tl = some (.lst (es.map V.ref)) ∧ EntsAt (cut H H') es Ts ∧ Ts.map (·.name) = (shs.take i).map (·.1)) ⟨S0, [], [], _, _, _, _, rfl, e0, ⟨rfl, fun j e T h => nomatch h⟩, rfl⟩ (fun i σ H' _ p => SqL.of (p.1 _ _ y1)) ?_ ?_⟩
    · rintro i x σ H' hx ⟨sm, es, Ts, u3, u4, u5, u6, rfl, h1, h2, h3⟩
      have hi : i < ys.length := by
        have := (List.getElem?_eq_some_iff.mp hx).1
        rwa [List.length_map] at this
      have his : i < shs.length := by omega
      rw [List.getElem?_map, List.getElem?_eq_getElem hi] at hx
      cases hx
      have yy := sm _ _ (y3 i ys[i] shs[i] (List.getElem?_eq_getElem hi) (List.getElem?_eq_getElem his))
      have esl : es.length = i := by
        have := congrArg List.length h3
        rw [List.length_map, List.length_map, List.length_take] at this
        have := h2.1
        omega
      have f4 := ok.four
      refine ⟨ys[i], _, rfl, SqT.of yy, rfl, _, _, rfl, _, _, rfl, _, _, rfl, rfl, ?_⟩
      apply cutE (fun ct H8 => Same H' H8 ∧ ∃ (cols : List (Str × Addr)), cols.length ≤ 1 ∧ ColsAt (cut H H8) ct cols ∧ ∀ c ∈ cols, cut H H8 c.2 = some (.tup [.str "whole"]))
      · intro fin
        refine ⟨_, rfl, (by show 1 ≤ sizeLine; decide), fun kd hkd => ?_⟩
        have T1 := Same.upd (o := .tup [.str "whole"]) hkd
        have e1 : (upd H' kd (.tup [.str "whole"])) kd = some (.tup [.str "whole"]) := upd_same
        generalize upd H' kd (.tup [.str "whole"]) = H1 at *
        refine ⟨(by show 2 ≤ sizeLine; decide), fun pr hpr => ?_⟩
        have T2 := Same.upd (o := .tup [.str shs[i].2.2, .ref kd]) hpr
        have e2 : (upd H1 pr (.tup [.str shs[i].2.2, .ref kd])) pr = some (.tup [.str shs[i].2.2, .ref kd]) := upd_same
        generalize upd H1 pr (.tup [.str shs[i].2.2, .ref kd]) = H2 at *
        refine ⟨(by show 1 ≤ sizeLine; decide), fun ct o hct ho => ?_⟩
        have T3 := Same.upd (o := .frz o (.tup [.ref pr])) hct
        have e3 : (upd H2 ct (.frz o (.tup [.ref pr]))) ct = some (.frz o (.tup [.ref pr])) := upd_same
        generalize upd H2 ct (.frz o (.tup [.ref pr])) = H3 at *
        refine ⟨_, rfl, rfl, _, rfl, ?_⟩
        by_cases hc : ¬ shs[i].2.2 = ""
        · refine iteC (decide_eq_false fun e => hc (by injection e)) (fin ct H3 ⟨T1.trans (T2.trans T3), [(shs[i].2.2, kd)], Nat.le_refl _, ⟨o, [pr], ho, cut_at (none_of (sm.trans (T1.trans T2)) hct) e3, rfl, fun j p c a b => ?_⟩, fun c hc' => ?_⟩)
          · match j, a, b with
            | 0, a, b => cases a; cases b; exact cut_at (none_of (sm.trans T1) hpr) (T3 _ _ e2)
          · rw [List.mem_singleton.mp hc']
            exact cut_at (none_of sm hkd) ((T2.trans T3) _ _ e1)
        · have hc' := Classical.not_not.mp hc
          rw [show decide (V.str shs[i].2.2 = V.str "") = true from decide_eq_true (by rw [hc'])]
          refine iteT ⟨Nat.zero_le _, fun ct2 o2 hct2 ho2 => ?_⟩
          have T4 := Same.upd (o := .frz o2 (.tup [])) hct2
          exact fin ct2 _ ⟨T1.trans (T2.trans (T3.trans T4)), [], Nat.zero_le _, ⟨o2, [], ho2, cut_at (none_of (sm.trans (T1.trans (T2.trans T3))) hct2) upd_same, rfl, fun j p c a => nomatch a⟩, fun c hc => nomatch hc⟩
      rintro ct H8 ⟨s8, cols, c1, c2, c3⟩
      have tl8 := s8 _ _ h1
      refine ⟨_, rfl, .inl ⟨rfl, _, SqL.of tl8⟩, _, rfl, _, rfl, _, rfl, (by show 3 ≤ sizeLine; decide), fun en hen => ?_⟩
      have T9 := Same.upd (o := .tup [.str shs[i].1, .str shs[i].2.1, .ref ct]) hen
      have e9 : (upd H8 en (.tup [.str shs[i].1, .str shs[i].2.1, .ref ct])) en = some (.tup [.str shs[i].1, .str shs[i].2.1, .ref ct]) := upd_same
      generalize upd H8 en (.tup [.str shs[i].1, .str shs[i].2.1, .ref ct]) = H9 at *
      refine ⟨tl, _, _, rfl, rfl, T9 _ _ tl8, (by rw [List.length_map, sizeLine_eq]; omega), ?_⟩
      have hen0 : H en = none := none_of (sm.trans s8) hen
      have tl9 := T9 _ _ tl8
      have up : ∀ {b : Addr} {ob : HO}, cut H H9 b = some ob → (∀ us, ob ≠ .lst us) → cut H (upd H9 tl (.lst (es.map V.ref ++ [.ref en]))) b = some ob := fun {b ob} e hne => by
        have nb : b ≠ tl := fun e2 => by
          have := cut_sub _ _ e
          rw [e2, tl9] at this
          injection this with this
          exact hne _ this.symm
        exact cut_at (cut_new e) (by rw [upd_ne nb]; exact cut_sub _ _ e)
      have upC : ∀ {ct : Addr} {cols : List (Str × Addr)}, ColsAt (cut H H9) ct cols → ColsAt (cut H (upd H9 tl (.lst (es.map V.ref ++ [.ref en])))) ct cols := fun {ct cols} h => by
        obtain ⟨o, ps, g0, g1, g2, g3⟩ := h
        exact ⟨o, ps, g0, up g1 (fun us e => nomatch e), g2, fun j p c a b => up (g3 j p c a b) (fun us e => nomatch e)⟩
      have upE : ∀ {e : Addr} {T : Tb}, EntAt (cut H H9) e T → EntAt (cut H (upd H9 tl (.lst (es.map V.ref ++ [.ref en])))) e T := fun {e T} h => by
        obtain ⟨ct, g1, g2⟩ := h
        exact ⟨ct, up g1 (fun us e => nomatch e), upC g2⟩
      have h2' := h2.same (cut_up (H0 := H) (s8.trans T9))
      have hE : EntsAt (cut H (upd H9 tl (.lst (es.map V.ref ++ [.ref en])))) es Ts := ⟨h2'.1, fun j e T a b => ⟨upE (h2'.2 j e T a b).1, (h2'.2 j e T a b).2.1, fun c hc => up ((h2'.2 j e T a b).2.2 c hc) (fun us e => nomatch e)⟩⟩
      refine ⟨(sm.trans (s8.trans T9)).put htl, es ++ [en], Ts ++ [⟨shs[i].1, shs[i].2.1, cols⟩], _, _, _, _, rfl, by rw [upd_same, List.map_append]; rfl, hE.snoc ?_ ?_, ?_⟩
      · exact ⟨ct, up (cut_at hen0 e9) (fun us e => nomatch e), upC (c2.same (cut_up T9))⟩
      · exact ⟨c1, fun c hc => up (cut_up T9 _ _ (c3 c hc)) (fun us e => nomatch e)⟩
      · rw [List.map_append, h3, List.take_succ, List.getElem?_eq_getElem his, List.map_append]
        rfl
    · rintro σ H' ⟨sm, es, Ts, u3, u4, u5, u6, rfl, h1, h2, h3⟩
      rw [List.length_map, y2, List.take_length] at h3
      refine ⟨_, rfl, _, rfl, tl, _, rfl, .inl ⟨SqL.of h1, fun tt htt => ?_⟩⟩
      have T1 := Same.upd (o := .tup (es.map V.ref)) htt
      have e1 : (upd H' tt (.tup (es.map V.ref))) tt = some (.tup (es.map V.ref)) := upd_same
      generalize upd H' tt (.tup (es.map V.ref)) = H1 at *
      refine ⟨(by show 2 ≤ sizeLine; decide), fun fo hfo => ?_⟩
      have T2 := Same.upd (o := .tup [.int sz, .ref tt]) hfo
      have e2 : (upd H1 fo (.tup [.int sz, .ref tt])) fo = some (.tup [.int sz, .ref tt]) := upd_same
      generalize upd H1 fo (.tup [.int sz, .ref tt]) = H2 at *
      have h2' := h2.same (cut_up (H0 := H) (T1.trans T2))
      have tsl : Ts.length = 4 := by
        have := congrArg List.length h3
        rw [List.length_map, List.length_map] at this
        have := ok.four
        omega
      refine q fo Ts H2 (sm.trans (T1.trans T2)) ⟨⟨tt, es, cut_at (none_of (sm.trans T1) hfo) e2, cut_at (none_of sm htt) (T2 _ _ e1), h2'.1, fun j e T a b => (h2'.2 j e T a b).1⟩, by rw [h3]; exact ok.nd, by omega, fun T hT => ?_, fun T hT c hc => ?_⟩ h3
      · obtain ⟨j, hj⟩ := List.getElem?_of_mem hT
        have hje : j < es.length := by have := (List.getElem?_eq_some_iff.mp hj).1; have := h2'.1; omega
        have := (h2'.2 j _ T (List.getElem?_eq_getElem hje) hj).2.1
        refine ⟨?_, by omega⟩
        match hcs : T.cols, this with
        | [], _ => exact List.nodup_nil
        | [c], _ => exact List.nodup_cons.mpr ⟨List.not_mem_nil, List.nodup_nil⟩
      · obtain ⟨j, hj⟩ := List.getElem?_of_mem hT
        have hje : j < es.length := by have := (List.getElem?_eq_some_iff.mp hj).1; have := h2'.1; omega
        have := (h2'.2 j _ T (List.getElem?_eq_getElem hje) hj).2.2 c hc
        exact ⟨"whole", [], this, by decide +kernel, by decide +kernel⟩
end
end My

namespace My
open PySem L2 PyProof.Rows
seal L2.PE L2.PT L2.PW L2.PS L2.PSs L2.PA L2.PI L2.PG L2.PGs L2.OpR L2.UnR L2.CallR L2.IxR L2.SlR L2.MtR L2.PIf L2.PO L2.MtM L2.PC
theorem manyV_bd (ns : List Int) (so : Str) (k : Int) : 0 ≤ manyV ns so k ∧ manyV ns so k ≤ 60 := by
  unfold manyV
  have a0 := Int.emod_nonneg (cellV ns (6 + k)) (show (4 : Int) ≠ 0 by decide)
  have a1 := Int.emod_lt_of_pos (cellV ns (6 + k)) (show (0 : Int) < 4 by decide)
  have b0 := Int.emod_nonneg (cellV ns (6 + k) / 4) (show (3 : Int) ≠ 0 by decide)
  have b1 := Int.emod_lt_of_pos (cellV ns (6 + k) / 4) (show (0 : Int) < 3 by decide)
  split
  · omega
  · split
    · omega
    · split <;> omega
def baseV (ns : List Int) : Int := cellV ns 11 % (2 * 10 ^ 30 + 1) - 10 ^ 30
def rowC (ns : List Int) (s : Sh) (k : Int) (t pl : Nat) : Rw := if s.2.2 = "" then [] else [(s.2.2, .int (baseV ns + 1000000 * k + 10000 * (t : Int) + (pl : Int)))]
def rowsC (ns : List Int) (s : Sh) (k : Int) (t : Nat) : List Rw := (List.range (manyV ns s.2.1 k).toNat).map fun pl => rowC ns s k t pl
def pieceC (ns : List Int) (shs : List Sh) (k : Int) : Pc := shs.mapIdx fun t s => (s.1, rowsC ns s k t)
theorem rowC_ok (ns : List Int) (s : Sh) (k : Int) (t pl : Nat) : RwOk (rowC ns s k t pl) := by
  unfold rowC
  split
  · exact ⟨List.nodup_nil, fun c hc => nomatch hc⟩
  · refine ⟨List.nodup_cons.mpr ⟨List.not_mem_nil, List.nodup_nil⟩, fun c hc => ?_⟩
    rw [List.mem_singleton.mp hc]
    rfl
theorem pieceC_names (ns : List Int) (shs : List Sh) (k : Int) : (pieceC ns shs k).map (·.1) = shs.map (·.1) := by
  unfold pieceC
  apply List.ext_getElem?
  intro i
  rw [List.getElem?_map, List.getElem?_map, List.getElem?_mapIdx]
  cases shs[i]? <;> rfl
theorem pieceC_ok {ns : List Int} {shs : List Sh} {k : Int} (ok : ShOk shs) : PcOk (pieceC ns shs k) := by
  have key : ∀ t ∈ pieceC ns shs k, ∃ (s : Sh) (j : Nat), t.2 = rowsC ns s k j := fun t ht => by
    obtain ⟨i, hi⟩ := List.getElem?_of_mem ht
    unfold pieceC at hi
    rw [List.getElem?_mapIdx] at hi
    cases hs : shs[i]? with
    | none => rw [hs] at hi; cases hi
    | some s => rw [hs] at hi; cases hi; exact ⟨s, i, rfl⟩
  refine ⟨by rw [pieceC_names]; exact ok.nd, by unfold pieceC; rw [List.length_mapIdx, ok.four]; decide, fun t ht => ?_, fun t ht row hr => ?_⟩
  · obtain ⟨s, j, e⟩ := key t ht
    rw [e]
    unfold rowsC
    rw [List.length_map, List.length_range]
    have := (manyV_bd ns s.2.1 k)
    omega
  · obtain ⟨s, j, e⟩ := key t ht
    rw [e] at hr
    obtain ⟨pl, _, rfl⟩ := List.mem_map.mp hr
    exact rowC_ok ns s k j pl
/-- one more table -/
theorem PcAt.snoc {G : Hp} {p D : Addr} {pc : Pc} {t : Str × List Rw} {ls rs : List Addr} (ok : ∀ t ∈ pc, ∀ row ∈ t.2, RwOk row) (h1 : G p = some (.dK (zK (pc.map (·.1)) ls))) (h2 : ls.length = pc.length) (h3 : ∀ (j : Nat) (l : Addr) (t : Str × List Rw), ls[j]? = some l → pc[j]? = some t → RowsAt G l t.2)
    (d1 : G D = some (.lst (rs.map V.ref))) (d2 : rs.length = t.2.length) (d3 : ∀ (j : Nat) (r : Addr) (row : Rw), rs[j]? = some r → t.2[j]? = some row → r ≠ p ∧ G r = some (.dK (rK row))) : PcAt (upd G p (.dK (zK ((pc ++ [t]).map (·.1)) (ls ++ [D])))) p (pc ++ [t]) := by
  have nD : D ≠ p := fun e => by rw [e, h1] at d1; cases d1
  refine ⟨ls ++ [D], upd_same, by rw [List.length_append, List.length_append, h2]; rfl, fun j l u e1 e2 => ?_⟩
  by_cases hj : j < pc.length
  · rw [List.getElem?_append_left (by omega)] at e1
    rw [List.getElem?_append_left hj] at e2
    obtain ⟨qs, b1, b2, b3⟩ := h3 j l u e1 e2
    refine ⟨qs, by rw [upd_ne fun e => by rw [e, h1] at b1; cases b1]; exact b1, b2, fun j' r row c1 c2 => ?_⟩
    have b4 := b3 j' r row c1 c2
    rw [upd_ne fun e => ?_]
    · exact b4
    · rw [e, h1] at b4
      injection b4 with x1
      injection x1 with x2
      have hm : ((.inr u.1 : Key), V.ref l) ∈ zK (pc.map (·.1)) ls := zK_mem (j := j) (by rw [List.getElem?_map, e2]; rfl) e1
      rw [x2] at hm
      exact rK_flat (ok u (List.mem_of_getElem? e2) row (List.mem_of_getElem? c2)) hm
  · have hj' : j = pc.length := by
      have := (List.getElem?_eq_some_iff.mp e2).1
      rw [List.length_append] at this
      simp at this
      omega
    subst hj'
    rw [List.getElem?_append_right (by omega), h2, Nat.sub_self] at e1
    rw [List.getElem?_append_right (Nat.le_refl _), Nat.sub_self] at e2
    cases e1
    cases e2
    refine ⟨rs, by rw [upd_ne nD]; exact d1, d2, fun j' r row c1 c2 => ?_⟩
    obtain ⟨n1, n2⟩ := d3 j' r row c1 c2
    rw [upd_ne n1]
    exact n2
end My

namespace My
open PySem L2 PyProof.Rows
seal L2.PE L2.PT L2.PW L2.PS L2.PSs L2.PA L2.PI L2.PG L2.PGs L2.OpR L2.UnR L2.CallR L2.IxR L2.SlR L2.MtR L2.PIf L2.PO L2.MtM L2.PC
def spPieceL (K : PySem.W.Frag) : Sp := fun vs H Q _ => ∃ (a l : Addr) (ns : List Int) (shs : List Sh) (k : Int), vs = [.ref a, .ref l, .int k] ∧ SqL K H a (ns.map V.int) ∧ ShAt H l shs ∧ ShOk shs ∧ 0 ≤ k ∧ k ≤ 5 ∧ ∀ p H', Same H H' → PcAt (cut H H') p (pieceC ns shs k) → Q (.ref p) H'
def pcN : List Str := ["_law_script", "_law_sheets_here", "_law_k", "_law_base", "_law_piece_here", "_law_t", "_law_sheet", "_law_rows", "_law_place", "_law_row"]
section
variable {P : Program} {w : World} {K : PySem.W.Frag} {mg : Str → Option Value} {base : Heap}
theorem ok_pieceL {f fC fM : Addr} {fd fdC fdM : FuncData} (F : Fun K "_law_piece" "_law_piece" (top 45) f fd) (B : Bl mg) (DC : Df K mg "_law_cell" (top 39) fC fdC) (DM : Df K mg "_law_many" (top 44) fM fdM) : FnOk P w K mg base CX0 3 f fd ["_law_script", "_law_sheets_here", "_law_k"] (spPieceL K) := by
  have sc : FnScope pcN ["_law_script", "_law_sheets_here", "_law_k"] (defScope (top 45)) := ⟨rfl, rfl, rfl, by decide +kernel, rfl, by decide +kernel, by decide +kernel⟩
  have GC : FnOk P w K mg base CX0 1 fC fdC ["_law_script", "_law_k"] (spCelD K) := ok_celD DC.fn B
  have bC := DC.fn.binds (ps := ["_law_script", "_law_k"]) fun _ _ _ _ _ _ us hl => by obtain ⟨v0, v1, rfl⟩ := L2.ln2 hl; rfl
  have GM : FnOk P w K mg base CX0 2 fM fdM ["_law_script", "_law_sort", "_law_k"] (spMany K) := ok_many DM.fn B DC
  have bM := DM.fn.binds (ps := ["_law_script", "_law_sort", "_law_k"]) fun _ _ _ _ _ _ us hl => by obtain ⟨v0, v1, v2, rfl⟩ := L2.ln3 hl; rfl
  refine F.ok sc (fun vs H Q E h => ?_) (fun cdv A outer s H vs Q E hr h => ?_)
  · obtain ⟨a, l, ns, shs, k, rfl, _⟩ := h
    rfl
  · obtain ⟨a, l, ns, shs, k, rfl, hS, ⟨ys, y1, y2, y3⟩, ok, k0, k5, q⟩ := h
    have hr1 : Room 1 _ := hr.mono (by decide)
    have hu : (A.deeper (envOfC "_law_piece" (defScope (top 45)) s.heap.objs.size f cdv)).units + 1 < cLine := hu_of hr
    refine ⟨_, pss_cons (ps_set (i := 3) sc.nd rfl (Or.inl rfl) (pe_op op_sub (pe_op op_mod (pe_call GC hr1 (by rfl) DC.mg DC.fn.kp bC .nil pass0 (pa_cons (pv 0) (pa_cons pe_int pa_nil))) (pe_op op_add (pe_op op_mul pe_int (pe_op op_pow pe_int pe_int)) pe_int)) (pe_op op_pow pe_int pe_int)))
      (pss_cons (ps_set (i := 4) sc.nd rfl (Or.inl rfl) pe_dnewK)
      (pss_cons (ps_for PassesOwn.never rfl (pi_enum (by rfl) B.enum (pa_cons (pv 1) pa_nil)) (pg_tup rfl (pgs_cons (pg_name (i := 5) sc.nd rfl (Or.inl rfl)) (pgs_cons (pg_name (i := 6) sc.nd rfl (Or.inl rfl)) pgs_nil)))
        (pss_cons (ps_set (i := 7) sc.nd rfl (Or.inl rfl) (pe_lst pa_nil))
        (pss_cons (ps_for PassesOwn.never rfl (pi_range1 rfl B.range (pa_cons (pe_call GM hr (by rfl) DM.mg DM.fn.kp bM .nil pass0 (pa_cons (pv 0) (pa_cons (pe_ix ix_tup (pv 6) pe_int (fun _ _ => rfl)) (pa_cons (pv 2) pa_nil)))) pa_nil)) (pg_name (i := 8) sc.nd rfl (Or.inl rfl))
          (pss_cons (ps_set (i := 9) sc.nd rfl (Or.inl rfl) (pe_disp (pps_cons (pe_ix ix_tup (pv 6) pe_int (fun _ _ => rfl)) (pe_op op_add (pe_op op_add (pe_op op_add (pv 3) (pe_op op_mul pe_int (pv 2))) (pe_op op_mul pe_int (pv 5))) (pv 8)) pps_nil) rfl rfl (by simp) (by decide)))
          (pss_cons (ps_if (pt_cmpR op_eq (pe_ix ix_tup (pv 6) pe_int (fun _ _ => rfl)) pe_str (nomark _)) (pss_one (ps_set (i := 9) sc.nd rfl (Or.inl rfl) pe_dnewK)) pss_nil)
          (pss_one (ps_expr (pe_bm PySem.F.plainAttrs_list PySem.F.slot_list_append PySem.F.type_list_append mt_app (pv 7) (pa_cons (pv 9) pa_nil)))))))
        (pss_one (ps_dput hu (pv 4) (pe_ix ix_tup (pv 6) pe_int (fun _ _ => rfl)) (pv 7) rfl)))))
      (pss_one (ps_ret (pv 4))))), ?_⟩
    have p30 : CPow 10 30 := ⟨by decide, by decide, by decide⟩
    refine ⟨_, rfl, a, ns, 11, rfl, hS, by decide, _, _, rfl, rfl, p30, _, _, rfl, rfl, .inl ⟨by decide, by decide⟩, _, _, rfl, rfl, _, _, rfl, rfl, (pos (by decide +kernel)), _, _, rfl, rfl, p30, _, _, rfl, rfl, ?_⟩
    dsimp only
    generalize hbv : cellV ns 11 % (2 * 10 ^ (30 : Int).toNat + 1) - 10 ^ (30 : Int).toNat = bv
    obtain rfl : bv = baseV ns := hbv.symm
    clear hbv
    refine fun p hp => ?_
    have S0 := Same.upd (o := .dK []) hp
    have e0 : (upd H p (.dK [])) p = some (.dK []) := upd_same
    generalize upd H p (.dK []) = H0 at *
    have pcl : (pieceC ns shs k).length = shs.length := by unfold pieceC; rw [List.length_mapIdx]
    have pcg : ∀ i (h : i < shs.length), (pieceC ns shs k)[i]? = some (shs[i].1, rowsC ns shs[i] k i) := fun i h => by unfold pieceC; rw [List.getElem?_mapIdx, List.getElem?_eq_getElem h]; rfl
    have pok := pieceC_ok (ns := ns) (k := k) ok
    refine ⟨_, rfl, l, rfl, ⟨_, SqL.of (S0 _ _ y1)⟩, for_enum (K := K) (a := l) (xs := ys.map V.ref) (fun i σ H' => Same H H' ∧ ∃ (u5 u6 u7 u8 u9 : Option V), σ = [some (.ref a), some (.ref l), some (.int k), some (.int (baseV ns)), some (.ref p), u5, u6, u7, u8, u9] ∧ PcAt (cut H H') p ((pieceC ns shs k).take i)) ⟨S0, _, _, _, _, _, rfl, [], cut_at hp e0, rfl, fun j l t h => nomatch h⟩ (fun i σ H' _ q => SqL.of (q.1 _ _ y1)) ?_ ?_⟩
    · rintro i x p1 σ H' hx ⟨sm, u5, u6, u7, u8, u9, rfl, ls, f1, f2, f3⟩ hp1
      have hi : i < ys.length := by
        have := (List.getElem?_eq_some_iff.mp hx).1
        rwa [List.length_map] at this
      have his : i < shs.length := by omega
      rw [List.getElem?_map, List.getElem?_eq_getElem hi] at hx
      cases hx
      have T1 := Same.upd (o := .tup [.int (i : Nat), .ref ys[i]]) hp1
      refine ⟨p1, _, rfl, SqT.of upd_same, rfl, _, _, rfl, _, _, rfl, rfl, ?_⟩
      generalize upd H' p1 (.tup [.int (i : Nat), .ref ys[i]]) = H1 at T1
      refine ⟨Nat.zero_le _, fun rl hrl => ?_⟩
      have T2 := Same.upd (o := .lst []) hrl
      have e2 : (upd H1 rl (.lst [])) rl = some (.lst []) := upd_same
      generalize upd H1 rl (.lst []) = H2 at *
      have sm2 := sm.trans (T1.trans T2)
      have yy := sm2 _ _ (y3 i ys[i] shs[i] (List.getElem?_eq_getElem hi) (List.getElem?_eq_getElem his))
      have hrl0 : H rl = none := none_of (sm.trans T1) hrl
      have pH1 := T1 _ _ (cut_sub _ _ f1)
      have nrp : rl ≠ p := fun e => by rw [e, pH1] at hrl; cases hrl
      have G2 := cut_up (H0 := H) (T1.trans T2)
      obtain ⟨mb0, mb1⟩ := manyV_bd ns shs[i].2.1 k
      refine ⟨_, rfl, _, rfl, ys[i], _, 1, _, rfl, rfl, SqT.of yy, rfl, _, rfl, a, ns, shs[i].2.1, k, rfl, sm2.seq hS, k0, fun H3 s3 => ⟨_, rfl, (by omega), (by omega), ?_⟩⟩
      have nls : ∀ {b : Addr} {ob : HO}, (cut H H') b = some ob → b ≠ rl := fun {b ob} e e2' => by
        have := T1 _ _ (cut_sub _ _ e)
        rw [e2', hrl] at this
        cases this
      refine for_range (fun j σ H4 => Same H H4 ∧ (∃ (u8 u9 : Option V), σ = [some (.ref a), some (.ref l), some (.int k), some (.int (baseV ns)), some (.ref p), some (.int (i : Nat)), some (.ref ys[i]), some (.ref rl), u8, u9]) ∧ (∀ b ob, b ≠ rl → (cut H H3) b = some ob → (cut H H4) b = some ob) ∧ ∃ rs : List Addr, H4 rl = some (.lst (rs.map V.ref)) ∧ rs.length = j ∧ ∀ (n : Nat) (r : Addr), rs[n]? = some r → r ≠ p ∧ r ≠ rl ∧ cut H H4 r = some (.dK (rK (rowC ns shs[i] k i n)))) ⟨sm2.trans s3, ⟨_, _, rfl⟩, fun b ob _ e => e, [], s3 _ _ e2, rfl, fun n r h => nomatch h⟩ ?_ ?_
      · rintro j σ H4 hj ⟨sm4, ⟨u8, u9, rfl⟩, fr4, rs, r1, r2, r3⟩
        have yy4 := sm4 _ _ (y3 i ys[i] shs[i] (List.getElem?_eq_getElem hi) (List.getElem?_eq_getElem his))
        apply cutE (fun d H8 => Same H4 H8 ∧ H4 d = none ∧ H8 d = some (.dK (rK (rowC ns shs[i] k i j))))
        · intro fin
          refine fun d hd => ?_
          have T5 := Same.upd (o := .dK []) hd
          have e5 : (upd H4 d (.dK [])) d = some (.dK []) := upd_same
          generalize upd H4 d (.dK []) = H5 at *
          refine ⟨_, rfl, ys[i], _, 2, _, rfl, rfl, SqT.of (T5 _ _ yy4), rfl, _, rfl, _, rfl, _, _, rfl, rfl, .inl ⟨by decide, by decide⟩, _, _, rfl, rfl, _, rfl, _, _, rfl, rfl, .inl ⟨by decide, by decide⟩, _, _, rfl, rfl, _, rfl, _, _, rfl, rfl, e5, [(.inr shs[i].2.2, .int (baseV ns + 1000000 * k + 10000 * (i : Int) + (0 + (j : Int))))], rfl, by show 1 ≤ 15; decide, ?_⟩
          have T6 : Same H4 (upd H5 d (.dK (mergeK [] [(.inr shs[i].2.2, .int (baseV ns + 1000000 * k + 10000 * (i : Int) + (0 + (j : Int))))]))) := T5.put hd
          have e6 : (upd H5 d (.dK (mergeK [] [(.inr shs[i].2.2, .int (baseV ns + 1000000 * k + 10000 * (i : Int) + (0 + (j : Int))))]))) d = some (.dK [(.inr shs[i].2.2, .int (baseV ns + 1000000 * k + 10000 * (i : Int) + (j : Int)))]) := by rw [upd_same, Int.zero_add]; rfl
          generalize upd H5 d (.dK (mergeK [] [(.inr shs[i].2.2, .int (baseV ns + 1000000 * k + 10000 * (i : Int) + (0 + (j : Int))))])) = H6 at *
          refine ⟨_, rfl, ys[i], _, 2, _, rfl, rfl, SqT.of (T6 _ _ yy4), rfl, rfl, _, rfl, ?_⟩
          by_cases hc : ¬ shs[i].2.2 = ""
          · refine iteC (decide_eq_false fun e => hc (by injection e)) (fin d H6 ⟨T6, hd, ?_⟩)
            rw [e6]
            unfold rowC
            rw [if_neg hc]
            rfl
          · have hc' := Classical.not_not.mp hc
            rw [show decide (V.str shs[i].2.2 = V.str "") = true from decide_eq_true (by rw [hc'])]
            refine iteT fun d2 hd2 => ?_
            refine fin d2 _ ⟨T6.trans (Same.upd hd2), none_of T6 hd2, ?_⟩
            rw [upd_same]
            unfold rowC
            rw [if_pos hc']
            rfl
        rintro d H8 ⟨s8, hd, e8⟩
        have r8 := s8 _ _ r1
        refine ⟨_, rfl, .inl ⟨rfl, _, SqL.of r8⟩, _, rfl, rl, _, _, rfl, rfl, r8, (by rw [List.length_map, sizeLine_eq]; omega), ?_⟩
        have nd : d ≠ rl := fun e => by rw [e, r1] at hd; cases hd
        have p4 : ∃ ob, H4 p = some ob := by
          have h3 : cut H H3 p = some (.dK (zK (((pieceC ns shs k).take i).map (·.1)) ls)) := cut_up s3 _ _ (G2 _ _ f1)
          exact ⟨_, cut_sub _ _ (fr4 p _ nrp.symm h3)⟩
        refine ⟨(sm4.trans s8).put hrl0, ⟨_, _, rfl⟩, fun b ob nb e => ?_, rs ++ [d], by rw [upd_same, List.map_append]; rfl, by rw [List.length_append, r2]; rfl, fun n r h1 => ?_⟩
        · rw [cut_put hrl0, upd_ne nb]
          exact cut_up s8 _ _ (fr4 b ob nb e)
        · by_cases hn : n < rs.length
          · rw [List.getElem?_append_left hn] at h1
            obtain ⟨g1, g2, g3⟩ := r3 n r h1
            refine ⟨g1, g2, ?_⟩
            rw [cut_put hrl0, upd_ne g2]
            exact cut_up s8 _ _ g3
          · have hn' : n = rs.length := by
              have := (List.getElem?_eq_some_iff.mp h1).1
              rw [List.length_append] at this
              simp at this
              omega
            subst hn'
            rw [List.getElem?_append_right (Nat.le_refl _), Nat.sub_self] at h1
            cases h1
            refine ⟨fun e => ?_, nd, ?_⟩
            · obtain ⟨ob, hob⟩ := p4
              rw [e, hob] at hd
              cases hd
            · rw [cut_put hrl0, upd_ne nd, r2]
              exact cut_at (none_of sm4 hd) e8
      · rintro σ H4 ⟨sm4, ⟨u8, u9, rfl⟩, fr4, rs, r1, r2, r3⟩
        have yy4 := sm4 _ _ (y3 i ys[i] shs[i] (List.getElem?_eq_getElem hi) (List.getElem?_eq_getElem his))
        have up4 : ∀ {b : Addr} {ob : HO}, cut H H' b = some ob → cut H H4 b = some ob := fun {b ob} e => fr4 b ob (nls e) (cut_up s3 _ _ (G2 _ _ e))
        have f1' := up4 f1
        have lsl : ls.length = i := by rw [f2, List.length_take]; omega
        refine ⟨_, rfl, _, rfl, _, rfl, ys[i], _, 0, _, rfl, rfl, SqT.of yy4, rfl, p, _, rfl, .inl ⟨_, .inr shs[i].1, cut_sub _ _ f1', rfl, (by rw [zK_len (by rw [List.length_map]; exact f2), List.length_map, List.length_take, sizeLine_eq]; have := ok.four; omega), rfl⟩, ?_⟩
        have hnew : shs[i].1 ∉ ((pieceC ns shs k).take i).map (·.1) := fun hm => by
          rw [List.map_take, pieceC_names] at hm
          have nd := ok.nd
          have e : shs.map (·.1) = (shs.map (·.1)).take i ++ (shs.map (·.1)).drop i := (List.take_append_drop _ _).symm
          rw [e, List.nodup_append] at nd
          refine nd.2.2 _ hm shs[i].1 ?_ rfl
          rw [← List.map_drop, List.drop_eq_getElem_cons his, List.map_cons]
          exact List.mem_cons_self
        rw [putK_new _ (zK_new hnew)]
        have tks : (pieceC ns shs k).take (i + 1) = (pieceC ns shs k).take i ++ [(shs[i].1, rowsC ns shs[i] k i)] := by rw [List.take_succ, pcg i his]; rfl
        have ez : zK (((pieceC ns shs k).take i).map (·.1)) ls ++ [(.inr shs[i].1, .ref rl)] = zK (((pieceC ns shs k).take i ++ [(shs[i].1, rowsC ns shs[i] k i)]).map (·.1)) (ls ++ [rl]) := by
          rw [List.map_append]
          exact (zK_snoc (by rw [List.length_map]; exact f2)).symm
        rw [ez]
        have rcl : (rowsC ns shs[i] k i).length = (manyV ns shs[i].2.1 k).toNat := by unfold rowsC; rw [List.length_map, List.length_range]
        refine ⟨sm4.put hp, _, _, _, _, _, rfl, ?_⟩
        rw [tks, cut_put hp]
        refine PcAt.snoc (rs := rs) (fun t ht => pok.rw_ t (List.mem_of_mem_take ht)) f1' f2 (fun j l t c1 c2 => ?_) (cut_at hrl0 r1) (by rw [r2, rcl]) (fun n r row c1 c2 => ?_)
        · obtain ⟨qs, b1, b2, b3⟩ := f3 j l t c1 c2
          exact ⟨qs, up4 b1, b2, fun j' r row d1 d2 => up4 (b3 j' r row d1 d2)⟩
        · obtain ⟨g1, g2, g3⟩ := r3 n r c1
          refine ⟨g1, ?_⟩
          rw [g3]
          have hn : n < (manyV ns shs[i].2.1 k).toNat := by
            have := (List.getElem?_eq_some_iff.mp c2).1
            rw [rcl] at this
            exact this
          unfold rowsC at c2
          rw [List.getElem?_map, List.getElem?_range hn] at c2
          cases c2
          rfl
    · rintro σ H' ⟨sm, u5, u6, u7, u8, u9, rfl, hf⟩
      rw [List.length_map, y2, ← pcl, List.take_length] at hf
      exact ⟨_, rfl, q p H' sm hf⟩
end
end My

namespace L2
open PySem PySem.Spec PyProof.Rows
theorem cut_D {H G : Hp} {D : Addr} {o o' : HO} : cut (upd H D o) G = cut (upd H D o') G := by
  funext b
  unfold cut
  by_cases e : b = D
  · subst e
    rw [upd_same, upd_same]
  · rw [upd_ne e, upd_ne e]
theorem DGet.same {H H' : Hp} {a : Addr} {z : Str} {v : V} (g : DGet H a (.str z) (some v)) (s : Same H H') : DGet H' a (.str z) (some v) := by
  rcases g with ⟨kvs, k, e1, e2, e3⟩ | ⟨_, _, b, _, e2, _⟩
  · rcases e1 with e1 | ⟨ob, e1⟩
    · exact .inl ⟨kvs, k, .inl (s _ _ e1), e2, e3⟩
    · exact .inl ⟨kvs, k, .inr ⟨ob, s _ _ e1⟩, e2, e3⟩
  · cases e2
theorem dq_ints {H : Hp} {n : Nat} {ms : List Int} (i : Nat) (x y : V) (h1 : (ms.map V.int)[i]? = some x) (h2 : (ms.map V.int)[i]? = some y) : Dq H n x y := by
  rw [h1] at h2
  cases h2
  obtain ⟨m, _, rfl⟩ := List.mem_map.mp (List.mem_of_getElem? h1)
  exact .int
/-- two dicts that stand for the same, as != asks it -/
theorem ne_dv {H : Hp} {n : Nat} {kds : List (Str × Dp)} {a b : Addr} (h1 : Dv H (n + 1) (.dic kds) (.ref a)) (h2 : Dv H (n + 1) (.dic kds) (.ref b)) : ∃ kvs kws : List (Key × V), Rd H a (.dK kvs) ∧ Rd H b (.dK kws) ∧ kvs.length = kws.length ∧ (∀ (k : Key) (v : V), (k, v) ∈ kws → ∃ z, k = .inr z) ∧ (∀ (k : Key) (v : V), (k, v) ∈ kvs → ∃ v', (k, v') ∈ kws ∧ Dq H n v v') := by
  cases h1 with
  | @dic _ _ vs _ ha nd hl hh =>
    cases h2 with
    | @dic _ _ us _ hb nd' hl' hh' =>
      have ez : (kds.map (·.1)).length = kds.length := List.length_map ..
      refine ⟨_, _, .inl ha, .inl hb, ?_, fun k v h => ?_, fun k v h => ?_⟩
      · rw [zw_len (by omega), zw_len (by omega)]
      · obtain ⟨i, z, _, _, e⟩ := zw_mem h
        exact ⟨z, e⟩
      · obtain ⟨i, z, e1, e2, rfl⟩ := zw_mem h
        have hi : i < kds.length := by have := (List.getElem?_eq_some_iff.mp e2).1; omega
        have hu : us[i]? = some us[i] := List.getElem?_eq_getElem (by omega)
        refine ⟨us[i], List.mem_of_getElem? (i := i) (by rw [zw_get, e1, hu]), ?_⟩
        exact (hh i v _ e2 (List.getElem?_eq_getElem hi)).dq (hh' i _ _ hu (List.getElem?_eq_getElem hi))
end L2
namespace My
open PySem L2 PyProof.Rows
seal L2.PE L2.PT L2.PW L2.PS L2.PSs L2.PA L2.PI L2.PG L2.PGs L2.OpR L2.UnR L2.CallR L2.IxR L2.SlR L2.MtR L2.PIf L2.PO L2.MtM L2.PC
/-! ### rows and pieces as values without addresses -/
theorem rK_zw : ∀ row : Rw, rK row = (row.map (·.1)).zipWith (fun z v => ((Sum.inr z : Key), v)) (row.map (·.2))
  | [] => rfl
  | c :: r => by
    unfold rK
    rw [List.map_cons, List.map_cons, List.map_cons, List.zipWith_cons_cons]
    exact congrArg _ (rK_zw r)
theorem row_dv {H : Hp} {r : Addr} {row : Rw} (ok : RwOk row) (h : H r = some (.dK (rK row))) : Dv H 1 (rD row) (.ref r) := by
  have e0 : (row.map fun c => (c.1, Dp.fl c.2)).map (·.1) = row.map (·.1) := by rw [List.map_map]; rfl
  refine Dv.dic (vs := row.map (·.2)) ?_ ?_ ?_ fun i v k h1 h2 => ?_
  · rw [h, rK_zw, e0]
  · rw [e0]
    exact ok.1
  · rw [List.length_map, List.length_map]
  · rw [List.getElem?_map] at h1 h2
    cases hc : row[i]? with
    | none => rw [hc] at h1; cases h1
    | some c =>
      rw [hc] at h1 h2
      cases h1
      cases h2
      exact .fl (ok.2 c (List.mem_of_getElem? hc))
def rowsD (rows : List Rw) : Dp := .lst (rows.map rD)
def pcD (pc : Pc) : List (Str × Dp) := pc.map fun t => (t.1, rowsD t.2)
theorem rows_dv {H : Hp} {l : Addr} {rows : List Rw} (ok : ∀ row ∈ rows, RwOk row) (h : RowsAt H l rows) : Dv H 2 (rowsD rows) (.ref l) := by
  obtain ⟨rs, a, b, c⟩ := h
  refine Dv.lst a (by rw [List.length_map, List.length_map, b]) fun i v d h1 h2 => ?_
  rw [List.getElem?_map] at h1 h2
  cases hr : rs[i]? with
  | none => rw [hr] at h1; cases h1
  | some r =>
    cases hw : rows[i]? with
    | none => rw [hw] at h2; cases h2
    | some row =>
      rw [hr] at h1
      rw [hw] at h2
      cases h1
      cases h2
      exact row_dv (ok row (List.mem_of_getElem? hw)) (c i r row hr hw)
theorem pc_dv {H : Hp} {p : Addr} {pc : Pc} (ok : PcOk pc) (h : PcAt H p pc) : Dv H 3 (.dic (pcD pc)) (.ref p) := by
  obtain ⟨ls, a, b, c⟩ := h
  have e0 : (pcD pc).map (·.1) = pc.map (·.1) := by unfold pcD; rw [List.map_map]; rfl
  refine Dv.dic (vs := ls.map V.ref) (by rw [a, e0]; rfl) (by rw [e0]; exact ok.nd) (by unfold pcD; rw [List.length_map, List.length_map, b]) fun i v k h1 h2 => ?_
  unfold pcD at h2
  rw [List.getElem?_map] at h1 h2
  cases hl : ls[i]? with
  | none => rw [hl] at h1; cases h1
  | some l =>
    cases ht : pc[i]? with
    | none => rw [ht] at h2; cases h2
    | some t =>
      rw [hl] at h1
      rw [ht] at h2
      cases h1
      cases h2
      exact rows_dv (ok.rw_ t (List.mem_of_getElem? ht)) (c i l t hl ht)
/-- due against told -/
theorem due_dq {HO H : Hp} {cs : List (Int × Nat × Rw)} {xs ys rs : List Addr} (ok : ∀ c ∈ cs, RwOk c.2.2) (hx : xs.length = cs.length) (hy : ys.length = cs.length) (hr : rs.length = cs.length)
    (h1 : ∀ (j : Nat) (x : Addr) (c : Int × Nat × Rw), xs[j]? = some x → cs[j]? = some c → ∃ r, H x = some (.tup [.int c.1, .int (c.2.1 : Nat), .ref r]) ∧ H r = some (.dK (rK c.2.2)))
    (h2 : ∀ (j : Nat) (x r : Addr) (c : Int × Nat × Rw), ys[j]? = some x → rs[j]? = some r → cs[j]? = some c → H x = some (.tup [.int c.1, .int (c.2.1 : Nat), .ref r]) ∧ HO r = some (.dK (rK c.2.2))) (s : Same HO H)
    (i : Nat) (x y : V) (e1 : (xs.map V.ref)[i]? = some x) (e2 : (ys.map V.ref)[i]? = some y) : Dq H 2 x y := by
  have hi : i < cs.length := by
    have := (List.getElem?_eq_some_iff.mp e1).1
    rw [List.length_map] at this
    omega
  rw [List.getElem?_map, List.getElem?_eq_getElem (show i < xs.length by omega)] at e1
  rw [List.getElem?_map, List.getElem?_eq_getElem (show i < ys.length by omega)] at e2
  cases e1
  cases e2
  obtain ⟨r, a1, a2⟩ := h1 i _ cs[i] (List.getElem?_eq_getElem (show i < xs.length by omega)) (List.getElem?_eq_getElem hi)
  obtain ⟨b1, b2⟩ := h2 i _ _ cs[i] (List.getElem?_eq_getElem (show i < ys.length by omega)) (List.getElem?_eq_getElem (show i < rs.length by omega)) (List.getElem?_eq_getElem hi)
  have ok' := ok _ (List.getElem_mem hi)
  refine .tup a1 b1 rfl fun j x y c1 c2 => ?_
  match j, c1, c2 with
  | 0, c1, c2 => cases c1; cases c2; exact .int
  | 1, c1, c2 => cases c1; cases c2; exact .int
  | 2, c1, c2 => cases c1; cases c2; exact (row_dv ok' a2).dq (row_dv ok' (s _ _ b2))
theorem flat_len {T : Str} {m : Nat} : ∀ {es : List (Int × Pc)}, (∀ e ∈ es, (tab e.2 T).length ≤ m) → (flat T es).length ≤ es.length * m
  | [], _ => Nat.zero_le _
  | e :: r, h => by
    have ih := flat_len (es := r) fun x hx => h x (List.mem_cons_of_mem _ hx)
    have h0 := h e List.mem_cons_self
    unfold flat at ih ⊢
    rw [List.flatMap_cons, List.length_append, List.length_mapIdx, List.length_cons, Nat.succ_mul]
    omega
theorem flat_snoc {T : Str} {es : List (Int × Pc)} {e : Int × Pc} : flat T (es ++ [e]) = flat T es ++ (tab e.2 T).mapIdx fun i row => (e.1, i, row) := by
  unfold flat
  rw [List.flatMap_append, List.flatMap_singleton]
theorem flat_ok {T : Str} {es : List (Int × Pc)} (h : ∀ e ∈ es, ∀ row ∈ tab e.2 T, RwOk row) : ∀ c ∈ flat T es, RwOk c.2.2 := fun c hc => by
  unfold flat at hc
  obtain ⟨e, he, hc⟩ := List.mem_flatMap.mp hc
  obtain ⟨i, hi⟩ := List.getElem?_of_mem hc
  rw [List.getElem?_mapIdx] at hi
  cases hr : (tab e.2 T)[i]? with
  | none => rw [hr] at hi; cases hi
  | some row =>
    rw [hr] at hi
    cases hi
    exact h e he row (List.mem_of_getElem? hr)
/-- what is held, by the keys in their order -/
def LK (ns : List Int) (shs : List Sh) (ks : List Int) : List (Int × Pc) := ks.mapIdx fun i k => (k, pieceC ns shs i)
theorem LK_len (ns : List Int) (shs : List Sh) (ks : List Int) : (LK ns shs ks).length = ks.length := List.length_mapIdx ..
theorem LK_get {ns : List Int} {shs : List Sh} {ks : List Int} {i : Nat} (h : i < ks.length) : (LK ns shs ks)[i]? = some (ks[i], pieceC ns shs i) := by
  unfold LK
  rw [List.getElem?_mapIdx, List.getElem?_eq_getElem h]
  rfl
theorem LK_keys (ns : List Int) (shs : List Sh) (ks : List Int) : (LK ns shs ks).map (·.1) = ks := by
  apply List.ext_getElem?
  intro i
  unfold LK
  rw [List.getElem?_map, List.getElem?_mapIdx]
  cases ks[i]? <;> rfl
theorem LK_mem {ns : List Int} {shs : List Sh} {ks : List Int} {e : Int × Pc} (h : e ∈ LK ns shs ks) : ∃ i : Nat, i < ks.length ∧ ks[i]? = some e.1 ∧ e.2 = pieceC ns shs i := by
  obtain ⟨i, hi⟩ := List.getElem?_of_mem h
  unfold LK at hi
  rw [List.getElem?_mapIdx] at hi
  cases hk : ks[i]? with
  | none => rw [hk] at hi; cases hi
  | some k =>
    rw [hk] at hi
    cases hi
    exact ⟨i, (List.getElem?_eq_some_iff.mp hk).1, hk, rfl⟩
theorem LK_en {ns : List Int} {shs : List Sh} {ks : List Int} {es : List En} (hL : srt (es.map kc) = LK ns shs ks) {i : Nat} (h : i < ks.length) : ∃ e ∈ es, e.k = ks[i] ∧ e.pc = pieceC ns shs i := by
  have hm : (ks[i], pieceC ns shs i) ∈ srt (es.map kc) := by rw [hL]; exact List.mem_of_getElem? (LK_get h)
  obtain ⟨e, he, ee⟩ := List.mem_map.mp ((srt_perm _).mem_iff.mp hm)
  exact ⟨e, he, congrArg Prod.fst ee, congrArg Prod.snd ee⟩
theorem tab_ok {pc : Pc} (ok : PcOk pc) {T : Str} (hT : T ∈ pc.map (·.1)) : (tab pc T).length ≤ 1000 ∧ ∀ row ∈ tab pc T, RwOk row := by
  obtain ⟨i, t, h1, h2, h3⟩ := tab_at hT
  rw [← h3]
  exact ⟨ok.rl t (List.mem_of_getElem? h1), ok.rw_ t (List.mem_of_getElem? h1)⟩
structure Ms (P : Program) (w : World) (K : PySem.W.Frag) (mg : Str → Option Value) (base : Heap) (CP fR fO fP fH : Addr) (fdR fdO fdP fdH : FuncData) : Prop where
  L : ClP K CP
  gR : FnOk P w K mg base CX0 2 fR fdR ["self", "table", "key", "place"] (spRow CP)
  mR : Meth K CP "row" fR
  bR : Binds K fdR ["self", "table", "key", "place"] []
  gO : FnOk P w K mg base CX0 2 fO fdO ["self", "table"] (spRows CP)
  mO : Meth K CP "rows" fO
  bO : Binds K fdO ["self", "table"] []
  gP : FnOk P w K mg base CX0 2 fP fdP ["self", "key"] (spPiece CP)
  mP : Meth K CP "piece" fP
  bP : Binds K fdP ["self", "key"] []
  gH : FnOk P w K mg base CX0 1 fH fdH ["self"] (spHeld CP)
  mH : Meth K CP "held" fH
  bH : Binds K fdH ["self"] []
end My

namespace My
open PySem L2 PyProof.Rows
seal L2.PE L2.PT L2.PW L2.PS L2.PSs L2.PA L2.PI L2.PG L2.PGs L2.OpR L2.UnR L2.CallR L2.IxR L2.SlR L2.MtR L2.PIf L2.PO L2.MtM L2.PC
def spTells (K : PySem.W.Frag) (CP : Addr) : Sp := fun vs H Q _ => ∃ (a sa l kl : Addr) (sz : Int) (Ts : List Tb) (es : List En) (ns : List Int) (shs : List Sh) (ks : List Int), vs = [.ref a, .ref sa, .ref l, .ref kl] ∧ PlAt CP H a sz Ts es ∧ Ts.map (·.name) = shs.map (·.1) ∧ SqL K H sa (ns.map V.int) ∧ ShAt H l shs ∧ ShOk shs ∧ H kl = some (.lst (ks.map V.int)) ∧ ks.length ≤ 5 ∧ srt (es.map kc) = LK ns shs ks ∧ ∀ H', Same H H' → Q (.bl true) H'
def tlN : List Str := ["_law_plain", "_law_script", "_law_sheets_here", "_law_keys_here", "_law_pieces", "_law_name", "_law_sort", "_law_column", "_law_due", "_law_key", "_law_piece_here", "_law_place", "_law_row"]
section
variable {P : Program} {w : World} {K : PySem.W.Frag} {mg : Str → Option Value} {base : Heap} {CP fR fO fP fH : Addr} {fdR fdO fdP fdH : FuncData}
theorem ok_tells {f fC fM fL : Addr} {fd fdC fdM fdL : FuncData} (F : Fun K "_law_tells" "_law_tells" (top 46) f fd) (B : Bl mg) (hz : mg "zip" = none) (M : Ms P w K mg base CP fR fO fP fH fdR fdO fdP fdH) (DC : Df K mg "_law_cell" (top 39) fC fdC) (DM : Df K mg "_law_many" (top 44) fM fdM) (DL : Df K mg "_law_piece" (top 45) fL fdL) :
    FnOk P w K mg base CX0 4 f fd ["_law_plain", "_law_script", "_law_sheets_here", "_law_keys_here"] (spTells K CP) := by
  have sc : FnScope tlN ["_law_plain", "_law_script", "_law_sheets_here", "_law_keys_here"] (defScope (top 46)) := ⟨rfl, rfl, rfl, by decide +kernel, rfl, by decide +kernel, by decide +kernel⟩
  have GL : FnOk P w K mg base CX0 3 fL fdL ["_law_script", "_law_sheets_here", "_law_k"] (spPieceL K) := ok_pieceL DL.fn B DC DM
  have bL := DL.fn.binds (ps := ["_law_script", "_law_sheets_here", "_law_k"]) fun _ _ _ _ _ _ us hl => by obtain ⟨v0, v1, v2, rfl⟩ := L2.ln3 hl; rfl
  refine F.ok sc (fun vs H Q E h => ?_) (fun cdv A outer s H vs Q E hr h => ?_)
  · obtain ⟨a, sa, l, kl, sz, Ts, es, ns, shs, ks, rfl, _⟩ := h
    rfl
  · obtain ⟨a, sa, l, kl, sz, Ts, es, ns, shs, ks, rfl, hPl, hTs, hS, hSh, ok, hk, hk5, hL, q⟩ := h
    have hr2 : Room 2 _ := hr.mono (by decide)
    have hr1 : Room 1 _ := hr.mono (by decide)
    have hu : (A.deeper (envOfC "_law_tells" (defScope (top 46)) s.heap.objs.size f cdv)).units + 1 < cLine := hu_of hr
    have hu3 : (A.deeper (envOfC "_law_tells" (defScope (top 46)) s.heap.objs.size f cdv)).units + 2 + 1 < cLine := by have := hr.un; omega
    have ndA : (["_law_k", "_law_script", "_law_sheets_here"] : List Str).Nodup := by decide +kernel
    refine ⟨_, pss_cons (ps_comp (i := 4) (osc := defScope (top 46)) (N0 := tlN) (xs := ["_law_k"]) (fr := [1, 2]) ⟨rfl, by decide +kernel, by decide +kernel, by decide +kernel, (fun j hj => by
              have e : j = 1 ∨ j = 2 := by simpa using hj
              rcases e with rfl | rfl
              · exact ⟨_, rfl, by decide +kernel⟩
              · exact ⟨_, rfl, by decide +kernel⟩), by decide +kernel⟩ rfl rfl rfl (pi_range1 rfl B.range (pa_cons (pe_callB call_len_seq (by rfl) B.len PySem.boot_len (pa_cons (pv 3) pa_nil)) pa_nil))
          (fun s H fp => pg_name (i := 0) ndA rfl (Or.inl rfl)) (fun s H fp => pif_nil)
          (fun s H fp => pe_call GL hr (by rfl) DL.mg DL.fn.kp bL .nil pass0 (pa_cons (pv 1) (pa_cons (pv 2) (pa_cons (pv 0) pa_nil)))) sc.nd rfl (Or.inl rfl))
      (pss_cons (ps_if (pt_cmpR op_neL (pe_meth0 (pv 0) M.L.cl M.mH M.gH hr1 M.bH .nil pass0) (pv 3) (nomark _)) pss_never pss_nil)
      (pss_cons (ps_for PassesOwn.never rfl (pi_list (pv 2)) (pg_tup rfl (pgs_cons (pg_name (i := 5) sc.nd rfl (Or.inl rfl)) (pgs_cons (pg_name (i := 6) sc.nd rfl (Or.inl rfl)) (pgs_cons (pg_name (i := 7) sc.nd rfl (Or.inl rfl)) pgs_nil))))
        (pss_cons (ps_set (i := 8) sc.nd rfl (Or.inl rfl) (pe_lst pa_nil))
        (pss_cons (ps_for PassesOwn.never rfl (pi_zipL (by rfl) hz (pa_cons (pv 3) (pa_cons (pv 4) pa_nil))) (pg_tup rfl (pgs_cons (pg_name (i := 9) sc.nd rfl (Or.inl rfl)) (pgs_cons (pg_name (i := 10) sc.nd rfl (Or.inl rfl)) pgs_nil)))
          (pss_one (ps_for PassesOwn.never rfl (pi_enum (by rfl) B.enum (pa_cons (pe_dget hu (pv 10) (pv 5) (fun _ _ => rfl)) pa_nil)) (pg_tup rfl (pgs_cons (pg_name (i := 11) sc.nd rfl (Or.inl rfl)) (pgs_cons (pg_name (i := 12) sc.nd rfl (Or.inl rfl)) pgs_nil)))
            (pss_cons (ps_expr (pe_bm PySem.F.plainAttrs_list PySem.F.slot_list_append PySem.F.type_list_append mt_app (pv 8) (pa_cons (pe_tup (pa_cons (pv 9) (pa_cons (pv 11) (pa_cons (pv 12) pa_nil)))) pa_nil)))
            (pss_one (ps_if (pt_cmpR op_neDD (pe_meth (pv 0) M.L.cl M.mR M.gR hr2 M.bR .nil pass0 (pa_cons (pv 5) (pa_cons (pv 9) (pa_cons (pv 11) pa_nil)))) (pv 12) (nomark _)) pss_never pss_nil))))))
        (pss_one (ps_if (pt_cmpR op_neL (pe_meth (pv 0) M.L.cl M.mO M.gO hr2 M.bO .nil pass0 (pa_cons (pv 5) pa_nil)) (pv 8) (nomark _)) pss_never pss_nil)))))
      (pss_cons (ps_for PassesOwn.never rfl (pi_zipL (by rfl) hz (pa_cons (pv 3) (pa_cons (pv 4) pa_nil))) (pg_tup rfl (pgs_cons (pg_name (i := 9) sc.nd rfl (Or.inl rfl)) (pgs_cons (pg_name (i := 10) sc.nd rfl (Or.inl rfl)) pgs_nil)))
        (pss_one (ps_if (pt_cmpR op_neDD (pe_meth (pv 0) M.L.cl M.mP M.gP hr2 M.bP .nil pass0 (pa_cons (pv 9) pa_nil)) (pv 10) (nomark _)) pss_never pss_nil)))
      (pss_one (ps_ret pe_bl))))), ?_⟩
    have pok : ∀ k : Int, PcOk (pieceC ns shs k) := fun k => pieceC_ok ok
    refine ⟨_, rfl, kl, _, rfl, .inl (SqL.of hk), _, rfl, (by rw [List.length_map]; omega), (by rw [List.length_map]; omega), fun D hD => ?_⟩
    refine compW_idx ks.length (fun i ys σ' Hc => (∃ t0, σ' = [t0, some (.ref sa), some (.ref l)]) ∧ Same H Hc ∧ ∃ ps : List Addr, ys = ps.map V.ref ∧ ∀ (j : Nat) (p : Addr), ps[j]? = some p → PcAt (cut (upd H D (.lst [])) Hc) p (pieceC ns shs j)) (by rw [sizeLine_eq]; omega) ⟨⟨none, rfl⟩, Same.upd hD, [], rfl, fun j p h => nomatch h⟩ upd_same ?_ ?_
    · rintro i σ' Hc ys hi ⟨⟨t0, rfl⟩, sm, ps, rfl, hps⟩ hyl hD'
      rw [List.length_map] at hyl
      refine ⟨(by rw [List.length_map]; exact hi), ?_⟩
      rintro x Hd ⟨rfl, rfl⟩
      refine ⟨_, rfl, _, rfl, _, rfl, sa, l, ns, shs, (i : Int), (by rw [Int.zero_add]; rfl), sm.seq hS, hSh.same sm, ok, (by omega), (by omega), fun p H5 s5 h5 => ?_⟩
      have e5 := s5 _ _ hD'
      have hD5 : (upd H D (.lst (ps.map V.ref))) D = some (.lst (ps.map V.ref)) := upd_same
      have sD : Same (upd H D (.lst (ps.map V.ref))) Hd := fun b o e => by
        by_cases eb : b = D
        · subst eb
          rw [upd_same] at e
          cases e
          exact hD'
        · rw [upd_ne eb] at e
          exact sm _ _ e
      refine ⟨e5, ⟨_, rfl⟩, (sm.trans s5).put hD, ps ++ [p], by rw [List.map_append]; rfl, fun j pp h1 => ?_⟩
      have up : Same (cut (upd H D (.lst [])) H5) (cut (upd H D (.lst [])) (upd H5 D (.lst (ps.map V.ref ++ [V.ref p])))) := cut_upd (o' := .lst []) upd_same
      by_cases hj : j < ps.length
      · rw [List.getElem?_append_left hj] at h1
        exact ((hps j pp h1).same (cut_up s5)).same up
      · have hj' : j = ps.length := by
          have := (List.getElem?_eq_some_iff.mp h1).1
          rw [List.length_append] at this
          simp at this
          omega
        subst hj'
        rw [List.getElem?_append_right (Nat.le_refl _), Nat.sub_self] at h1
        cases h1
        have h6 := h5.same (cut_dn sD)
        rw [cut_D (o' := .lst [])] at h6
        rw [hyl]
        exact h6.same up
    · rintro σ' Hc ys ⟨_, sm, ps, rfl, hps⟩ hDn hyl
      rw [List.length_map] at hyl
      refine ⟨(show ((((ks.map V.int).length : Nat) : Int)).toNat ≤ ks.length by rw [List.length_map]; exact Nat.le_refl _), ?_⟩
      have hps' : ∀ (j : Nat) (p : Addr), ps[j]? = some p → PcAt Hc p (pieceC ns shs j) := fun j p e => (hps j p e).same cut_sub
      clear hps
      obtain ⟨dx, fo, td, ha, _⟩ := id hPl.ex
      refine ⟨_, rfl, a, dx, _, rfl, sm _ _ ha, flds_no (by decide +kernel) (by decide +kernel), a, sz, Ts, es, rfl, hPl.same sm, fun hl H2 s2 h2 => ?_⟩
      have S2 := sm.trans s2
      have hk2 := S2 _ _ hk
      rw [hL, LK_keys] at h2
      refine ⟨_, rfl, 0, hl, kl, _, _, rfl, rfl, SqL.of (cut_sub _ _ h2), SqL.of hk2, rfl, dq_ints, hu, _, rfl, iteF ?_⟩
      have hpl2 := s2 _ _ hDn
      have hps2 : ∀ (j : Nat) (p : Addr), ps[j]? = some p → PcAt H2 p (pieceC ns shs j) := fun j p e => (hps' j p e).same s2
      have hP2 := hPl.same S2
      have hSh2 := hSh.same S2
      have ha2 := S2 _ _ ha
      clear hps' hDn
      obtain ⟨ys, y1, y2, y3⟩ := hSh2
      have fin : ∀ H', Same H2 H' → Q (.bl true) H' := fun H' s' => q H' (S2.trans s')
      refine ⟨_, rfl, l, rfl, ⟨_, SqL.of y1⟩, for_list (K := K) (a := l) (xs := ys.map V.ref) (fun i σ H' => Same H2 H' ∧ ∃ (u5 u6 u7 u8 u9 u10 u11 u12 : Option V), σ = [some (.ref a), some (.ref sa), some (.ref l), some (.ref kl), some (.ref D), u5, u6, u7, u8, u9, u10, u11, u12]) ⟨Same.refl _, _, _, _, _, _, _, _, _, rfl⟩ (fun i σ H' _ p => SqL.of (p.1 _ _ y1)) ?_ ?_⟩
      · rintro i x σ H' hx ⟨s', u5, u6, u7, u8, u9, u10, u11, u12, rfl⟩
        have hi : i < ys.length := by
          have := (List.getElem?_eq_some_iff.mp hx).1
          rwa [List.length_map] at this
        have his : i < shs.length := by omega
        rw [List.getElem?_map, List.getElem?_eq_getElem hi] at hx
        cases hx
        have yy := s' _ _ (y3 i ys[i] shs[i] (List.getElem?_eq_getElem hi) (List.getElem?_eq_getElem his))
        refine ⟨ys[i], _, rfl, SqT.of yy, rfl, _, _, rfl, _, _, rfl, _, _, rfl, rfl, ?_⟩
        have hTm : shs[i].1 ∈ shs.map (·.1) := List.mem_map.mpr ⟨_, List.getElem_mem his, rfl⟩
        have hTT : shs[i].1 ∈ Ts.map (·.name) := by rw [hTs]; exact hTm
        have hTp : ∀ k : Int, shs[i].1 ∈ (pieceC ns shs k).map (·.1) := fun k => by rw [pieceC_names]; exact hTm
        generalize shs[i].1 = T at *
        have tabs : ∀ e ∈ LK ns shs ks, (tab e.2 T).length ≤ 1000 ∧ ∀ row ∈ tab e.2 T, RwOk row := fun e he => by
          obtain ⟨n, _, _, e2⟩ := LK_mem he
          rw [e2]
          exact tab_ok (pok n) (hTp n)
        have flen : ∀ n, (flat T ((LK ns shs ks).take n)).length ≤ 5000 := fun n => by
          have := flat_len (T := T) (m := 1000) (es := (LK ns shs ks).take n) fun e he => (tabs e (List.mem_of_mem_take he)).1
          rw [List.length_take, LK_len] at this
          omega
        refine ⟨Nat.zero_le _, fun dl hdl => ?_⟩
        have T0 := Same.upd (o := .lst []) hdl
        have d0 : (upd H' dl (.lst [])) dl = some (.lst []) := upd_same
        generalize upd H' dl (.lst []) = H3 at *
        have s3 := s'.trans T0
        refine ⟨_, rfl, _, rfl, kl, D, rfl, ⟨_, SqL.of (s3 _ _ hk2)⟩, ⟨_, SqL.of (s3 _ _ hpl2)⟩, ?_⟩
        refine for_zipL (K := K) (a := kl) (b := D) (xs := ks.map V.int) (ys := ps.map V.ref) (fun n σ H4 => Same H' H4 ∧ RIn H2 H4 dl (flat T ((LK ns shs ks).take n)) ∧ ∃ (u9 u10 u11 u12 : Option V), σ = [some (.ref a), some (.ref sa), some (.ref l), some (.ref kl), some (.ref D), some (.str T), some (.str shs[i].2.1), some (.str shs[i].2.2), some (.ref dl), u9, u10, u11, u12]) (by rw [List.length_map, List.length_map]; omega) ⟨T0, ⟨[], [], d0, rfl, rfl, fun j x r c h => nomatch h⟩, _, _, _, _, rfl⟩ (fun n σ H4 _ p => ⟨SqL.of (p.1 _ _ (s' _ _ hk2)), SqL.of (p.1 _ _ (s' _ _ hpl2))⟩) ?_ ?_
        · rintro n x y p σ H4 hx hy ⟨s4, hR, u9, u10, u11, u12, rfl⟩ hp
          have hn : n < ks.length := by
            have := (List.getElem?_eq_some_iff.mp hx).1
            rwa [List.length_map] at this
          have hnp : n < ps.length := by omega
          rw [List.getElem?_map, List.getElem?_eq_getElem hn] at hx
          rw [List.getElem?_map, List.getElem?_eq_getElem hnp] at hy
          cases hx
          cases hy
          have T1 := Same.upd (o := .tup [.int ks[n], .ref ps[n]]) hp
          refine ⟨p, _, rfl, SqT.of upd_same, rfl, _, _, rfl, _, _, rfl, rfl, ?_⟩
          generalize upd H4 p (.tup [.int ks[n], .ref ps[n]]) = H5 at *
          have s5 := s4.trans T1
          have hR5 := hR.same T1
          obtain ⟨lr, g1, g2, g3, g4⟩ := PcAt.get (pok n) (hps2 n ps[n] (List.getElem?_eq_getElem hnp)) (hTp n)
          obtain ⟨rs, b1, b2, b3⟩ := g2
          obtain ⟨e, hem, ek, ep⟩ := LK_en hL hn
          generalize ps[n] = pp at *
          have e2 : (LK ns shs ks).take (n + 1) = (LK ns shs ks).take n ++ [(ks[n], pieceC ns shs n)] := by rw [List.take_succ, LK_get hn]; rfl
          refine ⟨_, rfl, _, rfl, pp, _, rfl, g1.same (s'.trans s5), lr, rfl, ⟨_, SqL.of ((s'.trans s5) _ _ b1)⟩, ?_⟩
          refine for_enum (K := K) (a := lr) (xs := rs.map V.ref) (fun j σ H6 => Same H' H6 ∧ RIn H2 H6 dl (flat T ((LK ns shs ks).take n) ++ ((tab (pieceC ns shs n) T).take j).mapIdx fun m row => (ks[n], m, row)) ∧ ∃ (u11 u12 : Option V), σ = [some (.ref a), some (.ref sa), some (.ref l), some (.ref kl), some (.ref D), some (.str T), some (.str shs[i].2.1), some (.str shs[i].2.2), some (.ref dl), some (.int ks[n]), some (.ref pp), u11, u12]) ⟨s5, by rw [List.take_zero]; simpa using hR5, _, _, rfl⟩ (fun j σ H6 _ p => SqL.of (p.1 _ _ (s' _ _ b1))) ?_ ?_
          · rintro j x p6 σ H6 hx ⟨s6, ⟨xs3, rs3, q1, q2, q3, q4⟩, u11, u12, rfl⟩ hp6
            have hj : j < rs.length := by
              have := (List.getElem?_eq_some_iff.mp hx).1
              rwa [List.length_map] at this
            have hjt : j < (tab (pieceC ns shs n) T).length := by omega
            rw [List.getElem?_map, List.getElem?_eq_getElem hj] at hx
            cases hx
            have T7 := Same.upd (o := .tup [.int (j : Nat), .ref rs[j]]) hp6
            refine ⟨p6, _, rfl, SqT.of upd_same, rfl, _, _, rfl, _, _, rfl, rfl, ?_⟩
            show tSeq _ _ _ _ (upd H6 p6 (.tup [.int (j : Nat), .ref rs[j]]))
            generalize upd H6 p6 (.tup [.int (j : Nat), .ref rs[j]]) = H7 at *
            have d7 := T7 _ _ q1
            refine ⟨_, rfl, .inl ⟨rfl, _, SqL.of d7⟩, _, rfl, _, rfl, _, rfl, (by show 3 ≤ sizeLine; decide), fun t ht => ?_⟩
            have T8 := Same.upd (o := .tup [.int ks[n], .int (j : Nat), .ref rs[j]]) ht
            have t8 : (upd H7 t (.tup [.int ks[n], .int (j : Nat), .ref rs[j]])) t = some (.tup [.int ks[n], .int (j : Nat), .ref rs[j]]) := upd_same
            generalize upd H7 t (.tup [.int ks[n], .int (j : Nat), .ref rs[j]]) = H8 at *
            have T78 := T7.trans T8
            have tf : t ≠ dl := fun e => by rw [e, d7] at ht; cases ht
            have hle : (flat T ((LK ns shs ks).take n) ++ ((tab (pieceC ns shs n) T).take j).mapIdx fun m row => (ks[n], m, row)).length ≤ 6000 := by
              rw [List.length_append, List.length_mapIdx, List.length_take]
              have := flen n
              omega
            refine ⟨dl, _, _, rfl, rfl, T8 _ _ d7, (by rw [List.length_map, q2, sizeLine_eq]; omega), ?_⟩
            have s9 : Same H' (upd H8 dl (.lst (xs3.map V.ref ++ [V.ref t]))) := (s6.trans T78).put hdl
            have hR9 : RIn H2 (upd H8 dl (.lst (xs3.map V.ref ++ [V.ref t]))) dl (flat T ((LK ns shs ks).take n) ++ ((tab (pieceC ns shs n) T).take (j + 1)).mapIdx fun m row => (ks[n], m, row)) := by
              have e2 : (tab (pieceC ns shs n) T).take (j + 1) = (tab (pieceC ns shs n) T).take j ++ [(tab (pieceC ns shs n) T)[j]] := by rw [List.take_succ, List.getElem?_eq_getElem hjt]; rfl
              rw [e2, List.mapIdx_concat, ← List.append_assoc]
              refine RIn.snoc (H := H6) (x := t) (r := rs[j]) (xs := xs3) (rs := rs3) (by rw [upd_same, List.map_append]; rfl) q2 q3 q4 (fun b ob nb e => by rw [upd_ne nb]; exact T78 _ _ e) (fun _ => .inr trivial) ⟨_, q1⟩ ?_ (b3 j _ _ (List.getElem?_eq_getElem hj) (List.getElem?_eq_getElem hjt))
              rw [upd_ne tf, t8, List.length_take]
              rw [Nat.min_eq_left (by omega)]
            generalize upd H8 dl (.lst (xs3.map V.ref ++ [V.ref t])) = H9 at *
            have S9 := s'.trans s9
            refine ⟨_, rfl, a, dx, _, rfl, S9 _ _ ha2, flds_no (by decide +kernel) (by decide +kernel), _, rfl, _, rfl, _, rfl, a, sz, T, Ts, es, e, j, (tab (pieceC ns shs n) T)[j], (by rw [ek]; rfl), hP2.same S9, hem, hTT, (by rw [ep]; exact List.getElem?_eq_getElem hjt), fun r H10 s10 h10 => ?_⟩
            have rok := g4 _ (List.getElem_mem hjt)
            have rr := (S9.trans s10) _ _ (b3 j _ _ (List.getElem?_eq_getElem hj) (List.getElem?_eq_getElem hjt))
            obtain ⟨kvs, kws, n1, n2, n3, n4, n5⟩ := ne_dv (row_dv rok (cut_sub _ _ h10)) (row_dv rok rr)
            exact ⟨_, rfl, 0, r, rs[j], kvs, kws, rfl, rfl, n1, n2, n3, n4, n5, hu, _, rfl, iteF ⟨s9.trans s10, hR9.same s10, _, _, rfl⟩⟩
          · rintro σ H6 ⟨s6, hR6, u11, u12, rfl⟩
            rw [List.length_map, b2, List.take_length] at hR6
            refine ⟨s6, ?_, _, _, _, _, rfl⟩
            rw [e2, flat_snoc]
            exact hR6
        · rintro σ H4 ⟨s4, hR, u9, u10, u11, u12, rfl⟩
          rw [List.length_map, ← LK_len ns shs ks, List.take_length] at hR
          have S4 := s'.trans s4
          have fl5 := flen (LK ns shs ks).length
          rw [List.take_length] at fl5
          refine ⟨_, rfl, a, dx, _, rfl, S4 _ _ ha2, flds_no (by decide +kernel) (by decide +kernel), _, rfl, a, sz, T, Ts, es, rfl, hP2.same S4, hTT, (by rw [hL]; omega), fun rl H5 s5 h5 => ?_⟩
          rw [hL] at h5
          obtain ⟨xs5, x1, x2, x3⟩ := h5.same cut_sub
          obtain ⟨xs6, rs6, z1, z2, z3, z4⟩ := hR.same s5
          refine ⟨_, rfl, 2, rl, dl, _, _, rfl, rfl, SqL.of x1, SqL.of z1, (by rw [List.length_map, List.length_map]; omega), due_dq (flat_ok fun e he => (tabs e he).2) x2 z2 z3 x3 z4 (S4.trans s5), hu3, _, rfl, iteF ?_⟩
          exact ⟨S4.trans s5, _, _, _, _, _, _, _, _, rfl⟩
      · rintro σ H' ⟨s', u5, u6, u7, u8, u9, u10, u11, u12, rfl⟩
        refine ⟨_, rfl, _, rfl, kl, D, rfl, ⟨_, SqL.of (s' _ _ hk2)⟩, ⟨_, SqL.of (s' _ _ hpl2)⟩, ?_⟩
        refine for_zipL (K := K) (a := kl) (b := D) (xs := ks.map V.int) (ys := ps.map V.ref) (fun n σ H4 => Same H' H4 ∧ ∃ (u9 u10 : Option V), σ = [some (.ref a), some (.ref sa), some (.ref l), some (.ref kl), some (.ref D), u5, u6, u7, u8, u9, u10, u11, u12]) (by rw [List.length_map, List.length_map]; omega) ⟨Same.refl _, _, _, rfl⟩ (fun n σ H4 _ p => ⟨SqL.of (p.1 _ _ (s' _ _ hk2)), SqL.of (p.1 _ _ (s' _ _ hpl2))⟩) ?_ ?_
        · rintro n x y p σ H4 hx hy ⟨s4, u9, u10, rfl⟩ hp
          have hn : n < ks.length := by
            have := (List.getElem?_eq_some_iff.mp hx).1
            rwa [List.length_map] at this
          have hnp : n < ps.length := by omega
          rw [List.getElem?_map, List.getElem?_eq_getElem hn] at hx
          rw [List.getElem?_map, List.getElem?_eq_getElem hnp] at hy
          cases hx
          cases hy
          have T1 := Same.upd (o := .tup [.int ks[n], .ref ps[n]]) hp
          refine ⟨p, _, rfl, SqT.of upd_same, rfl, _, _, rfl, _, _, rfl, rfl, ?_⟩
          generalize upd H4 p (.tup [.int ks[n], .ref ps[n]]) = H5 at *
          have S5 := s'.trans (s4.trans T1)
          obtain ⟨e, hem, ek, ep⟩ := LK_en hL hn
          have hpp := hps2 n ps[n] (List.getElem?_eq_getElem hnp)
          refine ⟨_, rfl, a, dx, _, rfl, S5 _ _ ha2, flds_no (by decide +kernel) (by decide +kernel), _, rfl, a, sz, Ts, es, e, (by rw [ek]; rfl), hP2.same S5, hem, fun p6 H6 s6 h6 => ?_⟩
          rw [ep] at h6
          obtain ⟨kvs, kws, n1, n2, n3, n4, n5⟩ := ne_dv (pc_dv (pok n) (h6.same cut_sub)) (pc_dv (pok n) (hpp.same (S5.trans s6)))
          exact ⟨_, rfl, 2, p6, ps[n], kvs, kws, rfl, rfl, n1, n2, n3, n4, n5, hu3, _, rfl, iteF ⟨s4.trans (T1.trans s6), _, _, rfl⟩⟩
        · rintro σ H4 ⟨s4, u9, u10, rfl⟩
          exact fin H4 (s'.trans s4)
end
end My

namespace My
open PySem L2 PyProof.Rows
seal L2.PE L2.PT L2.PW L2.PS L2.PSs L2.PA L2.PI L2.PG L2.PGs L2.OpR L2.UnR L2.CallR L2.IxR L2.SlR L2.MtR L2.PIf L2.PO L2.MtM L2.PC
/-- a list of at most n dicts, whatever they hold -/
def LW (G : Hp) (n : Nat) (l : Addr) : Prop := ∃ rs : List Addr, G l = some (.lst (rs.map V.ref)) ∧ rs.length ≤ n ∧ ∀ r ∈ rs, ∃ kvs, G r = some (.dK kvs)
theorem LW.same {G G' : Hp} {n : Nat} {l : Addr} (h : LW G n l) (s : Same G G') : LW G' n l := let ⟨rs, a, b, c⟩ := h; ⟨rs, s _ _ a, b, fun r hr => let ⟨kvs, e⟩ := c r hr; ⟨kvs, s _ _ e⟩⟩
theorem LW.clr {G : Hp} {n : Nat} {l r0 : Addr} {kvs0 : List (Key × V)} (h : LW G n l) (h0 : G r0 = some (.dK kvs0)) : LW (upd G r0 (.dK [])) n l := by
  obtain ⟨rs, a, b, c⟩ := h
  refine ⟨rs, by rw [upd_ne fun e => by rw [e, h0] at a; cases a]; exact a, b, fun r hr => ?_⟩
  by_cases e : r = r0
  · subst e
    exact ⟨_, upd_same⟩
  · obtain ⟨kvs, x⟩ := c r hr
    exact ⟨kvs, by rw [upd_ne e]; exact x⟩
theorem LW.app {G : Hp} {n : Nat} {l l0 d : Addr} {rs : List Addr} {kvs0 : List (Key × V)} (h : LW G n l) (e0 : G l0 = some (.lst (rs.map V.ref))) (hn : rs.length ≤ n) (h0 : ∀ r ∈ rs, ∃ kvs, G r = some (.dK kvs)) (hd : G d = some (.dK kvs0)) : LW (upd G l0 (.lst (rs.map V.ref ++ [.ref d]))) (n + 1) l := by
  have keep : ∀ r, (∃ kvs, G r = some (.dK kvs)) → ∃ kvs, (upd G l0 (.lst (rs.map V.ref ++ [.ref d]))) r = some (.dK kvs) := fun r ⟨kvs, x⟩ => ⟨kvs, by rw [upd_ne fun e => by rw [e, e0] at x; cases x]; exact x⟩
  by_cases e : l = l0
  · subst e
    refine ⟨rs ++ [d], by rw [upd_same, List.map_append]; rfl, by rw [List.length_append]; show rs.length + 1 ≤ _; omega, fun r hr => ?_⟩
    rcases List.mem_append.mp hr with hr | hr
    · exact keep r (h0 r hr)
    · rw [List.mem_singleton.mp hr]
      exact keep d ⟨_, hd⟩
  · obtain ⟨qs, a, b, c⟩ := h
    exact ⟨qs, by rw [upd_ne e]; exact a, by omega, fun r hr => keep r (c r hr)⟩
/-- the tuples told by rows, whatever their dicts hold -/
def TW (G : Hp) (xs : List Addr) : Prop := ∀ x ∈ xs, ∃ u v r kvs, G x = some (.tup [u, v, .ref r]) ∧ G r = some (.dK kvs)
theorem TW.clr {G : Hp} {r0 : Addr} {xs : List Addr} {kvs0 : List (Key × V)} (h : TW G xs) (h0 : G r0 = some (.dK kvs0)) : TW (upd G r0 (.dK [])) xs := fun x hx => by
  obtain ⟨u, v, r, kvs, a, b⟩ := h x hx
  have nx : x ≠ r0 := fun e => by rw [e, h0] at a; cases a
  by_cases e : r = r0
  · subst e
    exact ⟨u, v, r, _, by rw [upd_ne nx]; exact a, upd_same⟩
  · exact ⟨u, v, r, kvs, by rw [upd_ne nx]; exact a, by rw [upd_ne e]; exact b⟩
def spSpoil (CP : Addr) : Sp := fun vs H Q _ => ∃ (a l kl : Addr) (sz : Int) (Ts : List Tb) (es : List En) (shs : List Sh) (ks : List Int), vs = [.ref a, .ref l, .ref kl] ∧ PlAt CP H a sz Ts es ∧ Ts.map (·.name) = shs.map (·.1) ∧ ShAt H l shs ∧ H kl = some (.lst (ks.map V.int)) ∧ (∀ k ∈ ks, ∃ e ∈ es, e.k = k ∧ PcOk e.pc) ∧ (∀ T ∈ Ts.map (·.name), (flat T (srt (es.map kc))).length ≤ 100000) ∧ ∀ H', Same H H' → Q .non H'
def slN : List Str := ["_law_plain", "_law_sheets_here", "_law_keys_here", "_law_name", "_law_sort", "_law_column", "_law_rows", "_law_row", "_law_key", "_law_piece_here"]
section
variable {P : Program} {w : World} {K : PySem.W.Frag} {mg : Str → Option Value} {base : Heap} {CP fR fO fP fH : Addr} {fdR fdO fdP fdH : FuncData}
theorem ok_spoil {f : Addr} {fd : FuncData} (F : Fun K "_law_spoil" "_law_spoil" (top 47) f fd) (M : Ms P w K mg base CP fR fO fP fH fdR fdO fdP fdH) : FnOk P w K mg base CX0 3 f fd ["_law_plain", "_law_sheets_here", "_law_keys_here"] (spSpoil CP) := by
  have sc : FnScope slN ["_law_plain", "_law_sheets_here", "_law_keys_here"] (defScope (top 47)) := ⟨rfl, rfl, rfl, by decide +kernel, rfl, by decide +kernel, by decide +kernel⟩
  refine F.ok sc (fun vs H Q E h => ?_) (fun cdv A outer s H vs Q E hr h => ?_)
  · obtain ⟨a, l, kl, sz, Ts, es, shs, ks, rfl, _⟩ := h
    rfl
  · obtain ⟨a, l, kl, sz, Ts, es, shs, ks, rfl, hPl, hTs, ⟨ys, y1, y2, y3⟩, hk, hes, hfl, q⟩ := h
    have hu : (A.deeper (envOfC "_law_spoil" (defScope (top 47)) s.heap.objs.size f cdv)).units + 1 < cLine := hu_of hr
    refine ⟨_, pss_cons (ps_for PassesOwn.never rfl (pi_list (pv 1)) (pg_tup rfl (pgs_cons (pg_name (i := 3) sc.nd rfl (Or.inl rfl)) (pgs_cons (pg_name (i := 4) sc.nd rfl (Or.inl rfl)) (pgs_cons (pg_name (i := 5) sc.nd rfl (Or.inl rfl)) pgs_nil))))
        (pss_cons (ps_set (i := 6) sc.nd rfl (Or.inl rfl) (pe_meth (pv 0) M.L.cl M.mO M.gO hr M.bO .nil pass0 (pa_cons (pv 3) pa_nil)))
        (pss_cons (ps_for PassesOwn.never rfl (pi_list (pv 6)) (pg_name (i := 7) sc.nd rfl (Or.inl rfl))
          (pss_one (ps_expr (pe_bm0 PySem.F.plainAttrs_dict PySem.F.slot_dict_clear PySem.F.type_dict_clear mt_dclear (pe_ix ix_tup (pv 7) pe_int (fun _ _ => rfl))))))
        (pss_one (ps_expr (pe_bm0 PySem.F.plainAttrs_list PySem.F.slot_list_clear PySem.F.type_list_clear mt_clr (pv 6)))))))
      (pss_one (ps_for PassesOwn.never rfl (pi_list (pv 2)) (pg_name (i := 8) sc.nd rfl (Or.inl rfl))
        (pss_cons (ps_set (i := 9) sc.nd rfl (Or.inl rfl) (pe_meth (pv 0) M.L.cl M.mP M.gP hr M.bP .nil pass0 (pa_cons (pv 8) pa_nil)))
        (pss_one (ps_frz (ps_for PassesOwn.never rfl (pi_dict (pv 9)) (pg_name (i := 3) sc.nd rfl (Or.inl rfl))
          (pss_cons (ps_for PassesOwn.never rfl (pi_list (pe_dget hu (pv 9) (pv 3) (fun _ _ => rfl))) (pg_name (i := 7) sc.nd rfl (Or.inl rfl))
            (pss_one (ps_expr (pe_bm0 PySem.F.plainAttrs_dict PySem.F.slot_dict_clear PySem.F.type_dict_clear mt_dclear (pv 7)))))
          (pss_one (ps_expr (pe_bm PySem.F.plainAttrs_list PySem.F.slot_list_append PySem.F.type_list_append mt_app (pe_dget hu (pv 9) (pv 3) (fun _ _ => rfl)) (pa_cons pe_dnewK pa_nil))))))))))), ?_⟩
    obtain ⟨dx, fo, td, ha, _⟩ := id hPl.ex
    refine ⟨_, rfl, l, rfl, ⟨_, SqL.of y1⟩, for_list (K := K) (a := l) (xs := ys.map V.ref) (fun i σ H' => Same H H' ∧ ∃ (u3 u4 u5 u6 u7 u8 u9 : Option V), σ = [some (.ref a), some (.ref l), some (.ref kl), u3, u4, u5, u6, u7, u8, u9]) ⟨Same.refl _, _, _, _, _, _, _, _, rfl⟩ (fun i σ H' _ p => SqL.of (p.1 _ _ y1)) ?_ ?_⟩
    · rintro i x σ H' hx ⟨s', u3, u4, u5, u6, u7, u8, u9, rfl⟩
      have hi : i < ys.length := by
        have := (List.getElem?_eq_some_iff.mp hx).1
        rwa [List.length_map] at this
      have his : i < shs.length := by omega
      rw [List.getElem?_map, List.getElem?_eq_getElem hi] at hx
      cases hx
      have yy := s' _ _ (y3 i ys[i] shs[i] (List.getElem?_eq_getElem hi) (List.getElem?_eq_getElem his))
      refine ⟨ys[i], _, rfl, SqT.of yy, rfl, _, _, rfl, _, _, rfl, _, _, rfl, rfl, ?_⟩
      have hTT : shs[i].1 ∈ Ts.map (·.name) := by rw [hTs]; exact List.mem_map.mpr ⟨_, List.getElem_mem his, rfl⟩
      generalize shs[i].1 = T at *
      refine ⟨_, rfl, a, dx, _, rfl, s' _ _ ha, flds_no (by decide +kernel) (by decide +kernel), _, rfl, a, sz, T, Ts, es, rfl, hPl.same s', hTT, hfl T hTT, fun rl H1 s1 h1 => ?_⟩
      obtain ⟨xs, x1, x2, x3⟩ := h1
      have hTW : TW (cut H' H1) xs := fun x hx => by
        obtain ⟨j, hj⟩ := List.getElem?_of_mem hx
        have hjl : j < xs.length := (List.getElem?_eq_some_iff.mp hj).1
        obtain ⟨r, b1, b2⟩ := x3 j x _ hj (List.getElem?_eq_getElem (by omega))
        exact ⟨_, _, r, _, b1, b2⟩
      refine ⟨_, rfl, rl, rfl, ⟨_, SqL.of (cut_sub _ _ x1)⟩, for_list (K := K) (a := rl) (xs := xs.map V.ref) (fun j σ H2 => Same H' H2 ∧ cut H' H2 rl = some (.lst (xs.map V.ref)) ∧ TW (cut H' H2) xs ∧ ∃ (u7 : Option V), σ = [some (.ref a), some (.ref l), some (.ref kl), some (.str T), some (.str shs[i].2.1), some (.str shs[i].2.2), some (.ref rl), u7, u8, u9]) ⟨s1, x1, hTW, _, rfl⟩ (fun j σ H2 _ p => SqL.of (cut_sub _ _ p.2.1)) ?_ ?_⟩
      · rintro j x σ H2 hx ⟨s2, r2, w2, u7, rfl⟩
        obtain ⟨x0, hx0, rfl⟩ := List.mem_map.mp (List.mem_of_getElem? hx)
        obtain ⟨u, v, r, kvs, b1, b2⟩ := w2 x0 hx0
        refine ⟨_, rfl, x0, _, 2, _, rfl, rfl, SqT.of (cut_sub _ _ b1), rfl, .inr (.inr (.inl ⟨rfl, .inl ⟨_, cut_sub _ _ b2⟩⟩)), r, _, rfl, rfl, cut_sub _ _ b2, ?_⟩
        have hr0 := cut_new b2
        refine ⟨s2.put hr0, ?_, ?_, _, rfl⟩
        · rw [cut_put hr0, upd_ne fun e => by rw [e, b2] at r2; cases r2]
          exact r2
        · rw [cut_put hr0]
          exact w2.clr b2
      · rintro σ H2 ⟨s2, r2, w2, u7, rfl⟩
        refine ⟨_, rfl, .inl ⟨rfl, _, SqL.of (cut_sub _ _ r2)⟩, rl, _, rfl, rfl, cut_sub _ _ r2, ?_⟩
        exact ⟨s'.trans (s2.put (cut_new r2)), _, _, _, _, _, _, _, rfl⟩
    · rintro σ H' ⟨s', u3, u4, u5, u6, u7, u8, u9, rfl⟩
      have hk' := s' _ _ hk
      refine ⟨_, rfl, kl, rfl, ⟨_, SqL.of hk'⟩, for_list (K := K) (a := kl) (xs := ks.map V.int) (fun i σ H2 => Same H H2 ∧ ∃ (u3 u7 u8 u9 : Option V), σ = [some (.ref a), some (.ref l), some (.ref kl), u3, u4, u5, u6, u7, u8, u9]) ⟨s', _, _, _, _, rfl⟩ (fun i σ H2 _ p => SqL.of (p.1 _ _ hk)) ?_ ?_⟩
      · rintro i x σ H2 hx ⟨s2, u3, u7, u8, u9, rfl⟩
        obtain ⟨k, hkm, rfl⟩ := List.mem_map.mp (List.mem_of_getElem? hx)
        obtain ⟨e, hem, ek, epo⟩ := hes k hkm
        refine ⟨_, rfl, a, dx, _, rfl, s2 _ _ ha, flds_no (by decide +kernel) (by decide +kernel), _, rfl, a, sz, Ts, es, e, (by rw [ek]; rfl), hPl.same s2, hem, fun p H3 s3 h3 => ?_⟩
        obtain ⟨ls, l1, l2, l3⟩ := h3
        have hp0 := cut_new l1
        have hLW4 : ∀ (G : Hp), (∀ b ob, b ≠ p → cut H2 H3 b = some ob → G b = some ob) → ∀ l ∈ ls, LW G 1000 l := fun G sG l hl => by
          obtain ⟨j, hj⟩ := List.getElem?_of_mem hl
          have hjl : j < ls.length := (List.getElem?_eq_some_iff.mp hj).1
          have hjp : j < e.pc.length := by omega
          obtain ⟨rs, b1, b2, b3⟩ := l3 j l e.pc[j] hj (List.getElem?_eq_getElem hjp)
          refine ⟨rs, sG _ _ (fun e => by rw [e, l1] at b1; cases b1) b1, by rw [b2]; exact epo.rl _ (List.getElem_mem hjp), fun r hr => ?_⟩
          obtain ⟨n, hn⟩ := List.getElem?_of_mem hr
          have hnl : n < rs.length := (List.getElem?_eq_some_iff.mp hn).1
          have b4 := b3 n r e.pc[j].2[n] hn (List.getElem?_eq_getElem (by omega))
          refine ⟨_, sG _ _ (fun e2 => ?_) b4⟩
          rw [e2, l1] at b4
          injection b4 with x1
          injection x1 with x2
          have hm : ((.inr e.pc[j].1 : Key), V.ref l) ∈ zK (e.pc.map (·.1)) ls := zK_mem (j := j) (by rw [List.getElem?_map, List.getElem?_eq_getElem hjp]; rfl) hj
          rw [x2] at hm
          exact rK_flat (epo.rw_ _ (List.getElem_mem hjp) _ (List.getElem_mem _)) hm
        generalize hkv : zK (e.pc.map (·.1)) ls = kvs at *
        have kvm : ∀ (j : Nat) (k : Key) (v : V), kvs[j]? = some (k, v) → ∃ z l, k = .inr z ∧ v = .ref l ∧ l ∈ ls ∧ valV kvs (.inr z) = some (.ref l) := fun j k v hj => by
          rw [← hkv] at hj
          obtain ⟨z, l, g1, g2, g3, g4⟩ := zK_get hj
          refine ⟨z, l, g3, g4, List.mem_of_getElem? g2, ?_⟩
          rw [← hkv]
          exact zw_val epo.nd g1 (by rw [List.getElem?_map, g2]; rfl)
        have kvl : kvs.length ≤ 8 := by
          rw [← hkv, zK_len (by rw [List.length_map]; exact l2), List.length_map]
          exact epo.le
        refine ⟨p, kvs, cut_sub _ _ l1, fun o => ?_⟩
        have hf : (upd H3 p (.frz o (.dK kvs))) p = some (.frz o (.dK kvs)) := upd_same
        have s4 : Same H2 (upd H3 p (.frz o (.dK kvs))) := s3.put hp0
        have hW4 : ∀ l ∈ ls, LW (cut H2 (upd H3 p (.frz o (.dK kvs)))) 1000 l := hLW4 _ fun b ob nb e => by rw [cut_put hp0, upd_ne nb]; exact e
        generalize upd H3 p (.frz o (.dK kvs)) = H4 at *
        refine ⟨_, rfl, p, o, _, rfl, hf, for_dict (a := p) (o := o) (kvs := kvs) (fun i σ H5 => H5 p = some (.frz o (.dK kvs)) ∧ Same H2 H5 ∧ (∀ l ∈ ls, LW (cut H2 H5) (1000 + i) l) ∧ ∃ (u3 u7 : Option V), σ = [some (.ref a), some (.ref l), some (.ref kl), u3, u4, u5, u6, u7, some (.int k), some (.ref p)]) ⟨hf, s4, hW4, _, _, rfl⟩ (fun i σ H5 _ p => p.1) ?_ ?_⟩
        · rintro i k' v σ H5 hkv5 ⟨f5, s5, w5, u3, u7, rfl⟩
          obtain ⟨z, l', rfl, rfl, hl', hval⟩ := kvm i k' v hkv5
          have hi8 : i < 8 := by have := (List.getElem?_eq_some_iff.mp hkv5).1; omega
          obtain ⟨rs, b1, b2, b3⟩ := w5 l' hl'
          refine ⟨_, rfl, _, rfl, p, _, rfl, .inl ⟨kvs, .inr z, .inr ⟨o, f5⟩, rfl, hval.symm⟩, l', rfl, ⟨_, SqL.of (cut_sub _ _ b1)⟩, for_list (K := K) (a := l') (xs := rs.map V.ref) (fun j σ H6 => H6 p = some (.frz o (.dK kvs)) ∧ Same H2 H6 ∧ (∀ l ∈ ls, LW (cut H2 H6) (1000 + i) l) ∧ cut H2 H6 l' = some (.lst (rs.map V.ref)) ∧ (∀ r ∈ rs, ∃ kvs, cut H2 H6 r = some (.dK kvs)) ∧ ∃ (u7 : Option V), σ = [some (.ref a), some (.ref l), some (.ref kl), some (.str z), u4, u5, u6, u7, some (.int k), some (.ref p)]) ⟨f5, s5, w5, b1, b3, _, rfl⟩ (fun j σ H6 _ p => SqL.of (cut_sub _ _ p.2.2.2.1)) ?_ ?_⟩
          · rintro j x σ H6 hx ⟨f6, s6, w6, c1, c3, u7, rfl⟩
            obtain ⟨r, hr', rfl⟩ := List.mem_map.mp (List.mem_of_getElem? hx)
            obtain ⟨kvs1, d1⟩ := c3 r hr'
            have dr := cut_sub _ _ d1
            have hr0 := cut_new d1
            refine ⟨_, rfl, .inr (.inr (.inl ⟨rfl, .inl ⟨_, dr⟩⟩)), r, _, rfl, rfl, dr, ?_⟩
            refine ⟨by rw [upd_ne fun e => by rw [e, dr] at f6; cases f6]; exact f6, s6.put hr0, fun l hl => by rw [cut_put hr0]; exact (w6 l hl).clr d1, ?_, fun r2 h2 => ?_, _, rfl⟩
            · rw [cut_put hr0, upd_ne fun e => by rw [e, d1] at c1; cases c1]
              exact c1
            · rw [cut_put hr0]
              by_cases e : r2 = r
              · subst e
                exact ⟨_, upd_same⟩
              · rw [upd_ne e]
                exact c3 r2 h2
          · rintro σ H6 ⟨f6, s6, w6, c1, c3, u7, rfl⟩
            refine ⟨_, rfl, _, rfl, p, _, rfl, .inl ⟨kvs, .inr z, .inr ⟨o, f6⟩, rfl, hval.symm⟩, .inl ⟨rfl, _, SqL.of (cut_sub _ _ c1)⟩, fun d hd => ?_⟩
            have T7 := Same.upd (o := .dK []) hd
            have d7 : (upd H6 d (.dK [])) d = some (.dK []) := upd_same
            generalize upd H6 d (.dK []) = H7 at *
            have c7 := cut_up (H0 := H2) T7 _ _ c1
            have l0 := cut_new c7
            refine ⟨l', _, _, rfl, rfl, cut_sub _ _ c7, (by rw [List.length_map, sizeLine_eq]; omega), ?_⟩
            have f7 := T7 _ _ f6
            refine ⟨by rw [upd_ne fun e => by rw [e, cut_sub _ _ c7] at f7; cases f7]; exact f7, (s6.trans T7).put l0, fun l hl => ?_, _, _, rfl⟩
            rw [cut_put l0]
            exact ((w6 l hl).same (cut_up T7)).app c7 b2 (fun r hr => let ⟨kv, e⟩ := c3 r hr; ⟨kv, cut_up T7 _ _ e⟩) (cut_at (none_of s6 hd) d7)
        · rintro σ H5 ⟨f5, s5, w5, u3, u7, rfl⟩
          exact ⟨f5, s2.trans (s5.put hp0), _, _, _, _, rfl⟩
      · rintro σ H2 ⟨s2, u3, u7, u8, u9, rfl⟩
        exact q H2 s2
end
end My

namespace My
open PySem L2 PyProof.Rows
seal L2.PE L2.PT L2.PW L2.PS L2.PSs L2.PA L2.PI L2.PG L2.PGs L2.OpR L2.UnR L2.CallR L2.IxR L2.SlR L2.MtR L2.PIf L2.PO L2.MtM L2.PC
theorem LK_one {ns : List Int} {shs : List Sh} {ks : List Int} {es : List En} (hL : srt (es.map kc) = LK ns shs ks) (hp : ks.Pairwise (· < ·)) {i : Nat} (h : i < ks.length) {e : En} (he : e ∈ es) (ek : e.k = ks[i]) : e.pc = pieceC ns shs i := by
  have hm : kc e ∈ LK ns shs ks := by
    rw [← hL]
    exact (srt_perm _).mem_iff.mpr (List.mem_map.mpr ⟨e, he, rfl⟩)
  obtain ⟨j, hj, h1, h2⟩ := LK_mem hm
  rw [List.getElem?_eq_getElem hj] at h1
  injection h1 with h1
  have h1' : ks[j] = ks[i] := h1.trans ek
  have hij : j = i := by
    have pw := List.pairwise_iff_getElem.mp hp
    rcases Nat.lt_trichotomy j i with c | c | c
    · have := pw j i hj h c
      omega
    · exact c
    · have := pw i j h hj c
      omega
  rw [hij] at h2
  exact h2
def spLacks (K : PySem.W.Frag) (CP : Addr) : Sp := fun vs H Q _ => ∃ (a sa l kl : Addr) (sz : Int) (Ts : List Tb) (es : List En) (ns : List Int) (shs : List Sh) (ks : List Int) (ot : Int), vs = [.ref a, .ref sa, .ref l, .ref kl, .int ot] ∧ PlAt CP H a sz Ts es ∧ Ts.map (·.name) = shs.map (·.1) ∧ SqL K H sa (ns.map V.int) ∧ ShAt H l shs ∧ ShOk shs ∧ H kl = some (.lst (ks.map V.int)) ∧ ks.length ≤ 5 ∧ ks.Pairwise (· < ·) ∧ srt (es.map kc) = LK ns shs ks ∧ (∀ e ∈ es, e.k ≠ ot ∧ 0 ≤ e.k) ∧ ∀ H', Same H H' → Q (.bl true) H'
def lcN : List Str := ["_law_plain", "_law_script", "_law_sheets_here", "_law_keys_here", "_law_other", "_law_name", "_law_sort", "_law_column", "_law_k", "_law_key", "_law_many_here"]
section
variable {P : Program} {w : World} {K : PySem.W.Frag} {mg : Str → Option Value} {base : Heap} {CP CT CO CM fR fO fP : Addr} {fdR fdO fdP : FuncData}
theorem ok_lacks {f fC fM fL fI : Addr} {fd fdC fdM fdL fdI : FuncData} (F : Fun K "_law_lacks" "_law_lacks" (top 49) f fd) (B : Bl mg) (R : Rf K mg CT CO CM) (M : MsX P w K mg base CP CO CM fR fO fP fdR fdO fdP) (DC : Df K mg "_law_cell" (top 39) fC fdC) (DM : Df K mg "_law_many" (top 44) fM fdM) (DL : Df K mg "_law_piece" (top 45) fL fdL) (DI : Df K mg "_law_missing" (top 48) fI fdI) :
    FnOk P w K mg base CX0 5 f fd ["_law_plain", "_law_script", "_law_sheets_here", "_law_keys_here", "_law_other"] (spLacks K CP) := by
  have sc : FnScope lcN ["_law_plain", "_law_script", "_law_sheets_here", "_law_keys_here", "_law_other"] (defScope (top 49)) := ⟨rfl, rfl, rfl, by decide +kernel, rfl, by decide +kernel, by decide +kernel⟩
  have GL : FnOk P w K mg base CX0 3 fL fdL ["_law_script", "_law_sheets_here", "_law_k"] (spPieceL K) := ok_pieceL DL.fn B DC DM
  have bL := DL.fn.binds (ps := ["_law_script", "_law_sheets_here", "_law_k"]) fun _ _ _ _ _ _ us hl => by obtain ⟨v0, v1, v2, rfl⟩ := L2.ln3 hl; rfl
  have GI : FnOk P w K mg base CX0 4 fI fdI ["_law_plain", "_law_name", "_law_key", "_law_place"] (spMissing CP) := ok_missing DI.fn R M
  have bI := DI.fn.binds (ps := ["_law_plain", "_law_name", "_law_key", "_law_place"]) fun _ _ _ _ _ _ us hl => by obtain ⟨v0, v1, v2, v3, rfl⟩ := L2.ln4 hl; rfl
  refine F.ok sc (fun vs H Q E h => ?_) (fun cdv A outer s H vs Q E hr h => ?_)
  · obtain ⟨a, sa, l, kl, sz, Ts, es, ns, shs, ks, ot, rfl, _⟩ := h
    rfl
  · obtain ⟨a, sa, l, kl, sz, Ts, es, ns, shs, ks, ot, rfl, hPl, hTs, hS, ⟨ys, y1, y2, y3⟩, ok, hk, hk5, hkp, hL, hot, q⟩ := h
    have hr3 : Room 3 _ := hr.mono (by decide)
    have hu : (A.deeper (envOfC "_law_lacks" (defScope (top 49)) s.heap.objs.size f cdv)).units + 1 < cLine := hu_of hr
    refine ⟨_, pss_cons (ps_for PassesOwn.never rfl (pi_list (pv 2)) (pg_tup rfl (pgs_cons (pg_name (i := 5) sc.nd rfl (Or.inl rfl)) (pgs_cons (pg_name (i := 6) sc.nd rfl (Or.inl rfl)) (pgs_cons (pg_name (i := 7) sc.nd rfl (Or.inl rfl)) pgs_nil))))
        (pss_cons (ps_if (PW.pt (pw_or (pt_not (pt_val (pe_call GI hr (by rfl) DI.mg DI.fn.kp bI .nil pass0 (pa_cons (pv 0) (pa_cons (pv 5) (pa_cons (pv 4) (pa_cons pe_int pa_nil))))))) (pw_or1 (pt_not (pt_val (pe_call GI hr (by rfl) DI.mg DI.fn.kp bI .nil pass0 (pa_cons (pv 0) (pa_cons (pv 5) (pa_cons (pe_un un_neg pe_int) (pa_cons pe_int pa_nil)))))))))) pss_never pss_nil)
        (pss_one (ps_for PassesOwn.never rfl (pi_enum (by rfl) B.enum (pa_cons (pv 3) pa_nil)) (pg_tup rfl (pgs_cons (pg_name (i := 8) sc.nd rfl (Or.inl rfl)) (pgs_cons (pg_name (i := 9) sc.nd rfl (Or.inl rfl)) pgs_nil)))
          (pss_cons (ps_set (i := 10) sc.nd rfl (Or.inl rfl) (pe_callB call_len_seq (by rfl) B.len PySem.boot_len (pa_cons (pe_dget hu (pe_call GL hr3 (by rfl) DL.mg DL.fn.kp bL .nil pass0 (pa_cons (pv 1) (pa_cons (pv 2) (pa_cons (pv 8) pa_nil)))) (pv 5) (fun _ _ => rfl)) pa_nil)))
          (pss_one (ps_if (PW.pt (pw_or (pt_not (pt_val (pe_call GI hr (by rfl) DI.mg DI.fn.kp bI .nil pass0 (pa_cons (pv 0) (pa_cons (pv 5) (pa_cons (pv 9) (pa_cons (pv 10) pa_nil))))))) (pw_or1 (pt_not (pt_val (pe_call GI hr (by rfl) DI.mg DI.fn.kp bI .nil pass0 (pa_cons (pv 0) (pa_cons (pv 5) (pa_cons (pv 9) (pa_cons (pe_un un_neg pe_int) pa_nil)))))))))) pss_never pss_nil)))))))
      (pss_one (ps_ret pe_bl)), ?_⟩
    have pok : ∀ k : Int, PcOk (pieceC ns shs k) := fun k => pieceC_ok ok
    have hSh : ShAt H l shs := ⟨ys, y1, y2, y3⟩
    refine ⟨_, rfl, l, rfl, ⟨_, SqL.of y1⟩, for_list (K := K) (a := l) (xs := ys.map V.ref) (fun i σ H' => Same H H' ∧ ∃ (u5 u6 u7 u8 u9 u10 : Option V), σ = [some (.ref a), some (.ref sa), some (.ref l), some (.ref kl), some (.int ot), u5, u6, u7, u8, u9, u10]) ⟨Same.refl _, _, _, _, _, _, _, rfl⟩ (fun i σ H' _ p => SqL.of (p.1 _ _ y1)) ?_ ?_⟩
    · rintro i x σ H' hx ⟨s', u5, u6, u7, u8, u9, u10, rfl⟩
      have hi : i < ys.length := by
        have := (List.getElem?_eq_some_iff.mp hx).1
        rwa [List.length_map] at this
      have his : i < shs.length := by omega
      rw [List.getElem?_map, List.getElem?_eq_getElem hi] at hx
      cases hx
      have yy := s' _ _ (y3 i ys[i] shs[i] (List.getElem?_eq_getElem hi) (List.getElem?_eq_getElem his))
      refine ⟨ys[i], _, rfl, SqT.of yy, rfl, _, _, rfl, _, _, rfl, _, _, rfl, rfl, ?_⟩
      have hTm : shs[i].1 ∈ shs.map (·.1) := List.mem_map.mpr ⟨_, List.getElem_mem his, rfl⟩
      have hTT : shs[i].1 ∈ Ts.map (·.name) := by rw [hTs]; exact hTm
      have hTp : ∀ k : Int, shs[i].1 ∈ (pieceC ns shs k).map (·.1) := fun k => by rw [pieceC_names]; exact hTm
      generalize shs[i].1 = T at *
      refine ⟨_, rfl, _, rfl, _, rfl, a, sz, T, Ts, es, ot, 0, rfl, hPl.same s', hTT, (fun e he ek => absurd ek (hot e he).1), fun H1 s1 => ⟨_, rfl, iteC rfl ?_⟩⟩
      have S1 := s'.trans s1
      refine ⟨_, rfl, _, rfl, _, rfl, a, sz, T, Ts, es, -1, 0, rfl, hPl.same S1, hTT, (fun e he ek => by have := (hot e he).2; omega), fun H2 s2 => ⟨_, rfl, iteC rfl ?_⟩⟩
      have S2 := S1.trans s2
      refine ⟨_, rfl, kl, rfl, ⟨_, SqL.of (S2 _ _ hk)⟩, for_enum (K := K) (a := kl) (xs := ks.map V.int) (fun n σ H3 => Same H H3 ∧ ∃ (u8 u9 u10 : Option V), σ = [some (.ref a), some (.ref sa), some (.ref l), some (.ref kl), some (.int ot), some (.str T), some (.str shs[i].2.1), some (.str shs[i].2.2), u8, u9, u10]) ⟨S2, _, _, _, rfl⟩ (fun n σ H3 _ p => SqL.of (p.1 _ _ hk)) ?_ ?_⟩
      · rintro n x p σ H3 hx ⟨s3, u8, u9, u10, rfl⟩ hp
        have hn : n < ks.length := by
          have := (List.getElem?_eq_some_iff.mp hx).1
          rwa [List.length_map] at this
        rw [List.getElem?_map, List.getElem?_eq_getElem hn] at hx
        cases hx
        have T4 := Same.upd (o := .tup [.int (n : Nat), .int ks[n]]) hp
        refine ⟨p, _, rfl, SqT.of upd_same, rfl, _, _, rfl, _, _, rfl, rfl, ?_⟩
        generalize upd H3 p (.tup [.int (n : Nat), .int ks[n]]) = H4 at T4
        have s4 := s3.trans T4
        refine ⟨_, rfl, _, rfl, _, rfl, sa, l, ns, shs, (n : Int), rfl, s4.seq hS, hSh.same s4, ok, (by omega), (by omega), fun pp H5 s5 h5 => ?_⟩
        obtain ⟨lr, g1, ⟨rs, b1, b2, b3⟩, g3, g4⟩ := PcAt.get (pok n) (h5.same cut_sub) (hTp n)
        refine ⟨_, rfl, pp, _, rfl, g1, lr, _, rfl, .inl (SqL.of b1), ?_⟩
        have s5' := s4.trans s5
        have el : (((rs.map V.ref).length : Nat) : Int) = ((tab (pieceC ns shs n) T).length : Nat) := by rw [List.length_map, b2]
        refine ⟨_, rfl, _, rfl, _, rfl, _, rfl, a, sz, T, Ts, es, ks[n], _, rfl, hPl.same s5', hTT, (fun e he ek => ?_), fun H6 s6 => ⟨_, rfl, iteC rfl ?_⟩⟩
        · rw [LK_one hL hkp hn he ek, el]
          omega
        have S6 := s5'.trans s6
        refine ⟨_, rfl, _, rfl, _, rfl, _, rfl, a, sz, T, Ts, es, ks[n], -1, rfl, hPl.same S6, hTT, (fun e he ek => by omega), fun H7 s7 => ⟨_, rfl, iteF ?_⟩⟩
        exact ⟨S6.trans s7, _, _, _, rfl⟩
      · rintro σ H3 ⟨s3, u8, u9, u10, rfl⟩
        exact ⟨s3, _, _, _, _, _, _, rfl⟩
    · rintro σ H' ⟨s', u5, u6, u7, u8, u9, u10, rfl⟩
      exact q H' s'
end
end My

/-! for x in reversed(a list) (own work). -/
namespace L2
open PySem PySem.Spec PyProof.Rows
section
variable {X : Cx}
end
end L2

/-! list(reversed(a list)) as a value; max(a list of texts) (own work). -/
namespace L2
open PySem PySem.Spec PyProof.Rows
theorem nolen_lri : typeLookup (.type "list_reverseiterator") "__len__" = pure none := by rw [typeLookup_type, builtinLookup_eq_fast]; kernel_rfl
theorem hint_lri : typeLookup (.type "list_reverseiterator") "__length_hint__" = pure (some (.builtin "list_reverseiterator.__length_hint__")) := by rw [typeLookup_type, builtinLookup_eq_fast]; kernel_rfl
section
variable {prog : Program} {w : World} {A : Around} {E : Value → Shared → Prop} {s : Shared} {R : Result → Shared → Prop}
variable {I : Addr} {fp wr : List Addr} {G : Array GenState → Array GenState → Prop} {n : Nat} {P : Nat → Value → Prop} {St : Nat → Shared → Prop}
theorem extend_rev (W : WalksS prog w A.in1 I fp wr G n P St) (hT : ∀ i s, St i s → s.TypeIs (.ref I) "list_reverseiterator") (S : Addr) (res : Value) (c₀ : Nat) (hst : St 0 s) (hSf : S ∉ fp) (hI : I ∈ fp)
    (hS : s.heap.get? S = some { cls := .type "list", data := .seq #[] c₀ })
    (hR : ∀ s' acc' c', Moved (S :: wr) G s s' → s'.heap.get? S = some { cls := .type "list", dict := none, data := .seq acc' c', slots := #[] } → ItemsOf P acc' n → R (.ok (.ret res)) s') (hn : n ≤ sizeLine) :
    wpAny (model prog w) A.in1 (Builtin.List.listExtendWith (.ref S) (.ref I) res)
      (fun fin s' => match fin with | .done f => R (.ok f) s' | .again c' => c'.quiet = true ∧ codeAny (model prog w) A c' R s') (fun e s' => R (.error e) s') s := by
  have hSI : S ≠ I := fun e => hSf (e ▸ hI)
  unfold Builtin.List.listExtendWith
  refine wpAny_bind (wpAny_typeOf (hT 0 _ hst) ?_)
  have h1 : Builtin.List.listSameRef (.ref S) (.ref I) = false := by simp [Builtin.List.listSameRef, hSI]
  rw [if_neg (by rw [h1]; decide)]
  refine wpAny_bind (W.self 0 _ _ _ hst ?_)
  refine wpAny_bind (wpAny_holding ?_)
  unfold Builtin.List.listLengthHint
  refine wpAny_bind (wpAny_specialOf (hT 0 _ hst) nolen_lri ?_)
  show wpAny _ A.in1 (specialOf (Value.ref I) (Str.ofString "__length_hint__") >>= _) _ _ _
  refine wpAny_bind (wpAny_specialOf (hT 0 _ hst) hint_lri ?_)
  (generalize hid : ("list_reverseiterator.__length_hint__" : String) = id0; (fail_if_success (clear hid id0)); wp_delta; rw [show splitId id0 = some ("list_reverseiterator", "__length_hint__") from by subst hid; decide +kernel]; subst hid)
  refine wpAny_bind (wpAny_isInstance (b := true) (hT 0 _ hst) (by rw [isSubtype_type]; kernel_rfl) ?_)
  refine wpAny_pure ?_
  rw [if_neg (by decide)]
  exact wpAny_pure ⟨plainId_quiet F.plain_extend_loop _, codeAny_extend_loopS W hn _ hSf _ n 0 _ _ _ rfl (Nat.zero_le _) hst hS (ItemsOf.nil P) fun s' acc' c' hm hS' hacc => hR s' acc' c' hm hS' hacc⟩
theorem init_rev (W : WalksS prog w A.in1 I fp wr G n P St) (hT : ∀ i s, St i s → s.TypeIs (.ref I) "list_reverseiterator") (S : Addr) (hst : St 0 s) (hSf : S ∉ fp) (hI : I ∈ fp)
    (hS : s.heap.get? S = some { cls := .type "list", data := .seq #[] })
    (hR : ∀ s' acc' c', Moved (S :: wr) G s s' → s'.heap.get? S = some { cls := .type "list", dict := none, data := .seq acc' c', slots := #[] } → ItemsOf P acc' n → R (.ok (.ret .none)) s') (hn : n ≤ sizeLine) :
    wpAny (model prog w) A.in1 (Builtin.«list.__init__» ⟨[.ref S, .ref I], []⟩)
      (fun fin s' => match fin with | .done f => R (.ok f) s' | .again c' => c'.quiet = true ∧ codeAny (model prog w) A c' R s') (fun e s' => R (.error e) s') s := by
  show wpAny _ A.in1 (do let old ← Builtin.List.listItems (.ref S); Builtin.List.listUpdate (.ref S) (fun _ => #[]); letGo old.toList.reverse; Builtin.List.listExtendWith (.ref S) (.ref I) .none) _ _ s
  refine wpAny_bind ?_
  unfold Builtin.List.listItems
  refine wpAny_bind (wpAny_seqItems hS rfl (wpAny_pure ?_))
  show wpAny _ A.in1 (updateSeq S (fun _ => #[]) >>= fun _ => letGo (#[] : Array Value).toList.reverse >>= fun _ => Builtin.List.listExtendWith (.ref S) (.ref I) .none) _ _ s
  refine wpAny_bind (wpAny_updateSeq hS rfl ?_)
  have hS₂ := Heap.get?_update_self (Obj.mapSeq (fun _ => (#[] : Array Value))) hS rfl
  have oth : ∀ b o, b ≠ S → s.heap.get? b = some o → (s.heap.update S (Obj.mapSeq (fun _ => (#[] : Array Value)))).get? b = some o :=
    fun b o hb e => (Heap.get?_update_other _ _ (Ne.symm hb)).trans e
  refine wpAny_bind (wpAny_letGo ?_)
  refine extend_rev (hn := hn) W hT S .none _ (W.frame 0 s _ s.toks hst (Nat.le_refl _) fun b hb o e => oth b o (fun h => hSf (h ▸ hb)) e) hSf hI hS₂ fun s' acc' c' hm hS' hacc => ?_
  exact hR s' acc' c' (Moved.trans W.gtrans ((Moved.refl W.grefl).then_heap (Nat.le_refl _) fun b o hb e => oth b o (fun h => hb (h ▸ List.mem_cons_self)) e) hm) hS' hacc
theorem call_list_rev {Q : Value → Shared → Prop} (W : WalksS prog w A.in1.in1 I fp wr G n P St) (hT : ∀ i s, St i s → s.TypeIs (.ref I) "list_reverseiterator") (hst : St 0 s) (hfp : ∀ b ∈ fp, b < s.heap.objs.size) (hI : I ∈ fp)
    (hQ : ∀ s' acc' c', Moved (s.heap.objs.size :: wr) G { s with heap := s.heap.push { cls := .type "list", data := .seq #[] } } s' →
      s'.heap.get? s.heap.objs.size = some { cls := .type "list", dict := none, data := .seq acc' c', slots := #[] } → ItemsOf P acc' n → Q (.ref s.heap.objs.size) s') (hn : n ≤ sizeLine) :
    wpAny (model prog w) A (call (.type "list") [.ref I]) Q E s := by
  have hSf : s.heap.objs.size ∉ fp := fun hm => Nat.lt_irrefl _ (hfp _ hm)
  refine callType_codes (Q₁ := fun obj s₁ => obj = .ref s.heap.objs.size ∧ s₁ = { s with heap := s.heap.push { cls := .type "list", data := .seq #[] } }) F.called_list (F.typeCall_list_1 _) F.entry_list_init
    (code_list_new _ ⟨rfl, rfl⟩) fun obj s₁ h₁ => ?_
  obtain ⟨rfl, rfl⟩ := h₁
  have hS : (s.heap.push { cls := .type "list", data := .seq #[] }).get? s.heap.objs.size = some { cls := .type "list", data := .seq #[] } := Heap.get?_push_size _ rfl
  refine ⟨⟨_, hS, rfl⟩, F.args_list_init_2 _ _, init_rev (hn := hn) W hT _ (W.frame 0 s _ s.toks hst (Nat.le_refl _) fun b _ o e => Heap.get?_push_of_some _ e) hSf hI hS fun s' acc' c' hm hS' hacc => ?_⟩
  exact ⟨rfl, hQ s' acc' c' hm hS' hacc⟩
end
/-- the best of a walk by an order without rings -/
theorem best_le (bt : Nat → Nat → Bool) : ∀ k, argBest bt k ≤ k
  | 0 => Nat.le_refl _
  | k + 1 => by
    unfold argBest
    split
    · exact Nat.le_refl _
    · exact Nat.le_succ_of_le (best_le bt k)
theorem best_top {bt : Nat → Nat → Bool} (ir : ∀ i, bt i i = false) (tr : ∀ i j k, bt i j = true → bt j k = true → bt i k = true) : ∀ k i, i ≤ k → bt i (argBest bt k) = false
  | 0, i, h => by
    obtain rfl : i = 0 := by omega
    exact ir 0
  | k + 1, i, h => by
    unfold argBest
    by_cases hb : bt (k + 1) (argBest bt k) = true
    · rw [if_pos hb]
      by_cases e : i = k + 1
      · subst e
        exact ir _
      · have ih := best_top ir tr k i (by omega)
        cases hc : bt i (k + 1) with
        | false => rfl
        | true => rw [tr _ _ _ hc hb] at ih; cases ih
    · rw [if_neg hb]
      by_cases e : i = k + 1
      · subst e
        exact Bool.eq_false_iff.mpr hb
      · exact best_top ir tr k i (by omega)
theorem CmpOf.strs_gt {prog : Program} {w : World} {A : Around} {P : Nat → Value → Prop} (val : Nat → Str) (hval : ∀ i v, P i v → ∃ t, v = .str (val i) t) :
    CmpOf prog w A .Gt P (fun i j => decide ((val j).cps.toList < (val i).cps.toList)) := fun i j vi vj s Q E hi hj h => by
  obtain ⟨t, rfl⟩ := hval i vi hi
  obtain ⟨u, rfl⟩ := hval j vj hj
  exact richCompare_gives (op := .Gt) (typeIs_str s _ t) (typeIs_str s _ u) F.slot_str_gt F.entry_str_gt (F.args_str_gt_2 _ _) (gives_str_gt _ _ t u) (fun x => nomatch x) h
theorem lt_more (l : List Nat) (x : Nat) : l < l ++ [x] := by
  induction l with
  | nil => exact List.Lex.nil
  | cons a r ih => exact List.Lex.cons ih
section
variable {X : Cx}
/-- max(a list of texts) -/
theorem call_maxT (hc : X.calm = true) : CallR X (.builtin "max") (fun xs H Q => ∃ (a : Addr) (zs : List Str), xs = [.ref a] ∧ SqL X.K H a (zs.map V.str) ∧ 0 < zs.length ∧ ∀ z ∈ zs, (∀ y ∈ zs, ¬ z.cps.toList < y.cps.toList) → Q (.str z) H) := by
  intro pins s σ H xs us Q I r h
  obtain ⟨a, zs, rfl, hq, hn, q⟩ := h
  obtain ⟨u, rfl, rx⟩ := vals1 r
  cases rx
  obtain ⟨its, rv, pl, hz⟩ := I.list hq
  have hl : zs.length = its.length := by have := rv.length; rwa [List.length_map] at this
  have hat : ∀ i v, its.toArray[i]? = some v → ∃ t, v = Value.str (zs.getD i "") t := fun i v e => by
    rw [List.getElem?_toArray] at e
    have hi : i < its.length := (List.getElem?_eq_some_iff.mp e).1
    have hx : (zs.map V.str)[i]? = some (V.str (zs.getD i "")) := by
      rw [List.getElem?_map, List.getElem?_eq_getElem (by omega)]
      show some (V.str _) = some (V.str _)
      rw [List.getD_eq_getElem?_getD, List.getElem?_eq_getElem (by omega)]
      rfl
    obtain ⟨u, hu, ru⟩ := rv.get hx
    rw [e] at hu
    cases hu
    exact ru
  have hlt : a < s.heap.objs.size := by obtain ⟨_, e, _⟩ := pl.isList; exact Heap.lt_size e
  refine call_max_walk (wpAny_pyIter_list pl.isList ?_)
  refine ⟨_, _, _, _, _, _, _, rfl, Walks.list (A := X.A.in1) (I.ok.hd hc) s.heap.objs.size a (Nat.ne_of_lt hlt) its.toArray, ⟨⟨_, Heap.get?_push_size _ rfl, rfl, rfl⟩, pl.isList.push _⟩, fun b hb => ?_, (by rw [List.size_toArray]; omega), CmpOf.strs_gt (fun i => zs.getD i "") hat, fun v h' tk hP hk => ?_⟩
  · show b < (s.heap.push _).objs.size
    rw [Heap.size_push]
    rcases List.mem_cons.mp hb with rfl | hb
    · exact Nat.lt_succ_self _
    · rw [List.mem_singleton.mp hb]
      exact Nat.lt_succ_of_lt hlt
  · obtain ⟨t, rfl⟩ := hat _ _ hP
    have hb := best_le (fun i j => decide ((zs.getD j "").cps.toList < (zs.getD i "").cps.toList)) (its.toArray.size - 1)
    have ht := best_top (bt := fun i j => decide ((zs.getD j "").cps.toList < (zs.getD i "").cps.toList)) (fun i => decide_eq_false (List.lt_irrefl _)) (fun i j k h1 h2 => decide_eq_true (List.lt_trans (of_decide_eq_true h2) (of_decide_eq_true h1))) (its.toArray.size - 1)
    rw [List.size_toArray] at hb ht
    have I2 : Inv X pins σ H { s with heap := h', toks := tk } := I.kept (old_kept hk)
    refine ⟨.str _, H, I2, ⟨t, rfl⟩, q _ ?_ fun y hy => ?_⟩
    · rw [List.size_toArray]
      rw [List.getD_eq_getElem?_getD, List.getElem?_eq_getElem (by omega)]
      exact List.getElem_mem _
    · obtain ⟨i, hi⟩ := List.getElem?_of_mem hy
      have hil : i < zs.length := (List.getElem?_eq_some_iff.mp hi).1
      have h2 := of_decide_eq_false (ht i (by omega))
      rw [List.getD_eq_getElem?_getD (l := zs) (i := i), hi] at h2
      rw [List.size_toArray]
      exact h2
def tLrev (K : PySem.W.Frag) (tl : TE) : TE := fun σ H Q => tl σ H fun x H1 => ∃ a xs, [x] = [V.ref a] ∧ SqL K H1 a xs ∧ ∀ p, H1 p = none → Q (.ref p) (upd H1 p (.lst xs.reverse))
/-- list(reversed(a list)) -/
theorem pe_listRev {l : Expr} {tl : TE} {p1 p2 pos1 pos2 : Pos} (hc : X.calm = true) (hgL : Gl X "list") (hmL : X.mg "list" = none) (hgR : Gl X "reversed") (hmR : X.mg "reversed" = none) (hl : PE X l tl)
    (hs : starEach [l] X.env = [(false, eval l X.env)] := by rfl) (hs2 : starEach [Expr.Call (.Name "reversed" p2) [l] [] pos2] X.env = [(false, eval (.Call (.Name "reversed" p2) [l] [] pos2) X.env)] := by rfl) :
    PE X (.Call (.Name "list" p1) [.Call (.Name "reversed" p2) [l] [] pos2] [] pos1) (tLrev X.K tl) := by
  intro pins s σ H Q I h
  refine wpAny_Call_Name_kw (ld_blt I hgL hmL boot_list ?_)
  refine PyProof.Rows.callWith_type1 ?_ hs2 rfl
  rw [hs2]
  show wpAny _ _ (spliced ((false, eval (.Call (.Name "reversed" p2) [l] [] pos2) X.env) :: backTo pos1 [])) _ _ s
  refine Calls.spliced_cons ?_
  refine Call_ (ld_blt I hgR hmR boot_reversed (PyProof.Rows.callWith_type1 (thn ((pa_cons hl pa_nil hs) pos2 pins s σ H (fun vs H1 => ∃ a xs, vs = [V.ref a] ∧ SqL X.K H1 a xs ∧ ∀ p, H1 p = none → Q (.ref p) (upd H1 p (.lst xs.reverse))) I h) fun us s1 ⟨vs, H1, I1, r1, q1⟩ => ?_) hs rfl))
  obtain ⟨a, xs, e, hq, q⟩ := q1
  subst e
  obtain ⟨u, rfl, rx⟩ := vals1 r1
  cases rx
  obtain ⟨its, rv, pl, hz⟩ := I1.list hq
  have hl' := rv.length
  have hlt : a < s1.heap.objs.size := by obtain ⟨_, e, _⟩ := pl.isList; exact Heap.lt_size e
  refine call_reversed_list pl.isList (Calls.spliced_nil ?_)
  have I2 : Inv X pins σ H1 { s1 with heap := s1.heap.push (revObj a ((its.toArray.size : Int) - 1)) } := I1.kept (t' := s1.toks) fun b o e => Heap.get?_push_of_some _ e
  have W := (Walks.listRev (prog := X.prog) (w := X.w) (A := X.A.in1.in1) (I.ok.hd hc) s1.heap.objs.size a (Nat.ne_of_lt hlt) its.toArray).toS
  have hsz : (s1.heap.push (revObj a ((its.toArray.size : Int) - 1))).objs.size = s1.heap.objs.size + 1 := Heap.size_push ..
  refine call_list_rev W (fun i s st => st.2.1.typeIs) ⟨Nat.zero_le _, ⟨_, Heap.get?_push_size _ rfl, rfl, by simp [revObj]⟩, pl.isList.push _⟩ (fun b hb => ?_) (by simp) (fun s' acc c' hm hS' hacc => ?_) (by rw [List.size_toArray]; omega)
  · show b < (s1.heap.push _).objs.size
    rw [hsz]
    rcases List.mem_cons.mp hb with rfl | hb
    · exact Nat.lt_succ_self _
    · rw [List.mem_singleton.mp hb]
      exact Nat.lt_succ_of_lt hlt
  · have ea : acc.toList = its.reverse := by
      apply List.ext_getElem?
      intro i
      have h1 : acc.size = its.length := by rw [hacc.1, List.size_toArray]
      by_cases hi : i < its.length
      · have h2 : its.toArray[its.toArray.size - 1 - i]? = some acc[i] := hacc.2 i acc[i] (Array.getElem?_eq_getElem (by omega))
        rw [List.getElem?_toArray, List.size_toArray] at h2
        rw [List.getElem?_reverse hi, Array.getElem?_toList, Array.getElem?_eq_getElem (by omega), ← h2]
      · rw [List.getElem?_eq_none (by rw [Array.length_toList]; omega), List.getElem?_eq_none (by rw [List.length_reverse]; omega)]
    have hS0 : s1.heap.objs.size + 1 = (s1.heap.push (revObj a ((its.toArray.size : Int) - 1))).objs.size := hsz.symm
    have I3 := I2.turned (it := s1.heap.objs.size) (h' := s'.heap) (t' := s'.toks) (fun b o hb e => hm.heap b o (fun hmem => ?_) (Heap.get?_push_of_some _ e)) (I1.hok.fresh (Nat.le_refl _)) (I1.fpOk (Nat.le_refl _) (I1.hok.fresh (Nat.le_refl _))).2.1 (I1.fpOk (Nat.le_refl _) (I1.hok.fresh (Nat.le_refl _))).2.2.2.1 (I1.fpOk (Nat.le_refl _) (I1.hok.fresh (Nat.le_refl _))).2.2.2.2.1 (I1.fpOk (Nat.le_refl _) (I1.hok.fresh (Nat.le_refl _))).2.2.2.2.2
    · rw [Moved.eq_with hm]
      refine ⟨.ref _, _, I3.track (o := .lst xs.reverse) (I2.our (Nat.le_refl _)) ⟨by rw [List.length_reverse]; exact hz, acc.toList, c', by rw [ea]; exact rv.reverse, by simpa using hS'⟩, rfl, q _ (I2.hok.fresh (Nat.le_refl _))⟩
    · rcases List.mem_cons.mp hmem with e' | hmem
      · exact absurd (Heap.lt_size e) (by rw [e']; exact Nat.lt_irrefl _)
      · exact hb (List.mem_singleton.mp hmem)
end
end L2

namespace L2
open PySem PySem.Spec PyProof.Rows
theorem inV_int (z : Int) (l : List Int) : inV (.int z) (l.map V.int) = decide (z ∈ l) := by
  unfold inV
  rw [Bool.eq_iff_iff, List.any_eq_true, decide_eq_true_iff]
  constructor
  · rintro ⟨y, hy, e⟩
    obtain ⟨x, hx, rfl⟩ := List.mem_map.mp hy
    have : x = z := by simpa [eqV] using e
    rw [← this]
    exact hx
  · intro h
    exact ⟨_, List.mem_map.mpr ⟨z, h, rfl⟩, by simp [eqV]⟩
theorem flat_ints (l : List Int) : (l.map V.int).all flatV = true := by
  rw [List.all_map]
  exact List.all_eq_true.mpr fun _ _ => rfl
/-- the part of a heap that bears a name -/
def reg (g : Addr → Option Int) (k : Int) (H : Hp) : Hp := fun b => if g b = some k then H b else none
theorem reg_sub {g : Addr → Option Int} {k : Int} {H : Hp} : Same (reg g k H) H := fun b o e => by
  unfold reg at e
  split at e
  · exact e
  · cases e
theorem reg_g {g : Addr → Option Int} {k : Int} {H : Hp} {b : Addr} {o : HO} (e : reg g k H b = some o) : g b = some k := by
  unfold reg at e
  split at e
  · assumption
  · cases e
theorem reg_at {g : Addr → Option Int} {k : Int} {H : Hp} {b : Addr} {o : HO} (h : g b = some k) (e : H b = some o) : reg g k H b = some o := by
  unfold reg
  rw [if_pos h]
  exact e
theorem reg_up {g : Addr → Option Int} {k : Int} {H H' : Hp} (s : Same H H') : Same (reg g k H) (reg g k H') := fun b o e => reg_at (reg_g e) (s _ _ (reg_sub _ _ e))
theorem reg_put {g : Addr → Option Int} {k : Int} {H : Hp} {r : Addr} {o : HO} (h : ¬ g r = some k) : Same (reg g k H) (reg g k (upd H r o)) := fun b u e => by
  have hb := reg_g e
  refine reg_at hb ?_
  have nb : b ≠ r := fun e2 => by rw [e2] at hb; exact h hb
  rw [upd_ne nb]
  exact reg_sub _ _ e
end L2
namespace My
open PySem L2 PyProof.Rows
seal L2.PE L2.PT L2.PW L2.PS L2.PSs L2.PA L2.PI L2.PG L2.PGs L2.OpR L2.UnR L2.CallR L2.IxR L2.SlR L2.MtR L2.PIf L2.PO L2.MtM L2.PC
/-- the law's own things: each piece in its own part of the heap -/
structure LI (g : Addr → Option Int) (H0 H : Hp) (td : Addr) (es : List En) : Prop where
  sm : Same H0 H
  t0 : H0 td = none
  at_ : H td = some (.dK (kvT es))
  gt : g td = none
  gl : ∀ b k, g b = some k → H0 b = none ∧ ∃ o, H b = some o
  th : ∀ e ∈ es, PcAt (reg g e.k H) e.p e.pc
theorem LI.same {g : Addr → Option Int} {H0 H H' : Hp} {td : Addr} {es : List En} (h : LI g H0 H td es) (s : Same H H') : LI g H0 H' td es :=
  ⟨h.sm.trans s, h.t0, s _ _ h.at_, h.gt, fun b k e => ⟨(h.gl b k e).1, let ⟨o, x⟩ := (h.gl b k e).2; ⟨o, s _ _ x⟩⟩, fun e he => (h.th e he).same (reg_up s)⟩
theorem LI.add {g : Addr → Option Int} {H0 H H5 : Hp} {td : Addr} {es : List En} (h : LI g H0 H td es) {k : Int} {p : Addr} {pc : Pc} (s : Same H H5) (hp : PcAt (cut H H5) p pc) :
    ∃ g', LI g' H0 (upd H5 td (.dK (kvT (es ++ [⟨k, p, pc⟩])))) td (es ++ [⟨k, p, pc⟩]) := by
  refine ⟨fun b => match H b, H5 b with | none, some _ => some k | _, _ => g b, ?_⟩
  have old : ∀ {b : Addr} {o : HO}, H b = some o → (match H b, H5 b with | none, some _ => some k | _, _ => g b) = g b := fun {b o} e => by rw [e]
  have new : ∀ {b : Addr} {o : HO}, H b = none → H5 b = some o → (match H b, H5 b with | none, some _ => some k | _, _ => g b) = some k := fun {b o} e e2 => by rw [e, e2]
  have g0 : (match H td, H5 td with | none, some _ => some k | _, _ => g td) = none := by rw [old h.at_]; exact h.gt
  refine ⟨(h.sm.trans s).put h.t0, h.t0, upd_same, g0, fun b j e => ?_, fun e he => ?_⟩
  · have nb : b ≠ td := fun e2 => by subst e2; rw [show _ = none from g0] at e; cases e
    rw [upd_ne nb]
    cases hb : H b with
    | some o =>
      have e' : g b = some j := by rw [← old hb]; exact e
      exact ⟨(h.gl b j e').1, o, s _ _ hb⟩
    | none =>
      cases h5 : H5 b with
      | none =>
        have e' : g b = some j := by simpa [hb, h5] using e
        obtain ⟨_, o, ho⟩ := h.gl b j e'
        rw [hb] at ho
        cases ho
      | some o => exact ⟨none_of h.sm hb, o, rfl⟩
  · have put : ∀ {G : Hp} {p : Addr} {pc : Pc} {j : Int}, PcAt G p pc → (∀ b o, G b = some o → reg (fun b => match H b, H5 b with | none, some _ => some k | _, _ => g b) j H5 b = some o) → PcAt (reg (fun b => match H b, H5 b with | none, some _ => some k | _, _ => g b) j (upd H5 td (.dK (kvT (es ++ [⟨k, p, pc⟩]))))) p pc := fun {G p pc j} hG hs => by
      refine (hG.same hs).same (reg_put fun e => ?_)
      rw [show _ = none from g0] at e
      cases e
    rcases List.mem_append.mp he with he | he
    · refine ((h.th e he).same fun b o e2 => ?_).same (reg_put fun e => ?_)
      · exact reg_at ((old (reg_sub _ _ e2)).trans (reg_g e2)) (s _ _ (reg_sub _ _ e2))
      · rw [show _ = none from g0] at e
        cases e
    · rw [List.mem_singleton.mp he]
      refine (hp.same fun b o e2 => ?_).same (reg_put fun e => ?_)
      · exact reg_at (new (cut_new e2) (cut_sub _ _ e2)) (cut_sub _ _ e2)
      · rw [show _ = none from g0] at e
        cases e
theorem kvT_snoc (es : List En) (e : En) : kvT (es ++ [e]) = kvT es ++ [(.inl e.k, .ref e.p)] := by
  unfold kvT
  rw [List.map_append]
  rfl
theorem srt_eq {α : Type} {es L : List (Int × α)} (h : es.Perm L) (hs : (L.map (·.1)).Pairwise (· < ·)) : srt es = L := by
  have hs' : L.Pairwise (fun a b => a.1 < b.1) := List.pairwise_map.mp hs
  refine List.Perm.eq_of_pairwise (le := fun a b : Int × α => a.1 ≤ b.1) (fun a b ha hb h1 h2 => ?_) (List.pairwise_map.mp (srt_le es)) (hs'.imp fun h => Int.le_of_lt h) ((srt_perm es).trans h)
  have ha' : a ∈ L := h.mem_iff.mp ((srt_perm es).mem_iff.mp ha)
  obtain ⟨i, hi⟩ := List.getElem?_of_mem ha'
  obtain ⟨j, hj⟩ := List.getElem?_of_mem hb
  obtain ⟨hil, hie⟩ := List.getElem?_eq_some_iff.mp hi
  obtain ⟨hjl, hje⟩ := List.getElem?_eq_some_iff.mp hj
  have pw := List.pairwise_iff_getElem.mp hs'
  rcases Nat.lt_trichotomy i j with c | c | c
  · have := pw i j hil hjl c
    rw [hie, hje] at this
    omega
  · subst c
    rw [hi] at hj
    cases hj
    rfl
  · have := pw j i hjl hil c
    rw [hie, hje] at this
    omega
/-- by the numbers in any order -/
def fK (ns : List Int) (shs : List Sh) (ks : List Int) (j : Nat) : Int × Pc := (ks.getD j 0, pieceC ns shs j)
theorem LK_range (ns : List Int) (shs : List Sh) (ks : List Int) : LK ns shs ks = (List.range ks.length).map (fK ns shs ks) := by
  apply List.ext_getElem?
  intro i
  unfold LK fK
  rw [List.getElem?_mapIdx, List.getElem?_map]
  by_cases hi : i < ks.length
  · rw [List.getElem?_range hi, List.getElem?_eq_getElem hi]
    show some (ks[i], pieceC ns shs (i : Nat)) = some (ks.getD i 0, pieceC ns shs (i : Nat))
    rw [List.getD_eq_getElem?_getD, List.getElem?_eq_getElem hi]
    rfl
  · rw [List.getElem?_eq_none (by omega), List.getElem?_eq_none (by rw [List.length_range]; omega)]
    rfl
theorem LK_perm {ns : List Int} {shs : List Sh} {ks : List Int} {ord : List Nat} (h : ord.Perm (List.range ks.length)) : (ord.map (fK ns shs ks)).Perm (LK ns shs ks) := by
  rw [LK_range]
  exact h.map _
/-- the head's first row and the second table, in a piece -/
theorem two_at {G : Hp} {p : Addr} {pc : Pc} (ok : PcOk pc) (h : PcAt G p pc) {T0 T1 : Str} (h0 : T0 ∈ pc.map (·.1)) (h1 : T1 ∈ pc.map (·.1)) (hn : 0 < (tab pc T0).length) :
    ∃ kvs l0 l1 r0 rs us kv0, G p = some (.dK kvs) ∧ valV kvs (.inr T0) = some (.ref l0) ∧ valV kvs (.inr T1) = some (.ref l1) ∧ G l0 = some (.lst (V.ref r0 :: rs)) ∧ G l1 = some (.lst us) ∧ G r0 = some (.dK kv0) ∧ r0 ≠ p := by
  obtain ⟨ls, a, b, c⟩ := h
  have look : ∀ {T : Str}, T ∈ pc.map (·.1) → ∃ l, valV (zK (pc.map (·.1)) ls) (.inr T) = some (.ref l) ∧ RowsAt G l (tab pc T) := fun {T} hT => by
    obtain ⟨i, t, e1, e2, e3⟩ := tab_at hT
    have hi : i < ls.length := by have := (List.getElem?_eq_some_iff.mp e1).1; omega
    refine ⟨ls[i], zw_val ok.nd (i := i) (by rw [List.getElem?_map, e1, ← e2]; rfl) (by rw [List.getElem?_map, List.getElem?_eq_getElem hi]; rfl), ?_⟩
    have := c i ls[i] t (List.getElem?_eq_getElem hi) e1
    rwa [e3] at this
  obtain ⟨l0, v0, rs0, x1, x2, x3⟩ := look h0
  obtain ⟨l1, v1, rs1, z1, _, _⟩ := look h1
  obtain ⟨i0, t0, t1, t2, t3⟩ := tab_at h0
  cases rs0 with
  | nil => rw [← x2] at hn; cases hn
  | cons r0 rs =>
    have x4 := x3 0 r0 (tab pc T0)[0] rfl (List.getElem?_eq_getElem hn)
    refine ⟨_, l0, l1, r0, rs.map V.ref, _, _, a, v0, v1, x1, z1, x4, fun e => ?_⟩
    rw [e, a] at x4
    injection x4 with y1
    injection y1 with y2
    have hi : i0 < ls.length := by have := (List.getElem?_eq_some_iff.mp t1).1; omega
    have hm : ((.inr t0.1 : Key), V.ref ls[i0]) ∈ zK (pc.map (·.1)) ls := zK_mem (j := i0) (by rw [List.getElem?_map, t1]; rfl) (List.getElem?_eq_getElem hi)
    rw [y2] at hm
    exact rK_flat ((tab_ok ok h0).2 _ (List.getElem_mem _)) hm
end My

namespace My
open PySem L2 PyProof.Rows
seal L2.PE L2.PT L2.PW L2.PS L2.PSs L2.PA L2.PI L2.PG L2.PGs L2.OpR L2.UnR L2.CallR L2.IxR L2.SlR L2.MtR L2.PIf L2.PO L2.MtM L2.PC
theorem boot_rng : bootBuiltins "range" = some (.type "range") := by decide +kernel
theorem cutI {G : Prop} {T : Int → Prop} (R : Int → Prop) (h : (∀ z, R z → T z) → G) (fin : ∀ z, R z → T z) : G := h fin
def lwN : List Str := ["_law_script", "_law_size", "_law_sheets_here", "_law_keys_here", "_law_order", "_law_things", "_law_k", "_law_plain", "_law_key", "_law_other", "_law_names_here"]
theorem tab_head {ns : List Int} {s : Sh} {r : List Sh} {k : Int} (h : s.2.1 = "head") : (tab (pieceC ns (s :: r) k) s.1).length = 1 := by
  unfold tab pieceC
  rw [List.mapIdx_cons, List.find?_cons_of_pos (by simp)]
  show (rowsC ns s k 0).length = 1
  unfold rowsC manyV
  rw [List.length_map, List.length_range, h]
  rw [if_neg (fun c => absurd c.2.1 (by decide +kernel)), if_neg (by decide +kernel), if_neg (by decide +kernel)]
  rfl
/-- the keys -/
structure KOk (sz : Int) (ks : List Int) : Prop where
  le : ks.length ≤ 5
  up : ks.Pairwise (· < ·)
  rg : ∀ k ∈ ks, 0 ≤ k ∧ k < sz
section
variable {P : Program} {w : World} {K : PySem.W.Frag} {mg : Str → Option Value} {base : Heap} {CP : Addr}
theorem ok_law {f fC fS fF fK fL fI fT fX fA fR : Addr} {fd fdC fdS fdF fdK fdL fdI fdT fdX fdA fdR : FuncData} (F : Fun K "law" "law" (top 51) f fd) (B : Bl mg) (hV : mg "reversed" = none) (hMx : mg "max" = none) (DC : Df K mg "_law_cell" (top 39) fC fdC)
    (DS : Df K mg "_law_sheets" (top 41) fS fdS) (GS : FnOk P w K mg base CX0 2 fS fdS ["_law_script"] (spSheets K)) (DF : Df K mg "_law_form" (top 42) fF fdF) (DK : Df K mg "_law_keys" (top 43) fK fdK) (DL : Df K mg "_law_piece" (top 45) fL fdL) (GL : FnOk P w K mg base CX0 3 fL fdL ["_law_script", "_law_sheets_here", "_law_k"] (spPieceL K))
    (MP : Mk K CP fI) (mP : mg "Plain" = some (.ref CP)) (GI : FnOk P w K mg base CX0 5 fI fdI ["self", "form", "things"] (spPInit CP)) (bI : Binds K fdI ["self", "form", "things"] [])
    (DT : Df K mg "_law_tells" (top 46) fT fdT) (GT : FnOk P w K mg base CX0 4 fT fdT ["_law_plain", "_law_script", "_law_sheets_here", "_law_keys_here"] (spTells K CP)) (DX : Df K mg "_law_spoil" (top 47) fX fdX) (GX : FnOk P w K mg base CX0 3 fX fdX ["_law_plain", "_law_sheets_here", "_law_keys_here"] (spSpoil CP))
    (DA : Df K mg "_law_lacks" (top 49) fA fdA) (GA : FnOk P w K mg base CX0 5 fA fdA ["_law_plain", "_law_script", "_law_sheets_here", "_law_keys_here", "_law_other"] (spLacks K CP)) (DR : Df K mg "_law_refuses" (top 50) fR fdR) (GR : FnOk P w K mg base CX0 4 fR fdR ["_law_plain", "_law_other", "_law_head", "_law_key"] (spRefuses CP)) :
    FnOk P w K mg base CX0 7 f fd ["_law_script"] (spLaw K) := by
  have sc : FnScope lwN ["_law_script"] (defScope (top 51)) := ⟨rfl, rfl, rfl, by decide +kernel, rfl, by decide +kernel, by decide +kernel⟩
  have GC : FnOk P w K mg base CX0 1 fC fdC ["_law_script", "_law_k"] (spCelD K) := ok_celD DC.fn B
  have bC := DC.fn.binds (ps := ["_law_script", "_law_k"]) fun _ _ _ _ _ _ us hl => by obtain ⟨v0, v1, rfl⟩ := L2.ln2 hl; rfl
  have bS := DS.fn.binds (ps := ["_law_script"]) fun _ _ _ _ _ _ us hl => by obtain ⟨v0, rfl⟩ := L2.ln1 hl; rfl
  have GF : FnOk P w K mg base CX0 1 fF fdF ["_law_size", "_law_sheets_here"] (spForm K) := ok_form DF.fn B
  have bF := DF.fn.binds (ps := ["_law_size", "_law_sheets_here"]) fun _ _ _ _ _ _ us hl => by obtain ⟨v0, v1, rfl⟩ := L2.ln2 hl; rfl
  have GK : FnOk P w K mg base CX0 2 fK fdK ["_law_script", "_law_size"] (spKeys K) := ok_keys DK.fn B DC
  have bK := DK.fn.binds (ps := ["_law_script", "_law_size"]) fun _ _ _ _ _ _ us hl => by obtain ⟨v0, v1, rfl⟩ := L2.ln2 hl; rfl
  have bL := DL.fn.binds (ps := ["_law_script", "_law_sheets_here", "_law_k"]) fun _ _ _ _ _ _ us hl => by obtain ⟨v0, v1, v2, rfl⟩ := L2.ln3 hl; rfl
  have bT := DT.fn.binds (ps := ["_law_plain", "_law_script", "_law_sheets_here", "_law_keys_here"]) fun _ _ _ _ _ _ us hl => by obtain ⟨v0, v1, v2, v3, rfl⟩ := L2.ln4 hl; rfl
  have bX := DX.fn.binds (ps := ["_law_plain", "_law_sheets_here", "_law_keys_here"]) fun _ _ _ _ _ _ us hl => by obtain ⟨v0, v1, v2, rfl⟩ := L2.ln3 hl; rfl
  have bA := DA.fn.binds (ps := ["_law_plain", "_law_script", "_law_sheets_here", "_law_keys_here", "_law_other"]) fun _ _ _ _ _ _ us hl => match us, hl with | [_, _, _, _, _], _ => rfl
  have bR := DR.fn.binds (ps := ["_law_plain", "_law_other", "_law_head", "_law_key"]) fun _ _ _ _ _ _ us hl => by obtain ⟨v0, v1, v2, v3, rfl⟩ := L2.ln4 hl; rfl
  refine F.ok sc (fun vs H Q E h => ?_) (fun cdv A outer s H vs Q E hr h => ?_)
  · obtain ⟨a, ns, rfl, _⟩ := h
    rfl
  · obtain ⟨a, ns, rfl, hS, h63, q⟩ := h
    have hr1 : Room 1 _ := hr.mono (by decide)
    have hr2 : Room 2 _ := hr.mono (by decide)
    have hr3 : Room 3 _ := hr.mono (by decide)
    have hr4 : Room 4 _ := hr.mono (by decide)
    have hr5 : Room 5 _ := hr.mono (by decide)
    have hu : (A.deeper (envOfC "law" (defScope (top 51)) s.heap.objs.size f cdv)).units + 1 < cLine := hu_of hr
    have hu3 : (A.deeper (envOfC "law" (defScope (top 51)) s.heap.objs.size f cdv)).units + 2 + 1 < cLine := by have := hr.un; omega
    refine split_at 8 (fun σ H' => ∃ (l kl ol td : Addr) (sz : Int) (shs : List Sh) (ks : List Int) (u6 : Option V) (g : Addr → Option Int) (H0 : Hp) (es : List En), σ = [some (.ref a), some (.int sz), some (.ref l), some (.ref kl), some (.ref ol), some (.ref td), u6, none, none, none, none] ∧ ShOk shs ∧ KOk sz ks ∧ 6 ≤ sz ∧ Same H H0 ∧ ShAt H0 l shs ∧ H0 kl = some (.lst (ks.map V.int)) ∧ LI g H0 H' td es ∧ (es.map kc).Perm (LK ns shs ks)) ?_ (split_all 5 (fun σ H' => ∃ (l kl ol td x : Addr) (sz : Int) (shs : List Sh) (ks : List Int) (u6 u8 : Option V) (Ts : List Tb) (us : List En), σ = [some (.ref a), some (.int sz), some (.ref l), some (.ref kl), some (.ref ol), some (.ref td), u6, some (.ref x), u8, none, none] ∧ ShOk shs ∧ KOk sz ks ∧ 6 ≤ sz ∧ Same H H' ∧ ShAt H' l shs ∧ H' kl = some (.lst (ks.map V.int)) ∧ PlAt CP H' x sz Ts us ∧ Ts.map (·.name) = shs.map (·.1) ∧ srt (us.map kc) = LK ns shs ks) ?_ ?_)
    · refine ⟨_, pss_cons (ps_set (i := 1) sc.nd rfl (Or.inl rfl) (pe_op op_add pe_int (pe_op op_mod (pe_call GC hr1 (by rfl) DC.mg DC.fn.kp bC .nil pass0 (pa_cons (pv 0) (pa_cons pe_int pa_nil))) (pe_op op_sub (pe_op op_pow pe_int pe_int) pe_int))))
        (pss_cons (ps_if (pt_cmpR op_eq (pe_op op_mod (pe_call GC hr1 (by rfl) DC.mg DC.fn.kp bC .nil pass0 (pa_cons (pv 0) (pa_cons pe_int pa_nil))) pe_int) pe_int (nomark _)) (pss_one (ps_set (i := 1) sc.nd rfl (Or.inl rfl) (pe_op op_add pe_int (pe_op op_mod (pe_op op_fdiv (pe_call GC hr1 (by rfl) DC.mg DC.fn.kp bC .nil pass0 (pa_cons (pv 0) (pa_cons pe_int pa_nil))) pe_int) pe_int)))) pss_nil)
        (pss_cons (ps_set (i := 2) sc.nd rfl (Or.inl rfl) (pe_call GS hr2 (by rfl) DS.mg DS.fn.kp bS .nil pass0 (pa_cons (pv 0) pa_nil)))
        (pss_cons (ps_set (i := 3) sc.nd rfl (Or.inl rfl) (pe_call GK hr2 (by rfl) DK.mg DK.fn.kp bK .nil pass0 (pa_cons (pv 0) (pa_cons (pv 1) pa_nil))))
        (pss_cons (ps_set (i := 4) sc.nd rfl (Or.inl rfl) (pe_callTy (call_listR rfl) (by rfl) B.list boot_list (pa_cons (pe_callTy call_rangeR (by rfl) B.range boot_rng (pa_cons (pe_callB call_len_seq (by rfl) B.len PySem.boot_len (pa_cons (pv 3) pa_nil)) pa_nil)) pa_nil)))
        (pss_cons (ps_if (pt_cmpR op_eq (pe_op op_mod (pe_op op_fdiv (pe_call GC hr1 (by rfl) DC.mg DC.fn.kp bC .nil pass0 (pa_cons (pv 0) (pa_cons pe_int pa_nil))) pe_int) pe_int) pe_int (nomark _)) (pss_one (ps_set (i := 4) sc.nd rfl (Or.inl rfl) (pe_listRev rfl (by rfl) B.list (by rfl) hV (pv 4)))) pss_nil)
        (pss_cons (ps_set (i := 5) sc.nd rfl (Or.inl rfl) pe_dnewK)
        (pss_one (ps_for PassesOwn.never rfl (pi_list (pv 4)) (pg_name (i := 6) sc.nd rfl (Or.inl rfl))
          (pss_one (ps_dput hu (pv 5) (pe_ix ix_list (pv 3) (pv 6) (fun _ _ => rfl)) (pe_call GL hr3 (by rfl) DL.mg DL.fn.kp bL .nil pass0 (pa_cons (pv 0) (pa_cons (pv 2) (pa_cons (pv 6) pa_nil)))) rfl)))))))))), ?_⟩
      apply cutI (fun sz => 6 ≤ sz)
      · intro fin
        refine ⟨_, rfl, a, ns, 3, rfl, hS, by decide, _, _, rfl, rfl, ⟨by decide, by decide, by decide⟩, _, _, rfl, rfl, _, _, rfl, rfl, (pos (by decide +kernel)), _, _, rfl, rfl, ?_⟩
        have hs0 : 6 ≤ 6 + cellV ns 3 % ((10 : Int) ^ (12 : Int).toNat - 5) := by
          have := Int.emod_nonneg (cellV ns 3) (show (10 : Int) ^ (12 : Int).toNat - 5 ≠ 0 by decide +kernel)
          omega
        dsimp only
        generalize 6 + cellV ns 3 % ((10 : Int) ^ (12 : Int).toNat - 5) = s0 at *
        refine ⟨_, rfl, a, ns, 3, rfl, hS, by decide, _, _, rfl, rfl, (pos rfl), rfl, _, rfl, ?_⟩
        refine ite2 (fun _ => ?_) (fun _ => fin s0 hs0)
        refine ⟨_, rfl, a, ns, 3, rfl, hS, by decide, _, _, rfl, rfl, ⟨by decide, by decide⟩, _, _, rfl, rfl, (pos rfl), _, _, rfl, rfl, fin (6 + cellV ns 3 / 3 % 5) ?_⟩
        have := Int.emod_nonneg (cellV ns 3 / 3) (show (5 : Int) ≠ 0 by decide)
        omega
      intro sz hsz
      refine ⟨_, rfl, a, ns, rfl, hS, fun l shs H1 s1 hSh ok => ?_⟩
      refine ⟨_, rfl, _, rfl, a, ns, sz, rfl, s1.seq hS, hsz, fun kl ks H2 s2 hkl hk5 hkp hkr => ?_⟩
      have hSh2 := (hSh.same cut_sub).same s2
      have hk2 := cut_sub _ _ hkl
      have S2 := s1.trans s2
      apply cutE (fun ol H3 => Same H2 H3 ∧ ∃ ord : List Nat, H3 ol = some (.lst (ord.map fun i => V.int (i : Nat))) ∧ ord.Perm (List.range ks.length))
      · intro fin
        refine ⟨_, rfl, kl, _, rfl, .inl (SqL.of hk2), _, rfl, fun r hr' => ?_⟩
        have T3 := Same.upd (o := .rng 0 ((ks.map V.int).length : Nat)) hr'
        have r3 : (upd H2 r (.rng 0 ((ks.map V.int).length : Nat))) r = some (.rng 0 ((ks.map V.int).length : Nat)) := upd_same
        generalize upd H2 r (.rng 0 ((ks.map V.int).length : Nat)) = H3 at *
        have el : (((ks.map V.int).length : Nat) : Int).toNat = ks.length := by rw [Int.toNat_natCast, List.length_map]
        refine ⟨r, _, rfl, r3, (by omega), (by rw [List.length_map]; omega), fun ol hol => ?_⟩
        rw [el]
        have T4 := Same.upd (o := .lst ((List.range ks.length).map fun i => V.int (i : Nat))) hol
        have o4 : (upd H3 ol (.lst ((List.range ks.length).map fun i => V.int (i : Nat)))) ol = some (.lst ((List.range ks.length).map fun i => V.int (i : Nat))) := upd_same
        generalize upd H3 ol (.lst ((List.range ks.length).map fun i => V.int (i : Nat))) = H4 at *
        have S4 := T3.trans T4
        refine ⟨_, rfl, a, ns, 5, rfl, (S2.trans S4).seq hS, by decide, _, _, rfl, rfl, ⟨by decide, by decide⟩, _, _, rfl, rfl, (pos rfl), rfl, _, rfl, ?_⟩
        refine ite2 (fun _ => ?_) (fun _ => fin ol H4 ⟨S4, _, o4, List.Perm.refl _⟩)
        refine ⟨_, rfl, ol, _, rfl, SqL.of o4, fun ol2 hol2 => ?_⟩
        rw [← List.map_reverse]
        exact fin ol2 _ ⟨S4.trans (Same.upd hol2), _, upd_same, List.reverse_perm _⟩
      rintro ol H3 ⟨s3, ord, o3, hop⟩
      refine fun td htd => ?_
      have T4 := Same.upd (o := .dK []) htd
      have d4 : (upd H3 td (.dK [])) td = some (.dK []) := upd_same
      generalize upd H3 td (.dK []) = H4 at *
      have hord : ∀ j ∈ ord, j < ks.length := fun j hj => List.mem_range.mp (hop.mem_iff.mp hj)
      have nd : ord.Nodup := hop.nodup_iff.mpr List.nodup_range
      have hol : ord.length = ks.length := by rw [hop.length_eq, List.length_range]
      have hSh3 := hSh2.same s3
      have hk3 := s3 _ _ hk2
      have S3 := S2.trans s3
      have L0 : LI (fun _ => none) H3 H4 td [] := ⟨T4, htd, d4, rfl, (fun b k e => nomatch e), fun e he => nomatch he⟩
      refine ⟨_, rfl, ol, rfl, ⟨_, SqL.of (T4 _ _ o3)⟩, for_list (K := K) (a := ol) (xs := ord.map fun i => V.int (i : Nat)) (fun i σ H' => ∃ (g : Addr → Option Int) (es : List En) (u6 : Option V), σ = [some (.ref a), some (.int sz), some (.ref l), some (.ref kl), some (.ref ol), some (.ref td), u6, none, none, none, none] ∧ LI g H3 H' td es ∧ es.map kc = (ord.take i).map (My.fK ns shs ks)) ⟨_, [], _, rfl, L0, rfl⟩ (fun i σ H' _ p => by obtain ⟨g, es, u6, _, L, _⟩ := p; exact SqL.of (L.sm _ _ o3)) ?_ ?_⟩
      · rintro i x σ H' hx ⟨g, es, u6, rfl, L, hes⟩
        have hi : i < ord.length := by
          have := (List.getElem?_eq_some_iff.mp hx).1
          rwa [List.length_map] at this
        rw [List.getElem?_map, List.getElem?_eq_getElem hi] at hx
        cases hx
        have hj := hord _ (List.getElem_mem hi)
        refine ⟨_, rfl, _, rfl, _, rfl, a, l, ns, shs, (ord[i] : Int), rfl, (S3.trans L.sm).seq hS, hSh3.same L.sm, ok, (by omega), (by omega), fun p H5 s5 h5 => ?_⟩
        have el : es.length = i := by
          have := congrArg List.length hes
          rw [List.length_map, List.length_map, List.length_take] at this
          omega
        have eat : atI (ks.map V.int) (ord[i] : Int) = some (V.int ks[ord[i]]) := atI_nat (by rw [List.getElem?_map, List.getElem?_eq_getElem hj]; rfl)
        refine ⟨_, rfl, _, rfl, _, rfl, kl, _, _, _, rfl, rfl, SqL.of ((L.sm.trans s5) _ _ hk3), eat, td, _, rfl, .inl ⟨kvT es, .inl ks[ord[i]], s5 _ _ L.at_, rfl, (by unfold kvT; rw [List.length_map, sizeLine_eq]; omega), rfl⟩, ?_⟩
        have hnew : ks[ord[i]] ∉ es.map (·.k) := fun hm => by
          have e1 : es.map (·.k) = (ord.take i).map fun j => ks.getD j 0 := by
            have := congrArg (List.map Prod.fst) hes
            rw [List.map_map, List.map_map] at this
            exact this
          rw [e1] at hm
          obtain ⟨j, hjm, ej⟩ := List.mem_map.mp hm
          have hjl := hord j (List.mem_of_mem_take hjm)
          rw [List.getD_eq_getElem?_getD, List.getElem?_eq_getElem hjl] at ej
          have ej' : ks[j] = ks[ord[i]] := ej
          have : j = ord[i] := by
            have pw := List.pairwise_iff_getElem.mp hkp
            rcases Nat.lt_trichotomy j ord[i] with c | c | c
            · have := pw j ord[i] hjl hj c
              omega
            · exact c
            · have := pw ord[i] j hj hjl c
              omega
          have e2 : ord = ord.take i ++ ord[i] :: ord.drop (i + 1) := by rw [← List.drop_eq_getElem_cons hi, List.take_append_drop]
          rw [e2, List.nodup_append] at nd
          exact nd.2.2 j hjm _ List.mem_cons_self this
        have hval : valV (kvT es) (.inl ks[ord[i]]) = none := valV_non (f := En.k) (g := fun t : En => V.ref t.p) hnew
        rw [putK_new _ hval, ← kvT_snoc es ⟨ks[ord[i]], p, pieceC ns shs ord[i]⟩]
        obtain ⟨g', L'⟩ := L.add (k := ks[ord[i]]) s5 h5
        refine ⟨g', _, _, rfl, L', ?_⟩
        rw [List.map_append, hes, List.take_succ, List.getElem?_eq_getElem hi, List.map_append]
        show _ ++ [(ks[ord[i]], pieceC ns shs ord[i])] = _ ++ [My.fK ns shs ks ord[i]]
        unfold My.fK
        rw [List.getD_eq_getElem?_getD, List.getElem?_eq_getElem hj]
        rfl
      · rintro σ H' ⟨g, es, u6, rfl, L, hes⟩
        rw [List.length_map, List.take_length] at hes
        exact ⟨l, kl, ol, td, sz, shs, ks, u6, g, H3, es, rfl, ok, ⟨hk5, hkp, hkr⟩, hsz, S3, hSh3, hk3, L, by rw [hes]; exact LK_perm hop⟩
    · refine ⟨_, pss_cons (ps_set (i := 7) sc.nd rfl (Or.inl rfl) (pe_make MP GI hr (by rfl) mP bI .nil pass0 (pa_cons (pe_call GF hr1 (by rfl) DF.mg DF.fn.kp bF .nil pass0 (pa_cons (pv 1) (pa_cons (pv 2) pa_nil))) (pa_cons (pv 5) pa_nil))))
        (pss_cons (ps_if (pt_not (pt_val (pe_call GT hr4 (by rfl) DT.mg DT.fn.kp bT .nil pass0 (pa_cons (pv 7) (pa_cons (pv 0) (pa_cons (pv 2) (pa_cons (pv 3) pa_nil))))))) pss_never pss_nil)
        (pss_cons (ps_expr (pe_call GX hr3 (by rfl) DX.mg DX.fn.kp bX .nil pass0 (pa_cons (pv 7) (pa_cons (pv 2) (pa_cons (pv 3) pa_nil)))))
        (pss_cons (ps_for PassesOwn.never rfl (pi_enum (by rfl) B.enum (pa_cons (pv 3) pa_nil)) (pg_tup rfl (pgs_cons (pg_name (i := 6) sc.nd rfl (Or.inl rfl)) (pgs_cons (pg_name (i := 8) sc.nd rfl (Or.inl rfl)) pgs_nil)))
          (pss_cons (ps_if (pt_cmpR op_neDD (pe_dget hu (pv 5) (pv 8) (fun _ _ => rfl)) (pe_call GL hr3 (by rfl) DL.mg DL.fn.kp bL .nil pass0 (pa_cons (pv 0) (pa_cons (pv 2) (pa_cons (pv 6) pa_nil)))) (nomark _)) pss_never pss_nil)
          (pss_cons (ps_expr (pe_bm0 PySem.F.plainAttrs_dict PySem.F.slot_dict_clear PySem.F.type_dict_clear mt_dclear (pe_ix ix_list (pe_dget hu (pe_dget hu (pv 5) (pv 8) (fun _ _ => rfl)) (pe_ix ix_tup (pe_ix ix_list (pv 2) pe_int (fun _ _ => rfl)) pe_int (fun _ _ => rfl)) (fun _ _ => rfl)) pe_int (fun _ _ => rfl))))
          (pss_one (ps_expr (pe_bm0 PySem.F.plainAttrs_list PySem.F.slot_list_clear PySem.F.type_list_clear mt_clr (pe_dget hu (pe_dget hu (pv 5) (pv 8) (fun _ _ => rfl)) (pe_ix ix_tup (pe_ix ix_list (pv 2) pe_int (fun _ _ => rfl)) pe_int (fun _ _ => rfl)) (fun _ _ => rfl))))))))
        (pss_one (ps_expr (pe_bm0 PySem.F.plainAttrs_dict PySem.F.slot_dict_clear PySem.F.type_dict_clear mt_dclear (pv 5))))))), ?_⟩
      rintro σ HA ⟨l, kl, ol, td, sz, shs, ks, u6, g, H0, es, rfl, ok, kok, hsz, S0, hSh, hk, L, hperm⟩
      have hLs : srt (es.map kc) = LK ns shs ks := srt_eq hperm (by rw [LK_keys]; exact kok.up)
      have pok : ∀ k : Int, PcOk (pieceC ns shs k) := fun k => pieceC_ok ok
      have inL : ∀ {vs : List En}, vs.map kc = es.map kc → ∀ e ∈ vs, ∃ i : Nat, i < ks.length ∧ ks[i]? = some e.k ∧ e.pc = pieceC ns shs i := fun {vs} hv e he => by
        have hm : kc e ∈ LK ns shs ks := hperm.mem_iff.mp (by rw [← hv]; exact List.mem_map.mpr ⟨e, he, rfl⟩)
        exact LK_mem hm
      have eok : ∀ {vs : List En}, vs.map kc = es.map kc → ∀ e ∈ vs, PcOk e.pc := fun {vs} hv e he => by
        obtain ⟨i, _, _, e2⟩ := inL hv e he
        rw [e2]
        exact pok i
      have esk : (es.map (·.k)).Perm ks := by
        have := hperm.map (·.1)
        rw [LK_keys, List.map_map] at this
        exact this
      have ksn : ks.Nodup := kok.up.imp fun h => Int.ne_of_lt h
      have hTh : ThsAt HA td es := ⟨L.at_, esk.nodup_iff.mpr ksn, (by have h1 := esk.length_eq; rw [List.length_map] at h1; have := kok.le; omega), fun e he => (L.th e he).same reg_sub, eok rfl⟩
      have hShA := hSh.same L.sm
      have hkA := L.sm _ _ hk
      refine ⟨_, rfl, _, rfl, l, sz, shs, rfl, hShA, ok, fun fo Ts H6 S6 hF hTs => ?_⟩
      refine ⟨_, rfl, fun x dx hx hdx nxd => ?_⟩
      have Sm : Same H6 (upd (upd H6 dx (.own x)) x (.ins CP dx [])) := fun b ob e => by
        rw [upd_ne (ne_of_none e hx), upd_ne (ne_of_none e hdx)]
        exact e
      have hx0 : (upd (upd H6 dx (.own x)) x (.ins CP dx [])) x = some (.ins CP dx []) := upd_same
      generalize upd (upd H6 dx (.own x)) x (.ins CP dx []) = Hm at *
      refine ⟨x, dx, fo, td, sz, Ts, es, rfl, hx0, (hF.same cut_sub).same Sm, (hTh.same S6).same Sm, fun td' us H7 hx7 fr7 huk hus => ⟨rfl, ?_⟩⟩
      have S67 : Same H6 H7 := fun b ob e => fr7 b ob (ne_of_none e hx) (Sm _ _ e)
      have SA7 := S6.trans S67
      have hL : srt (us.map kc) = LK ns shs ks := by rw [huk]; exact hLs
      have hPl : PlAt CP (cut HA H7) x sz Ts us := ⟨⟨dx, fo, td', cut_at (none_of S6 hx) hx7, hF.same (cut_up S67), hus.same (cut_dn (S6.trans Sm))⟩, fun e he T hT => by
        obtain ⟨i, _, _, e2⟩ := inL huk e he
        rw [e2, pieceC_names, ← hTs]
        exact hT⟩
      have tabs : ∀ T ∈ Ts.map (·.name), (flat T (srt (us.map kc))).length ≤ 100000 := fun T hT => by
        rw [hL]
        have := flat_len (T := T) (m := 1000) (es := LK ns shs ks) fun e he => by
          obtain ⟨i, _, _, e2⟩ := LK_mem he
          rw [e2]
          exact (tab_ok (pok i) (by rw [pieceC_names, ← hTs]; exact hT)).1
        rw [LK_len] at this
        have := kok.le
        omega
      clear fr7 hus hx7 Sm hx0 hF hx hdx nxd
      refine ⟨_, rfl, _, rfl, _, rfl, _, rfl, x, a, l, kl, sz, Ts, us, ns, shs, ks, rfl, hPl.same cut_sub, hTs, ((S0.trans L.sm).trans SA7).seq hS, hShA.same SA7, ok, SA7 _ _ hkA, kok.le, hL, fun H8 s8 => ⟨_, rfl, iteF ?_⟩⟩
      have P8 := hPl.same (cut_up s8)
      have SA8 := SA7.trans s8
      refine ⟨_, rfl, _, rfl, _, rfl, x, l, kl, sz, Ts, us, shs, ks, rfl, P8.same cut_sub, hTs, hShA.same SA8, SA8 _ _ hkA, (fun k hkm => ?_), tabs, fun H9 s9 => ?_⟩
      · obtain ⟨i, hi, rfl⟩ := List.getElem_of_mem hkm
        obtain ⟨e, he, e1, e2⟩ := LK_en hL hi
        exact ⟨e, he, e1, by rw [e2]; exact pok i⟩
      have P9 := P8.same (cut_up s9)
      have SA9 := SA8.trans s9
      clear P8 hPl s8 s9 S67 S6 SA7 SA8
      have L9 := L.same SA9
      obtain ⟨ys, y1, y2, y3⟩ := id hSh
      obtain ⟨s0, r0, es0, hh, _⟩ := ok.hd
      have h4 := ok.four
      have nT : ∀ s ∈ shs, ∀ k : Int, s.1 ∈ (pieceC ns shs k).map (·.1) := fun s hs k => by rw [pieceC_names]; exact List.mem_map.mpr ⟨s, hs, rfl⟩
      obtain ⟨i0, hi0⟩ : ∃ i0, i0 = shs[0]'(by omega) := ⟨_, rfl⟩
      have e00 : shs[0]'(by omega) = s0 := by rw [List.getElem_eq_iff, es0]; rfl
      have g0 : shs[0]? = some (shs[0]'(by omega)) := List.getElem?_eq_getElem _
      have g1 : shs[1]? = some (shs[1]'(by omega)) := List.getElem?_eq_getElem _
      have q0 : ys[0]? = some (ys[0]'(by omega)) := List.getElem?_eq_getElem _
      have q1 : ys[1]? = some (ys[1]'(by omega)) := List.getElem?_eq_getElem _
      have yy0 := y3 0 _ _ q0 g0
      have yy1 := y3 1 _ _ q1 g1
      have m0 := nT _ (List.getElem_mem (show 0 < shs.length by omega))
      have m1 := nT _ (List.getElem_mem (show 1 < shs.length by omega))
      have one : ∀ k : Int, 0 < (tab (pieceC ns shs k) (shs[0]'(by omega)).1).length := fun k => by
        rw [e00, es0, tab_head hh]
        decide
      have at0 : atI (ys.map V.ref) 0 = some (V.ref (ys[0]'(by omega))) := atI_nat (j := 0) (by rw [List.getElem?_map, q0]; rfl)
      have at1 : atI (ys.map V.ref) 1 = some (V.ref (ys[1]'(by omega))) := atI_nat (j := 1) (by rw [List.getElem?_map, q1]; rfl)
      generalize (shs[0]'(by omega)).1 = T0 at *
      generalize (shs[1]'(by omega)).1 = T1 at *
      generalize ys[0]'(by omega) = Y0 at *
      generalize ys[1]'(by omega) = Y1 at *
      refine ⟨_, rfl, kl, rfl, ⟨_, SqL.of (SA9 _ _ hkA)⟩, for_enum (K := K) (a := kl) (xs := ks.map V.int) (fun i σ H' => Same H0 H' ∧ H' td = some (.dK (kvT es)) ∧ PlAt CP (cut HA H') x sz Ts us ∧ (∀ e ∈ es, (∀ j, j < i → ks[j]? ≠ some e.k) → PcAt (reg g e.k H') e.p e.pc) ∧ ∃ (u6 u8 : Option V), σ = [some (.ref a), some (.int sz), some (.ref l), some (.ref kl), some (.ref ol), some (.ref td), u6, some (.ref x), u8, none, none]) ⟨L9.sm, L9.at_, P9, (fun e he _ => L9.th e he), _, _, rfl⟩ (fun i σ H' _ p => SqL.of (p.1 _ _ hk)) ?_ ?_⟩
      · rintro i v p σ H' hx ⟨sm, ht, hp, hth, u6, u8, rfl⟩ hpn
        have hi : i < ks.length := by
          have := (List.getElem?_eq_some_iff.mp hx).1
          rwa [List.length_map] at this
        rw [List.getElem?_map, List.getElem?_eq_getElem hi] at hx
        cases hx
        have T1' := Same.upd (o := .tup [.int (i : Nat), .int ks[i]]) hpn
        refine ⟨p, _, rfl, SqT.of upd_same, rfl, _, _, rfl, _, _, rfl, rfl, ?_⟩
        show tSeq _ _ _ _ (upd H' p (.tup [.int (i : Nat), .int ks[i]]))
        generalize upd H' p (.tup [.int (i : Nat), .int ks[i]]) = H1 at *
        obtain ⟨e, he, ek, ep⟩ := LK_en hLs hi
        have k5 := kok.le
        have dg : ∀ {G : Hp}, G td = some (.dK (kvT es)) → DGet G td (.int ks[i]) (some (.ref e.p)) := fun {G} hG => by
          rw [← ek]
          exact .inl ⟨_, .inl e.k, .inl hG, rfl, (valV_map (f := En.k) (g := fun t : En => V.ref t.p) hTh.nd he).symm⟩
        have hpe := hth e he fun j hj hc => by
          rw [List.getElem?_eq_getElem (show j < ks.length by omega)] at hc
          injection hc with hc
          have := List.pairwise_iff_getElem.mp kok.up j i (by omega) hi hj
          omega
        have sm1 := sm.trans T1'
        refine ⟨_, rfl, _, rfl, td, _, rfl, dg (T1' _ _ ht), _, rfl, _, rfl, _, rfl, a, l, ns, shs, (i : Int), rfl, (S0.trans sm1).seq hS, hSh.same sm1, ok, (by omega), (by omega), fun p5 H5 s5 h5 => ?_⟩
        have T5 := T1'.trans s5
        have pe5 := hpe.same (reg_up T5)
        rw [ep] at pe5
        obtain ⟨kvs, kws, n1, n2, n3, n4, n5⟩ := ne_dv (pc_dv (pok i) (pe5.same reg_sub)) (pc_dv (pok i) (h5.same cut_sub))
        refine ⟨2, e.p, p5, kvs, kws, rfl, rfl, n1, n2, n3, n4, n5, hu3, _, rfl, iteF ?_⟩
        have sm5 := sm.trans T5
        have t5 := T5 _ _ ht
        obtain ⟨kv, l0, l1, r, rs, us1, kv0, w1, w2, w3, w4, w5, w6, w7⟩ := two_at (pok i) pe5 (m0 i) (m1 i) (one i)
        have gr := reg_g w6
        have gl1 := reg_g w5
        have r0' := reg_sub _ _ w6
        refine ⟨_, rfl, _, rfl, td, _, rfl, dg t5, _, rfl, l, _, 0, _, rfl, rfl, SqL.of (sm5 _ _ y1), at0, Y0, _, 0, _, rfl, rfl, SqT.of (sm5 _ _ yy0), rfl, e.p, _, rfl, .inl ⟨kv, .inr T0, .inl (reg_sub _ _ w1), rfl, w2.symm⟩, l0, _, 0, .ref r, rfl, rfl, SqL.of (reg_sub _ _ w4), atI_nat (j := 0) rfl, .inr (.inr (.inl ⟨rfl, .inl ⟨_, r0'⟩⟩)), r, _, rfl, rfl, r0', ?_⟩
        have nrt : td ≠ r := fun e => by rw [← e, L.gt] at gr; cases gr
        have nl1 : l1 ≠ r := fun e => by rw [e, w6] at w5; cases w5
        have hr0 := (L.gl r _ gr).1
        obtain ⟨oA, hrA⟩ := (L.gl r _ gr).2
        have sm6 : Same H0 (upd H5 r (.dK [])) := sm5.put hr0
        have t6 : (upd H5 r (.dK [])) td = some (.dK (kvT es)) := by rw [upd_ne nrt]; exact t5
        have p6 : (upd H5 r (.dK [])) e.p = some (.dK kv) := by rw [upd_ne w7.symm]; exact reg_sub _ _ w1
        have l6 : (upd H5 r (.dK [])) l1 = some (.lst us1) := by rw [upd_ne nl1]; exact reg_sub _ _ w5
        have P6 : PlAt CP (cut HA (upd H5 r (.dK []))) x sz Ts us := (hp.same (cut_up T5)).same (cut_upd hrA)
        have h6 : ∀ e' ∈ es, ¬ e'.k = e.k → (∀ j, j < i → ks[j]? ≠ some e'.k) → PcAt (reg g e'.k (upd H5 r (.dK []))) e'.p e'.pc := fun e' he' ne hj => ((hth e' he' hj).same (reg_up T5)).same (reg_put fun hc => ne (by rw [gr] at hc; injection hc with hc; exact hc.symm))
        generalize upd H5 r (.dK []) = H6 at *
        refine ⟨_, rfl, _, rfl, td, _, rfl, dg t6, _, rfl, l, _, 1, _, rfl, rfl, SqL.of (sm6 _ _ y1), at1, Y1, _, 0, _, rfl, rfl, SqT.of (sm6 _ _ yy1), rfl, e.p, _, rfl, .inl ⟨kv, .inr T1, .inl p6, rfl, w3.symm⟩, .inl ⟨rfl, _, SqL.of l6⟩, l1, _, rfl, rfl, l6, ?_⟩
        have nlt : td ≠ l1 := fun e => by rw [← e, L.gt] at gl1; cases gl1
        obtain ⟨oB, hlA⟩ := (L.gl l1 _ gl1).2
        refine ⟨sm6.put (L.gl l1 _ gl1).1, by rw [upd_ne nlt]; exact t6, P6.same (cut_upd hlA), fun e' he' hj => ?_, _, _, rfl⟩
        have hne : ¬ e'.k = e.k := fun h => hj i (Nat.lt_succ_self _) (by rw [List.getElem?_eq_getElem hi, h, ek])
        exact (h6 e' he' hne fun j hji => hj j (by omega)).same (reg_put fun hc => hne (by rw [gl1] at hc; injection hc with hc; exact hc.symm))
      · rintro σ H' ⟨sm, ht, hp, hth, u6, u8, rfl⟩
        refine ⟨_, rfl, .inr (.inr (.inl ⟨rfl, .inl ⟨_, ht⟩⟩)), td, _, rfl, rfl, ht, ?_⟩
        have smE : Same H0 (upd H' td (.dK [])) := sm.put L.t0
        exact ⟨l, kl, ol, td, x, sz, shs, ks, u6, u8, Ts, us, rfl, ok, kok, hsz, S0.trans smE, hSh.same smE, smE _ _ hk, (hp.same (cut_upd L.at_)).same cut_sub, hTs, hL⟩
    · refine ⟨_, pss_cons (ps_if (pt_not (pt_val (pe_call GT hr4 (by rfl) DT.mg DT.fn.kp bT .nil pass0 (pa_cons (pv 7) (pa_cons (pv 0) (pa_cons (pv 2) (pa_cons (pv 3) pa_nil))))))) pss_never pss_nil)
        (pss_cons (ps_set (i := 9) sc.nd rfl (Or.inl rfl) (pe_op op_mod (pe_op op_fdiv (pe_call GC hr1 (by rfl) DC.mg DC.fn.kp bC .nil pass0 (pa_cons (pv 0) (pa_cons pe_int pa_nil))) pe_int) (pv 1)))
        (pss_cons (ps_if (pt_cmpR op_in_seq (pv 9) (pv 3) (by with_unfolding_all rfl)) (pss_one (ps_set (i := 9) sc.nd rfl (Or.inl rfl) (pv 1))) pss_nil)
        (pss_cons (ps_comp (i := 10) (osc := defScope (top 51)) (N0 := lwN) (xs := ["_law_sheet"]) (fr := []) ⟨rfl, by decide +kernel, by decide +kernel, by decide +kernel, by decide, by decide +kernel⟩ rfl rfl rfl (pi_list (pv 2))
          (fun s H fp => pg_name (i := 0) (show (["_law_sheet"] : List Str).Nodup by decide +kernel) rfl (Or.inl rfl)) (fun s H fp => pif_nil) (fun s H fp => pe_ix (r := rIxT K) ix_tup (pv 0) pe_int (fun _ _ => rfl)) sc.nd rfl (Or.inl rfl))
        (pss_cons (ps_if (pt_not (pt_val (pe_call GA hr5 (by rfl) DA.mg DA.fn.kp bA .nil pass0 (pa_cons (pv 7) (pa_cons (pv 0) (pa_cons (pv 2) (pa_cons (pv 3) (pa_cons (pv 9) pa_nil)))))))) pss_never pss_nil)
        (pss_one (ps_ret (pe_call GR hr4 (by rfl) DR.mg DR.fn.kp bR .nil pass0 (pa_cons (pv 7) (pa_cons (pe_op op_add_str (pe_callB (call_maxT rfl) (by rfl) hMx PyProof.Rows.boot_max (pa_cons (pv 10) pa_nil)) pe_str) (pa_cons (pe_ix ix_list (pv 10) pe_int (fun _ _ => rfl)) (pa_cons (pv 9) pa_nil))))))))))), ?_⟩
      rintro σ H0 ⟨l, kl, ol, td, x, sz, shs, ks, u6, u8, Ts, us, rfl, ok, kok, hsz, S0, hSh, hk, hPl, hTs, hL⟩
      refine ⟨_, rfl, _, rfl, _, rfl, _, rfl, x, a, l, kl, sz, Ts, us, ns, shs, ks, rfl, hPl, hTs, S0.seq hS, hSh, ok, hk, kok.le, hL, fun H1 s1 => ⟨_, rfl, iteF ?_⟩⟩
      have uk : ∀ e ∈ us, e.k ∈ ks := fun e he => by
        have hm : kc e ∈ LK ns shs ks := by
          rw [← hL]
          exact (srt_perm _).mem_iff.mpr (List.mem_map.mpr ⟨e, he, rfl⟩)
        obtain ⟨j, _, h1, _⟩ := LK_mem hm
        exact List.mem_of_getElem? h1
      have S1 := S0.trans s1
      apply cutI (fun ot => ot ∉ ks)
      · intro fin
        refine ⟨_, rfl, a, ns, 4, rfl, S1.seq hS, by decide, _, _, rfl, rfl, ⟨by decide, by decide⟩, _, rfl, _, _, rfl, rfl, (by omega), ?_⟩
        dsimp only
        generalize cellV ns 4 / 6 % sz = ot
        refine ⟨_, rfl, _, rfl, kl, _, rfl, .inl (SqL.of (s1 _ _ hk)), rfl, flat_ints ks, _, rfl, ?_⟩
        by_cases ho : ¬ ot ∈ ks
        · rw [inV_int, show decide (ot ∈ ks) = false from decide_eq_false ho]
          exact iteF (fin ot ho)
        · rw [inV_int, show decide (ot ∈ ks) = true from decide_eq_true (Classical.not_not.mp ho)]
          refine iteT ⟨_, rfl, fin sz fun hm => ?_⟩
          have := (kok.rg sz hm).2
          omega
      intro ot hot
      have hSh1 := hSh.same s1
      obtain ⟨ys, y1, y2, y3⟩ := id hSh1
      refine ⟨_, rfl, l, rfl, ⟨_, SqL.of y1⟩, fun D hD => ?_⟩
      refine compW_map shs.length (fun i => .str ((shs.map (·.1)).getD i "")) (fun i σ' Hc => (∃ t, σ' = [t]) ∧ Same H1 Hc) (by rw [sizeLine_eq]; have := ok.four; omega) ⟨⟨none, rfl⟩, Same.upd hD⟩ upd_same ?_ ?_
      · rintro i σ' Hc hi ⟨⟨t, rfl⟩, sm⟩ hD'
        have hiy : i < ys.length := by omega
        have hyc := sm _ _ y1
        have eg : (ys.map V.ref)[i]? = some (V.ref ys[i]) := by rw [List.getElem?_map, List.getElem?_eq_getElem hiy]; rfl
        refine ⟨⟨_, V.ref ys[i], SqL.of hyc, eg⟩, ?_⟩
        rintro y H' ⟨rfl, hx'⟩
        have ex := hx' _ (SqL.of hyc)
        rw [eg] at ex
        cases ex
        have yy := sm _ _ (y3 i ys[i] shs[i] (List.getElem?_eq_getElem hiy) (List.getElem?_eq_getElem hi))
        refine ⟨_, rfl, ys[i], _, 0, _, rfl, rfl, SqT.of yy, rfl, ?_, hD', ⟨_, rfl⟩, sm.put hD⟩
        rw [List.getD_eq_getElem?_getD, List.getElem?_map, List.getElem?_eq_getElem hi]
        rfl
      · rintro σ' Hc ⟨_, sm⟩ hDn
        have en : ((List.range shs.length).map fun i => V.str ((shs.map (·.1)).getD i "")) = (shs.map (·.1)).map V.str := by
          apply List.ext_getElem?
          intro i
          rw [List.getElem?_map, List.getElem?_map]
          by_cases hi : i < shs.length
          · rw [List.getElem?_range hi, List.getElem?_eq_getElem (by rw [List.length_map]; exact hi)]
            show some (V.str _) = some (V.str _)
            rw [List.getD_eq_getElem?_getD, List.getElem?_eq_getElem (by rw [List.length_map]; exact hi)]
            rfl
          · rw [List.getElem?_eq_none (by rw [List.length_range]; omega), List.getElem?_eq_none (by rw [List.length_map]; omega)]
            rfl
        rw [en] at hDn
        have S2 := s1.trans sm
        refine ⟨⟨_, SqL.of (sm _ _ y1), by rw [List.length_map]; exact Nat.le_of_eq y2⟩, ?_⟩
        refine ⟨_, rfl, _, rfl, _, rfl, _, rfl, _, rfl, x, a, l, kl, sz, Ts, us, ns, shs, ks, ot, rfl, hPl.same S2, hTs, (S0.trans S2).seq hS, hSh1.same sm, ok, S2 _ _ hk, kok.le, kok.up, hL, (fun e he => ⟨fun h => hot (h ▸ uk e he), (kok.rg _ (uk e he)).1⟩), fun H4 s4 => ⟨_, rfl, iteF ?_⟩⟩
        have S4 := S2.trans s4
        have hD4 := s4 _ _ hDn
        obtain ⟨s0, r, es, hh, _⟩ := ok.hd
        have hP4 := hPl.same S4
        cases Ts with
        | nil => rw [es] at hTs; cases hTs
        | cons T Ts' =>
          have eT : T.name = s0.1 := by rw [es] at hTs; injection hTs
          refine ⟨_, rfl, _, rfl, D, _, rfl, SqL.of hD4, (by rw [List.length_map, ok.four]; decide), fun z hz hmax => ?_⟩
          refine ⟨_, _, rfl, rfl, ?_, _, rfl, D, _, 0, .str T.name, rfl, rfl, SqL.of hD4, (by rw [es, eT]; exact atI_nat (show _ = some (V.str s0.1) from rfl)), _, rfl, x, sz, _, T, Ts', us, ot, rfl, hP4, ?_, (fun hm => ?_), fun H5 s5 => q H5⟩
          · obtain ⟨s, hsm, rfl⟩ := List.mem_map.mp hz
            have := (ok.nm s hsm).2
            rw [sizeLine_eq]
            have e1 : (("a" : Str).length) = 1 := by decide +kernel
            omega
          · rw [hTs]
            intro hm
            refine hmax _ hm ?_
            have e2 : (z ++ ("a" : Str)).cps.toList = z.cps.toList ++ [97] := by
              show (z.cps ++ _).toList = _
              rw [Array.toList_append]
              rfl
            rw [e2]
            exact lt_more _ _
          · obtain ⟨e, he, rfl⟩ := List.mem_map.mp hm
            exact hot (uk e he)
end
end My

namespace L2
open PySem PySem.Spec PyProof.Rows
/-- a method of a class, as the top has made it -/
def MethIn (K : PySem.W.Frag) (C : Addr) (m qual : Str) (st : Stmt) : Prop := ∃ f fd, Fun K m qual st f fd ∧ Meth K C m f
theorem methIn_mk {K : PySem.W.Frag} {C f : Addr} {m qual : Str} {st : Stmt} {oc : Value} {od an : Option Addr} {osl : Array (Option Value)} {kV doc pm cdv ct : Value} (a : PySem.W.findIn K (.ref C) m = some (some (.ref f))) (i : PySem.W.isFn K (.ref f) = true)
    (l : K.lookup f = some ⟨oc, od, .func (PySem.W.fnOf m qual (defArgs st) (defBody st) (defScope st) .none kV doc pm an cdv ct), osl⟩) (c : PySem.W.codeIn K cdv qual = true) (k : PySem.W.keepIn K (.ref f) = true) : MethIn K C m qual st :=
  ⟨f, _, fun_mk l c k, ⟨a, i, k⟩⟩
end L2
namespace My
open PySem L2
theorem all_mk {l : PySem.W.OpenLaw} {w : World} {K : PySem.W.Frag} {h : Heap} {mg : Str → Option Value} {fa CT CO CM CP fI fA fB : Addr} {ic ik idoc ipm icd ict ocA dVA kVA docA pmA cdA ctA ocB dVB kVB docB pmB cdB ctB : Value} {id1 ian odA anA odB anB : Option Addr} {isl slA slB : Array (Option Value)} (X : K.In h) (G : h.Ns mainGlobals mg) (hfa : mg "law" = some (.ref fa))
    (aT : PySem.W.nsIn K mainGlobals "TableError" = some (some (.ref CT)))
    (aO : PySem.W.nsIn K mainGlobals "NoTable" = some (some (.ref CO)))
    (aM : PySem.W.nsIn K mainGlobals "Missing" = some (some (.ref CM)))
    (aP : PySem.W.nsIn K mainGlobals "Plain" = some (some (.ref CP)))
    (xO : XCl K CO)
    (xM : XCl K CM)
    (bs : PySem.W.specialIn K (.ref CT) "__getattribute__" = some (some (.builtin "type.__getattribute__")))
    (br : PySem.W.readsIn K CT (.type "type") = true)
    (bf : PySem.W.findCls K (.ref CT) (.type "type") "__init__" = some (.val (.builtin "ValueError.__init__")))
    (n1 : PySem.W.findIn K (.ref CO) "table" = some none)
    (m1 : PySem.W.findIn K (.ref CM) "table" = some none)
    (n2 : PySem.W.findIn K (.ref CO) "key" = some none)
    (m2 : PySem.W.findIn K (.ref CM) "key" = some none)
    (n3 : PySem.W.findIn K (.ref CO) "place" = some none)
    (m3 : PySem.W.findIn K (.ref CM) "place" = some none)
    (ni : PySem.W.findIn K (.ref CO) "__init__" = some (some (.ref fI)))
    (nj : PySem.W.findIn K (.ref CM) "__init__" = some (some (.ref fI)))
    (nf : PySem.W.isFn K (.ref fI) = true)
    (nl : K.lookup fI = some ⟨ic, id1, .func (PySem.W.fnOf "__init__" "StepError.__init__" (defArgs (inClass (top 2) 0)) (defBody (inClass (top 2) 0)) (defScope (inClass (top 2) 0)) .none ik idoc ipm ian icd ict), isl⟩)
    (nc : PySem.W.codeIn K icd "StepError.__init__" = true)
    (nk : PySem.W.keepIn K (.ref fI) = true)
    (u1 : PySem.W.mroIn K CO (.ref CO) = some true)
    (u2 : PySem.W.mroIn K CM (.ref CM) = some true)
    (pg : PySem.W.plainGet K CP Str.empty = true)
    (hd : PySem.W.hasDictIn K CP = true)
    (po : PySem.W.plainOver K CP = true)
    (psa : PySem.W.findIn K (.ref CP) "__setattr__" = some (some (.builtin "object.__setattr__")))
    (mk : PySem.W.makesIn K CP = true)
    (kc : PySem.W.keepIn K (.ref CP) = true)
    (cF : PySem.W.findIn K (.ref CP) "form" = some none)
    (cT : PySem.W.findIn K (.ref CP) "things" = some none)
    (iA : PySem.W.findIn K (.ref CP) "__init__" = some (some (.ref fA)))
    (jA : PySem.W.isFn K (.ref fA) = true)
    (lA : K.lookup fA = some ⟨ocA, odA, .func (PySem.W.fnOf "__init__" "Plain.__init__" (defArgs (inClass (top 26) 0)) (defBody (inClass (top 26) 0)) (defScope (inClass (top 26) 0)) dVA kVA docA pmA anA cdA ctA), slA⟩)
    (cA : PySem.W.codeIn K cdA "Plain.__init__" = true)
    (kA : PySem.W.keepIn K (.ref fA) = true)
    (pA : ∀ (u v x : Value) (S : Setting), PySem.W.peek K S (bindArgs (PySem.W.fnOf "__init__" "Plain.__init__" (defArgs (inClass (top 26) 0)) (defBody (inClass (top 26) 0)) (defScope (inClass (top 26) 0)) dVA kVA docA pmA anA cdA ctA) ⟨[u, v, x], []⟩) = some ([("self", u), ("form", v), ("things", x)] : List (Str × Value)))
    (iB : PySem.W.findIn K (.ref CP) "row" = some (some (.ref fB)))
    (jB : PySem.W.isFn K (.ref fB) = true)
    (lB : K.lookup fB = some ⟨ocB, odB, .func (PySem.W.fnOf "row" "Plain.row" (defArgs (inClass (top 26) 4)) (defBody (inClass (top 26) 4)) (defScope (inClass (top 26) 4)) dVB kVB docB pmB anB cdB ctB), slB⟩)
    (cB : PySem.W.codeIn K cdB "Plain.row" = true)
    (kB : PySem.W.keepIn K (.ref fB) = true)
    (pC : ∀ (u v x y : Value) (S : Setting), PySem.W.peek K S (bindArgs (PySem.W.fnOf "row" "Plain.row" (defArgs (inClass (top 26) 4)) (defBody (inClass (top 26) 4)) (defScope (inClass (top 26) 4)) dVB kVB docB pmB anB cdB ctB) ⟨[u, v, x, y], []⟩) = some ([("self", u), ("table", v), ("key", x), ("place", y)] : List (Str × Value)))
    (h5 : MethIn K CP "rows" "Plain.rows" (inClass (top 26) 5))
    (h6 : MethIn K CP "piece" "Plain.piece" (inClass (top 26) 6))
    (h7 : MethIn K CP "held" "Plain.held" (inClass (top 26) 7))
    (d18 : DefIn K "tables_of" (top 18))
    (d19 : DefIn K "head_of" (top 19))
    (d21 : DefIn K "columns_of" (top 21))
    (d22 : DefIn K "table_in" (top 22))
    (d24 : DefIn K "copied" (top 24))
    (d33 : DefIn K "ask_whole_table" (top 33))
    (d34 : DefIn K "columns_by_sort" (top 34))
    (d37 : DefIn K "rows_in" (top 37))
    (d39 : DefIn K "_law_cell" (top 39))
    (d40 : DefIn K "_law_names" (top 40))
    (d41 : DefIn K "_law_sheets" (top 41))
    (d42 : DefIn K "_law_form" (top 42))
    (d43 : DefIn K "_law_keys" (top 43))
    (d44 : DefIn K "_law_many" (top 44))
    (d45 : DefIn K "_law_piece" (top 45))
    (d46 : DefIn K "_law_tells" (top 46))
    (d47 : DefIn K "_law_spoil" (top 47))
    (d48 : DefIn K "_law_missing" (top 48))
    (d49 : DefIn K "_law_lacks" (top 49))
    (d50 : DefIn K "_law_refuses" (top 50))
    (d51 : DefIn K "law" (top 51))
    (zb : BlK K) (zz : PySem.W.nsIn K mainGlobals "zip" = some none) (zv : PySem.W.nsIn K mainGlobals "reversed" = some none) (zm : PySem.W.nsIn K mainGlobals "max" = some none) :
    ∃ fd : FuncData, (∀ (s : Shared) (v : Value), BindsTo s fd ⟨[v], []⟩ [("_law_script", v)]) ∧ ∀ base : Heap, K.In base → base.Ns mainGlobals mg → FnOk l.prog w K mg base CX0 7 fa fd ["_law_script"] (spLaw K) := by
  have B : Bl mg := zb.bl X G
  have hz : mg "zip" = none := PySem.W.mg_none_of X G zz
  have hM : mg "max" = none := PySem.W.mg_none_of X G zm
  have hV : mg "reversed" = none := PySem.W.mg_none_of X G zv
  have T : Tx K mg CT CO CM := ⟨PySem.W.mg_of X G aT, ⟨bs, br, bf⟩, PySem.W.mg_of X G aO, xO, n1, n2, n3, PySem.W.mg_of X G aM, xM, m1, m2, m3⟩
  have R : Rf K mg CT CO CM := ⟨T, ⟨xO, u1⟩, ⟨xM, u2⟩⟩
  have FI : Fun K "__init__" "StepError.__init__" (inClass (top 2) 0) fI _ := fun_mk nl nc nk
  have bI := FI.binds (ps := ["self", "table", "key", "place"]) fun _ _ _ _ _ _ us hl => by obtain ⟨v0, v1, v2, v3, rfl⟩ := L2.ln4 hl; rfl
  have L : ClP K CP := ⟨⟨pg, hd, po, psa⟩, cF, cT⟩
  have F0 := funX_mk (st := inClass (top 26) 0) lA cA kA
  have b0 : Binds K (PySem.W.fnOf "__init__" "Plain.__init__" (defArgs (inClass (top 26) 0)) (defBody (inClass (top 26) 0)) (defScope (inClass (top 26) 0)) dVA kVA docA pmA anA cdA ctA) ["self", "form", "things"] [] := fun s us kin hl => by
    have h1 : us.length = 3 := by simpa using hl
    match us, h1 with
    | [u, v, x], _ => exact PySem.W.kp_binds kin (pA u v x)
  have F4 := funX_mk (st := inClass (top 26) 4) lB cB kB
  have bR0 : Binds K (PySem.W.fnOf "row" "Plain.row" (defArgs (inClass (top 26) 4)) (defBody (inClass (top 26) 4)) (defScope (inClass (top 26) 4)) dVB kVB docB pmB anB cdB ctB) ["self", "table", "key", "place"] [] := fun s us kin hl => by
    have h1 : us.length = 4 := by simpa using hl
    match us, h1 with
    | [u, v, x, y], _ => exact PySem.W.kp_binds kin (pC u v x y)
  have M4 : Meth K CP "row" fB := ⟨iB, jB, kB⟩
  obtain ⟨g5, gd5, F5, M5⟩ := h5
  obtain ⟨g6, gd6, F6, M6⟩ := h6
  obtain ⟨g7, gd7, F7, M7⟩ := h7
  have b5 := F5.binds (ps := ["self", "table"]) fun _ _ _ _ _ _ us hl => by obtain ⟨v0, v1, rfl⟩ := L2.ln2 hl; rfl
  have b6 := F6.binds (ps := ["self", "key"]) fun _ _ _ _ _ _ us hl => by obtain ⟨v0, v1, rfl⟩ := L2.ln2 hl; rfl
  have b7 := F7.binds (ps := ["self"]) fun _ _ _ _ _ _ us hl => by obtain ⟨v0, rfl⟩ := L2.ln1 hl; rfl
  obtain ⟨f18, fd18, D18⟩ := d18.df X G
  obtain ⟨f19, fd19, D19⟩ := d19.df X G
  obtain ⟨f21, fd21, D21⟩ := d21.df X G
  obtain ⟨f22, fd22, D22⟩ := d22.df X G
  obtain ⟨f24, fd24, D24⟩ := d24.df X G
  obtain ⟨f33, fd33, D33⟩ := d33.df X G
  obtain ⟨f34, fd34, D34⟩ := d34.df X G
  obtain ⟨f37, fd37, D37⟩ := d37.df X G
  obtain ⟨f39, fd39, D39⟩ := d39.df X G
  obtain ⟨f40, fd40, D40⟩ := d40.df X G
  obtain ⟨f41, fd41, D41⟩ := d41.df X G
  obtain ⟨f42, fd42, D42⟩ := d42.df X G
  obtain ⟨f43, fd43, D43⟩ := d43.df X G
  obtain ⟨f44, fd44, D44⟩ := d44.df X G
  obtain ⟨f45, fd45, D45⟩ := d45.df X G
  obtain ⟨f46, fd46, D46⟩ := d46.df X G
  obtain ⟨f47, fd47, D47⟩ := d47.df X G
  obtain ⟨f48, fd48, D48⟩ := d48.df X G
  obtain ⟨f49, fd49, D49⟩ := d49.df X G
  obtain ⟨f50, fd50, D50⟩ := d50.df X G
  obtain ⟨f, oc, od, kV, doc, pm, an, cdv, ct, osl, a, lk, c, k⟩ := d51
  have e := hfa.symm.trans (PySem.W.mg_of X G a)
  cases e
  refine ⟨PySem.W.fnOf "law" "law" (defArgs (top 51)) (defBody (top 51)) (defScope (top 51)) .none kV doc pm an cdv ct, fun s v => .of_eq rfl, fun base _ _ => ?_⟩
  have M : Ms l.prog w K mg base CP fB g5 g6 g7 _ gd5 gd6 gd7 := ⟨L, ok_row F4 B L D18, M4, bR0, ok_rows F5 B L D18 D37, M5, b5, ok_piece F6 B L D24, M6, b6, ok_held F7 B L, M7, b7⟩
  have MX : MsX l.prog w K mg base CP CO CM fB g5 g6 _ gd5 gd6 := ⟨L, ok_rowX F4 B L T D18 FI.x ⟨xO, ni, nf⟩ ⟨xM, nj, nf⟩ bI, M4, bR0, ok_rowsX F5 B L T D18 FI.x ⟨xO, ni, nf⟩ bI, M5, b5, ok_pieceX F6 L T D19 FI.x ⟨xM, nj, nf⟩ bI, M6, b6⟩
  exact ok_law (fun_mk lk c k) B hV hM D39 D41 (ok_sheets D41.fn B D39 D40) D42 D43 D45 (ok_pieceL D45.fn B D39 D44) ⟨mk, iA, jA, kc⟩ (PySem.W.mg_of X G aP) (ok_pinit F0 B L D24 D33 D34 D18 D21 D22) b0 D46 (ok_tells D46.fn B hz M D39 D44 D45) D47 (ok_spoil D47.fn M) D49 (ok_lacks D49.fn B R MX D39 D44 D45 D48) D50 (ok_refuses D50.fn R MX)
end My

namespace PySem.W.Fast
def tw12459750735174647637 : Unit := ()
def tw14936471600008943013 : Unit := ()
def tw980616679231656980 : Unit := ()
def tw4727420545946817120 : Unit := ()
def tw11564383380947917277 : Unit := ()
def tw1285756161583221123 : Unit := ()
def tw4589902674743485394 : Unit := ()
def tw4670308853019188627 : Unit := ()
def tw9888068458944469886 : Unit := ()
def tw15451527448835538001 : Unit := ()
end PySem.W.Fast
open PySem PySem.W PyProof.Rows
set_option maxRecDepth 100000 in
set_option maxHeartbeats 0 in
theorem PySem.Challenge.cw_halfmoved_k12_pieces_told_holds : PySem.Challenge.rw_halfmoved_k12_pieces_told.Holds := by
  w_on; o_law; k_head; (case hw => w_witness2)
  k_fill
  refine My.walk 7 (l := PySem.Challenge.rw_halfmoved_k12_pieces_told) ⟨rfl, by decide, by decide⟩ rfl rfl (fun w h Y => PySem.W.kIn_of Y) ?F
  case F =>
    intro w mg fa h KX G hmg
    refine' My.all_mk KX G hmg ?aT ?aO ?aM ?aP ?xO ?xM ?bs ?br ?bf ?n1 ?m1 ?n2 ?m2 ?n3 ?m3 ?ni ?nj ?nf ?nl ?nc ?nk ?u1 ?u2 ?pg ?hd ?po ?psa ?mk ?kc ?cF ?cT ?iA ?jA ?lA ?cA ?kA ?pA ?iB ?jB ?lB ?cB ?kB ?pC ?h5 ?h6 ?h7 ?d18 ?d19 ?d21 ?d22 ?d24 ?d33 ?d34 ?d37 ?d39 ?d40 ?d41 ?d42 ?d43 ?d44 ?d45 ?d46 ?d47 ?d48 ?d49 ?d50 ?d51 ?zb ?zz ?zv ?zm
    (case aT => k_is)
    (case aO => k_is)
    (case aM => k_is)
    (case aP => k_is)
    (case xO => refine' L2.xcl_mk ?l ?t ?ga ?gx ?sa ?kp; (case l => k_is); (case t => decide +kernel); (case ga => k_is); (case gx => k_is); (case sa => k_is); (case kp => k_is))
    (case xM => refine' L2.xcl_mk ?l ?t ?ga ?gx ?sa ?kp; (case l => k_is); (case t => decide +kernel); (case ga => k_is); (case gx => k_is); (case sa => k_is); (case kp => k_is))
    (case bs => k_is)
    (case br => k_is)
    (case bf => k_is)
    (case n1 => k_is)
    (case m1 => k_is)
    (case n2 => k_is)
    (case m2 => k_is)
    (case n3 => k_is)
    (case m3 => k_is)
    (case ni => k_is)
    (case nj => k_is)
    (case nf => k_is)
    (case nl => k_is)
    (case nc => k_is)
    (case nk => k_is)
    (case u1 => k_is)
    (case u2 => k_is)
    (case pg => k_is)
    (case hd => k_is)
    (case po => k_is)
    (case psa => k_is)
    (case mk => k_is)
    (case kc => k_is)
    (case cF => k_is)
    (case cT => k_is)
    (case iA => k_is)
    (case jA => k_is)
    (case lA => k_is)
    (case cA => k_is)
    (case kA => k_is)
    (case pA => intro u v x S; rfl)
    (case iB => k_is)
    (case jB => k_is)
    (case lB => k_is)
    (case cB => k_is)
    (case kB => k_is)
    (case pC => intro u v x y S; rfl)
    (case h5 => refine' L2.methIn_mk ?a ?i ?l ?c ?k; (case a => k_is); (case i => k_is); (case l => k_is); (case c => k_is); (case k => k_is))
    (case h6 => refine' L2.methIn_mk ?a ?i ?l ?c ?k; (case a => k_is); (case i => k_is); (case l => k_is); (case c => k_is); (case k => k_is))
    (case h7 => refine' L2.methIn_mk ?a ?i ?l ?c ?k; (case a => k_is); (case i => k_is); (case l => k_is); (case c => k_is); (case k => k_is))
    (case d18 => refine' L2.defIn_mk ?a ?l ?c ?k; (case a => k_is); (case l => k_is); (case c => k_is); (case k => k_is))
    (case d19 => refine' L2.defIn_mk ?a ?l ?c ?k; (case a => k_is); (case l => k_is); (case c => k_is); (case k => k_is))
    (case d21 => refine' L2.defIn_mk ?a ?l ?c ?k; (case a => k_is); (case l => k_is); (case c => k_is); (case k => k_is))
    (case d22 => refine' L2.defIn_mk ?a ?l ?c ?k; (case a => k_is); (case l => k_is); (case c => k_is); (case k => k_is))
    (case d24 => refine' L2.defIn_mk ?a ?l ?c ?k; (case a => k_is); (case l => k_is); (case c => k_is); (case k => k_is))
    (case d33 => refine' L2.defIn_mk ?a ?l ?c ?k; (case a => k_is); (case l => k_is); (case c => k_is); (case k => k_is))
    (case d34 => refine' L2.defIn_mk ?a ?l ?c ?k; (case a => k_is); (case l => k_is); (case c => k_is); (case k => k_is))
    (case d37 => refine' L2.defIn_mk ?a ?l ?c ?k; (case a => k_is); (case l => k_is); (case c => k_is); (case k => k_is))
    (case d39 => refine' L2.defIn_mk ?a ?l ?c ?k; (case a => k_is); (case l => k_is); (case c => k_is); (case k => k_is))
    (case d40 => refine' L2.defIn_mk ?a ?l ?c ?k; (case a => k_is); (case l => k_is); (case c => k_is); (case k => k_is))
    (case d41 => refine' L2.defIn_mk ?a ?l ?c ?k; (case a => k_is); (case l => k_is); (case c => k_is); (case k => k_is))
    (case d42 => refine' L2.defIn_mk ?a ?l ?c ?k; (case a => k_is); (case l => k_is); (case c => k_is); (case k => k_is))
    (case d43 => refine' L2.defIn_mk ?a ?l ?c ?k; (case a => k_is); (case l => k_is); (case c => k_is); (case k => k_is))
    (case d44 => refine' L2.defIn_mk ?a ?l ?c ?k; (case a => k_is); (case l => k_is); (case c => k_is); (case k => k_is))
    (case d45 => refine' L2.defIn_mk ?a ?l ?c ?k; (case a => k_is); (case l => k_is); (case c => k_is); (case k => k_is))
    (case d46 => refine' L2.defIn_mk ?a ?l ?c ?k; (case a => k_is); (case l => k_is); (case c => k_is); (case k => k_is))
    (case d47 => refine' L2.defIn_mk ?a ?l ?c ?k; (case a => k_is); (case l => k_is); (case c => k_is); (case k => k_is))
    (case d48 => refine' L2.defIn_mk ?a ?l ?c ?k; (case a => k_is); (case l => k_is); (case c => k_is); (case k => k_is))
    (case d49 => refine' L2.defIn_mk ?a ?l ?c ?k; (case a => k_is); (case l => k_is); (case c => k_is); (case k => k_is))
    (case d50 => refine' L2.defIn_mk ?a ?l ?c ?k; (case a => k_is); (case l => k_is); (case c => k_is); (case k => k_is))
    (case d51 => refine' L2.defIn_mk ?a ?l ?c ?k; (case a => k_is); (case l => k_is); (case c => k_is); (case k => k_is))
    (case zb => refine' My.BlK.mk ?b0 ?b1 ?b2 ?b3 ?b4 ?b5 ?b6 ?b7 ?b8 ?b9 ?b10 ?b11 ?b12 ?b13 ?b14 ?b15; (case b0 => k_is); (case b1 => k_is); (case b2 => k_is); (case b3 => k_is); (case b4 => k_is); (case b5 => k_is); (case b6 => k_is); (case b7 => k_is); (case b8 => k_is); (case b9 => k_is); (case b10 => k_is); (case b11 => k_is); (case b12 => k_is); (case b13 => k_is); (case b14 => k_is); (case b15 => k_is))
    (case zz => k_is)
    (case zv => k_is)
    (case zm => k_is)
#print axioms PySem.Challenge.cw_halfmoved_k12_pieces_told_holds

